import PyProof.Rows.All
import Wide.All
import OpenK.AllK
import Wide.FinOn
import PyProof.EqAt
import PyProof.EqKinds
import PyProof.TupleCall
import HandS.ForMost
import HandS.ForExc
import HandS.Wide
import HandS.EndBits
import HandS.Evl
import HandS.StrMore
import HandS.NoneIn
import HandS.ExcInit
import HandS.ExcField
import HandS.IsInst
import HandS.RaiseMore
import HandS.Walk
import HandS.ExcIs
import HandS.TryMany
import HandS.Style
import HandS.Codes
import HandS.Defaults
import HandS.Steps
import PyProof.DictTable
import HandS.WrittenGet
import HandS.TupLe
import KE.KStateDown
import HandS.Head0
import HandS.Head1
import HandS.Head2
import HandS.HeadEnd
import HandS.HeadHook1
import HandS.HeadHook2
import HandS.HeadHook3
import HandS.HeadHook4
import PySem.Challenge.RW_keptbindings_k11_names_and_syntax_refuse
namespace KB
def letL : List Nat := [97, 98, 99, 100, 101, 102, 103, 104, 105, 106, 107, 108, 109, 110, 111, 112, 113, 114, 115, 116, 117, 118, 119, 120, 121, 122]
def digL : List Nat := [48, 49, 50, 51, 52, 53, 54, 55, 56, 57]
def runL : List Nat := [97, 98, 99, 100, 101, 102, 103, 104, 105, 106, 107, 108, 109, 110, 111, 112, 113, 114, 115, 116, 117, 118, 119, 120, 121, 122, 48, 49, 50, 51, 52, 53, 54, 55, 56, 57, 95]
def wordsL : List (List Nat) := [[105, 109, 112, 111, 114, 116], [102, 114, 111, 109], [97, 115], [100, 101, 102], [99, 108, 97, 115, 115], [103, 108, 111, 98, 97, 108], [110, 111, 110, 108, 111, 99, 97, 108], [105, 102], [101, 108, 115, 101], [119, 104, 105, 108, 101], [102, 111, 114], [105, 110], [114, 101, 116, 117, 114, 110], [98, 114, 101, 97, 107], [99, 111, 110, 116, 105, 110, 117, 101], [112, 97, 115, 115], [97, 110, 100], [111, 114], [110, 111, 116], [102, 110], [110, 111, 110, 101], [116, 114, 117, 101], [102, 97, 108, 115, 101]]
def signsL : List (List Nat) := [[61, 61], [60, 61], [40], [41], [91], [93], [123], [125], [44], [59], [58], [46], [61], [60], [43], [45], [42]]
def isRun (c : Nat) : Bool := decide (c ∈ runL)
def isDig (c : Nat) : Bool := decide (c ∈ digL)
def isBlank (c : Nat) : Bool := decide (c ∈ [32, 10])
inductive Kind where
  | name | word | number | text | sign
  deriving DecidableEq
def isName (v : List Nat) : Bool := match v with
  | [] => false
  | c :: r => decide ((c :: r).length ≤ 20) && decide (c ∈ letL) && (c :: r).all isRun && !decide ((c :: r) ∈ wordsL)
def isNumber (v : List Nat) : Bool := !(decide (v.length > 18) || (decide (v[0]? = some 48) && decide (v.length > 1))) && v.all isDig
def runKind (v : List Nat) : Option Kind :=
  if v ∈ wordsL then some .word else if isName v = true then some .name else if isNumber v = true then some .number else none
/-- until a sign c, or to the end -/
def upTo (c : Nat) (l : List Nat) : List Nat := l.takeWhile fun d => d != c
/-- the length of the text that starts with the quote ahead of r -/
def textLen (r : List Nat) : Option Nat :=
  if (upTo 39 r).length = r.length ∨ (upTo 39 r).length > 40 ∨ 10 ∈ upTo 39 r then none else some ((upTo 39 r).length + 2)
/-- the token at the head of a text that is not empty: its kind and length -/
def tokenAt (l : List Nat) : Option (Kind × Nat) := match l with
  | [] => none
  | c :: r => if c = 39 then (textLen r).map fun n => (.text, n)
    else if isRun c = true then (runKind ((c :: r).takeWhile isRun)).map fun k => (k, ((c :: r).takeWhile isRun).length)
    else (signsL.find? fun s => s.isPrefixOf (c :: r)).map fun s => (.sign, s.length)
structure Tk where
  kind : Kind
  text : List Nat
  start : Nat
abbrev Res := Except Nat (List Tk)
def Res.add (t : Tk) : Res → Res
  | .ok l => .ok (t :: l)
  | .error e => .error e
def scan : Nat → List Nat → Nat → Res
  | 0, _, _ => .ok []
  | _ + 1, [], _ => .ok []
  | n + 1, c :: r, at_ => if isBlank c = true then scan n r (at_ + 1)
    else if c = 35 then scan n ((c :: r).drop (upTo 10 (c :: r)).length) (at_ + (upTo 10 (c :: r)).length)
    else match tokenAt (c :: r) with
      | none => .error at_
      | some (k, m) => (scan n ((c :: r).drop m) (at_ + m)).add ⟨k, (c :: r).take m, at_⟩
def sc (l : List Nat) (at_ : Nat) : Res := scan l.length l at_
theorem takeWhile_pos {p : Nat → Bool} {c : Nat} {r : List Nat} (h : p c = true) : 0 < ((c :: r).takeWhile p).length := by
  simp [List.takeWhile, h]
theorem upTo_pos {c d : Nat} {r : List Nat} (h : d ≠ c) : 0 < (upTo c (d :: r)).length := takeWhile_pos (by simpa using h)
theorem signs_pos : ∀ s ∈ signsL, 0 < s.length := by decide
theorem tokenAt_pos {l : List Nat} {k : Kind} {m : Nat} (h : tokenAt l = some (k, m)) : 0 < m := by
  unfold tokenAt at h
  split at h
  · cases h
  · rename_i c r
    split at h
    · unfold textLen at h
      split at h
      · cases h
      · simp at h
        omega
    · split at h
      · rename_i hc
        simp only [Option.map_eq_some_iff] at h
        obtain ⟨_, _, e⟩ := h
        cases e
        exact takeWhile_pos hc
      · simp only [Option.map_eq_some_iff] at h
        obtain ⟨s, hs, e⟩ := h
        cases e
        exact signs_pos s (List.mem_of_find?_eq_some hs)
/-- fuel beyond the length adds nothing -/
theorem scan_fuel : ∀ (n m : Nat) (l : List Nat) (a : Nat), l.length ≤ n → l.length ≤ m → scan n l a = scan m l a
  | 0, 0, _, _, _, _ => rfl
  | 0, m + 1, l, a, hn, _ => by
    have e : l = [] := List.length_eq_zero_iff.mp (by omega)
    subst e
    rfl
  | n + 1, 0, l, a, _, hm => by
    have e : l = [] := List.length_eq_zero_iff.mp (by omega)
    subst e
    rfl
  | n + 1, m + 1, [], a, _, _ => rfl
  | n + 1, m + 1, c :: r, a, hn, hm => by
    have hn' : r.length ≤ n := by simpa using hn
    have hm' : r.length ≤ m := by simpa using hm
    unfold scan
    by_cases h1 : isBlank c = true
    · rw [if_pos h1, if_pos h1]
      exact scan_fuel n m r _ hn' hm'
    · rw [if_neg h1, if_neg h1]
      by_cases h2 : c = 35
      · rw [if_pos h2, if_pos h2]
        have p := upTo_pos (c := 10) (d := c) (r := r) (by omega)
        have e : ((c :: r).drop (upTo 10 (c :: r)).length).length ≤ r.length := by
          rw [List.length_drop, List.length_cons]
          omega
        exact scan_fuel n m _ _ (by omega) (by omega)
      · rw [if_neg h2, if_neg h2]
        cases h3 : tokenAt (c :: r) with
        | none => rfl
        | some q =>
          obtain ⟨k, q⟩ := q
          have p := tokenAt_pos h3
          have e : ((c :: r).drop q).length ≤ r.length := by
            rw [List.length_drop, List.length_cons]
            omega
          show Res.add _ (scan n _ _) = Res.add _ (scan m _ _)
          rw [scan_fuel n m _ _ (by omega) (by omega)]
theorem sc_fuel {n : Nat} {l : List Nat} {a : Nat} (h : l.length ≤ n) : scan n l a = sc l a := scan_fuel _ _ _ _ h (Nat.le_refl _)
theorem sc_nil (a : Nat) : sc [] a = .ok [] := rfl
theorem sc_blank {c : Nat} (r : List Nat) (a : Nat) (h : isBlank c = true) : sc (c :: r) a = sc r (a + 1) := by
  show scan (r.length + 1) (c :: r) a = scan r.length r (a + 1)
  rw [scan, if_pos h]
theorem sc_hash (r : List Nat) (a : Nat) : sc (35 :: r) a = sc ((35 :: r).drop (upTo 10 (35 :: r)).length) (a + (upTo 10 (35 :: r)).length) := by
  show scan (r.length + 1) (35 :: r) a = _
  unfold scan
  rw [if_neg (by decide), if_pos rfl]
  have p := upTo_pos (c := 10) (d := 35) (r := r) (by omega)
  refine sc_fuel ?_
  rw [List.length_drop, List.length_cons]
  omega
theorem sc_tok {c : Nat} (r : List Nat) (a : Nat) (h1 : isBlank c = false) (h2 : c ≠ 35) : sc (c :: r) a = match tokenAt (c :: r) with
    | none => .error a
    | some (k, m) => (sc ((c :: r).drop m) (a + m)).add ⟨k, (c :: r).take m, a⟩ := by
  show scan (r.length + 1) (c :: r) a = _
  unfold scan
  rw [if_neg (by rw [h1]; decide), if_neg h2]
  cases h3 : tokenAt (c :: r) with
  | none => rfl
  | some q =>
    obtain ⟨k, q⟩ := q
    have p := tokenAt_pos h3
    show Res.add _ _ = Res.add _ _
    rw [sc_fuel]
    rw [List.length_drop, List.length_cons]
    omega
def Res.pre (ts : List Tk) : Res → Res
  | .ok l => .ok (ts ++ l)
  | .error e => .error e
theorem pre_add (ts : List Tk) (t : Tk) (r : Res) : (r.add t).pre ts = r.pre (ts ++ [t]) := by
  cases r with
  | ok l => simp [Res.add, Res.pre]
  | error e => rfl
theorem pre_nil (r : Res) : r.pre [] = r := by
  cases r <;> rfl
end KB
set_option maxRecDepth 100000
namespace KB
structure PS where
  i : Nat
  o : Int
  f : Option Nat
  e : Nat
abbrev Rs (α : Type) := Option (Except Nat (α × PS))
abbrev M (α : Type) := PS → Rs α
def M.ret {α} (a : α) : M α := fun s => some (.ok (a, s))
def M.bnd {α β} (x : M α) (f : α → M β) : M β := fun s => match x s with
  | none => none
  | some (.error e) => some (.error e)
  | some (.ok (a, s')) => f a s'
/-- what the result of an expression is: a name, a member, or something else -/
inductive Sh where
  | name (t : List Nat) | member | other
def Sh.target : Sh → Bool
  | .name _ => true
  | .member => true
  | .other => false
section
variable (ts : List Tk) (n : Nat)
def tx (k : Nat) (s : PS) : List Nat := match ts[s.i + k]? with
  | some t => t.text
  | none => []
def kd (s : PS) : Option Kind := ts[s.i]?.map Tk.kind
def st (s : PS) : Nat := match ts[s.i]? with
  | some t => t.start
  | none => n
def refuse {α} : M α := fun s => some (.error (st ts n s))
def beyond (s : PS) : Bool := (decide (tx ts 0 s ∈ ([[40], [91], [123]] : List (List Nat))) && decide (s.o = 30)) || (match s.f with
  | none => false
  | some f => decide ((s.i : Int) - f = 100))
def take : M Nat := fun s => if beyond ts s = true then refuse ts n s else
  some (.ok (st ts n s, { s with
    i := s.i + 1
    o := if tx ts 0 s ∈ ([[40], [91], [123]] : List (List Nat)) then s.o + 1 else if tx ts 0 s ∈ ([[41], [93], [125]] : List (List Nat)) then s.o - 1 else s.o
    e := st ts n s + (tx ts 0 s).length }))
def expect (w : List Nat) : M Nat := fun s => if tx ts 0 s = w then take ts n s else refuse ts n s
def takeIf (w : List Nat) : M Bool := fun s => if tx ts 0 s = w then (take ts n).bnd (fun _ => M.ret true) s else some (.ok (false, s))
def takeName (taken : List (List Nat)) : M (List Nat) := fun s => if kd ts s = some .name ∧ tx ts 0 s ∉ taken then (take ts n).bnd (fun _ => M.ret (tx ts 0 s)) s else refuse ts n s
def begin : M Bool := fun s => match s.f with
  | some _ => some (.ok (false, s))
  | none => some (.ok (true, { s with f := some s.i }))
def endE : M Unit := fun s => some (.ok ((), { s with f := none }))
def addO (z : Int) : M Unit := fun s => some (.ok ((), { s with o := s.o + z }))
def level (w : List Nat) : Nat := if w = ([111, 114] : List Nat) then 1 else if w = ([97, 110, 100] : List Nat) then 2 else if w = ([61, 61] : List Nat) then 4 else if w = ([60] : List Nat) then 4 else if w = ([60, 61] : List Nat) then 4 else if w = ([43] : List Nat) then 5 else if w = ([45] : List Nat) then 5 else if w = ([42] : List Nat) then 6 else 0
/-- the readers that call each other, of one depth -/
structure Par where
  expr : Nat → M Sh
  signs : Nat → Nat → M Sh
section
variable (p : Par)
/-- parameters behind the first look; the names ahead, whether the last one has a default -/
def paramS (ahead : List (List Nat)) (dflt : Bool) : M (List Nat × Bool) := (takeName ts n ahead).bnd fun a => (takeIf ts n ([61] : List Nat)).bnd fun b =>
  if b = true then (p.expr 0).bnd fun _ => M.ret (a, true)
  else if dflt = true then refuse ts n else M.ret (a, false)
def paramsL (cl : List Nat) : Nat → List (List Nat) → Bool → M Unit
  | 0, _, _ => fun _ => none
  | m + 1, ahead, dflt => (paramS ts n p ahead dflt).bnd fun (a, d) => (takeIf ts n cl).bnd fun b =>
    if b = true then M.ret () else (expect ts n ([44] : List Nat)).bnd fun _ => paramsL cl m (ahead ++ [a]) d
def paramsS (cl : List Nat) : M Unit := (takeIf ts n cl).bnd fun b => if b = true then M.ret () else paramsL ts n p cl (ts.length + 1) [] false
def fnS : M Sh := (expect ts n ([102, 110] : List Nat)).bnd fun _ => (paramsS ts n p ([58] : List Nat)).bnd fun _ => (p.expr 2).bnd fun _ => M.ret .other
def argS (keys : List (List Nat)) : M (Option (List Nat)) := fun s =>
  if keys ≠ [] ∨ (kd ts s = some .name ∧ tx ts 1 s = ([61] : List Nat)) then ((takeName ts n keys).bnd fun a => (expect ts n ([61] : List Nat)).bnd fun _ => (p.expr 2).bnd fun _ => M.ret (some a)) s
  else ((p.expr 2).bnd fun _ => M.ret none) s
def argsL : Nat → List (List Nat) → M Unit
  | 0, _ => fun _ => none
  | m + 1, keys => (argS ts n p keys).bnd fun a => (takeIf ts n ([41] : List Nat)).bnd fun b =>
    if b = true then M.ret () else (expect ts n ([44] : List Nat)).bnd fun _ => argsL m (match a with | none => keys | some k => keys ++ [k])
def argsS : M Unit := (takeIf ts n ([41] : List Nat)).bnd fun b => if b = true then M.ret () else argsL ts n p (ts.length + 1) []
def compS (mode : Nat) : M Sh := (expect ts n ([102, 111, 114] : List Nat)).bnd fun _ => (takeName ts n []).bnd fun _ => (expect ts n ([105, 110] : List Nat)).bnd fun _ => (p.expr mode).bnd fun _ =>
  (takeIf ts n ([105, 102] : List Nat)).bnd fun b => (if b = true then (p.expr mode).bnd fun _ => M.ret () else M.ret ()).bnd fun _ => (expect ts n ([93] : List Nat)).bnd fun _ => M.ret .other
def rowsL (mode : Nat) : Nat → M Unit
  | 0 => fun _ => none
  | m + 1 => (takeIf ts n ([44] : List Nat)).bnd fun b => if b = true then (p.expr mode).bnd fun _ => rowsL mode m else M.ret ()
def listS (mode : Nat) : M Sh := (expect ts n ([91] : List Nat)).bnd fun _ => (takeIf ts n ([93] : List Nat)).bnd fun b => if b = true then M.ret .other else (p.expr mode).bnd fun _ => fun s =>
  if tx ts 0 s = ([102, 111, 114] : List Nat) then compS ts n p mode s else ((rowsL ts n p mode (ts.length + 1)).bnd fun _ => (expect ts n ([93] : List Nat)).bnd fun _ => M.ret .other) s
def singleS (mode : Nat) : M Sh := fun s =>
  if kd ts s = some .name then ((takeName ts n []).bnd fun a => M.ret (.name a)) s
  else if kd ts s = some .number ∨ kd ts s = some .text ∨ tx ts 0 s ∈ ([[110, 111, 110, 101], [116, 114, 117, 101], [102, 97, 108, 115, 101]] : List (List Nat)) then ((take ts n).bnd fun _ => M.ret .other) s
  else if tx ts 0 s = ([91] : List Nat) then listS ts n p mode s
  else ((expect ts n ([40] : List Nat)).bnd fun _ => (p.expr mode).bnd fun _ => (expect ts n ([41] : List Nat)).bnd fun _ => M.ret .other) s
def callL (mode : Nat) : Nat → Sh → M Sh
  | 0, _ => fun _ => none
  | m + 1, x => (takeIf ts n ([46] : List Nat)).bnd fun b => if b = true then (takeName ts n []).bnd fun _ => callL mode m .member else
    (takeIf ts n ([91] : List Nat)).bnd fun b => if b = true then (p.expr mode).bnd fun _ => (expect ts n ([93] : List Nat)).bnd fun _ => callL mode m .other else
    if mode = 2 then (takeIf ts n ([40] : List Nat)).bnd fun b => if b = true then (argsS ts n p).bnd fun _ => callL mode m .other else M.ret x
    else M.ret x
def callS (mode : Nat) : M Sh := (singleS ts n p mode).bnd fun x => callL ts n p mode (ts.length + 1) x
def minus (w : List Nat) : Nat → Nat → M Nat
  | 0, _ => fun _ => none
  | m + 1, k => fun s => if tx ts 0 s = w then (take ts n).bnd (fun _ => minus w m (k + 1)) s else some (.ok (k, s))
def aheadS (mode lv : Nat) : M (Sh × Nat) := fun s =>
  if lv ≤ 3 ∧ tx ts 0 s = ([110, 111, 116] : List Nat) then ((minus ts n ([110, 111, 116] : List Nat) (ts.length + 1) 0).bnd fun k => (p.signs mode 4).bnd fun x => M.ret (if k = 0 then x else .other, 3)) s
  else ((minus ts n ([45] : List Nat) (ts.length + 1) 0).bnd fun k => (callS ts n p mode).bnd fun x => M.ret (if k = 0 then x else .other, 6)) s
def sgnL (mode lv : Nat) : Nat → Sh → Nat → M Sh
  | 0, _, _ => fun _ => none
  | m + 1, x, closest => fun s => let l := level (tx ts 0 s)
    if lv ≤ l ∧ l ≤ closest then ((take ts n).bnd fun _ => (p.signs mode (l + 1)).bnd fun _ => sgnL mode lv m .other (if l = 4 then 3 else l)) s
    else some (.ok (x, s))
def signsS (mode lv : Nat) : M Sh := (aheadS ts n p mode lv).bnd fun (x, c) => sgnL ts n p mode lv (ts.length + 1) x c
def exprS (mode : Nat) : M Sh := begin.bnd fun out => M.bnd (fun s => if tx ts 0 s = ([102, 110] : List Nat) ∧ mode ≠ 0 then fnS ts n p s else signsS ts n p mode 1 s) fun x =>
  if out = true then endE.bnd fun _ => M.ret x else M.ret x
def step : Par := ⟨exprS ts n p, signsS ts n p⟩
end
def par : Nat → Par
  | 0 => ⟨fun _ _ => none, fun _ _ _ => none⟩
  | d + 1 => step ts n (par d)
section
variable (p : Par)
def targetS : M Unit := begin.bnd fun _ => (callS ts n p 2).bnd fun x => endE.bnd fun _ => if x.target = true then M.ret () else refuse ts n
def rightS (mode : Nat) : M Unit := (p.expr mode).bnd fun _ => (expect ts n ([59] : List Nat)).bnd fun _ => M.ret ()
def targetsL : Nat → M Unit
  | 0 => fun _ => none
  | m + 1 => (takeIf ts n ([44] : List Nat)).bnd fun b => if b = true then (targetS ts n p).bnd fun _ => targetsL m else M.ret ()
def assignS : M Unit := (p.expr 2).bnd fun x => fun s => if x.target = false ∨ ¬ (tx ts 0 s = ([44] : List Nat) ∨ tx ts 0 s = ([61] : List Nat)) then ((expect ts n ([59] : List Nat)).bnd fun _ => M.ret ()) s
  else ((targetsL ts n p (ts.length + 1)).bnd fun _ => (expect ts n ([61] : List Nat)).bnd fun _ => rightS ts n p 2) s
def namesL : Nat → M Unit
  | 0 => fun _ => none
  | m + 1 => (takeIf ts n ([44] : List Nat)).bnd fun b => if b = true then (takeName ts n []).bnd fun _ => namesL m else M.ret ()
def outerS : M Unit := (take ts n).bnd fun _ => (takeName ts n []).bnd fun _ => (namesL ts n (ts.length + 1)).bnd fun _ => (expect ts n ([59] : List Nat)).bnd fun _ => M.ret ()
def returnS : M Unit := (expect ts n ([114, 101, 116, 117, 114, 110] : List Nat)).bnd fun _ => M.bnd (fun s => if tx ts 0 s = ([59] : List Nat) then M.ret () s else ((p.expr 2).bnd fun _ => M.ret ()) s) fun (_ : Unit) => (expect ts n ([59] : List Nat)).bnd fun _ => M.ret ()
structure Par2 where
  block : Bool → M Unit
  ifs : Bool → M Unit
  defs : M Unit
variable (q : Par2)
def whileS : M Unit := (expect ts n ([119, 104, 105, 108, 101] : List Nat)).bnd fun _ => (p.expr 2).bnd fun _ => q.block true
def forS : M Unit := (expect ts n ([102, 111, 114] : List Nat)).bnd fun _ => (takeName ts n []).bnd fun _ => (expect ts n ([105, 110] : List Nat)).bnd fun _ => (p.expr 2).bnd fun _ => q.block true
def stmtS (looped : Bool) : M Unit := fun s => let w := tx ts 0 s
  if w = ([100, 101, 102] : List Nat) then q.defs s else if w = ([105, 102] : List Nat) then q.ifs looped s else if w = ([119, 104, 105, 108, 101] : List Nat) then whileS ts n p q s else if w = ([102, 111, 114] : List Nat) then forS ts n p q s
  else if w = ([114, 101, 116, 117, 114, 110] : List Nat) then returnS ts n p s else if w = ([103, 108, 111, 98, 97, 108] : List Nat) ∨ w = ([110, 111, 110, 108, 111, 99, 97, 108] : List Nat) then outerS ts n s
  else if w = ([112, 97, 115, 115] : List Nat) ∨ (looped = true ∧ (w = ([98, 114, 101, 97, 107] : List Nat) ∨ w = ([99, 111, 110, 116, 105, 110, 117, 101] : List Nat))) then ((take ts n).bnd fun _ => (expect ts n ([59] : List Nat)).bnd fun _ => M.ret ()) s
  else assignS ts n p s
def blockL (looped : Bool) : Nat → M Unit
  | 0 => fun _ => none
  | m + 1 => (takeIf ts n ([125] : List Nat)).bnd fun b => if b = true then M.ret () else (stmtS ts n p q looped).bnd fun _ => blockL looped m
def blockS (looped : Bool) : M Unit := (expect ts n ([123] : List Nat)).bnd fun _ => blockL ts n p q looped (ts.length + 1)
def ifS (looped : Bool) : M Unit := (expect ts n ([105, 102] : List Nat)).bnd fun _ => (p.expr 2).bnd fun _ => (q.block looped).bnd fun _ => (takeIf ts n ([101, 108, 115, 101] : List Nat)).bnd fun b =>
  if b = true then fun s => if tx ts 0 s = ([105, 102] : List Nat) then ((addO 1).bnd fun _ => (q.ifs looped).bnd fun _ => addO (-1)) s else q.block looped s
  else M.ret ()
def defS : M Unit := (expect ts n ([100, 101, 102] : List Nat)).bnd fun _ => (takeName ts n []).bnd fun _ => (expect ts n ([40] : List Nat)).bnd fun _ => (paramsS ts n p ([41] : List Nat)).bnd fun _ => q.block false
def step2 : Par2 := ⟨blockS ts n p q, ifS ts n p q, defS ts n p q⟩
end
def par2 (p : Par) : Nat → Par2
  | 0 => ⟨fun _ _ => none, fun _ _ => none, fun _ => none⟩
  | d + 1 => step2 ts n p (par2 p d)
section
variable (p : Par) (q : Par2)
def aliasS : M Unit := (takeIf ts n ([97, 115] : List Nat)).bnd fun b => if b = true then (takeName ts n []).bnd fun _ => M.ret () else M.ret ()
def importS : M Unit := (expect ts n ([105, 109, 112, 111, 114, 116] : List Nat)).bnd fun _ => (takeName ts n []).bnd fun _ => (aliasS ts n).bnd fun _ => (expect ts n ([59] : List Nat)).bnd fun _ => M.ret ()
def itemS : M Unit := (takeName ts n []).bnd fun _ => aliasS ts n
def itemsL : Nat → M Unit
  | 0 => fun _ => none
  | m + 1 => (takeIf ts n ([44] : List Nat)).bnd fun b => if b = true then (itemS ts n).bnd fun _ => itemsL m else M.ret ()
def fromS : M Unit := (expect ts n ([102, 114, 111, 109] : List Nat)).bnd fun _ => (takeName ts n []).bnd fun _ => (expect ts n ([105, 109, 112, 111, 114, 116] : List Nat)).bnd fun _ =>
  M.bnd (fun s => if tx ts 0 s = ([42] : List Nat) then ((take ts n).bnd fun _ => M.ret ()) s else ((itemS ts n).bnd fun _ => itemsL ts n (ts.length + 1)) s) fun (_ : Unit) => (expect ts n ([59] : List Nat)).bnd fun _ => M.ret ()
def doaS : M Unit := fun s => if tx ts 0 s = ([100, 101, 102] : List Nat) then q.defs s else ((takeName ts n []).bnd fun _ => (expect ts n ([61] : List Nat)).bnd fun _ => rightS ts n p 1) s
def classL : Nat → M Unit
  | 0 => fun _ => none
  | m + 1 => (takeIf ts n ([125] : List Nat)).bnd fun b => if b = true then M.ret () else (doaS ts n p q).bnd fun _ => classL m
def classS : M Unit := (expect ts n ([99, 108, 97, 115, 115] : List Nat)).bnd fun _ => (takeName ts n []).bnd fun _ => (takeIf ts n ([40] : List Nat)).bnd fun b =>
  (if b = true then (takeName ts n []).bnd fun _ => (takeIf ts n ([46] : List Nat)).bnd fun c => (if c = true then (takeName ts n []).bnd fun _ => M.ret () else M.ret ()).bnd fun _ => (expect ts n ([41] : List Nat)).bnd fun _ => M.ret () else M.ret ()).bnd fun _ =>
  (expect ts n ([123] : List Nat)).bnd fun _ => classL ts n p q (ts.length + 1)
def topS1 : M Unit := fun s => let w := tx ts 0 s
  if w = ([105, 109, 112, 111, 114, 116] : List Nat) then importS ts n s else if w = ([102, 114, 111, 109] : List Nat) then fromS ts n s else if w = ([99, 108, 97, 115, 115] : List Nat) then classS ts n p q s else doaS ts n p q s
def topL : Nat → M Unit
  | 0 => fun _ => none
  | m + 1 => fun s => if tx ts 0 s = [] then some (.ok ((), s)) else (topS1 ts n p q).bnd (fun _ => topL m) s
end
end
/-- what check_syntax does with a text: none = fuel out, some none = taken, some (some (true, at)) = no token there, some (some (false, at)) = the syntax -/
def check (d : Nat) (x : List Nat) : Option (Option (Bool × Nat)) := match sc x 0 with
  | .error e => some (some (true, e))
  | .ok ts => match topL ts x.length (par ts x.length d) (par2 ts x.length (par ts x.length d) d) (ts.length + 1) ⟨0, 0, none, 0⟩ with
    | none => none
    | some (.error e) => some (some (false, e))
    | some (.ok _) => some none
end KB
namespace KB
instance : DecidableEq (Option (Option (Bool × Nat))) := inferInstance
def tailsL : List (List Nat × Nat) := [([105, 109, 112, 111, 114, 116, 32, 59], 7), ([105, 109, 112, 111, 114, 116, 32, 97, 32, 98, 59], 9), ([105, 109, 112, 111, 114, 116, 32, 97, 32, 97, 115, 32, 105, 102, 59], 12), ([105, 109, 112, 111, 114, 116, 32, 97, 46, 98, 59], 8), ([105, 109, 112, 111, 114, 116, 32, 97, 44, 32, 98, 59], 8), ([102, 114, 111, 109, 32, 97, 32, 105, 109, 112, 111, 114, 116, 59], 13), ([102, 114, 111, 109, 32, 97, 32, 105, 109, 112, 111, 114, 116, 32, 98, 32, 97, 115, 32, 99, 44, 32, 42, 59], 22), ([102, 114, 111, 109, 32, 97, 32, 105, 109, 112, 111, 114, 116, 32, 42, 44, 32, 98, 59], 15), ([102, 114, 111, 109, 32, 97, 32, 98, 59], 7), ([97, 32, 61, 61, 32, 49, 59], 2), ([97, 44, 32, 98, 32, 61, 32, 49, 59], 1), ([97, 46, 98, 32, 61, 32, 49, 59], 1), ([97, 32, 61, 32, 102, 40, 49, 41, 59], 5), ([97, 32, 61, 32, 91, 102, 40, 98, 41, 32, 102, 111, 114, 32, 98, 32, 105, 110, 32, 99, 93, 59], 6), ([53, 32, 61, 32, 97, 59], 0), ([105, 102, 32, 97, 32, 123, 32, 125], 0), ([114, 101, 116, 117, 114, 110, 32, 49, 59], 0), ([103, 108, 111, 98, 97, 108, 32, 97, 59], 0), ([112, 97, 115, 115, 59], 0), ([97, 59], 1), ([97, 32, 61, 32, 59], 4), ([97, 32, 61, 32, 49], 5), ([100, 101, 102, 32, 102, 40, 97, 44, 32, 97, 41, 32, 123, 32, 125], 9), ([100, 101, 102, 32, 102, 40, 97, 32, 61, 32, 49, 44, 32, 98, 41, 32, 123, 32, 125], 14), ([100, 101, 102, 32, 102, 40, 97, 32, 61, 32, 103, 40, 41, 41, 32, 123, 32, 125], 11), ([100, 101, 102, 32, 102, 40, 97, 32, 61, 32, 102, 110, 32, 98, 58, 32, 98, 41, 32, 123, 32, 125], 10), ([100, 101, 102, 32, 102, 40, 97, 44, 41, 32, 123, 32, 125], 8), ([100, 101, 102, 32, 102, 32, 123, 32, 125], 6), ([100, 101, 102, 32, 102, 40, 41, 32, 97, 59], 8), ([100, 101, 102, 32, 102, 40, 41, 32, 123], 9), ([100, 101, 102, 32, 102, 40, 41, 32, 123, 32, 98, 114, 101, 97, 107, 59, 32, 125], 10), ([99, 108, 97, 115, 115, 32, 99, 32, 123, 32, 112, 97, 115, 115, 59, 32, 125], 10), ([99, 108, 97, 115, 115, 32, 99, 40, 97, 46, 98, 46, 99, 41, 32, 123, 32, 125], 11), ([99, 108, 97, 115, 115, 32, 99, 40, 41, 32, 123, 32, 125], 8), ([99, 108, 97, 115, 115, 32, 99, 32, 123, 32, 99, 108, 97, 115, 115, 32, 100, 32, 123, 32, 125, 32, 125], 10), ([99, 108, 97, 115, 115, 32, 99, 32, 123, 32, 97, 44, 32, 98, 32, 61, 32, 49, 59, 32, 125], 11), ([99, 108, 97, 115, 115, 32, 99, 32, 123, 32, 97, 32, 61, 32, 102, 40, 41, 59, 32, 125], 15), ([99, 108, 97, 115, 115, 32, 99, 40, 102, 40, 41, 41, 32, 123, 32, 125], 9), ([100, 101, 102, 32, 102, 40, 41, 32, 123, 32, 105, 109, 112, 111, 114, 116, 32, 97, 59, 32, 125], 10), ([100, 101, 102, 32, 102, 40, 41, 32, 123, 32, 99, 108, 97, 115, 115, 32, 99, 32, 123, 32, 125, 32, 125], 10)]
def bodiesL : List (List Nat × Nat) := [([119, 104, 105, 108, 101, 32, 97, 32, 123, 32, 100, 101, 102, 32, 103, 40, 41, 32, 123, 32, 99, 111, 110, 116, 105, 110, 117, 101, 59, 32, 125, 32, 125], 20), ([97, 32, 61, 32, 98, 32, 61, 32, 99, 59], 6), ([97, 44, 32, 61, 32, 98, 59], 3), ([102, 40, 41, 32, 61, 32, 49, 59], 4), ([97, 44, 32, 102, 40, 41, 32, 61, 32, 49, 59], 7), ([97, 32, 43, 32, 98, 32, 61, 32, 49, 59], 6), ([97, 32, 60, 32, 98, 32, 60, 32, 99, 59], 6), ([97, 32, 61, 61, 32, 98, 32, 60, 32, 99, 59], 7), ([110, 111, 116, 32, 61, 32, 49, 59], 4), ([102, 40, 97, 32, 61, 32, 49, 44, 32, 50, 41, 59], 9), ([102, 40, 97, 32, 61, 32, 49, 44, 32, 97, 32, 61, 32, 50, 41, 59], 9), ([102, 40, 97, 32, 61, 32, 49, 44, 32, 98, 41, 59], 10), ([102, 40, 97, 44, 41, 59], 4), ([102, 40, 44, 32, 97, 41, 59], 2), ([91, 97, 32, 102, 111, 114, 93, 59], 6), ([91, 97, 32, 102, 111, 114, 32, 98, 93, 59], 8), ([91, 97, 32, 102, 111, 114, 32, 98, 32, 105, 110, 93, 59], 11), ([91, 97, 44, 32, 102, 111, 114, 32, 98, 32, 105, 110, 32, 99, 93, 59], 4), ([91, 97, 44, 32, 98, 32, 102, 111, 114, 32, 99, 32, 105, 110, 32, 100, 93, 59], 6), ([91, 97, 32, 102, 111, 114, 32, 98, 32, 105, 110, 32, 99, 32, 105, 102, 93, 59], 16), ([101, 108, 115, 101, 32, 123, 32, 125], 0), ([105, 102, 32, 97, 32, 98, 59], 5), ([105, 102, 32, 97, 32, 123, 32, 125, 32, 101, 108, 115, 101, 32, 98, 59], 14), ([102, 111, 114, 32, 97, 44, 32, 98, 32, 105, 110, 32, 99, 32, 123, 32, 125], 5), ([102, 111, 114, 32, 97, 46, 98, 32, 105, 110, 32, 99, 32, 123, 32, 125], 5), ([114, 101, 116, 117, 114, 110, 32, 114, 101, 116, 117, 114, 110, 59], 7), ([114, 101, 116, 117, 114, 110, 32, 97, 32, 98, 59], 9), ([103, 108, 111, 98, 97, 108, 32, 97, 32, 98, 59], 9), ([110, 111, 110, 108, 111, 99, 97, 108, 59], 8), ([97, 46, 53, 59], 2), ([97, 46, 105, 102, 59], 2), ([97, 91, 59], 2), ([97, 91, 49, 44, 32, 50, 93, 59], 3), ([40, 97, 59], 2), ([40, 98, 41, 40, 41], 5), ([102, 110, 32, 97, 32, 98, 58, 32, 99, 59], 5), ([102, 110, 32, 97, 44, 32, 97, 58, 32, 98, 59], 6), ([45, 32, 59], 2), ([97, 32, 97, 110, 100, 59], 5), ([98, 114, 101, 97, 107, 59], 0), ([39, 97, 39, 32, 39, 98, 39, 59], 4), ([110, 111, 110, 101, 32, 110, 111, 110, 101, 59], 5), ([102, 110, 32, 97, 32, 61, 32, 103, 40, 41, 58, 32, 97, 59], 8), ([102, 110, 32, 97, 32, 61, 32, 102, 110, 58, 32, 98, 58, 32, 97, 59], 7), ([119, 104, 105, 108, 101, 32, 97, 32, 123, 32, 125, 32, 101, 108, 115, 101, 32, 123, 32, 125], 12)]
def aheadL : List (List Nat) := [[], [97, 32, 61, 32, 49, 59, 10], [35, 32, 105, 102, 10, 105, 109, 112, 111, 114, 116, 32, 113, 59, 32, 100, 101, 102, 32, 102, 40, 97, 44, 32, 98, 32, 61, 32, 39, 120, 39, 41, 32, 123, 32, 125, 10], [99, 108, 97, 115, 115, 32, 99, 40, 100, 46, 101, 41, 32, 123, 32, 120, 32, 61, 32, 91, 49, 93, 59, 32, 100, 101, 102, 32, 109, 40, 41, 32, 123, 32, 114, 101, 116, 117, 114, 110, 59, 32, 125, 32, 125, 10]]
def deepL : List (List Nat) := [[100, 101, 102, 32, 102, 40, 41, 32, 123, 32], [100, 101, 102, 32, 102, 40, 41, 32, 123, 32, 105, 102, 32, 97, 32, 123, 32], [100, 101, 102, 32, 102, 40, 41, 32, 123, 32, 119, 104, 105, 108, 101, 32, 97, 32, 123, 32, 112, 97, 115, 115, 59, 32, 125, 32]]
def okTail (a : List Nat) (x : List Nat × Nat) : Bool := decide (check 12 (a ++ x.1) = some (some (false, a.length + x.2))) && decide (check 12 (a ++ x.1 ++ [32, 36]) = some (some (true, (a ++ x.1).length + 1)))
def okBody (a d : List Nat) (x : List Nat × Nat) : Bool := decide (check 12 (a ++ d ++ x.1) = some (some (false, (a ++ d).length + x.2)))
theorem tails_ok : (aheadL.all fun a => tailsL.all fun x => okTail a x) = true := by decide +kernel
theorem bodies_ok : (aheadL.all fun a => deepL.all fun d => bodiesL.all fun x => okBody a d x) = true := by decide +kernel
end KB
set_option Elab.async false
set_option linter.all false
set_option maxHeartbeats 4000000
namespace KB
open PySem PySem.Spec PyProof.Rows L2
open TL (tl len_tl ext_tl tl_append mk_tl)
def topS (i : Nat) : Stmt := PySem.Challenge.pw_keptbindings_k11_names_and_syntax_refuse.main.body.getD i (.Pass ⟨0, 0, 0, 0⟩)
def S (l : List Nat) : Str := ⟨l.toArray⟩
theorem S_len (l : List Nat) : (S l).length = l.length := by
  rw [len_tl]
  rfl
theorem S_inj {a b : List Nat} (h : S a = S b) : a = b := congrArg tl h
theorem S_add (a b : List Nat) : S a ++ S b = S (a ++ b) := ext_tl (by rw [tl_append]; rfl)
theorem S_eq (a b : List Nat) : decide (V.str (S a) = V.str (S b)) = decide (a = b) := by
  rw [Bool.eq_iff_iff, decide_eq_true_eq, decide_eq_true_eq]
  exact ⟨fun h => S_inj (V.str.inj h), fun h => by rw [h]⟩
theorem fromI (n i : Nat) : PySem.fromIndex n (i : Int) = i := by
  unfold PySem.fromIndex
  rw [if_neg (by omega)]
  omega
theorem upTo_get {c : Nat} : ∀ (l : List Nat), (upTo c l).length < l.length → l[(upTo c l).length]? = some c
  | [], h => by simp at h
  | d :: l, h => by
    unfold upTo at h ⊢
    by_cases e : d = c
    · subst e
      rw [List.takeWhile_cons, if_neg (by simp)]
      rfl
    · have e' : (d != c) = true := by simpa using e
      rw [List.takeWhile_cons, if_pos e'] at h ⊢
      have ih := upTo_get (c := c) l (by
        unfold upTo
        simpa using h)
      unfold upTo at ih
      simpa using ih
theorem upTo_below {c : Nat} : ∀ (l : List Nat) (i : Nat), i < (upTo c l).length → l[i]? ≠ some c
  | [], i, h => by simp [upTo] at h
  | d :: l, i, h => by
    unfold upTo at h
    by_cases e : d = c
    · subst e
      rw [List.takeWhile_cons, if_neg (by simp)] at h
      simp at h
    · have e' : (d != c) = true := by simpa using e
      rw [List.takeWhile_cons, if_pos e'] at h
      cases i with
      | zero =>
        intro z
        exact e (Option.some.inj z)
      | succ i =>
        have ih := upTo_below (c := c) l i (by
          unfold upTo
          simpa using h)
        simpa using ih
theorem upTo_le {c : Nat} (l : List Nat) : (upTo c l).length ≤ l.length := by
  unfold upTo
  exact (List.takeWhile_sublist _).length_le
open PySem.StrLaws in
/-- text.find(sign, i) -/
theorem find_one (l : List Nat) (c i : Nat) (hi : i ≤ l.length) : Txt.find3 (S l) ⟨#[c]⟩ (i : Int) =
    if (upTo c (l.drop i)).length = (l.drop i).length then -1 else ((i + (upTo c (l.drop i)).length : Nat) : Int) := by
  have one : (⟨#[c]⟩ : Str).length = 1 := rfl
  have n : (S l).length = l.length := S_len l
  have at_ : ∀ j, At (S l) ⟨#[c]⟩ (S l).length j ↔ l[j]? = some c := fun j => by
    unfold At
    rw [one, n]
    constructor
    · exact fun h => ((subAt_one (S l) c j).mp (by simpa [one, n] using h)).trans rfl
    · exact fun h => by
        have z := (subAt_one (S l) c j).mpr h
        simpa [one, n] using z
  unfold Txt.find3
  rw [fromI, occ_eq]
  have lt : (upTo c (l.drop i)).length ≤ (l.drop i).length := upTo_le _
  rcases occ_first (S l) ⟨#[c]⟩ (S l).length 1 (by decide) (List.range' i ((S l).length + 1 - i)) i (fun j hj => by
      rw [List.mem_range'_1] at hj
      exact hj.1) with ⟨h0, hn⟩ | ⟨pre, a, post, e, h0, ha, hn⟩
  · rw [h0]
    by_cases full : (upTo c (l.drop i)).length = (l.drop i).length
    · rw [if_pos full]
    · have z := upTo_get (c := c) (l.drop i) (by omega)
      rw [List.getElem?_drop] at z
      have hl := (List.getElem?_eq_some_iff.mp z).1
      exact absurd ((at_ _).mpr z) (hn _ (by
        rw [List.mem_range'_1, n]
        omega))
  · have la : l[a]? = some c := (at_ a).mp ha
    have mem : a ∈ List.range' i ((S l).length + 1 - i) := by
      rw [e]
      simp
    rw [List.mem_range'_1] at mem
    have la' : (l.drop i)[a - i]? = some c := by
      rw [List.getElem?_drop, show i + (a - i) = a by omega]
      exact la
    have nfull : (upTo c (l.drop i)).length ≠ (l.drop i).length := fun z => by
      have hh := (List.getElem?_eq_some_iff.mp la').1
      exact upTo_below (l.drop i) (a - i) (by omega) la'
    have first : a = i + (upTo c (l.drop i)).length := by
      have g1 : (upTo c (l.drop i)).length ≤ a - i := by
        by_cases q : (upTo c (l.drop i)).length ≤ a - i
        · exact q
        · exact absurd la' (upTo_below _ _ (by omega))
      have z := upTo_get (c := c) (l.drop i) (by omega)
      rw [List.getElem?_drop] at z
      by_cases q : a = i + (upTo c (l.drop i)).length
      · exact q
      · have before : i + (upTo c (l.drop i)).length ∈ pre := by
          have sorted : (List.range' i ((S l).length + 1 - i)).Pairwise (· < ·) := List.pairwise_lt_range'
          have m2 : i + (upTo c (l.drop i)).length ∈ List.range' i ((S l).length + 1 - i) := by
            rw [List.mem_range'_1]
            omega
          rw [e] at m2 sorted
          rcases List.mem_append.mp m2 with m | m
          · exact m
          · rcases List.mem_cons.mp m with m | m
            · omega
            · have := (List.pairwise_cons.mp (List.pairwise_append.mp sorted).2.1).1 _ m
              omega
        exact absurd ((at_ _).mpr z) (hn _ before)
    rw [if_neg nfull]
    generalize (forIn (List.range' i ((S l).length + 1 - i)) ((#[] : Array Nat), i) (occBody (S l) ⟨#[c]⟩ (S l).length 1)).run.fst = arr at h0
    have h1 : arr.toList[0]? = some a := by simpa using h0
    cases hL : arr.toList with
    | nil => rw [hL] at h1; cases h1
    | cons b t =>
      rw [hL] at h1
      have : b = a := Option.some.inj h1
      show ((b : Nat) : Int) = _
      rw [this, first]
theorem isPrefix_take : ∀ (s l : List Nat), s.isPrefixOf l = decide (l.take s.length = s)
  | [], l => by simp [List.isPrefixOf]
  | c :: s, [] => by simp [List.isPrefixOf]
  | c :: s, d :: l => by
    rw [List.isPrefixOf, isPrefix_take s l]
    by_cases e : c = d
    · subst e
      simp
    · have e' : (c == d) = false := by simpa using e
      simp [e', Ne.symm e]
theorem starts_at (l s : List Nat) (i : Nat) (hi : i ≤ l.length) : Txt.startswith3 (S l) (S s) (i : Int) = s.isPrefixOf (l.drop i) := by
  unfold Txt.startswith3
  rw [fromI, S_len, S_len, isPrefix_take]
  have e : Builtin.Str.subAt (S l) (S s) i = decide ((l.drop i).take s.length = s) := by
    unfold Builtin.Str.subAt
    rw [Bool.eq_iff_iff, decide_eq_true_eq]
    have z : ((S l).cps.extract i (i + (S s).length)).toList = (l.drop i).take s.length := by
      rw [Array.toList_extract, S_len]
      show List.take (i + s.length - i) (l.drop i) = _ <;> simp [List.extract]
    constructor
    · intro h
      have h2 : (S l).cps.extract i (i + (S s).length) = (S s).cps := by simpa using h
      rw [← z, h2]
      rfl
    · intro h
      have h2 : (S l).cps.extract i (i + (S s).length) = (S s).cps := Array.toList_inj.mp (by rw [z, h]; rfl)
      simpa using h2
  rw [e]
  by_cases q : (l.drop i).take s.length = s
  · have := congrArg List.length q
    rw [List.length_take, List.length_drop] at this
    simp [q]
    omega
  · simp [q]
theorem cut_at (l : List Nat) (i j : Nat) (hi : i ≤ j) (hj : j ≤ l.length) : cutS (S l) (some (i : Int)) (some (j : Int)) = S ((l.drop i).take (j - i)) := by
  unfold cutS
  rw [HT.sIx_nat, HT.sIx_nat, S_len, Nat.min_eq_left hj, Nat.min_eq_left (show i ≤ l.length by omega)]
  rfl
theorem tLET : (Str.ofString "abcdefghijklmnopqrstuvwxyz") = S letL := by decide +kernel
theorem tDIG : (Str.ofString "0123456789") = S digL := by decide +kernel
theorem tRUN : (Str.ofString "abcdefghijklmnopqrstuvwxyz0123456789_") = S runL := by decide +kernel
theorem tBLA : (Str.ofString " \n") = S [32, 10] := by decide +kernel
end KB
namespace KB
open PySem PySem.Spec PyProof.Rows L2
/-- __init__ puts its arguments into the error's own dict -/
def spI (C : Addr) (n : Nat) (look : List V → List (Str × V)) : Sp := fun vs H Q _ => ∃ (a : Addr) (xs : List V), vs = .ref a :: xs ∧ xs.length = n ∧ H a = some (exo a C none) ∧
  ∀ (H' : Hp) (dx : Addr), H dx = none → dx ≠ a → H' a = some (exo a C (some dx)) → H' dx = some (exd dx (look xs)) → (∀ b, b ≠ a → b ≠ dx → H' b = H b) → Q .non H'
def look1 (f : Str) (vs : List V) : List (Str × V) := vs.map fun v => (f, v)
/-- what the written part says of an error's class that is raised and caught -/
structure ErT (K : PySem.W.Frag) (mg : Str → Option Value) (name : Str) (fs : List Str) (C fI : Addr) : Prop where
  T : OexC K C
  X : XfC K C
  g : mg name = some (.ref C)
  iC : PySem.W.findIn K (.ref C) "__init__" = some (some (.ref fI))
  tI : PySem.W.typeIn K (.ref fI) = some (.type "function")
  no : ∀ f ∈ fs, PySem.W.findIn K (.ref C) f = some none
  te : PySem.W.exmOne K (.ref C) (.ref C) = some true
section
theorem fin1 {H : Hp} {a C dx : Addr} {f : Str} {v : V} {Q : VK}
    (k : ∀ (H' : Hp) (dx : Addr), H dx = none → dx ≠ a → H' a = some (exo a C (some dx)) → H' dx = some (exd dx (look1 f [v])) → (∀ b, b ≠ a → b ≠ dx → H' b = H b) → Q .non H')
    (n : H dx = none) (ne : dx ≠ a) : Q .non (upd (upd H dx (exd dx [(f, v)])) a (exo a C (some dx))) :=
  k _ dx n ne upd_same (by rw [upd_ne ne]; exact upd_same) fun b h1 h2 => by rw [upd_ne h1, upd_ne h2]
/-- an error of one field on its way: what was tracked stands, its own dict is new -/
theorem raise1 {C : Addr} {f : Str} {σ : L2.St} {H : Hp} {ta : TA} {v : V} {Q : XK} (ha : Evl.EvA ta σ H [v])
    (k : ∀ (d : Addr) (H' : Hp), Same H H' → H d = none → H' d = some (.xd [(f, v)]) → Q (.ref C) (some d) H') : tMkO C (spI C 1 (look1 f)) [] ta σ H Q := by
  refine ha H (Evl.Ex.refl H) _ fun H1 e1 => ⟨by show 1 ≤ 1000; decide, fun a na => ⟨a, [v], rfl, rfl, upd_same, fun H' dx nd ne h1 h2 keep => ?_⟩⟩
  have nd1 : H1 dx = none := by
    rw [upd_ne ne] at nd
    exact nd
  refine ⟨rfl, dx, [(f, v)], h1, h2, nd1, k dx _ (fun b o q => ?_) (Evl.fresh_back e1 nd1) upd_same⟩
  have q1 := e1 b o q
  have nba : b ≠ a := ne_of_none q1 na
  have nbd : b ≠ dx := ne_of_none q1 nd1
  rw [upd_ne nbd, del_ne nba, keep b nba nbd, upd_ne nba]
  exact q1
theorem same_new {H : Hp} {p : Addr} {o : HO} (h : H p = none) : Same H (upd H p o) := fun b x e => by
  rw [upd_ne (ne_of_none e h)]
  exact e
end
end KB
namespace KB
open PySem PySem.Spec PyProof.Rows L2
/-- a clause: the class that it names, the slot of its `as`, and what its suite does -/
structure Cl where
  c : Value
  i : Option Nat
  ts : Addr → Value → Option Addr → TS
/-- where the suite of a clause begins, and how its ends are seen from outside -/
def Cl.ends (k : Cl) (D : Ends) : Ends := match k.i with
  | none => D
  | some i => { nx := fun σ H => D.nx (σ.set i none) H, rt := D.rt, bk := fun σ H => D.bk (σ.set i none) H, ct := fun σ H => D.ct (σ.set i none) H }
def Cl.slots (k : Cl) (a : Addr) (σ : L2.St) : L2.St := match k.i with
  | none => σ
  | some i => σ.set i (some (.ref a))
def wCls (K : PySem.W.Frag) (Wout : WX) (D : Ends) : List Cl → WX
  | [] => Wout
  | k :: r => fun cls d σ H => ∃ b, PySem.W.exmOne K cls k.c = some b ∧ (b = true → ∀ a, H a = none → k.ts a cls d (k.ends D) (k.slots a σ) H) ∧ (b = false → wCls K Wout D r cls d σ H)
/-- the suite of a clause keeps its promise, whatever was raised -/
def SuiteOk (X : Cx) (suite : List Stmt) (k : Cl) : Prop := ∀ (a : Addr) (oe : Obj) (cls : Value) (d : Option Addr) (pn : List (Addr × Obj)), Zc cls d oe → (∃ vs, oe.data = .fields vs) → PSs (X.suite a ((a, oe) :: pn)) suite (k.ts a cls d)
inductive ClsOk (X : Cx) : List ExceptHandler → List Cl → Prop
  | nil : ClsOk X [] []
  | bare {x : Str} {c : Value} {ts : Addr → Value → Option Addr → TS} {b0 : Stmt} {su : List Stmt} {p1 p2 : Pos} {hds : List ExceptHandler} {l : List Cl} (nm : Names X x c) (ok : SuiteOk X (b0 :: su) ⟨c, none, ts⟩) (r : ClsOk X hds l) :
      ClsOk X (.ExceptHandler (some (.Name x p1)) none (b0 :: su) p2 :: hds) (⟨c, none, ts⟩ :: l)
  | as {x n : Str} {i : Nat} {c : Value} {ts : Addr → Value → Option Addr → TS} {b0 : Stmt} {su : List Stmt} {p1 p2 : Pos} {hds : List ExceptHandler} {l : List Cl} (nm : Names X x c) (hi : X.N[i]? = some n) (loc : X.env.kindOf n = some .local) (ok : SuiteOk X (b0 :: su) ⟨c, some i, ts⟩) (r : ClsOk X hds l) :
      ClsOk X (.ExceptHandler (some (.Name x p1)) (some n) (b0 :: su) p2 :: hds) (⟨c, some i, ts⟩ :: l)
section
variable {X : Cx} {pins : List (Addr × Obj)} {σ : L2.St} {H : Hp} {B : Heap} {a : Addr} {cls : Value} {d : Option Addr}
/-- an exception that its try has in hand: without it the state is sI, with it only the heap h differs -/
structure InHand (X : Cx) (pins : List (Addr × Obj)) (σ : L2.St) (H : Hp) (B : Heap) (a : Addr) (cls : Value) (d : Option Addr) (sI s : Shared) : Prop where
  inv : Inv X pins σ H sI
  old : ∀ b o, sI.heap.get? b = some o → b ∉ frs X.stack → B.get? b = some o
  up : sI.heap.UpToSlots s.heap
  fl : HandSPX.FlyingZ B (X.env :: X.outer) a (Zc cls d) s.heap
  new : H a = none
  os : s.os = sI.os
  ag : AllBare s.gens
variable {sI s : Shared}
theorem InHand.here (L : InHand X pins σ H B a cls d sI s) : Inv X pins σ H s := L.inv.landed L.old L.fl.1 L.up L.os L.ag
/-- the object itself, and that it is none of the frame's -/
theorem InHand.obj (L : InHand X pins σ H B a cls d sI s) (hs : X.stack = X.env :: X.outer) (hf : X.env.frame = some X.env.locals) :
    ∃ oe vs, s.heap.get? a = some oe ∧ Zc cls d oe ∧ oe.data = .fields vs ∧ Inv (X.suite a ((a, oe) :: (X.pn ++ pins))) [] σ H s := by
  obtain ⟨oe, vs, there, z, dat⟩ := L.fl.there
  have out : ∀ e ∈ X.env :: X.outer, e.frame ≠ some a := by
    intro e he q
    have mem : a ∈ frs (X.env :: X.outer) := List.mem_filterMap.mpr ⟨e, he, q⟩
    obtain ⟨_, o2, g2, nf⟩ := L.fl.2.2.1.mem mem
    rw [there] at g2
    cases g2
    exact nf _ dat
  refine ⟨oe, vs, there, z, dat, L.here.suite there dat L.new (fun q => out _ List.mem_cons_self (by rw [hf, q])) fun hm => ?_⟩
  obtain ⟨e, he, q⟩ := List.mem_filterMap.mp hm
  exact out e (List.mem_cons_of_mem _ he) q
theorem InHand.down2 {A : Around} {E : Value → Shared → Prop} {Q : Unit → Shared → Prop} (L : InHand X pins σ H B a cls d sI s) (k : ∀ s2, InHand X pins σ H B a cls d sI s2 → Q () s2) : wpAny (model X.prog X.w) A (setFlight (.ref a) none) Q E s :=
  HandSPX.lands_againZ L.fl fun h2 f2 u2 => k { s with heap := h2 } { L with fl := f2, up := L.up.trans u2 }
/-- no clause takes it: it goes on -/
theorem InHand.on {Wout : WX} {D : Ends} {Q : Flow → Shared → Prop} (L : InHand X pins σ H B a cls d sI s) (hs : X.stack = X.env :: X.outer) (hf : X.env.frame = some X.env.locals) (tk : Takes X Wout) (w : Wout cls d σ H) :
    wpAny (model X.prog X.w) X.A (handleBy (.ref a) X.env []) Q X.xe s := by
  refine wpAny_handleBy_nil ?_
  obtain ⟨_, _, _, o2, v2, T, oT, tt, g2, _, dat2, one, _⟩ := id L.fl
  have go : wpAny (model X.prog X.w) X.A (setFlight (.ref a) X.env.frame) (fun _ s4 => wpAny (model X.prog X.w) X.A (throw (.ref a) : Sem Flow) Q X.xe s4) X.xe s := by
    rw [hf]
    refine HandSPX.setFlight_upZ L.fl fun h4 held up4 => wpAny_throw (tk _ _ ⟨a, B, sI, pins, σ, H, cls, d, rfl, L.inv, L.old, L.up.trans up4, .inr (.inr (by rw [hs]; exact held)), L.new, L.os, L.ag, w⟩)
  unfold PySem.passOn
  refine wpAny_bind (wpAny_field g2 dat2 one ?_)
  rw [if_neg (by simp : ¬ ((Value.ref T == Value.none) = true))]
  first
    | exact wpAny_bind (wpAny_pure (wpAny_bind go))
    | exact wpAny_bind go
/-- the class that a clause names is read -/
theorem InHand.reads {x : Str} {c : Value} {b : Bool} {p1 : Pos} {Q : Bool → Shared → Prop} (L : InHand X pins σ H B a cls d sI s) (hs : X.stack = X.env :: X.outer) (hf : X.env.frame = some X.env.locals) (nm : Names X x c) (e : PySem.W.exmOne X.K cls c = some b)
    (q : Q b s) {E : Value → Shared → Prop} : wpAny (model X.prog X.w) (X.A.mark (some (.ref a))) (eval (.Name x p1) X.env) (fun v s' => wpAny (model X.prog X.w) (X.A.mark (some (.ref a))) (excMatches (.ref a) v) Q E s') E s := by
  obtain ⟨oe, vs, there, z, dat, S⟩ := L.obj hs hf
  have look : PySem.W.Looks (model X.prog X.w) s.heap (typeOf (.ref a)) cls := fun _ _ _ _ keep q => wpAny_typeOf_ref (keep _ _ there) (by rw [z.1]; exact q)
  have known := PySem.W.exm_one (M := model X.prog X.w) L.here.kIn look e
  have then_ : wpAny (model X.prog X.w) (X.A.mark (some (.ref a))) (excMatches (.ref a) c) Q E s := known.here q
  obtain ⟨gl, nd, m | ⟨m, v, nn⟩⟩ := nm
  · exact ld_glob S gl m then_ nd
  · exact ld_blt S gl m v then_ nn nd
end
section
variable {X : Cx} {pins : List (Addr × Obj)} {σ : L2.St} {H : Hp} {B : Heap} {a : Addr} {cls : Value} {d : Option Addr} {sI s : Shared} {Wout : WX} {D : Ends}
/-- the clauses, one after the other -/
theorem InHand.clauses (hs : X.stack = X.env :: X.outer) (hf : X.env.frame = some X.env.locals) (hN : X.N.Nodup) (tk : Takes X Wout) {hds : List ExceptHandler} {l : List Cl} (ok : ClsOk X hds l) :
    ∀ {sI s : Shared}, InHand X pins σ H B a cls d sI s → wCls X.K Wout D l cls d σ H → wpAny (model X.prog X.w) X.A (handleBy (.ref a) X.env hds) (SP X pins D) X.xe s := by
  induction ok with
  | nil => exact fun L w => L.on (D := D) hs hf tk w
  | bare nm su _ next =>
    intro sI s L w
    obtain ⟨b, e, yes, no⟩ := w
    refine wpAny_handleBy_cons (codeAny_handlers_test (L.reads hs hf nm e ?_)) fun q => nomatch q
    cases b with
    | false => exact next L (no rfl)
    | true =>
      refine codeAny_handlers_suite (L.down2 fun s2 M2 => ?_)
      obtain ⟨oe, vs, _, z, dat, S⟩ := M2.obj hs hf
      refine wpAny_mono ((su a oe cls d _ z ⟨_, dat⟩).run [] _ _ _ _ S (yes rfl a M2.new)) (fun f s6 e6 => ?_) fun _ _ z => False.elim z
      have back : ∀ {σ6 H6}, Inv (X.suite a ((a, oe) :: (X.pn ++ pins))) [] σ6 H6 s6 → Inv X pins σ6 H6 s6 := fun S6 => S6.unsuite M2.inv.ok
      match f, e6 with
      | .next, ⟨_, _, S6, q⟩ => exact ⟨_, _, back S6, q⟩
      | .brk, ⟨_, _, S6, q⟩ => exact ⟨_, _, back S6, q⟩
      | .cont, ⟨_, _, S6, q⟩ => exact ⟨_, _, back S6, q⟩
      | .ret u, ⟨_, _, _, S6, r, q⟩ => exact ⟨_, _, _, back S6, r, q⟩
  | @as x n i c ts b0 su0 p1 p2 hds l nm hi loc su _ next =>
    intro sI s L w
    obtain ⟨b, e, yes, no⟩ := w
    refine wpAny_handleBy_cons (codeAny_handlers_test (L.reads hs hf nm e ?_)) fun q => nomatch q
    cases b with
    | false => exact next L (no rfl)
    | true =>
      refine codeAny_handlers_suite_as (L.down2 fun s2 M2 => ?_)
      obtain ⟨oe, vs, _, z, dat, S⟩ := M2.obj hs hf
      refine store_ok (X := X.suite a ((a, oe) :: (X.pn ++ pins))) (v := .ref a) S hN hi (.inl loc) rfl (fun s5 S5 => ?_) (.inr loc)
      refine wpAny_mono ((su a oe cls d _ z ⟨_, dat⟩).run [] _ _ _ _ S5 (yes rfl a M2.new)) (fun f s6 e6 => ?_) fun _ _ z => False.elim z
      have back : ∀ {σ6 : L2.St} {H6 : Hp} {Q : Shared → Prop}, Inv (X.suite a ((a, oe) :: (X.pn ++ pins))) [] σ6 H6 s6 → (∀ s7, Inv X pins (σ6.set i none) H6 s7 → Q s7) →
          wpAny (model X.prog X.w) X.A (do bindName X.env n .none; unbindBehindTheSuite X.env n p2) (fun _ s7 => Q s7) X.xe s6 := fun S6 k => gone_ok (S6.unsuite M2.inv.ok) hN hi loc k
      match f, e6 with
      | .next, ⟨_, _, S6, q⟩ => exact back S6 fun _ J => ⟨_, _, J, q⟩
      | .brk, ⟨_, _, S6, q⟩ => exact back S6 fun _ J => ⟨_, _, J, q⟩
      | .cont, ⟨_, _, S6, q⟩ => exact back S6 fun _ J => ⟨_, _, J, q⟩
      | .ret u, ⟨_, _, _, S6, r, q⟩ => exact back S6 fun _ J => ⟨_, _, _, J, r, q⟩
/-- try: body, then clauses of both kinds -/
theorem ps_clauses {body : List Stmt} {h0 : ExceptHandler} {hds : List ExceptHandler} {l : List Cl} {pos : Pos} {tb : WX → TS} (hs : X.stack = X.env :: X.outer) (hf : X.env.frame = some X.env.locals) (hN : X.N.Nodup) (tk : Takes X Wout)
    (hb : ∀ (W : WX) (pn : List (Addr × Obj)) (xe : Value → Shared → Prop), Takes (X.tr pn xe) W → PassesOwn (model X.prog X.w) X.A X.env xe → PSs (X.tr pn xe) body (tb W)) (ok : ClsOk X (h0 :: hds) l) :
    L2.PS X (.Try body (h0 :: hds) [] [] pos) (fun D σ H => tb (wCls X.K Wout D l) D σ H) := by
  refine ⟨fun pins s σ H D I h => wpAny_Try_except ?_⟩
  have body_ := hb (wCls X.K Wout D l) (X.pn ++ pins) (fun u t1 => wpAny (model X.prog X.w) X.A (noteFrame u X.env) (fun _ t2 => wpAny (model X.prog X.w) X.A (setFlight u none) (fun _ t3 => wpAny (model X.prog X.w) X.A (handleBy u X.env (h0 :: hds)) (SP X pins D) X.xe t3) X.xe t2) X.xe t1) (fun u s' xx => ?caught) PassesOwn.looking
  case caught =>
    obtain ⟨a, B, sI, pins2, σ2, H2, cls, d, rfl, J, old, up, sky, new, os, ag, w⟩ := xx
    have sky2 : Sky B (X.env :: X.outer) a (Zc cls d) X.env.locals s'.heap := hs ▸ sky
    exact Sky.land Zc.steady (I.ok.frames.trans (by rw [hs])) hf sky2 fun h3 fl up3 => InHand.clauses hs hf hN tk ok (sI := sI) ⟨J.ofTry I.ok, old, up.trans up3, fl, new, os, ag⟩ w
  refine wpAny_mono (body_.run [] s σ H D (I.toTry _) h) (fun f s1 e1 => ?_) fun _ _ z => z
  match f, e1 with
  | .next, ⟨_, _, J, q⟩ => exact wpAny_execs_nil ⟨_, _, J.ofTry I.ok, q⟩
  | .brk, ⟨_, _, J, q⟩ => exact ⟨_, _, J.ofTry I.ok, q⟩
  | .cont, ⟨_, _, J, q⟩ => exact ⟨_, _, J.ofTry I.ok, q⟩
  | .ret u, ⟨_, _, _, J, r, q⟩ => exact ⟨_, _, _, J.ofTry I.ok, r, q⟩
end
end KB
namespace KB
open PySem PySem.Spec PyProof.Rows L2
open TL (tl len_tl ext_tl tl_append mk_tl)
abbrev sI0 : Stmt := inClass (topS 2) 0
abbrev sIN : Stmt := topS 15
abbrev sTK : Stmt := topS 16
abbrev sLE : Stmt := topS 17
abbrev sTO : Stmt := topS 18
abbrev sTE : Stmt := topS 19
abbrev sRE : Stmt := topS 20
abbrev sRK : Stmt := topS 21
abbrev sNU : Stmt := topS 22
def kindL : Kind → List Nat
  | .name => [110, 97, 109, 101]
  | .word => [119, 111, 114, 100]
  | .number => [110, 117, 109, 98, 101, 114]
  | .text => [116, 101, 120, 116]
  | .sign => [115, 105, 103, 110]
theorem kName : Str.ofString "name" = S (kindL .name) := by decide +kernel
theorem kWord : Str.ofString "word" = S (kindL .word) := by decide +kernel
theorem kNumber : Str.ofString "number" = S (kindL .number) := by decide +kernel
theorem kText : Str.ofString "text" = S (kindL .text) := by decide +kernel
theorem kSign : Str.ofString "sign" = S (kindL .sign) := by decide +kernel
structure TK (K : PySem.W.Frag) (mg : Str → Option Value) (C fI aS aW fIN fTK fLE fTO fTE fRE fRK fNU : Addr) : Prop where
  err : ErT K mg "BadText" ["at"] C fI
  isinstance : mg "isinstance" = none
  len : mg "len" = none
  all : mg "all" = none
  str : mg "str" = none
  LET : ∃ t, mg "LETTERS" = some (.str (S letL) t)
  DIG : ∃ t, mg "DIGITS" = some (.str (S digL) t)
  RUN : ∃ t, mg "RUN" = some (.str (S runL) t)
  BLA : ∃ t, mg "BLANKS" = some (.str (S [32, 10]) t)
  LN : ∃ t, mg "LONGEST_NAME" = some (.int 20 t)
  LU : ∃ t, mg "LONGEST_NUMBER" = some (.int 18 t)
  LT : ∃ t, mg "LONGEST_TEXT" = some (.int 40 t)
  LP : ∃ t, mg "LONGEST_PROGRAM" = some (.int 5000 t)
  gSIG : mg "SIGNS" = some (.ref aS)
  gWRD : mg "WORDS" = some (.ref aW)
  sSIG : ∀ H, SqT K H aS (signsL.map fun s => .str (S s))
  sWRD : ∀ H, SqT K H aW (wordsL.map fun s => .str (S s))
  gIN : mg "is_name" = some (.ref fIN)
  kIN : PySem.W.keepIn K (.ref fIN) = true
  gTK : mg "tokens" = some (.ref fTK)
  kTK : PySem.W.keepIn K (.ref fTK) = true
  gLE : mg "_line_end" = some (.ref fLE)
  kLE : PySem.W.keepIn K (.ref fLE) = true
  gTO : mg "_token" = some (.ref fTO)
  kTO : PySem.W.keepIn K (.ref fTO) = true
  gTE : mg "_text_end" = some (.ref fTE)
  kTE : PySem.W.keepIn K (.ref fTE) = true
  gRE : mg "_run_end" = some (.ref fRE)
  kRE : PySem.W.keepIn K (.ref fRE) = true
  gRK : mg "_run_kind" = some (.ref fRK)
  kRK : PySem.W.keepIn K (.ref fRK) = true
  gNU : mg "_is_number" = some (.ref fNU)
  kNU : PySem.W.keepIn K (.ref fNU) = true
theorem small {n : Nat} (h : n ≤ 10000) : n ≤ sizeLine := Nat.le_trans h (by decide)
theorem str_type {K : PySem.W.Frag} : PySem.W.kitOne K (.type "str") (.type "str") = some true := kit_ty (by decide +kernel)
theorem inV_words (v : List Nat) (l : List (List Nat)) : inV (.str (S v)) (l.map fun s => .str (S s)) = decide (v ∈ l) := by
  unfold inV
  rw [List.any_map, Bool.eq_iff_iff, List.any_eq_true, decide_eq_true_eq]
  constructor
  · rintro ⟨s, hs, h⟩
    have e : S s = S v := by
      have h' : eqV (.str (S s)) (.str (S v)) = true := h
      simpa [eqV] using h'
    rw [S_inj e.symm]
    exact hs
  · intro h
    exact ⟨v, h, by simp [eqV]⟩
theorem flat_words (l : List (List Nat)) : (l.map fun s => V.str (S s)).all flatV = true := by
  rw [List.all_map, List.all_eq_true]
  intro s _
  rfl
theorem isName_cons (c : Nat) (r : List Nat) : isName (c :: r) = (decide ((c :: r).length ≤ 20) && decide (c ∈ letL) && (c :: r).all isRun && !decide ((c :: r) ∈ wordsL)) := rfl
theorem is_empty (v : List Nat) : decide (V.str (S v) = V.str (Str.ofString "")) = decide (v = []) := by
  have e : Str.ofString "" = S [] := by decide +kernel
  rw [e, S_eq]
theorem bool_if {b : Bool} {A B : Prop} (h1 : b = true → A) (h2 : b = false → B) : if b = true then A else B := by
  cases b with
  | true => exact iteT (h1 rfl)
  | false => exact iteF (h2 rfl)
/-- an error raised: what was tracked stands, its own dict is new -/
def Rz (C : Addr) (H : Hp) (E : XK) (v : V) : Prop := ∀ (d : Addr) (H' : Hp), Same H H' → H d = none → H' d = some (.xd [("at", v)]) → E (.ref C) (some d) H'
section
variable {P : Program} {w : World} {K : PySem.W.Frag} {mg : Str → Option Value} {base : Heap} {C fI aS aW fIN fTK fLE fTO fTE fRE fRK fNU : Addr}
theorem scI0 : FnScope ["self", "at"] ["self", "at"] (defScope sI0) := ⟨rfl, rfl, rfl, by decide +kernel, rfl, by decide +kernel, by decide +kernel⟩
theorem ok_i0 {fd : FuncData} {k : Nat} (F : Fun K "__init__" "BadText.__init__" sI0 fI fd) (X : ErT K mg "BadText" ["at"] C fI) : FnOk P w K mg base CX0 (k + 1) fI fd ["self", "at"] (spI C 1 (look1 "at")) := by
  refine F.ok scI0 (fun vs H Q E h => ?_) (fun cdv A outer s H vs Q E hr h => ⟨_, pss_one (ps_ost (pv 0) (pv 1)), ?_⟩)
  · obtain ⟨a, xs, rfl, len, _⟩ := h
    simp [len]
  · obtain ⟨a, xs, rfl, len, ha, k⟩ := h
    obtain ⟨v, rfl⟩ := List.length_eq_one_iff.mp len
    exact ⟨_, rfl, _, rfl, a, C, rfl, X.T, X.no _ (by simp), .inl ⟨ha, fun dx n ne => fin1 k n ne⟩⟩
theorem scIN : FnScope ["value", "char"] ["value"] (defScope sIN) := ⟨rfl, rfl, rfl, by decide +kernel, rfl, by decide +kernel, by decide +kernel⟩
def spIN : Sp := fun vs H Q _ => ∃ v : List Nat, vs = [.str (S v)] ∧ v.length ≤ 5000 ∧ ∀ H', Same H H' → Q (.bl (isName v)) H'
/-- all([sign in SIGNS for sign in text]) -/
theorem all_in {σ : L2.St} {H : Hp} {Q : VK} (v z : List Nat) (j : Nat) (hσ : σ[0]? = some (some (.str (S v)))) (hj : ∀ x, wipe ((wipe σ [j]).set j (some x)) [j] = wipe σ [j]) (hs : (wipe σ [j]).length > j) (small : v.length ≤ 5000)
    (k : ∀ H', Same H H' → Q (.bl (v.all fun c => decide (c ∈ z))) H') :
    tCB (rAll K) (tCons (tLc (iStr (tVar 0)) (gName j) tYes (tOp (fun x y H Q => ∃ (c : Nat) (z : Str), x = .str ⟨#[c]⟩ ∧ y = .str z ∧ Q (.bl (decide (c ∈ z.cps.toList))) H) (tVar j) (tC (.str (S z)))) [j]) tNil) σ H Q := by
  refine ⟨_, hσ, S v, rfl, fun D hD => lc_it (walk_str (z := S v)) (fun i H' => H' D = some (.lst ((v.take i).map fun c => .bl (decide (c ∈ z)))) ∧ Same H H') ⟨upd_same, same_new hD⟩ (fun _ _ _ _ => trivial) ?_ ?_⟩
  · rintro i x H1 H2 hi ⟨hD1, sm⟩ ⟨rfl, c, hc, rfl⟩
    have hc' : v[i]? = some c := by
      have z : (S v).cps[i]? = v[i]? := by simp [S]
      rw [← z]
      exact hc
    refine ⟨hj _, .str ⟨#[c]⟩, ?_, c, S z, rfl, rfl, _, hD1, ?_, ?_, fun b o q => ?_⟩
    · rw [List.getElem?_set_self (by omega)]
    · rw [List.length_map, List.length_take]
      exact Nat.lt_of_le_of_lt (Nat.min_le_right _ _) (Nat.lt_of_le_of_lt small (by decide))
    · rw [upd_same, List.take_add_one, hc', List.map_append]
      rfl
    · have nb : b ≠ D := fun z => by
        subst z
        rw [hD] at q
        cases q
      rw [upd_ne nb]
      exact sm _ _ q
  · rintro H1 ⟨hD1, sm⟩
    have e : (v.take (S v).cps.size) = v := List.take_of_length_le (by simp [S])
    rw [e] at hD1
    refine ⟨D, v.map fun c => decide (c ∈ z), rfl, .inl (.inl (by rw [List.map_map]; exact hD1)), ?_⟩
    rw [List.all_map]
    exact k _ sm
theorem ok_IN {fd : FuncData} {k : Nat} (F : Fun K "is_name" "is_name" sIN fIN fd) (T : TK K mg C fI aS aW fIN fTK fLE fTO fTE fRE fRK fNU) : FnOk P w K mg base CX0 (k + 1) fIN fd ["value"] spIN := by
  refine F.ok scIN (fun vs H Q E h => ?_) (fun cdv A outer s H vs Q E hr h => ?_)
  · obtain ⟨v, rfl, _⟩ := h
    rfl
  · obtain ⟨v, rfl, hl', q⟩ := h
    obtain ⟨t1, gLET⟩ := T.LET
    obtain ⟨t2, gRUN⟩ := T.RUN
    obtain ⟨t3, gLN⟩ := T.LN
    refine ⟨_,
(pss_cons (ps_if (PW.pt (pw_or (pt_not (pt_val (pe_callB call_isi (by rfl) T.isinstance (by decide +kernel) (pa_cons (pv 0) (pa_cons (pe_bltn (v := .ty "str") (by rfl) T.str (by decide +kernel) rfl) pa_nil))))) (pw_or (pt_cmpR op_eq (pv 0) pe_str (nomark _)) (pw_or1 (pt_cmpR op_gt (pe_callB call_len_str (by rfl) T.len (by decide +kernel) (pa_cons (pv 0) pa_nil)) (pe_glob (v := .int 20) rfl gLN ⟨_, rfl⟩) (nomark _))))))
 (pss_one (ps_ret pe_bl))
 pss_nil)
 (pss_one (ps_ret (pe_and (pe_cmpR op_in_sign (pe_ix ix_str (pv 0) pe_int (fun _ _ => rfl)) (pe_glob (v := .str (S letL)) rfl gLET ⟨_, rfl⟩) (by rfl)) (pe_and (pe_callB (cr_all rfl) (by rfl) T.all (by decide +kernel) (pa_cons (pe_lc (own := [("char", 1)]) (g := gName 1) (tt := tYes) rfl scIN.nd (pi_str (pv 0)) (blkOk_by (own := [("char", 1)]) (N := ["value", "char"]) (sc := defScope sIN) (by decide +kernel)) (fun _ _ _ _ _ => pg_name (i := 1) scIN.nd rfl (Or.inl rfl)) (fun _ _ _ _ _ => pts_nil) (fun _ _ _ _ _ => (pe_cmpR op_in_sign (pv 1) (pe_glob (v := .str (S runL)) rfl gRUN ⟨_, rfl⟩) (by rfl)))) pa_nil)) (pe_one (pe_cmpR op_notIn_seq (pv 0) (pe_glob (v := .ref aW) rfl T.gWRD rfl) (by rfl)))))))), ?_⟩
    refine ⟨_, rfl, .str (S v), .ty "str", _, _, true, rfl, .ty _, .base (.str _), str_type, true, rfl, iteF ?_⟩
    refine ⟨_, rfl, rfl, _, rfl, ?_⟩
    rw [is_empty]
    cases v with
    | nil =>
      refine bool_if (fun _ => ?_) (fun h => absurd h (by decide))
      exact q H (Same.refl H)
    | cons c r =>
      refine bool_if (fun h => absurd h (by simp)) (fun _ => ?_)
      refine ⟨_, rfl, S (c :: r), rfl, by rw [S_len]; exact small (by omega), _, _, rfl, rfl, _, rfl, ?_⟩
      rw [S_len]
      refine bool_if (fun h => ?_) (fun h => ?_)
      · have hl : ¬ (c :: r).length ≤ 20 := by
          have := of_decide_eq_true h
          omega
        have e : isName (c :: r) = false := by
          rw [isName_cons, decide_eq_false hl]
          rfl
        rw [← e]
        exact q H (Same.refl H)
      · have hl : (c :: r).length ≤ 20 := by
          have := of_decide_eq_false h
          omega
        have e : isName (c :: r) = (decide (c ∈ letL) && ((c :: r).all isRun && !decide ((c :: r) ∈ wordsL))) := by
          rw [isName_cons, decide_eq_true hl, Bool.true_and, Bool.and_assoc]
        rw [e] at q
        refine ⟨_, rfl, S (c :: r), 0, c, rfl, rfl, by rw [S_len]; exact small (by omega), atI_nat (j := 0) rfl, c, S letL, rfl, rfl, _, rfl, bool_if (fun h1 => ?_) (fun h1 => ?_)⟩
        · have h1' : decide (c ∈ letL) = true := h1
          rw [h1', Bool.true_and] at q
          refine all_in (c :: r) runL 1 rfl (fun _ => rfl) (by show 2 > 1; decide) hl' fun H' sm => ⟨_, rfl, bool_if (fun h2 => ?_) (fun h2 => ?_)⟩
          · have h2' : (c :: r).all isRun = true := h2
            rw [h2', Bool.true_and] at q
            refine ⟨_, rfl, aW, _, rfl, .inr (T.sWRD _), rfl, flat_words _, ?_⟩
            have z := q H' sm
            rw [← inV_words] at z
            exact z
          · have h2' : (c :: r).all isRun = false := h2
            rw [h2', Bool.false_and] at q
            exact q H' sm
        · have h1' : decide (c ∈ letL) = false := h1
          rw [h1', Bool.false_and] at q
          exact q H (Same.refl H)
theorem scNU : FnScope ["run", "char"] ["run"] (defScope sNU) := ⟨rfl, rfl, rfl, by decide +kernel, rfl, by decide +kernel, by decide +kernel⟩
def spNU : Sp := fun vs H Q _ => ∃ v : List Nat, vs = [.str (S v)] ∧ v ≠ [] ∧ v.length ≤ 5000 ∧ ∀ H', Same H H' → Q (.bl (isNumber v)) H'
theorem is_zero (c : Nat) : decide (V.str ⟨#[c]⟩ = V.str (Str.ofString "0")) = decide (c = 48) := by
  have e : Str.ofString "0" = S [48] := by decide +kernel
  have z := S_eq [c] [48]
  rw [e]
  refine Eq.trans z ?_
  rw [Bool.eq_iff_iff]
  simp
theorem isNumber_cons (c : Nat) (r : List Nat) : isNumber (c :: r) = (!(decide ((c :: r).length > 18) || (decide (c = 48) && decide ((c :: r).length > 1))) && (c :: r).all isDig) := by
  unfold isNumber
  congr 4
  simp
theorem ok_NU {fd : FuncData} {k : Nat} (F : Fun K "_is_number" "_is_number" sNU fNU fd) (T : TK K mg C fI aS aW fIN fTK fLE fTO fTE fRE fRK fNU) : FnOk P w K mg base CX0 (k + 1) fNU fd ["run"] spNU := by
  refine F.ok scNU (fun vs H Q E h => ?_) (fun cdv A outer s H vs Q E hr h => ?_)
  · obtain ⟨v, rfl, _⟩ := h
    rfl
  · obtain ⟨v, rfl, hne, hl', q⟩ := h
    obtain ⟨t1, gDIG⟩ := T.DIG
    obtain ⟨t3, gLU⟩ := T.LU
    refine ⟨_,
(pss_cons (ps_if (PW.pt (pw_or (pt_cmpR op_gt (pe_callB call_len_str (by rfl) T.len (by decide +kernel) (pa_cons (pv 0) pa_nil)) (pe_glob (v := .int 18) rfl gLU ⟨_, rfl⟩) (nomark _)) (pw_or1 (PW.pt (pw_and (pt_cmpR op_eq (pe_ix ix_str (pv 0) pe_int (fun _ _ => rfl)) pe_str (nomark _)) (pw_and1 (pt_cmpR op_gt (pe_callB call_len_str (by rfl) T.len (by decide +kernel) (pa_cons (pv 0) pa_nil)) pe_int (nomark _))))))))
 (pss_one (ps_ret pe_bl))
 pss_nil)
 (pss_one (ps_ret (pe_callB (cr_all rfl) (by rfl) T.all (by decide +kernel) (pa_cons (pe_lc (own := [("char", 1)]) (g := gName 1) (tt := tYes) rfl scNU.nd (pi_str (pv 0)) (blkOk_by (own := [("char", 1)]) (N := ["run", "char"]) (sc := defScope sNU) (by decide +kernel)) (fun _ _ _ _ _ => pg_name (i := 1) scNU.nd rfl (Or.inl rfl)) (fun _ _ _ _ _ => pts_nil) (fun _ _ _ _ _ => (pe_cmpR op_in_sign (pv 1) (pe_glob (v := .str (S digL)) rfl gDIG ⟨_, rfl⟩) (by rfl)))) pa_nil))))), ?_⟩
    cases v with
    | nil => exact absurd rfl hne
    | cons c r =>
      rw [isNumber_cons] at q
      have last : ∀ b : Bool, b = false → (∀ H', Same H H' → Q (.bl (!b && (c :: r).all isDig)) H') → ∀ H', Same H H' → Q (.bl ((c :: r).all isDig)) H' := by
        intro b hb q H' sm
        have z := q H' sm
        rw [hb, Bool.not_false, Bool.true_and] at z
        exact z
      have stop : ∀ b : Bool, b = true → (∀ H', Same H H' → Q (.bl (!b && (c :: r).all isDig)) H') → Q (.bl false) H := by
        intro b hb q
        have z := q H (Same.refl H)
        rw [hb, Bool.not_true, Bool.false_and] at z
        exact z
      refine ⟨_, rfl, S (c :: r), rfl, by rw [S_len]; exact small (by omega), _, _, rfl, rfl, _, rfl, ?_⟩
      rw [S_len]
      refine bool_if (fun h => ?_) (fun h => ?_)
      · have hl : (c :: r).length > 18 := by
          have := of_decide_eq_true h
          omega
        exact stop _ (by rw [decide_eq_true hl]; rfl) q
      · have hl : ¬ (c :: r).length > 18 := by
          have := of_decide_eq_false h
          omega
        refine ⟨_, rfl, S (c :: r), 0, c, rfl, rfl, by rw [S_len]; exact small (by omega), atI_nat (j := 0) rfl, rfl, _, rfl, ?_⟩
        rw [is_zero]
        refine bool_if (fun h1 => ?_) (fun h1 => ?_)
        · refine ⟨_, rfl, S (c :: r), rfl, by rw [S_len]; exact small (by omega), _, _, rfl, rfl, _, rfl, ?_⟩
          rw [S_len]
          refine bool_if (fun h2 => ?_) (fun h2 => ?_)
          · have hl2 : (c :: r).length > 1 := by
              have := of_decide_eq_true h2
              omega
            exact stop _ (by rw [h1, decide_eq_true hl2]; simp) q
          · have hl2 : ¬ (c :: r).length > 1 := by
              have := of_decide_eq_false h2
              omega
            exact all_in (c :: r) digL 1 rfl (fun _ => rfl) (by show 2 > 1; decide) hl' (last _ (by rw [decide_eq_false hl, decide_eq_false hl2]; simp) q)
        · refine iteF ?_
          exact all_in (c :: r) digL 1 rfl (fun _ => rfl) (by show 2 > 1; decide) hl' (last _ (by rw [decide_eq_false hl, h1]; simp) q)
theorem scRE : FnScope ["text", "at", "end"] ["text", "at"] (defScope sRE) := ⟨rfl, rfl, rfl, by decide +kernel, rfl, by decide +kernel, by decide +kernel⟩
def runs (l : List Nat) : Nat := (l.takeWhile isRun).length
def spRE : Sp := fun vs H Q _ => ∃ (l : List Nat) (n : Nat), vs = [.str (S l), .int n] ∧ n ≤ l.length ∧ l.length ≤ 5000 ∧ Q (.int ((n + runs (l.drop n) : Nat) : Int)) H
theorem runs_more {l : List Nat} {c : Nat} {r : List Nat} (h : l = c :: r) (hc : isRun c = true) : runs l = runs r + 1 := by
  subst h
  unfold runs
  rw [List.takeWhile_cons, if_pos hc]
  rfl
theorem runs_stop {l : List Nat} (h : ∀ c r, l = c :: r → isRun c = false) : runs l = 0 := by
  cases l with
  | nil => rfl
  | cons c r =>
    unfold runs
    rw [List.takeWhile_cons, if_neg (by rw [h c r rfl]; decide)]
    rfl
theorem drop_cons {l : List Nat} {n : Nat} (h : n < l.length) : l.drop n = l[n] :: l.drop (n + 1) := List.drop_eq_getElem_cons h
theorem ok_RE {fd : FuncData} {k : Nat} (F : Fun K "_run_end" "_run_end" sRE fRE fd) (T : TK K mg C fI aS aW fIN fTK fLE fTO fTE fRE fRK fNU) : FnOk P w K mg base CX0 (k + 1) fRE fd ["text", "at"] spRE := by
  refine F.ok scRE (fun vs H Q E h => ?_) (fun cdv A outer s H vs Q E hr h => ?_)
  · obtain ⟨l, n, rfl, _⟩ := h
    rfl
  · obtain ⟨l, n, rfl, hn, hl, q⟩ := h
    obtain ⟨t2, gRUN⟩ := T.RUN
    refine ⟨_,
(pss_cons (ps_set (i := 2) scRE.nd rfl (.inl rfl) (pv 1))
 (pss_cons (ps_while PassesOwn.never (PW.pt (pw_and (pt_cmpR op_lt (pv 2) (pe_callB call_len_str (by rfl) T.len (by decide +kernel) (pa_cons (pv 0) pa_nil)) (nomark _)) (pw_and1 (pt_cmpR op_in_sign (pe_ix ix_str (pv 0) (pv 2) (fun _ _ => rfl)) (pe_glob (v := .str (S runL)) rfl gRUN ⟨_, rfl⟩) (by rfl)))))
 (pss_one (ps_aug (i := 2) scRE.nd rfl (.inl rfl) pe_int ip_add)))
 (pss_one (ps_ret (pv 2))))), ?_⟩
    refine ⟨_, rfl, fun m σ H' => ∃ j : Nat, σ = [some (.str (S l)), some (.int n), some (.int j)] ∧ j ≤ l.length ∧ m = l.length - j ∧ j + runs (l.drop j) = n + runs (l.drop n) ∧ H' = H, ⟨_, n, rfl, hn, rfl, rfl, rfl⟩, ?_⟩
    rintro m σ H' ⟨j, rfl, hj, rfl, e, rfl⟩
    refine ⟨_, rfl, _, rfl, S l, rfl, by rw [S_len]; exact small (by omega), _, _, rfl, rfl, _, rfl, ?_⟩
    rw [S_len]
    refine bool_if (fun h => ?_) (fun h => ?_)
    · have hlt : j < l.length := by
        have := of_decide_eq_true h
        omega
      have d := drop_cons hlt
      refine ⟨_, rfl, _, rfl, S l, _, l[j], rfl, rfl, by rw [S_len]; exact small (by omega), atI_nat (List.getElem?_eq_getElem hlt), l[j], S runL, rfl, rfl, _, rfl, bool_if (fun h1 => ?_) (fun h1 => ?_)⟩
      · have e1 := runs_more d h1
        refine ⟨fun σ H'' => ∃ j' : Nat, σ = [some (.str (S l)), some (.int n), some (.int j')] ∧ j' ≤ l.length ∧ j' = j + 1 ∧ j' + runs (l.drop j') = n + runs (l.drop n) ∧ H'' = H', fun σ H'' ⟨j', e1, e2, e3, e4, e5⟩ => ⟨l.length - j', by omega, j', e1, e2, rfl, e4, e5⟩, _, rfl, _, _, rfl, rfl, j + 1, rfl, by omega, rfl, by omega, rfl⟩
      · have e1 : runs (l.drop j) = 0 := runs_stop fun c r z => by
          rw [d] at z
          rw [← (List.cons.inj z).1]
          exact h1
        refine ⟨_, rfl, ?_⟩
        rw [e1] at e
        rw [← e] at q
        exact q
    · have hge : ¬ j < l.length := by
        have := of_decide_eq_false h
        omega
      have e1 : l.drop j = [] := List.drop_eq_nil_of_le (by omega)
      rw [e1] at e
      refine iteF ⟨_, rfl, ?_⟩
      rw [← e] at q
      exact q
theorem scLE : FnScope ["text", "at", "end"] ["text", "at"] (defScope sLE) := ⟨rfl, rfl, rfl, by decide +kernel, rfl, by decide +kernel, by decide +kernel⟩
def spLE : Sp := fun vs H Q _ => ∃ (l : List Nat) (n : Nat), vs = [.str (S l), .int n] ∧ n ≤ l.length ∧ l.length ≤ 5000 ∧ Q (.int ((n + (upTo 10 (l.drop n)).length : Nat) : Int)) H
theorem ok_LE {fd : FuncData} {k : Nat} (F : Fun K "_line_end" "_line_end" sLE fLE fd) (T : TK K mg C fI aS aW fIN fTK fLE fTO fTE fRE fRK fNU) : FnOk P w K mg base CX0 (k + 1) fLE fd ["text", "at"] spLE := by
  refine F.ok scLE (fun vs H Q E h => ?_) (fun cdv A outer s H vs Q E hr h => ?_)
  · obtain ⟨l, n, rfl, _⟩ := h
    rfl
  · obtain ⟨l, n, rfl, hn, hl, q⟩ := h
    refine ⟨_,
(pss_cons (ps_set (i := 2) scLE.nd rfl (.inl rfl) (pe_bm PySem.F.plainAttrs_str PySem.F.slot_str_find PySem.F.type_str_find mt_find3 (pv 0) (pa_cons pe_str (pa_cons (pv 1) pa_nil))))
 (pss_one (ps_ret (pe_ifExp (pt_cmpR op_lt (pv 2) pe_int (nomark _)) (pe_callB call_len_str (by rfl) T.len (by decide +kernel) (pa_cons (pv 0) pa_nil)) (pv 2))))), ?_⟩
    have one : Str.ofString "\n" = ⟨#[10]⟩ := by decide +kernel
    refine ⟨_, rfl, rfl, _, rfl, S l, _, _, rfl, rfl, ?_⟩
    rw [one, find_one l 10 n hn]
    by_cases full : (upTo 10 (l.drop n)).length = (l.drop n).length
    · rw [if_pos full]
      have e : n + (upTo 10 (l.drop n)).length = l.length := by
        rw [full, List.length_drop]
        omega
      rw [e] at q
      refine ⟨_, rfl, _, _, rfl, rfl, _, rfl, iteT ⟨_, rfl, S l, rfl, by rw [S_len]; exact small (by omega), ?_⟩⟩
      rw [S_len]
      exact q
    · rw [if_neg full]
      refine ⟨_, rfl, _, _, rfl, rfl, _, rfl, bool_if (fun h => ?_) (fun _ => ⟨_, rfl, q⟩)⟩
      have := of_decide_eq_true h
      omega
theorem scTE : FnScope ["text", "at", "end"] ["text", "at"] (defScope sTE) := ⟨rfl, rfl, rfl, by decide +kernel, rfl, by decide +kernel, by decide +kernel⟩
def spTE (C : Addr) : Sp := fun vs H Q E => ∃ (l : List Nat) (n : Nat), vs = [.str (S l), .int n] ∧ l[n]? = some 39 ∧ l.length ≤ 5000 ∧
  (∀ m, textLen (l.drop (n + 1)) = some m → Q (.int ((n + m : Nat) : Int)) H) ∧ (textLen (l.drop (n + 1)) = none → Rz C H E (.int n))
theorem ok_TE {fd fdI : FuncData} (F : Fun K "_text_end" "_text_end" sTE fTE fd) (T : TK K mg C fI aS aW fIN fTK fLE fTO fTE fRE fRK fNU) (GI : FnOk P w K mg base CX0 1 fI fdI ["self", "at"] (spI C 1 (look1 "at"))) (bI : Binds K fdI ["self", "at"] []) :
    FnOk P w K mg base (L2.CX P w) 3 fTE fd ["text", "at"] (spTE C) := by
  refine F.okX scTE (fun vs H Q E h => ?_) (fun cdv A outer s H vs Q E hr2 h => ?_)
  · obtain ⟨l, n, rfl, _⟩ := h
    rfl
  · obtain ⟨l, n, rfl, hq, hl, qS, qN⟩ := h
    obtain ⟨t3, gLT⟩ := T.LT
    have hn : n < l.length := (List.getElem?_eq_some_iff.mp hq).1
    have one : Str.ofString "'" = ⟨#[39]⟩ := by decide +kernel
    have lf : Str.ofString "\n" = ⟨#[10]⟩ := by decide +kernel
    refine ⟨_,
(pss_cons (ps_set (i := 2) scTE.nd rfl (.inl rfl) (pe_bm PySem.F.plainAttrs_str PySem.F.slot_str_find PySem.F.type_str_find mt_find3 (pv 0) (pa_cons pe_str (pa_cons (pe_op op_add (pv 1) pe_int) pa_nil))))
 (pss_cons (ps_if (PW.pt (pw_or (pt_cmpR op_lt (pv 2) pe_int (nomark _)) (pw_or (pt_cmpR op_gt (pe_op op_sub (pe_op op_sub (pv 2) (pv 1)) pe_int) (pe_glob (v := .int 40) rfl gLT ⟨_, rfl⟩) (nomark _)) (pw_or1 (pt_cmpR op_in_sign pe_str (pe_slice sl_str (pv 0) (po_some (pv 1)) (po_some (pv 2))) (by rfl))))))
 (pss_one (ps_raise rfl (takes_of rfl rfl rfl rfl) (pmk_oex T.err.T T.err.iC T.err.tI GI hr2 bI .nil pass0 (by rfl) T.err.g (pa_cons (pv 1) pa_nil))))
 pss_nil)
 (pss_one (ps_ret (pe_op op_add (pv 2) pe_int))))), ?_⟩
    have up : ∀ σ : L2.St, σ[1]? = some (some (.int (n : Int))) → textLen (l.drop (n + 1)) = none → tMkO C (spI C 1 (look1 "at")) [] (tCons (tVar 1) tNil) σ H E := fun σ hσ hN => raise1 (Evl.ea_cons (Evl.ev_var hσ) Evl.ea_nil) fun d H' sm nd hd => qN hN d H' sm nd hd
    have en : (n : Int) + 1 = ((n + 1 : Nat) : Int) := rfl
    refine ⟨_, rfl, rfl, _, rfl, _, _, rfl, rfl, S l, _, _, rfl, rfl, ?_⟩
    rw [one, en, find_one l 39 (n + 1) (by omega)]
    have lt : (upTo 39 (l.drop (n + 1))).length ≤ (l.drop (n + 1)).length := upTo_le _
    by_cases full : (upTo 39 (l.drop (n + 1))).length = (l.drop (n + 1)).length
    · rw [if_pos full]
      have hN : textLen (l.drop (n + 1)) = none := by
        unfold textLen
        rw [if_pos (.inl full)]
      refine ⟨_, rfl, _, _, rfl, rfl, _, rfl, iteT ?_⟩
      exact up _ rfl hN
    · rw [if_neg full]
      rw [List.length_drop] at lt full
      refine ⟨_, rfl, _, _, rfl, rfl, _, rfl, bool_if (fun h => ?_) (fun _ => ?_)⟩
      · have := of_decide_eq_true h
        omega
      refine ⟨_, rfl, _, rfl, _, _, rfl, rfl, _, _, rfl, rfl, _, _, rfl, rfl, _, rfl, bool_if (fun h => ?_) (fun h => ?_)⟩
      · have hN : textLen (l.drop (n + 1)) = none := by
          unfold textLen
          have := of_decide_eq_true h
          rw [if_pos (.inr (.inl (by omega)))]
        exact up _ rfl hN
      · have h40 : (upTo 39 (l.drop (n + 1))).length ≤ 40 := by
          have := of_decide_eq_false h
          omega
        refine ⟨_, rfl, _, rfl, _, rfl, _, rfl, _, rfl, S l, rfl, by rw [S_len]; exact small (by omega), ?_⟩
        have ec : cutS (S l) (some (n : Int)) (some ((n + 1 + (upTo 39 (l.drop (n + 1))).length : Nat) : Int)) = S (39 :: upTo 39 (l.drop (n + 1))) := by
          rw [cut_at l _ _ (by omega) (by omega)]
          congr 1
          have e1 : l.drop n = 39 :: l.drop (n + 1) := by
            rw [drop_cons hn]
            congr 1
            exact (List.getElem?_eq_some_iff.mp hq).2
          have e2 : n + 1 + (upTo 39 (l.drop (n + 1))).length - n = (upTo 39 (l.drop (n + 1))).length + 1 := by omega
          rw [e1, e2, List.take_succ_cons]
          congr 1
          unfold upTo
          exact (List.prefix_iff_eq_take.mp (List.takeWhile_prefix _)).symm
        rw [ec]
        refine ⟨10, _, by rw [lf], rfl, _, rfl, bool_if (fun h => ?_) (fun h => ?_)⟩
        · have hN : textLen (l.drop (n + 1)) = none := by
            unfold textLen
            have m : 10 ∈ 39 :: upTo 39 (l.drop (n + 1)) := of_decide_eq_true h
            rcases List.mem_cons.mp m with z | z
            · omega
            · rw [if_pos (.inr (.inr z))]
          exact up _ rfl hN
        · have m : ¬ 10 ∈ 39 :: upTo 39 (l.drop (n + 1)) := of_decide_eq_false h
          have hS : textLen (l.drop (n + 1)) = some ((upTo 39 (l.drop (n + 1))).length + 2) := by
            unfold textLen
            rw [if_neg]
            rintro (z | z | z)
            · rw [List.length_drop] at z
              exact full z
            · omega
            · exact m (List.mem_cons_of_mem _ z)
          refine ⟨_, rfl, _, _, rfl, rfl, ?_⟩
          have z := qS _ hS
          have e3 : ((n + 1 + (upTo 39 (l.drop (n + 1))).length : Nat) : Int) + 1 = ((n + ((upTo 39 (l.drop (n + 1))).length + 2) : Nat) : Int) := by omega
          show Q (.int (((n + 1 + (upTo 39 (l.drop (n + 1))).length : Nat) : Int) + 1)) H
          rw [e3]
          exact z
theorem scRK : FnScope ["run", "at"] ["run", "at"] (defScope sRK) := ⟨rfl, rfl, rfl, by decide +kernel, rfl, by decide +kernel, by decide +kernel⟩
def spRK (C : Addr) : Sp := fun vs H Q E => ∃ (v : List Nat) (n : Nat), vs = [.str (S v), .int n] ∧ v ≠ [] ∧ v.length ≤ 5000 ∧
  (∀ k, runKind v = some k → ∀ H', Same H H' → Q (.str (S (kindL k))) H') ∧ (runKind v = none → Rz C H E (.int n))
theorem ok_RK {fd fdI fdN fdU : FuncData} (F : Fun K "_run_kind" "_run_kind" sRK fRK fd) (T : TK K mg C fI aS aW fIN fTK fLE fTO fTE fRE fRK fNU) (GI : FnOk P w K mg base CX0 1 fI fdI ["self", "at"] (spI C 1 (look1 "at"))) (bI : Binds K fdI ["self", "at"] [])
    (GN : FnOk P w K mg base CX0 1 fIN fdN ["value"] spIN) (bN : Binds K fdN ["value"] []) (GU : FnOk P w K mg base CX0 1 fNU fdU ["run"] spNU) (bU : Binds K fdU ["run"] []) :
    FnOk P w K mg base (L2.CX P w) 3 fRK fd ["run", "at"] (spRK C) := by
  refine F.okX scRK (fun vs H Q E h => ?_) (fun cdv A outer s H vs Q E hr2 h => ?_)
  · obtain ⟨l, n, rfl, _⟩ := h
    rfl
  · obtain ⟨v, n, rfl, hne, hl, qS, qN⟩ := h
    have hr1 := hr2.mono (show 1 ≤ 2 by decide)
    refine ⟨_,
(pss_cons (ps_if (pt_cmpR op_in_seq (pv 0) (pe_glob (v := .ref aW) rfl T.gWRD rfl) (by rfl))
 (pss_one (ps_ret pe_str))
 pss_nil)
 (pss_cons (ps_if (pt_val (pe_call GN hr1 (by rfl) T.gIN T.kIN bN .nil pass0 (pa_cons (pv 0) pa_nil)))
 (pss_one (ps_ret pe_str))
 pss_nil)
 (pss_cons (ps_if (pt_val (pe_call GU hr1 (by rfl) T.gNU T.kNU bU .nil pass0 (pa_cons (pv 0) pa_nil)))
 (pss_one (ps_ret pe_str))
 pss_nil)
 (pss_one (ps_raise rfl (takes_of rfl rfl rfl rfl) (pmk_oex T.err.T T.err.iC T.err.tI GI hr2 bI .nil pass0 (by rfl) T.err.g (pa_cons (pv 1) pa_nil))))))), ?_⟩
    refine ⟨_, rfl, aW, _, rfl, .inr (T.sWRD _), rfl, flat_words _, ?_⟩
    rw [show (if false = true then !inV (.str (S v)) (wordsL.map fun s => V.str (S s)) else inV (.str (S v)) (wordsL.map fun s => V.str (S s))) = decide (v ∈ wordsL) from inV_words v wordsL]
    refine ⟨_, rfl, bool_if (fun h => ?_) (fun h => ?_)⟩
    · have e : runKind v = some .word := by
        unfold runKind
        rw [if_pos (of_decide_eq_true h)]
      have z := qS _ e H (Same.refl H)
      rw [← kWord] at z
      exact z
    · have n1 := of_decide_eq_false h
      refine ⟨_, rfl, v, rfl, hl, fun H1 sm1 => ⟨_, rfl, bool_if (fun h2 => ?_) (fun h2 => ?_)⟩⟩
      · have e : runKind v = some .name := by
          unfold runKind
          rw [if_neg n1, if_pos h2]
        have z := qS _ e H1 sm1
        rw [← kName] at z
        exact z
      · refine ⟨_, rfl, v, rfl, hne, hl, fun H2 sm2 => ⟨_, rfl, bool_if (fun h3 => ?_) (fun h3 => ?_)⟩⟩
        · have e : runKind v = some .number := by
            unfold runKind
            rw [if_neg n1, if_neg (by rw [h2]; decide), if_pos h3]
          have z := qS _ e H2 (sm1.trans sm2)
          rw [← kNumber] at z
          exact z
        · have e : runKind v = none := by
            unfold runKind
            rw [if_neg n1, if_neg (by rw [h2]; decide), if_neg (by rw [h3]; decide)]
          have sm := sm1.trans sm2
          exact raise1 (Evl.ea_cons (Evl.ev_var rfl) Evl.ea_nil) fun d H' sm' nd hd => qN e d H' (sm.trans sm') (sm.free nd) hd
theorem scTO : FnScope ["text", "at", "end", "sign"] ["text", "at"] (defScope sTO) := ⟨rfl, rfl, rfl, by decide +kernel, rfl, by decide +kernel, by decide +kernel⟩
def spTO (C : Addr) : Sp := fun vs H Q E => ∃ (l : List Nat) (n : Nat), vs = [.str (S l), .int n] ∧ n < l.length ∧ l.length ≤ 5000 ∧
  (∀ k m, tokenAt (l.drop n) = some (k, m) → ∀ (H' : Hp) (p : Addr), Same H H' → H p = none → H' p = some (.tup [.str (S (kindL k)), .int ((n + m : Nat) : Int)]) → Q (.ref p) H') ∧ (tokenAt (l.drop n) = none → Rz C H E (.int n))
theorem tokenAt_cons (c : Nat) (r : List Nat) : tokenAt (c :: r) = if c = 39 then (textLen r).map fun n => (.text, n)
    else if isRun c = true then (runKind ((c :: r).takeWhile isRun)).map fun k => (k, ((c :: r).takeWhile isRun).length)
    else (signsL.find? fun s => s.isPrefixOf (c :: r)).map fun s => (.sign, s.length) := rfl
theorem is_quote (c : Nat) : decide (V.str ⟨#[c]⟩ = V.str (Str.ofString "'")) = decide (c = 39) := by
  have e : Str.ofString "'" = S [39] := by decide +kernel
  rw [e]
  refine Eq.trans (S_eq [c] [39]) ?_
  rw [Bool.eq_iff_iff]
  simp
theorem signs_len : ∀ s ∈ signsL, s.length ≤ 2 := by decide
theorem find_take {p : List Nat → Bool} : ∀ (l : List (List Nat)) (i : Nat) (s : List Nat), (∀ j t, j < i → l[j]? = some t → p t = false) → l[i]? = some s → p s = true → l.find? p = some s
  | [], i, s, _, h, _ => by simp at h
  | a :: l, 0, s, _, h, hp => by
    have e : a = s := Option.some.inj h
    subst e
    rw [List.find?_cons, hp]
  | a :: l, i + 1, s, hb, h, hp => by
    have ha : p a = false := hb 0 a (by omega) rfl
    rw [List.find?_cons, ha]
    exact find_take l i s (fun j t hj ht => hb (j + 1) t (by omega) (by simpa using ht)) (by simpa using h) hp
theorem find_none {p : List Nat → Bool} (l : List (List Nat)) (h : ∀ j t, j < l.length → l[j]? = some t → p t = false) : l.find? p = none := by
  rw [List.find?_eq_none]
  intro x hx
  obtain ⟨i, hi⟩ := List.mem_iff_getElem?.mp hx
  rw [h i x (List.getElem?_eq_some_iff.mp hi).1 hi]
  simp
theorem ok_TO {fd fdI fdE fdR fdK : FuncData} (F : Fun K "_token" "_token" sTO fTO fd) (T : TK K mg C fI aS aW fIN fTK fLE fTO fTE fRE fRK fNU) (GI : FnOk P w K mg base CX0 1 fI fdI ["self", "at"] (spI C 1 (look1 "at"))) (bI : Binds K fdI ["self", "at"] [])
    (GE : FnOk P w K mg base (L2.CX P w) 3 fTE fdE ["text", "at"] (spTE C)) (bE : Binds K fdE ["text", "at"] []) (GR : FnOk P w K mg base CX0 3 fRE fdR ["text", "at"] spRE) (bR : Binds K fdR ["text", "at"] [])
    (GK : FnOk P w K mg base (L2.CX P w) 3 fRK fdK ["run", "at"] (spRK C)) (bK : Binds K fdK ["run", "at"] []) :
    FnOk P w K mg base (L2.CX P w) 4 fTO fd ["text", "at"] (spTO C) := by
  refine F.okX scTO (fun vs H Q E h => ?_) (fun cdv A outer s H vs Q E hr3 h => ?_)
  · obtain ⟨l, n, rfl, _⟩ := h
    rfl
  · obtain ⟨l, n, rfl, hn, hl, qS, qN⟩ := h
    have hr2 := hr3.mono (show 2 ≤ 3 by decide)
    obtain ⟨t2, gRUN⟩ := T.RUN
    refine ⟨_,
(pss_cons (ps_if (pt_cmpR op_eq (pe_ix ix_str (pv 0) (pv 1) (fun _ _ => rfl)) pe_str (nomark _))
 (pss_one (ps_ret (pe_tup (pa_cons pe_str (pa_cons (pe_call GE hr3 (by rfl) T.gTE T.kTE bE .nil (passes_call (takes_of rfl rfl rfl rfl) (fun _ _ _ _ h => h)) (pa_cons (pv 0) (pa_cons (pv 1) pa_nil))) pa_nil)))))
 pss_nil)
 (pss_cons (ps_if (pt_cmpR op_in_sign (pe_ix ix_str (pv 0) (pv 1) (fun _ _ => rfl)) (pe_glob (v := .str (S runL)) rfl gRUN ⟨_, rfl⟩) (by rfl))
 (pss_cons (ps_set (i := 2) scTO.nd rfl (.inl rfl) (pe_call GR hr3 (by rfl) T.gRE T.kRE bR .nil pass0 (pa_cons (pv 0) (pa_cons (pv 1) pa_nil))))
 (pss_one (ps_ret (pe_tup (pa_cons (pe_call GK hr3 (by rfl) T.gRK T.kRK bK .nil (passes_call (takes_of rfl rfl rfl rfl) (fun _ _ _ _ h => h)) (pa_cons (pe_slice sl_str (pv 0) (po_some (pv 1)) (po_some (pv 2))) (pa_cons (pv 1) pa_nil))) (pa_cons (pv 2) pa_nil))))))
 pss_nil)
 (pss_cons (ps_for (passes_of rfl) rfl (pi_tup (pe_glob (v := .ref aS) rfl T.gSIG rfl)) (pg_name (i := 3) scTO.nd rfl (.inl rfl))
 (pss_one (ps_if (pt_val (pe_bm PySem.F.plainAttrs_str PySem.F.slot_str_startswith PySem.F.type_str_startswith mt_startswith3 (pv 0) (pa_cons (pv 3) (pa_cons (pv 1) pa_nil))))
 (pss_one (ps_ret (pe_tup (pa_cons pe_str (pa_cons (pe_op op_add (pv 1) (pe_callB call_len_str (by rfl) T.len (by decide +kernel) (pa_cons (pv 3) pa_nil))) pa_nil)))))
 pss_nil)))
 (pss_one (ps_raise rfl (takes_of rfl rfl rfl rfl) (pmk_oex T.err.T T.err.iC T.err.tI GI hr2 bI .nil pass0 (by rfl) T.err.g (pa_cons (pv 1) pa_nil))))))), ?_⟩
    have d := drop_cons hn
    rw [d] at qS qN
    refine ⟨_, rfl, _, rfl, S l, _, l[n], rfl, rfl, by rw [S_len]; exact small (by omega), atI_nat (List.getElem?_eq_getElem hn), rfl, _, rfl, ?_⟩
    rw [is_quote]
    refine bool_if (fun h => ?_) (fun h => ?_)
    · -- a text
      have hc := of_decide_eq_true h
      have e : tokenAt (l[n] :: l.drop (n + 1)) = (textLen (l.drop (n + 1))).map fun m => (.text, m) := by
        rw [tokenAt_cons, if_pos hc]
      refine ⟨_, rfl, _, rfl, l, n, rfl, by rw [List.getElem?_eq_getElem hn, hc], hl, fun m hm => ⟨(by show 2 ≤ sizeLine; decide), fun p hp => ?_⟩, fun hN => ?_⟩
      · refine qS .text m (by rw [e, hm]; rfl) _ p (same_new hp) hp ?_
        rw [← kText]
        exact upd_same
      · exact qN (by rw [e, hN]; rfl)
    · have hc := of_decide_eq_false h
      refine ⟨_, rfl, _, rfl, S l, _, l[n], rfl, rfl, by rw [S_len]; exact small (by omega), atI_nat (List.getElem?_eq_getElem hn), l[n], S runL, rfl, rfl, _, rfl, bool_if (fun h1 => ?_) (fun h1 => ?_)⟩
      · -- a run
        have hr : isRun l[n] = true := h1
        have e : tokenAt (l[n] :: l.drop (n + 1)) = (runKind ((l[n] :: l.drop (n + 1)).takeWhile isRun)).map fun k => (k, ((l[n] :: l.drop (n + 1)).takeWhile isRun).length) := by
          rw [tokenAt_cons, if_neg hc, if_pos hr]
        refine ⟨_, rfl, _, rfl, l, n, rfl, by omega, hl, ?_⟩
        have le : runs (l.drop n) ≤ l.length - n := by
          have z := (List.takeWhile_sublist (p := isRun) (l := l.drop n)).length_le
          rw [List.length_drop] at z
          exact z
        refine ⟨_, rfl, _, rfl, _, rfl, _, rfl, _, rfl, S l, rfl, by rw [S_len]; exact small (by omega), _, rfl, ?_⟩
        have ec : cutS (S l) (some (n : Int)) (some ((n + runs (l.drop n) : Nat) : Int)) = S ((l[n] :: l.drop (n + 1)).takeWhile isRun) := by
          rw [cut_at l _ _ (by omega) (by omega), ← d]
          congr 1
          rw [show n + runs (l.drop n) - n = runs (l.drop n) by omega]
          exact (List.prefix_iff_eq_take.mp (List.takeWhile_prefix _)).symm
        rw [ec]
        have er : runs (l.drop n) = ((l[n] :: l.drop (n + 1)).takeWhile isRun).length := by rw [← d]; rfl
        refine ⟨_, n, rfl, ?_, ?_, fun k hk H1 sm => ⟨_, rfl, (by show 2 ≤ sizeLine; decide), fun p hp => ?_⟩, fun hN => qN (by rw [e, hN]; rfl)⟩
        · intro z
          rw [z] at er
          have := runs_more d hr
          simp at er
          omega
        · have z := (List.takeWhile_sublist (p := isRun) (l := l[n] :: l.drop (n + 1))).length_le
          rw [← d, List.length_drop] at z
          rw [← d]
          omega
        · refine qS k _ (by rw [e, hk]; rfl) _ p (sm.trans (same_new hp)) (sm.free hp) ?_
          rw [← er]
          exact upd_same
      · -- a sign
        have hr : isRun l[n] = false := h1
        have e : tokenAt (l[n] :: l.drop (n + 1)) = (signsL.find? fun s => s.isPrefixOf (l[n] :: l.drop (n + 1))).map fun s => (.sign, s.length) := by
          rw [tokenAt_cons, if_neg hc, if_neg (by rw [hr]; decide)]
        refine ⟨aS, rfl, ⟨_, T.sSIG _⟩, for_it (walk_tup (K := K) (xs := signsL.map fun s => .str (S s))) (fun i σ H' => ∃ y, σ = [some (.str (S l)), some (.int n), none, y] ∧ H' = H ∧ ∀ j t, j < i → signsL[j]? = some t → t.isPrefixOf (l[n] :: l.drop (n + 1)) = false) ⟨_, rfl, rfl, fun j t hj => absurd hj (by omega)⟩ (fun _ _ _ _ _ => T.sSIG _) ?_ ?_⟩
        · rintro i x σ H1 H2 hi ⟨y, rfl, rfl, before⟩ ⟨rfl, hx⟩
          have hi' : i < signsL.length := by simpa using hi
          obtain ⟨sg, hsg, rfl⟩ : ∃ sg, signsL[i]? = some sg ∧ x = .str (S sg) := by
            rw [List.getElem?_map] at hx
            refine ⟨signsL[i], List.getElem?_eq_getElem hi', ?_⟩
            rw [List.getElem?_eq_getElem hi'] at hx
            exact (Option.some.inj hx).symm
          refine ⟨_, rfl, rfl, _, rfl, _, rfl, S l, _, _, rfl, rfl, ?_⟩
          rw [starts_at l sg n (by omega), d]
          refine ⟨_, rfl, bool_if (fun h2 => ?_) (fun h2 => ?_)⟩
          · have f := find_take signsL i sg before hsg h2
            refine ⟨_, rfl, _, rfl, S sg, rfl, by rw [S_len]; exact small (Nat.le_trans (signs_len sg (List.mem_of_getElem? hsg)) (by decide)), _, _, rfl, rfl, (by show 2 ≤ sizeLine; decide), fun p hp => ?_⟩
            refine qS .sign sg.length (by rw [e, f]; rfl) _ p (same_new hp) hp ?_
            rw [← kSign, S_len]
            exact upd_same
          · refine ⟨_, rfl, rfl, fun j t hj ht => ?_⟩
            by_cases q : j < i
            · exact before j t q ht
            · have e2 : j = i := by omega
              subst e2
              rw [hsg] at ht
              cases ht
              exact h2
        · rintro σ H1 ⟨y, rfl, rfl, before⟩
          have f : (signsL.find? fun s => s.isPrefixOf (l[n] :: l.drop (n + 1))) = none := find_none _ fun j t hj ht => before j t (by simpa using hj) ht
          exact raise1 (Evl.ea_cons (Evl.ev_var rfl) Evl.ea_nil) fun dd H' sm nd hd => qN (by rw [e, f]; rfl) dd H' sm nd hd
theorem scTK : FnScope ["text", "found", "at", "kind", "end"] ["text"] (defScope sTK) := ⟨rfl, rfl, rfl, by decide +kernel, rfl, by decide +kernel, by decide +kernel⟩
/-- the token t as a tuple at q -/
def TkAt (H : Hp) (q : Addr) (t : Tk) : Prop := H q = some (.tup [.str (S (kindL t.kind)), .str (S t.text), .int (t.start : Int)])
def spTK (K : PySem.W.Frag) (C : Addr) : Sp := fun vs H Q E => ∃ x, vs = [x] ∧
  ((∃ l : List Nat, x = .str (S l) ∧ l.length ≤ 5000 ∧ (∀ ts, sc l 0 = .ok ts → ∀ (H' : Hp) (p : Addr) (qs : List Addr), Same H H' → H p = none → H' p = some (.lst (qs.map V.ref)) → Paired (TkAt H') qs ts → Q (.ref p) H') ∧
      (∀ e, sc l 0 = .error e → Rz C H E (.int (e : Int)))) ∨
   (∃ l : List Nat, x = .str (S l) ∧ 5000 < l.length ∧ l.length ≤ sizeLine ∧ Rz C H E .non) ∨
   (∃ t, TyX K H x t ∧ PySem.W.kitOne K t (.type "str") = some false ∧ Rz C H E .non))
theorem paired_snoc {α β : Type} {R : α → β → Prop} {as : List α} {bs : List β} {a : α} {b : β} (h : Paired R as bs) (r : R a b) : Paired R (as ++ [a]) (bs ++ [b]) := by
  induction h with
  | nil => exact .cons r .nil
  | cons h _ ih => exact .cons h ih
theorem paired_imp {α β : Type} {R T : α → β → Prop} {as : List α} {bs : List β} (h : Paired R as bs) (f : ∀ a b, R a b → T a b) : Paired T as bs := by
  induction h with
  | nil => exact .nil
  | cons h _ ih => exact .cons (f _ _ h) ih
theorem tokenAt_le {l : List Nat} {k : Kind} {m : Nat} (h : tokenAt l = some (k, m)) : m ≤ l.length := by
  cases l with
  | nil => cases h
  | cons c r =>
    rw [tokenAt_cons] at h
    split at h
    · unfold textLen at h
      split at h
      · cases h
      · rename_i hn
        have z := upTo_le (c := 39) r
        have z2 : (upTo 39 r).length ≠ r.length := fun e => hn (.inl e)
        simp at h
        rw [List.length_cons]
        omega
    · split at h
      · simp only [Option.map_eq_some_iff] at h
        obtain ⟨_, _, e⟩ := h
        cases e
        exact (List.takeWhile_sublist _).length_le
      · simp only [Option.map_eq_some_iff] at h
        obtain ⟨s, hs, e⟩ := h
        cases e
        have z := List.find?_some hs
        exact (List.isPrefixOf_iff_prefix.mp z).length_le
theorem blank_in (c : Nat) : decide (c ∈ (S [32, 10]).cps.toList) = isBlank c := rfl
theorem is_hash (c : Nat) : decide (V.str ⟨#[c]⟩ = V.str (Str.ofString "#")) = decide (c = 35) := by
  have e : Str.ofString "#" = S [35] := by decide +kernel
  rw [e]
  refine Eq.trans (S_eq [c] [35]) ?_
  rw [Bool.eq_iff_iff]
  simp
theorem ok_TK {fd fdI fdL fdT : FuncData} (F : Fun K "tokens" "tokens" sTK fTK fd) (T : TK K mg C fI aS aW fIN fTK fLE fTO fTE fRE fRK fNU) (GI : FnOk P w K mg base CX0 1 fI fdI ["self", "at"] (spI C 1 (look1 "at"))) (bI : Binds K fdI ["self", "at"] [])
    (GL : FnOk P w K mg base CX0 4 fLE fdL ["text", "at"] spLE) (bL : Binds K fdL ["text", "at"] []) (GT : FnOk P w K mg base (L2.CX P w) 4 fTO fdT ["text", "at"] (spTO C)) (bT : Binds K fdT ["text", "at"] []) :
    FnOk P w K mg base (L2.CX P w) 5 fTK fd ["text"] (spTK K C) := by
  refine F.okX scTK (fun vs H Q E h => ?_) (fun cdv A outer s H vs Q E hr4 h => ?_)
  · obtain ⟨x, rfl, _⟩ := h
    rfl
  · obtain ⟨x, rfl, h⟩ := h
    have hr2 := hr4.mono (show 2 ≤ 4 by decide)
    obtain ⟨t2, gBLA⟩ := T.BLA
    obtain ⟨t3, gLP⟩ := T.LP
    refine ⟨_,
(pss_cons (ps_if (PW.pt (pw_or (pt_not (pt_val (pe_callB call_isi (by rfl) T.isinstance (by decide +kernel) (pa_cons (pv 0) (pa_cons (pe_bltn (v := .ty "str") (by rfl) T.str (by decide +kernel) rfl) pa_nil))))) (pw_or1 (pt_cmpR op_gt (pe_callB call_len_str (by rfl) T.len (by decide +kernel) (pa_cons (pv 0) pa_nil)) (pe_glob (v := .int 5000) rfl gLP ⟨_, rfl⟩) (nomark _)))))
 (pss_one (ps_raise rfl (takes_of rfl rfl rfl rfl) (pmk_oex T.err.T T.err.iC T.err.tI GI hr2 bI .nil pass0 (by rfl) T.err.g (pa_cons pe_non pa_nil))))
 pss_nil)
 (pss_cons (ps_set (i := 1) scTK.nd rfl (.inl rfl) (pe_lst pa_nil))
 (pss_cons (ps_set (i := 2) scTK.nd rfl (.inl rfl) pe_int)
 (pss_cons (ps_while (passes_of rfl) (pt_cmpR op_lt (pv 2) (pe_callB call_len_str (by rfl) T.len (by decide +kernel) (pa_cons (pv 0) pa_nil)) (nomark _))
 (pss_one (ps_if (pt_cmpR op_in_sign (pe_ix ix_str (pv 0) (pv 2) (fun _ _ => rfl)) (pe_glob (v := .str (S [32, 10])) rfl gBLA ⟨_, rfl⟩) (by rfl))
 (pss_one (ps_aug (i := 2) scTK.nd rfl (.inl rfl) pe_int ip_add))
 (pss_one (ps_if (pt_cmpR op_eq (pe_ix ix_str (pv 0) (pv 2) (fun _ _ => rfl)) pe_str (nomark _))
 (pss_one (ps_set (i := 2) scTK.nd rfl (.inl rfl) (pe_call GL hr4 (by rfl) T.gLE T.kLE bL .nil pass0 (pa_cons (pv 0) (pa_cons (pv 2) pa_nil)))))
 (pss_cons (ps_asg (pe_call GT hr4 (by rfl) T.gTO T.kTO bT .nil (passes_call (takes_of rfl rfl rfl rfl) (fun _ _ _ _ h => h)) (pa_cons (pv 0) (pa_cons (pv 2) pa_nil))) (pg_tup rfl (pgs_cons (pg_name (i := 3) scTK.nd rfl (.inl rfl)) (pgs_cons (pg_name (i := 4) scTK.nd rfl (.inl rfl)) pgs_nil))))
 (pss_cons (ps_expr (pe_bm PySem.F.plainAttrs_list PySem.F.slot_list_append PySem.F.type_list_append mt_append (pv 1) (pa_cons (pe_tup (pa_cons (pv 3) (pa_cons (pe_slice sl_str (pv 0) (po_some (pv 2)) (po_some (pv 4))) (pa_cons (pv 2) pa_nil)))) pa_nil)))
 (pss_one (ps_set (i := 2) scTK.nd rfl (.inl rfl) (pv 4))))))))))
 (pss_one (ps_ret (pv 1))))))), ?_⟩
    rcases h with ⟨l, rfl, hl, qS, qN⟩ | ⟨l, rfl, hl, hz, qN⟩ | ⟨t, ty, kt, qN⟩
    · refine ⟨_, rfl, .str (S l), .ty "str", _, _, true, rfl, .ty _, .base (.str _), str_type, true, rfl, iteF ?_⟩
      refine ⟨_, rfl, S l, rfl, by rw [S_len]; exact small (by omega), _, _, rfl, rfl, _, rfl, ?_⟩
      rw [S_len]
      refine bool_if (fun h => ?_) (fun _ => ?_)
      · have := of_decide_eq_true h
        omega
      refine ⟨Nat.zero_le _, fun p hp => ?_⟩
      have s1 := same_new (o := .lst []) hp
      -- the loop
      refine ⟨fun m σ H' => ∃ (n : Nat) (ts : List Tk) (qs : List Addr) (y3 y4 : Option L2.V), σ = [some (.str (S l)), some (.ref p), some (.int n), y3, y4] ∧ n ≤ l.length ∧ m = l.length - n ∧ sc l 0 = (sc (l.drop n) n).pre ts ∧
          Same H H' ∧ H' p = some (.lst (qs.map V.ref)) ∧ Paired (TkAt H') qs ts ∧ qs.length ≤ n, ⟨_, 0, [], [], _, _, rfl, Nat.zero_le _, rfl, (pre_nil _).symm, s1, upd_same, .nil, Nat.le_refl _⟩, ?_⟩
      rintro m σ H' ⟨n, ts, qs, y3, y4, rfl, hn, rfl, e, sm, hp', pq, many⟩
      refine ⟨_, rfl, _, rfl, S l, rfl, by rw [S_len]; exact small (by omega), _, _, rfl, rfl, _, rfl, ?_⟩
      rw [S_len]
      refine bool_if (fun h => ?_) (fun h => ?_)
      · have hlt : n < l.length := by
          have := of_decide_eq_true h
          omega
        have d := drop_cons hlt
        refine ⟨fun σ H'' => ∃ (n' : Nat) (ts : List Tk) (qs : List Addr) (y3 y4 : Option L2.V), σ = [some (.str (S l)), some (.ref p), some (.int n'), y3, y4] ∧ n' ≤ l.length ∧ n < n' ∧ sc l 0 = (sc (l.drop n') n').pre ts ∧
          Same H H'' ∧ H'' p = some (.lst (qs.map V.ref)) ∧ Paired (TkAt H'') qs ts ∧ qs.length ≤ n', fun σ H'' ⟨n', ts, qs, y3, y4, z1, z2, z3, z4, z5, z6, z7, z8⟩ => ⟨l.length - n', by omega, n', ts, qs, y3, y4, z1, z2, rfl, z4, z5, z6, z7, z8⟩, ?_⟩
        refine ⟨_, rfl, _, rfl, S l, _, l[n], rfl, rfl, by rw [S_len]; exact small (by omega), atI_nat (List.getElem?_eq_getElem hlt), l[n], S [32, 10], rfl, rfl, _, rfl, ?_⟩
        rw [blank_in]
        refine bool_if (fun h1 => ?_) (fun h1 => ?_)
        · refine ⟨_, rfl, _, _, rfl, rfl, n + 1, ts, qs, _, _, rfl, by omega, by omega, ?_, sm, hp', pq, by omega⟩
          rw [e, d, sc_blank _ _ h1]
        · refine ⟨_, rfl, _, rfl, S l, _, l[n], rfl, rfl, by rw [S_len]; exact small (by omega), atI_nat (List.getElem?_eq_getElem hlt), rfl, _, rfl, ?_⟩
          rw [is_hash]
          refine bool_if (fun h2 => ?_) (fun h2 => ?_)
          · have hc := of_decide_eq_true h2
            refine ⟨_, rfl, _, rfl, l, n, rfl, hn, hl, ?_⟩
            have le := upTo_le (c := 10) (l.drop n)
            rw [List.length_drop] at le
            have pos : 0 < (upTo 10 (l.drop n)).length := by
              rw [d]
              exact upTo_pos (by omega)
            refine ⟨n + (upTo 10 (l.drop n)).length, ts, qs, _, _, rfl, by omega, by omega, ?_, sm, hp', pq, by omega⟩
            rw [e, d, hc, sc_hash, ← hc, ← d, List.drop_drop]
          · have hc := of_decide_eq_false h2
            have eq := sc_tok (l.drop (n + 1)) n h1 hc
            rw [← d] at eq
            refine ⟨_, rfl, _, rfl, l, n, rfl, hlt, hl, fun k m hk H1 T' smT nT hT => ?_, fun hN => fun dd H1 sm1 nd hd => qN n (by rw [e, eq, hN]; rfl) dd H1 (sm.trans sm1) (sm.free nd) hd⟩
            rw [hk] at eq
            have pos := tokenAt_pos hk
            have le := tokenAt_le hk
            rw [List.length_drop] at le
            refine ⟨T', _, rfl, .inl (.inl hT), rfl, _, _, rfl, _, _, rfl, rfl, ?_⟩
            have hp1 := smT _ _ hp'
            refine ⟨_, rfl, .inl ⟨rfl, _, .inl (.inl hp1)⟩, _, rfl, _, rfl, _, rfl, _, rfl, _, rfl, _, rfl, S l, rfl, by rw [S_len]; exact small (by omega), _, rfl, (by show 3 ≤ sizeLine; decide), fun q hq => ?_⟩
            have sq := same_new (o := .tup [.str (S (kindL k)), .str (cutS (S l) (some (n : Int)) (some ((n + m : Nat) : Int))), .int (n : Int)]) hq
            refine ⟨p, _, _, rfl, rfl, sq _ _ hp1, ?_, ?_⟩
            · rw [List.length_map]
              exact Nat.lt_of_le_of_lt many (Nat.lt_of_le_of_lt (Nat.le_trans hn hl) (by decide))
            have npq : p ≠ q := ne_of_none hp1 hq
            have cut : cutS (S l) (some (n : Int)) (some ((n + m : Nat) : Int)) = S ((l.drop n).take m) := by
              rw [cut_at l _ _ (by omega) (by omega), show n + m - n = m by omega]
            have old : ∀ b o, b ≠ p → H' b = some o → (upd (upd H1 q (.tup [.str (S (kindL k)), .str (cutS (S l) (some (n : Int)) (some ((n + m : Nat) : Int))), .int (n : Int)])) p (.lst (qs.map V.ref ++ [.ref q]))) b = some o := fun b o nb z => by
              rw [upd_ne nb]
              exact sq _ _ (smT _ _ z)
            refine ⟨_, rfl, n + m, ts ++ [⟨k, (l.drop n).take m, n⟩], qs ++ [q], _, _, rfl, by omega, by omega, ?_, fun b o z => old b o (ne_of_none z hp) (sm _ _ z), ?_, ?_, ?_⟩
            · rw [e, eq, ← pre_add]
              show Res.pre ts (Res.add _ _) = Res.pre ts (Res.add _ _)
              rw [List.drop_drop]
            · rw [upd_same, List.map_append]
              rfl
            · refine paired_snoc (paired_imp pq fun a t z => old a _ (fun y => ?_) z) ?_
              · have z' : H' a = _ := z
                rw [y, hp'] at z'
                cases z'
              · show (upd _ p _) q = _
                rw [upd_ne (Ne.symm npq), upd_same, cut]
            · rw [List.length_append]
              show qs.length + 1 ≤ n + m
              omega
      · have hge : ¬ n < l.length := by
          have := of_decide_eq_false h
          omega
        have e1 : l.drop n = [] := List.drop_eq_nil_of_le (by omega)
        rw [e1, sc_nil] at e
        refine ⟨_, rfl, ?_⟩
        exact qS ts (by rw [e]; simp [Res.pre]) H' p qs sm hp hp' pq
    · refine ⟨_, rfl, .str (S l), .ty "str", _, _, true, rfl, .ty _, .base (.str _), str_type, true, rfl, iteF ?_⟩
      refine ⟨_, rfl, S l, rfl, by rw [S_len]; exact hz, _, _, rfl, rfl, _, rfl, ?_⟩
      rw [S_len]
      refine bool_if (fun _ => ?_) (fun h => ?_)
      · exact raise1 (Evl.ea_cons Evl.ev_c Evl.ea_nil) fun dd H' sm nd hd => qN dd H' sm nd hd
      · have := of_decide_eq_false h
        omega
    · refine ⟨_, rfl, x, .ty "str", _, _, false, rfl, .ty _, ty, kt, false, rfl, iteT ?_⟩
      exact raise1 (Evl.ea_cons Evl.ev_c Evl.ea_nil) fun dd H' sm nd hd => qN dd H' sm nd hd
end
end KB
namespace KB
open PySem PySem.Spec PyProof.Rows L2
abbrev sPool : Stmt := topS 103
abbrev sTake : Stmt := topS 104
/-- what is known of a pool's two numbers -/
structure PoolOk (a b : Int) : Prop where
  a0 : 0 ≤ a
  ab : Builtin.Int.intBits a ≤ 1048576
  b0 : 0 ≤ b
  bb : b < 2147483647
def PoolAt (H : Hp) (p : Addr) : Prop := ∃ a b, PoolOk a b ∧ H p = some (.lst [.int a, .int b])
section
variable {X : Cx}
/-- * of ints of any size that a model carries -/
theorem op_mulB : OpR X (binaryOp .Mult) (rI (fun i j => Builtin.Int.intBits i + Builtin.Int.intBits j ≤ 100000000) fun i j => .int (i * j)) := opI fun i j _ _ _ _ _ hc q => mul_int q (by
  unfold IntMulOk
  intro z
  rw [Bool.and_eq_true] at z
  have z2 := z.2
  unfold Builtin.Int.intTooBig at z2
  have z3 := of_decide_eq_true z2
  rw [show bitsLine = 134217728 by decide] at z3
  omega)
end
theorem bits_mono {i j : Int} (h0 : 0 ≤ i) (h : i ≤ j) : Builtin.Int.intBits i ≤ Builtin.Int.intBits j := by
  unfold Builtin.Int.intBits
  by_cases hi : i = 0
  · rw [if_pos (by rw [hi]; rfl)]
    exact Nat.zero_le _
  · have hj : j ≠ 0 := by omega
    rw [if_neg (by simpa using hi), if_neg (by simpa using hj)]
    have h1 : i.natAbs ≤ j.natAbs := by omega
    have h2 : j.natAbs.log2 < j.natAbs.log2 + 1 := Nat.lt_succ_self _
    have h3 : j.natAbs < 2 ^ (j.natAbs.log2 + 1) := (Nat.log2_lt (by omega)).mp h2
    have h4 : i.natAbs.log2 < j.natAbs.log2 + 1 := (Nat.log2_lt (by omega)).mpr (Nat.lt_of_le_of_lt h1 h3)
    omega
section
variable {P : Program} {w : World} {K : PySem.W.Frag} {mg : Str → Option Value} {base : Heap}
theorem scTake : FnScope ["_law_pool_here", "_law_many", "_law_found"] ["_law_pool_here", "_law_many"] (defScope sTake) := ⟨rfl, rfl, rfl, by decide +kernel, rfl, by decide +kernel, by decide +kernel⟩
theorem scPool : FnScope ["_law_script", "_law_k", "_law_cell", "_law_size", "_law_seed"] ["_law_script", "_law_k"] (defScope sPool) := ⟨rfl, rfl, rfl, by decide +kernel, rfl, by decide +kernel, by decide +kernel⟩
/-- _law_take(pool, n): a number below n; the pool goes on -/
def spTake : Sp := fun vs H Q _ => ∃ (p : Addr) (a b n : Int), vs = [.ref p, .int n] ∧ H p = some (.lst [.int a, .int b]) ∧ PoolOk a b ∧ 0 < n ∧ n < 1000 ∧
  ∀ (r a' b' : Int), 0 ≤ r → r < n → PoolOk a' b' → Q (.int r) (upd H p (.lst [.int a', .int b']))
theorem ok_take {f : Addr} {fd : FuncData} {k : Nat} (F : Fun K "_law_take" "_law_take" sTake f fd) : FnOk P w K mg base CX0 (k + 1) f fd ["_law_pool_here", "_law_many"] spTake := by
  refine F.ok scTake (fun vs H Q E h => ?_) (fun cdv A outer s H vs Q E hr h => ?_)
  · obtain ⟨p, a, b, n, rfl, _⟩ := h
    rfl
  · obtain ⟨p, a, b, n, rfl, hp, ok, n0, n1, q⟩ := h
    refine ⟨_, pss_cons (ps_if (pt_cmpR op_gt (pe_ix ix_list (pv 0) pe_int (fun _ _ => rfl)) pe_int (nomark _))
        (pss_cons (ps_set (i := 2) scTake.nd rfl (.inl rfl) (pe_op op_mod (pe_ix ix_list (pv 0) pe_int (fun _ _ => rfl)) (pv 1)))
        (pss_cons (ps_asg (pe_op op_fdivW (pe_ix ix_list (pv 0) pe_int (fun _ _ => rfl)) (pv 1)) (pg_sub (pv 0) pe_int set_list))
        (pss_one (ps_ret (pv 2))))) pss_nil)
      (pss_cons (ps_asg (pe_op op_mod (pe_op op_add (pe_op op_mul (pe_ix ix_list (pv 0) pe_int (fun _ _ => rfl)) pe_int) pe_int) pe_int) (pg_sub (pv 0) pe_int set_list))
      (pss_one (ps_ret (pe_op op_mod (pe_op op_fdiv (pe_op op_mod (pe_op op_mul (pe_ix ix_list (pv 0) pe_int (fun _ _ => rfl)) (pe_ix ix_list (pv 0) pe_int (fun _ _ => rfl))) pe_int) pe_int) (pv 1))))), ?_⟩
    have hl : SqL K H p [.int a, .int b] := .inl (.inl hp)
    refine ⟨_, rfl, p, _, _, _, rfl, rfl, hl, atI_nat (j := 0) rfl, _, _, rfl, rfl, _, rfl, ite2 (fun e => ?_) (fun e => ?_)⟩
    · have ha : 0 < a := of_decide_eq_true e
      refine ⟨_, rfl, p, _, _, _, rfl, rfl, hl, atI_nat (j := 0) rfl, _, rfl, _, _, rfl, rfl, n0, ?_⟩
      refine ⟨_, rfl, p, _, _, _, rfl, rfl, hl, atI_nat (j := 0) rfl, _, rfl, _, _, rfl, rfl, wide_div (b := 10) n0 (by omega) (by decide) (by decide), ?_⟩
      refine ⟨_, rfl, p, _, _, _, rfl, rfl, hp, rfl, ?_⟩
      refine ⟨_, rfl, ?_⟩
      have h1 : a / n ≤ a := Int.ediv_le_self n ok.a0
      have h2 : 0 ≤ a / n := Int.ediv_nonneg ok.a0 (by omega)
      exact q _ _ _ (Int.emod_nonneg _ (by omega)) (Int.emod_lt_of_pos _ n0) ⟨h2, Nat.le_trans (bits_mono h2 h1) ok.ab, ok.b0, ok.bb⟩
    · refine ⟨_, rfl, p, _, _, _, rfl, rfl, hl, atI_nat (j := 1) rfl, _, _, rfl, rfl, .inl ⟨?_, ?_⟩, _, _, rfl, rfl, _, _, rfl, rfl, (by show (0 : Int) < 2147483647; decide), ?_⟩
      · have := ok.b0; omega
      · have := ok.bb; omega
      refine ⟨_, rfl, p, _, _, _, rfl, rfl, hp, rfl, ?_⟩
      have hb0 := Int.emod_nonneg (b * 48271 + 11) (show (2147483647 : Int) ≠ 0 by decide)
      have hb1 := Int.emod_lt_of_pos (b * 48271 + 11) (show (0 : Int) < 2147483647 by decide)
      generalize hB : (b * 48271 + 11) % 2147483647 = B at hb0 hb1
      have hl2 : SqL K (upd H p (.lst [.int a, .int B])) p [.int a, .int B] := .inl (.inl upd_same)
      refine ⟨_, rfl, p, _, _, _, rfl, rfl, (by rw [← hB] at hl2; exact hl2), atI_nat (j := 1) rfl, _, rfl, p, _, _, _, rfl, rfl, (by rw [← hB] at hl2; exact hl2), atI_nat (j := 1) rfl, _, _, rfl, rfl, .inl ⟨?_, ?_⟩, _, _, rfl, rfl, (by show (0 : Int) < 2147483629; decide), _, _, rfl, rfl, ⟨by decide, by decide⟩, _, rfl, _, _, rfl, rfl, n0, ?_⟩
      · rw [hB]; omega
      · rw [hB]; omega
      · rw [hB]
        exact q _ _ _ (Int.emod_nonneg _ (by omega)) (Int.emod_lt_of_pos _ n0) ⟨ok.a0, ok.ab, by rw [hB]; exact hb0, by rw [hB]; exact hb1⟩
/-- _law_pool(script, k): a pool -/
def spPool (K : PySem.W.Frag) : Sp := fun vs H Q _ => ∃ (a : Addr) (ns : List Int) (k : Int), vs = [.ref a, .int k] ∧ SqL K H a (ns.map V.int) ∧ ns.length ≤ 63 ∧ (∀ z ∈ ns, Builtin.Int.intBits z ≤ 1048576) ∧ 0 ≤ k ∧ k < 100 ∧
  ∀ (p : Addr) (a' b' : Int), H p = none → PoolOk a' b' → Q (.ref p) (upd H p (.lst [.int a', .int b']))
theorem poolA {c : Int} (hc : Builtin.Int.intBits c ≤ 1048576) (t : Bool) : 0 ≤ (if c < 0 then -c else c) * (if t then 1 else 0) ∧ Builtin.Int.intBits ((if c < 0 then -c else c) * (if t then 1 else 0)) ≤ 1048576 := by
  have h0 : 0 ≤ (if c < 0 then -c else c) := by split <;> omega
  have h1 : Builtin.Int.intBits (if c < 0 then -c else c) ≤ 1048576 := by
    split
    · have e : Builtin.Int.intBits (-c) = Builtin.Int.intBits c := by
        unfold Builtin.Int.intBits
        rw [Int.natAbs_neg]
        by_cases z : c = 0
        · rw [z]; rfl
        · rw [if_neg (by simpa using z), if_neg (by simpa using z)]
      omega
    · exact hc
  cases t
  · simp [Builtin.Int.intBits]
  · simp only [if_true, Int.mul_one]
    exact ⟨h0, h1⟩
theorem ok_pool {f : Addr} {fd : FuncData} {k : Nat} (F : Fun K "_law_pool" "_law_pool" sPool f fd) (ml : mg "len" = none) (ma : mg "abs" = none) (mi : mg "int" = none) : FnOk P w K mg base CX0 (k + 1) f fd ["_law_script", "_law_k"] (spPool K) := by
  refine F.ok scPool (fun vs H Q E h => ?_) (fun cdv A outer s H vs Q E hr h => ?_)
  · obtain ⟨a, ns, k, rfl, _⟩ := h
    rfl
  · obtain ⟨a, ns, j, rfl, hS, hlen, hbits, j0, j1, q⟩ := h
    refine ⟨_, pss_cons (ps_set (i := 2) scPool.nd rfl (.inl rfl) pe_int)
      (Evl.pss_cut (ps_if (pt_cmpR op_lt (pv 1) (pe_callB call_len_seq (by rfl) ml PySem.boot_len (pa_cons (pv 0) pa_nil)) (nomark _))
        (pss_one (ps_set (i := 2) scPool.nd rfl (.inl rfl) (pe_ix ix_list (pv 0) (pv 1) (fun _ _ => rfl)))) pss_nil)
      (pss_cons (ps_set (i := 3) scPool.nd rfl (.inl rfl) (pe_callB call_abs (by rfl) ma (by decide +kernel) (pa_cons (pv 2) pa_nil)))
      (pss_cons (ps_set (i := 4) scPool.nd rfl (.inl rfl) (pe_op op_mod (pe_op op_pow (pe_op op_add (pe_op op_add (pe_op op_add (pe_op op_mod (pv 2) pe_int) (pe_op op_mul (pe_op op_mul pe_int (pv 1)) (pv 1))) (pe_op op_mul pe_int (pv 1))) pe_int) pe_int) pe_int))
      (pss_one (ps_ret (pe_lst (pa_cons (pe_op op_mulB (pv 3) (pe_callTy call_int1 (by rfl) mi (by decide +kernel) (pa_cons (pe_cmpR op_ge (pv 3) (pe_op op_pow pe_int pe_int) (nomark _)) pa_nil))) (pa_cons (pv 4) pa_nil)))))))), ?_⟩
    refine ⟨fun σ' H' => ∃ c : Int, Builtin.Int.intBits c ≤ 1048576 ∧ σ' = [some (.ref a), some (.int j), some (.int c), none, none] ∧ H' = H, ?_, ?_⟩
    · refine ⟨_, rfl, _, rfl, a, _, rfl, .inl hS, _, _, rfl, rfl, _, rfl, ?_⟩
      refine ite2 (fun e => ?_) (fun e => ?_)
      · have e1 : j < ((ns.map V.int).length : Int) := of_decide_eq_true e
        rw [List.length_map] at e1
        obtain ⟨m, rfl⟩ : ∃ m : Nat, j = (m : Int) := ⟨j.toNat, by omega⟩
        have hm : m < ns.length := by omega
        have g1 : (ns.map V.int)[m]? = some (.int ns[m]) := by
          rw [List.getElem?_map, List.getElem?_eq_getElem hm]
          rfl
        exact ⟨_, rfl, _, rfl, a, _, _, _, rfl, rfl, hS, atI_nat g1, ns[m], hbits _ (List.getElem_mem hm), rfl, rfl⟩
      · exact ⟨0, by decide, rfl, rfl⟩
    · rintro σ' H' ⟨c, hc, rfl, rfl⟩
      refine ⟨_, rfl, _, rfl, ?_⟩
      have m0 := Int.emod_nonneg c (show (2147483629 : Int) ≠ 0 by decide)
      have m1 := Int.emod_lt_of_pos c (show (0 : Int) < 2147483629 by decide)
      have k0 : 0 ≤ 104729 * j * j := Int.mul_nonneg (by omega) j0
      have k1 : 104729 * j * j ≤ 104729 * 100 * 100 := Int.mul_le_mul (by omega) (by omega) j0 (by omega)
      refine ⟨_, rfl, _, _, rfl, rfl, (by show (0 : Int) < 2147483629; decide), _, rfl, _, _, rfl, rfl, .inl ⟨by decide, by decide⟩, _, rfl, _, _, rfl, rfl, .inl ⟨by omega, by omega⟩, _, _, rfl, rfl, _, rfl, _, _, rfl, rfl, .inl ⟨by decide, by decide⟩, _, _, rfl, rfl, _, _, rfl, rfl, _, _, rfl, rfl, ⟨by decide, by decide, ?_⟩, _, _, rfl, rfl, (by show (0 : Int) < 2147483647; decide), ?_⟩
      · omega
      have s0 := Int.emod_nonneg ((c % 2147483629 + 104729 * j * j + 7919 * j + 11) ^ (3 : Int).toNat) (show (2147483647 : Int) ≠ 0 by decide)
      have s1 := Int.emod_lt_of_pos ((c % 2147483629 + 104729 * j * j + 7919 * j + 11) ^ (3 : Int).toNat) (show (0 : Int) < 2147483647 by decide)
      refine ⟨_, rfl, _, rfl, _, _, rfl, rfl, ⟨by decide, by decide, by decide⟩, _, _, rfl, rfl, .inr ⟨_, rfl, _, _, rfl, rfl, ?_, _, rfl, (by show 2 ≤ sizeLine; decide), fun p hp => ?_⟩⟩
      · obtain ⟨h0, h1⟩ := poolA hc true
        simp only [if_true, Int.mul_one] at h1
        have b1 : ∀ t : Bool, Builtin.Int.intBits (if t then 1 else 0) ≤ 1 := by decide
        exact Nat.le_trans (Nat.add_le_add h1 (b1 _)) (by decide)
      · obtain ⟨h0, h1⟩ := poolA hc (decide ((10 : Int) ^ (18 : Int).toNat ≤ (if c < 0 then -c else c)))
        exact q p _ _ hp ⟨h0, h1, s0, s1⟩
end
end KB
namespace KB
open PySem PySem.Spec PyProof.Rows L2
section
variable {X : Cx}
theorem fold_rep (c : Nat) : ∀ (k : Nat) (acc : Array Nat), (List.replicate k (#[c] : Array Nat)).foldl (· ++ ·) acc = acc ++ (List.replicate k c).toArray
  | 0, acc => by simp
  | k + 1, acc => by
    rw [List.replicate_succ, List.foldl_cons, fold_rep c k]
    apply Array.toList_inj.mp
    simp [List.replicate_succ]
/-- one sign, many times -/
theorem op_repS : OpR X (binaryOp .Mult) (fun x y H Q => ∃ c k : Nat, x = .str (S [c]) ∧ y = .int (k : Int) ∧ 2 ≤ k ∧ k ≤ 100000 ∧ Q (.str (S (List.replicate k c))) H) := by
  intro pins s σ H x y v u Q I rx ry want
  obtain ⟨c, k, rfl, rfl, k2, k1, q⟩ := want
  obtain ⟨t, rfl⟩ := rx
  obtain ⟨t', rfl⟩ := ry
  have one : (S [c]).length = 1 := rfl
  have n1 : ¬ ((k : Int) < 1) := by omega
  have n2 : ((k : Int) == 1 || (S [c]).length == 0) = false := by
    rw [one]
    simp
    omega
  refine PySem.P.mul_str (x := S [c]) (n := (k : Int)) ?_ ?_ ?_ ?_
  · rw [decide_eq_false (by omega), decide_eq_false (by omega)]
    rfl
  · intro _ _ z
    rw [one] at z
    have h : (1 : Int) ≤ (2 ^ 63 - 1) / (k : Int) := by
      rw [Int.le_ediv_iff_mul_le (by omega)]
      omega
    omega
  · intro _ _
    rw [one, Int.toNat_natCast, Nat.one_mul]
    have big : 100000 ≤ sizeLine := by decide
    exact decide_eq_false (by omega)
  · rw [if_neg n1, n2, if_neg Bool.false_ne_true, Int.toNat_natCast]
    have e : (⟨(List.replicate k (S [c]).cps).foldl (· ++ ·) #[]⟩ : Str) = S (List.replicate k c) := by
      show (⟨(List.replicate k (#[c] : Array Nat)).foldl (· ++ ·) #[]⟩ : Str) = _
      rw [fold_rep]
      simp [S]
    rw [e]
    refine ⟨?_, .str _, H, I.tok _, ⟨_, rfl⟩, q⟩
    rw [S_len, List.length_replicate]
    exact Nat.le_trans k1 (by decide)
end
end KB
namespace KB
open PySem PySem.Spec PyProof.Rows L2
def KeepBut (p : Addr) (H H' : Hp) : Prop := ∀ b o, b ≠ p → H b = some o → H' b = some o
theorem KeepBut.refl (p : Addr) (H : Hp) : KeepBut p H H := fun _ _ _ h => h
theorem KeepBut.trans {p : Addr} {H H1 H2 : Hp} (a : KeepBut p H H1) (b : KeepBut p H1 H2) : KeepBut p H H2 := fun c o n h => b c o n (a c o n h)
theorem KeepBut.same {p : Addr} {H H' : Hp} (a : Same H H') : KeepBut p H H' := fun b o _ h => a b o h
theorem KeepBut.upd {p : Addr} {H : Hp} {o : HO} : KeepBut p H (upd H p o) := fun b x n h => by
  rw [upd_ne n]
  exact h
def tokOf (H : Hp) (p : Addr) : Option V := match H p with
  | some (.ins _ _ fs) => fs.lookup ("_tokens" : Str)
  | _ => none
/-- all that was tracked but p is as it was, and p's list of tokens is the same one -/
def Kc (p : Addr) (H H' : Hp) : Prop := KeepBut p H H' ∧ ∀ v, tokOf H p = some v → tokOf H' p = some v
theorem Kc.refl (p : Addr) (H : Hp) : Kc p H H := ⟨.refl _ _, fun _ h => h⟩
theorem Kc.trans {p : Addr} {H H1 H2 : Hp} (a : Kc p H H1) (b : Kc p H1 H2) : Kc p H H2 := ⟨a.1.trans b.1, fun v h => b.2 v (a.2 v h)⟩
theorem Kc.same {p : Addr} {H H' : Hp} (a : Same H H') : Kc p H H' := ⟨.same a, fun v h => by
  unfold tokOf at h ⊢
  cases hp : H p with
  | none => rw [hp] at h; cases h
  | some o => rw [a _ _ hp]; rw [hp] at h; exact h⟩
theorem Kc.set {p : Addr} {H H' : Hp} {C C' dx dx' : Addr} {fs fs' : List (Str × V)} {x : V} (k : KeepBut p H H') (e : H p = some (.ins C dx fs)) (e' : H' p = some (.ins C' dx' fs')) (e1 : fs.lookup ("_tokens" : Str) = some x) (e2 : fs'.lookup ("_tokens" : Str) = some x) : Kc p H H' :=
  ⟨k, fun v h => by
    unfold tokOf at h ⊢
    rw [e] at h
    rw [e']
    exact e2.trans (e1.symm.trans h)⟩
theorem Kc.put {p : Addr} {H : Hp} {C C' dx dx' : Addr} {fs fs' : List (Str × V)} {x : V} (e : H p = some (.ins C dx fs)) (e1 : fs.lookup ("_tokens" : Str) = some x) (e2 : fs'.lookup ("_tokens" : Str) = some x) : Kc p H (upd H p (.ins C' dx' fs')) := .set .upd e upd_same e1 e2
theorem Kc.updL {p l : Addr} {H H1 : Hp} {o : HO} (k : Kc p H H1) (hl : H l = none) (hp : H p ≠ none) : Kc p H (upd H1 l o) := ⟨fun b x n h => by
  rw [upd_ne (ne_of_none h hl)]
  exact k.1 b x n h, fun v h => by
  have z := k.2 v h
  unfold tokOf at z ⊢
  rw [upd_ne fun e => hp (by rw [e]; exact hl)]
  exact z⟩
def cu6 (a b c d e f : V) : List (Str × V) := [("end", a), ("_tokens", b), ("_length", c), ("_at", d), ("_opened", e), ("_first", f)]
def fV : Option Nat → V
  | none => .non
  | some f => .int (f : Int)
def cuF (q : Addr) (n : Nat) (s : PS) : List (Str × V) := cu6 (.int (s.e : Int)) (.ref q) (.int (n : Int)) (.int (s.i : Int)) (.int s.o) (fV s.f)
/-- the cursor at p walks along ts, the tokens of a text of n signs -/
structure CuAt (CU : Addr) (ts : List Tk) (n : Nat) (H : Hp) (p : Addr) (s : PS) : Prop where
  ob : ∃ dx q qs, H p = some (.ins CU dx (cuF q n s)) ∧ H q = some (.lst (qs.map V.ref)) ∧ Paired (TkAt H) qs ts
  lt : ts.length ≤ 5000
  lx : ∀ t ∈ ts, t.text.length ≤ 5000
theorem CuAt.ne {CU : Addr} {ts : List Tk} {n : Nat} {H : Hp} {p b : Addr} {s : PS} {o : HO} (c : CuAt CU ts n H p s) (h : H b = some o) (no : ∀ dx q, o ≠ .ins CU dx (cuF q n s)) : b ≠ p := fun z => by
  obtain ⟨dx, q, qs, hp, _⟩ := c.ob
  rw [z, hp] at h
  exact no dx q (Option.some.inj h).symm
theorem tks_keep {p : Addr} {H H' : Hp} (hp : ∃ C dx fs, H p = some (.ins C dx fs)) (k : KeepBut p H H') {qs : List Addr} {ts : List Tk} (h : Paired (TkAt H) qs ts) : Paired (TkAt H') qs ts :=
  paired_imp h fun c t z => k c _ (fun e => by
    obtain ⟨C, dx, fs, hp⟩ := hp
    have z' : H c = _ := z
    rw [e, hp] at z'
    cases z') z
/-- the cursor's own fields change, all else stays -/
theorem CuAt.set {CU : Addr} {ts : List Tk} {n : Nat} {H H' : Hp} {p : Addr} {s s' : PS} (c : CuAt CU ts n H p s) (k : KeepBut p H H') (h : ∀ dx q, H p = some (.ins CU dx (cuF q n s)) → H' p = some (.ins CU dx (cuF q n s'))) : CuAt CU ts n H' p s' := by
  obtain ⟨dx, q, qs, hp, hq, pq⟩ := c.ob
  refine ⟨⟨dx, q, qs, h dx q hp, k q _ (fun e => ?_) hq, tks_keep ⟨_, _, _, hp⟩ k pq⟩, c.lt, c.lx⟩
  rw [e, hp] at hq
  cases hq
theorem CuAt.updL {CU : Addr} {ts : List Tk} {n : Nat} {H0 H : Hp} {p l : Addr} {s0 s : PS} {o : HO} (c0 : CuAt CU ts n H0 p s0) (hl : H0 l = none) (k : Kc p H0 H) (c : CuAt CU ts n H p s) : CuAt CU ts n (upd H l o) p s := by
  obtain ⟨dx0, q0, qs0, hp0, hq0, pq0⟩ := c0.ob
  obtain ⟨dx, q, qs, hp, hq, pq⟩ := c.ob
  have t0 : tokOf H0 p = some (.ref q0) := by unfold tokOf; rw [hp0]; rfl
  have t1 : tokOf H p = some (.ref q) := by unfold tokOf; rw [hp]; rfl
  have e : q0 = q := by
    have z := (k.2 _ t0).symm.trans t1
    cases z
    rfl
  subst e
  have q0p : q0 ≠ p := fun z => by rw [z, hp0] at hq0; cases hq0
  have hq1 := k.1 q0 _ q0p hq0
  rw [hq1] at hq
  have e2 : qs0.map V.ref = qs.map V.ref := by
    have z := Option.some.inj hq
    injection z
  refine ⟨⟨dx, q0, qs0, by rw [upd_ne (ne_of_none hp0 hl)]; exact hp, by rw [upd_ne (ne_of_none hq0 hl)]; exact hq1, paired_imp pq0 fun b t z => ?_⟩, c.lt, c.lx⟩
  show upd H l o b = some _
  rw [upd_ne (ne_of_none z hl)]
  exact k.1 b _ (fun e => by
    have z' : H0 b = _ := z
    rw [e, hp0] at z'
    cases z') z
theorem CuAt.same {CU : Addr} {ts : List Tk} {n : Nat} {H H' : Hp} {p : Addr} {s : PS} (c : CuAt CU ts n H p s) (k : Same H H') : CuAt CU ts n H' p s := c.set (.same k) fun _ _ h => k _ _ h
/-- what follows a reading: a value and the cursor behind it, or the error -/
def Ps (CU CS : Addr) (ts : List Tk) (n : Nat) (p : Addr) (H : Hp) {α : Type} (r : Rs α) (R : Hp → V → α → Prop) (Q : VK) (E : XK) : Prop := match r with
  | none => False
  | some (.error e) => ∀ d H', Kc p H H' → H' d = some (.xd [("at", .int (e : Int))]) → E (.ref CS) (some d) H'
  | some (.ok (a, s')) => ∀ v H', Kc p H H' → CuAt CU ts n H' p s' → R H' v a → Q v H'
theorem Ps.keep {CU CS : Addr} {ts : List Tk} {n : Nat} {p : Addr} {H H1 : Hp} {α : Type} {r : Rs α} {R : Hp → V → α → Prop} {Q : VK} {E : XK} (h : Ps CU CS ts n p H r R Q E) (k : Kc p H H1) : Ps CU CS ts n p H1 r R Q E := by
  match r, h with
  | some (.error e), h => exact fun d H' k' hd => h d H' (k.trans k') hd
  | some (.ok (a, s')), h => exact fun v H' k' c r => h v H' (k.trans k') c r
theorem Ps.bnd {CU CS : Addr} {ts : List Tk} {n : Nat} {p : Addr} {H : Hp} {α β : Type} {x : M α} {f : α → M β} {s : PS} {R : Hp → V → β → Prop} {Q : VK} {E : XK} (h : Ps CU CS ts n p H (x.bnd f s) R Q E)
    {RA : Hp → V → α → Prop} {Q1 : VK} (k : ∀ a s' v H', Kc p H H' → CuAt CU ts n H' p s' → RA H' v a → Ps CU CS ts n p H' (f a s') R Q E → Q1 v H') : Ps CU CS ts n p H (x s) RA Q1 E := by
  unfold M.bnd at h
  cases hx : x s with
  | none => rw [hx] at h; exact h
  | some r =>
    rw [hx] at h
    match r, h with
    | .error e, h => exact h
    | .ok (a, s'), h => exact fun v H' k' c r => k a s' v H' k' c r (h.keep k')
theorem Ps.bnd0 {CU CS : Addr} {ts : List Tk} {n : Nat} {p : Addr} {H0 H : Hp} {α β : Type} {x : M α} {f : α → M β} {s : PS} {R : Hp → V → β → Prop} {Q : VK} {E : XK} (h : Ps CU CS ts n p H0 (x.bnd f s) R Q E) (k0 : Kc p H0 H)
    {RA : Hp → V → α → Prop} {Q1 : VK} (k : ∀ a s' v H', Kc p H H' → CuAt CU ts n H' p s' → RA H' v a → Ps CU CS ts n p H0 (f a s') R Q E → Q1 v H') : Ps CU CS ts n p H (x s) RA Q1 E := by
  unfold M.bnd at h
  cases hx : x s with
  | none => rw [hx] at h; exact h
  | some r =>
    rw [hx] at h
    match r, h with
    | .error e, h => exact h.keep (r := some (.error e)) k0
    | .ok (a, s'), h => exact fun v H' k' c r => k a s' v H' k' c r h
theorem Ps.ret {CU CS : Addr} {ts : List Tk} {n : Nat} {p : Addr} {H : Hp} {α : Type} {a : α} {s : PS} {R : Hp → V → α → Prop} {Q : VK} {E : XK} (h : Ps CU CS ts n p H (M.ret a s) R Q E) {v : V} (c : CuAt CU ts n H p s) (r : R H v a) : Q v H :=
  h v H (.refl _ _) c r
def isU : Hp → V → Unit → Prop := fun _ v _ => v = .non
def isB : Hp → V → Bool → Prop := fun _ v b => v = .bl b
def isI : Hp → V → Nat → Prop := fun _ v k => v = .int (k : Int)
def kindS : Option Kind → Str
  | none => S []
  | some k => S (kindL k)
def spNT (CU : Addr) : Sp := fun vs H Q _ => ∃ (ts : List Tk) (n : Nat) (p : Addr) (s : PS) (k : Nat), vs = [.ref p, .int (k : Int)] ∧ CuAt CU ts n H p s ∧ Q (.str (S (tx ts k s))) H
def spNK (CU : Addr) : Sp := fun vs H Q _ => ∃ (ts : List Tk) (n : Nat) (p : Addr) (s : PS), vs = [.ref p] ∧ CuAt CU ts n H p s ∧ Q (.str (kindS (kd ts s))) H
def spNS (CU : Addr) : Sp := fun vs H Q _ => ∃ (ts : List Tk) (n : Nat) (p : Addr) (s : PS), vs = [.ref p] ∧ CuAt CU ts n H p s ∧ Q (.int (st ts n s : Nat)) H
def spRF (CU CS : Addr) : Sp := fun vs H _ E => ∃ (ts : List Tk) (n : Nat) (p : Addr) (s : PS), vs = [.ref p] ∧ CuAt CU ts n H p s ∧ ∀ d H', Same H H' → H' d = some (.xd [("at", .int (st ts n s : Nat))]) → E (.ref CS) (some d) H'
def spIB (CU : Addr) : Sp := fun vs H Q _ => ∃ (ts : List Tk) (n : Nat) (p : Addr) (s : PS), vs = [.ref p, .str (S (tx ts 0 s))] ∧ CuAt CU ts n H p s ∧ Q (.bl (beyond ts s)) H
abbrev sCu (j : Nat) : Stmt := inClass (topS 55) j
abbrev sNT : Stmt := sCu 1
abbrev sNK : Stmt := sCu 2
abbrev sNS : Stmt := sCu 3
abbrev sRF : Stmt := sCu 4
abbrev sTA : Stmt := sCu 5
abbrev sIB : Stmt := sCu 6
abbrev sEX : Stmt := sCu 7
abbrev sTI : Stmt := sCu 8
abbrev sTN : Stmt := sCu 9
abbrev sBE : Stmt := sCu 10
abbrev sEE : Stmt := sCu 11
abbrev sBI : Stmt := sCu 12
abbrev sEI : Stmt := sCu 13
def openB : List (List Nat) := [[40], [91], [123]]
def closeB : List (List Nat) := [[41], [93], [125]]
structure CuT (K : PySem.W.Frag) (mg : Str → Option Value) (CU CS fS aO aC fNT fNK fNS fRF fTA fIB fEX fTI fTN fBE fEE fBI fEI : Addr) : Prop where
  err : ErT K mg "BadSyntax" ["at"] CS fS
  cl : Cls K CU
  nE : NoAttr K CU "end"
  nT : NoAttr K CU "_tokens"
  nL : NoAttr K CU "_length"
  nA : NoAttr K CU "_at"
  nO : NoAttr K CU "_opened"
  nF : NoAttr K CU "_first"
  len : mg "len" = none
  gOPN : mg "OPENING" = some (.ref aO)
  gCLO : mg "CLOSING" = some (.ref aC)
  sOPN : ∀ H, SqT K H aO (openB.map fun s => .str (S s))
  sCLO : ∀ H, SqT K H aC (closeB.map fun s => .str (S s))
  MO : ∃ t, mg "MOST_OPEN" = some (.int 30 t)
  MT : ∃ t, mg "MOST_TOKENS" = some (.int 100 t)
  mNT : Meth K CU "next_text" fNT
  mNK : Meth K CU "next_kind" fNK
  mNS : Meth K CU "next_start" fNS
  mRF : Meth K CU "refuse" fRF
  mTA : Meth K CU "take" fTA
  mIB : Meth K CU "_is_beyond" fIB
  mEX : Meth K CU "expect" fEX
  mTI : Meth K CU "take_if" fTI
  mTN : Meth K CU "take_name" fTN
  mBE : Meth K CU "begin_expression" fBE
  mEE : Meth K CU "end_expression" fEE
  mBI : Meth K CU "begin_else_if" fBI
  mEI : Meth K CU "end_else_if" fEI
section
variable {P : Program} {w : World} {K : PySem.W.Frag} {mg : Str → Option Value} {base : Heap} {CU CS fS aO aC fNT fNK fNS fRF fTA fIB fEX fTI fTN fBE fEE fBI fEI : Addr}
theorem tk_get {H : Hp} {qs : List Addr} {ts : List Tk} (h : Paired (TkAt H) qs ts) {i : Nat} {t : Tk} (e : ts[i]? = some t) : ∃ a, qs[i]? = some a ∧ TkAt H a t := by
  induction h generalizing i with
  | nil => simp at e
  | cons h1 _ ih =>
    cases i with
    | zero => simp at e; subst e; exact ⟨_, rfl, h1⟩
    | succ j => simp at e; simpa using ih e
theorem iteT' {b : Bool} {A B : Prop} (e : b = true) (h : A) : if b = true then A else B := by
  rw [if_pos e]
  exact h
theorem iteF' {b : Bool} {A B : Prop} (e : b = false) (h : B) : if b = true then A else B := by
  rw [if_neg (by rw [e]; decide)]
  exact h
theorem in_b (v : List Nat) (l : List (List Nat)) : (if false = true then !inV (.str (S v)) (l.map fun s => V.str (S s)) else inV (.str (S v)) (l.map fun s => V.str (S s))) = decide (v ∈ l) := inV_words v l
theorem int_eq (i j : Int) : decide (V.int i = V.int j) = decide (i = j) := by
  by_cases h : i = j
  · rw [decide_eq_true h, decide_eq_true (congrArg V.int h)]
  · rw [decide_eq_false h, decide_eq_false fun z => h (V.int.inj z)]
def far (s : PS) : Bool := match s.f with
  | none => false
  | some f => decide ((s.i : Int) - f = 100)
theorem beyond_eq (ts : List Tk) (s : PS) : beyond ts s = ((decide (tx ts 0 s ∈ openB) && decide (s.o = 30)) || far s) := rfl
theorem tx_len {CU : Addr} {ts : List Tk} {n : Nat} {H : Hp} {p : Addr} {s : PS} (c : CuAt CU ts n H p s) (k : Nat) : (S (tx ts k s)).length ≤ sizeLine := by
  rw [S_len]
  unfold tx
  split
  · rename_i t ht
    exact small (Nat.le_trans (c.lx t (List.mem_of_getElem? ht)) (by decide))
  · exact small (by decide)
theorem scNT : FnScope ["self", "further", "at"] ["self", "further"] (defScope sNT) := ⟨rfl, rfl, rfl, by decide +kernel, rfl, by decide +kernel, by decide +kernel⟩
theorem ok_NT {fd : FuncData} {k : Nat} (F : FunD K "next_text" "Cursor.next_text" (defArgs sNT) (defBody sNT) (defScope sNT) [.int 0] [] fNT fd) (T : CuT K mg CU CS fS aO aC fNT fNK fNS fRF fTA fIB fEX fTI fTN fBE fEE fBI fEI) : FnOk P w K mg base CX0 (k + 1) fNT fd ["self", "further"] (spNT CU) := by
  refine F.ok scNT (fun vs H Q E h => ?_) (fun cdv A outer s H vs Q E hr h => ?_)
  · obtain ⟨ts, n, p, s, k, rfl, _⟩ := h
    rfl
  · obtain ⟨ts, n, p, s, k, rfl, c, q⟩ := h
    refine ⟨_,
(pss_cons (ps_set (i := 2) scNT.nd rfl (.inl rfl) (pe_op op_add (pe_fld (pv 0) rfl) (pv 1)))
 (pss_one (ps_ret (pe_ifExp (pt_cmpR op_lt (pv 2) (pe_callB call_len_seq (by rfl) T.len (by decide +kernel) (pa_cons (pe_fld (pv 0) rfl) pa_nil)) (nomark _)) (pe_ix ix_tup (pe_ix ix_list (pe_fld (pv 0) rfl) (pv 2) (fun _ _ => rfl)) pe_int (fun _ _ => rfl)) pe_str)))), ?_⟩
    obtain ⟨dx, a, qs, hp, hq, pq⟩ := c.ob
    have le : qs.length = ts.length := pq.length
    refine ⟨_, rfl, p, CU, dx, _, _, rfl, hp, T.cl, T.nA, rfl, _, rfl, _, _, rfl, rfl, ?_⟩
    refine ⟨_, rfl, _, rfl, p, CU, dx, _, _, rfl, hp, T.cl, T.nT, rfl, a, _, rfl, .inl (.inl (.inl hq)), _, _, rfl, rfl, _, rfl, ?_⟩
    refine bool_if (fun hb => ?_) (fun hb => ?_)
    · have hlt : s.i + k < ts.length := by
        have z := of_decide_eq_true hb
        rw [List.length_map, le] at z
        omega
      obtain ⟨t, ht⟩ : ∃ t, ts[s.i + k]? = some t := ⟨_, List.getElem?_eq_getElem hlt⟩
      obtain ⟨b, hb', tb⟩ := tk_get pq ht
      have e1 : (qs.map V.ref)[s.i + k]? = some (.ref b) := by rw [List.getElem?_map, hb']; rfl
      refine ⟨_, rfl, p, CU, dx, _, _, rfl, hp, T.cl, T.nT, rfl, _, rfl, a, _, ((s.i + k : Nat) : Int), _, rfl, rfl, .inl (.inl hq), atI_nat e1, ?_⟩
      refine ⟨b, _, 1, _, rfl, rfl, .inl (.inl tb), rfl, ?_⟩
      have e0 : tx ts k s = t.text := by
        unfold tx
        rw [ht]
      rw [e0] at q
      exact q
    · have hge : ¬ s.i + k < ts.length := by
        have z := of_decide_eq_false hb
        rw [List.length_map, le] at z
        omega
      have e0 : tx ts k s = [] := by
        unfold tx
        rw [List.getElem?_eq_none (by omega)]
      rw [e0] at q
      exact q
theorem scNK : FnScope ["self"] ["self"] (defScope sNK) := ⟨rfl, rfl, rfl, by decide +kernel, rfl, by decide +kernel, by decide +kernel⟩
theorem ok_NK {fd : FuncData} {k : Nat} (F : Fun K "next_kind" "Cursor.next_kind" sNK fNK fd) (T : CuT K mg CU CS fS aO aC fNT fNK fNS fRF fTA fIB fEX fTI fTN fBE fEE fBI fEI) : FnOk P w K mg base CX0 (k + 1) fNK fd ["self"] (spNK CU) := by
  refine F.ok scNK (fun vs H Q E h => ?_) (fun cdv A outer s H vs Q E hr h => ?_)
  · obtain ⟨ts, n, p, s, rfl, _⟩ := h
    rfl
  · obtain ⟨ts, n, p, s, rfl, c, q⟩ := h
    refine ⟨_,
(pss_one (ps_ret (pe_ifExp (pt_cmpR op_lt (pe_fld (pv 0) rfl) (pe_callB call_len_seq (by rfl) T.len (by decide +kernel) (pa_cons (pe_fld (pv 0) rfl) pa_nil)) (nomark _)) (pe_ix ix_tup (pe_ix ix_list (pe_fld (pv 0) rfl) (pe_fld (pv 0) rfl) (fun _ _ => rfl)) pe_int (fun _ _ => rfl)) pe_str))), ?_⟩
    obtain ⟨dx, a, qs, hp, hq, pq⟩ := c.ob
    have le : qs.length = ts.length := pq.length
    refine ⟨_, rfl, p, CU, dx, _, _, rfl, hp, T.cl, T.nA, rfl, _, rfl, p, CU, dx, _, _, rfl, hp, T.cl, T.nT, rfl, a, _, rfl, .inl (.inl (.inl hq)), _, _, rfl, rfl, _, rfl, ?_⟩
    refine bool_if (fun hb => ?_) (fun hb => ?_)
    · have hlt : s.i < ts.length := by
        have z := of_decide_eq_true hb
        rw [List.length_map, le] at z
        omega
      obtain ⟨t, ht⟩ : ∃ t, ts[s.i]? = some t := ⟨_, List.getElem?_eq_getElem hlt⟩
      obtain ⟨b, hb', tb⟩ := tk_get pq ht
      have e1 : (qs.map V.ref)[s.i]? = some (.ref b) := by rw [List.getElem?_map, hb']; rfl
      refine ⟨_, rfl, p, CU, dx, _, _, rfl, hp, T.cl, T.nT, rfl, _, rfl, p, CU, dx, _, _, rfl, hp, T.cl, T.nA, rfl, a, _, ((s.i : Nat) : Int), _, rfl, rfl, .inl (.inl hq), atI_nat e1, ?_⟩
      refine ⟨b, _, 0, _, rfl, rfl, .inl (.inl tb), rfl, ?_⟩
      have e0 : kd ts s = some t.kind := by
        unfold kd
        rw [ht]
        try rfl
      rw [e0] at q
      exact q
    · have hge : ¬ s.i < ts.length := by
        have z := of_decide_eq_false hb
        rw [List.length_map, le] at z
        omega
      have e0 : kd ts s = none := by
        unfold kd
        rw [List.getElem?_eq_none (by omega)]
        try rfl
      rw [e0] at q
      exact q
theorem scNS : FnScope ["self"] ["self"] (defScope sNS) := ⟨rfl, rfl, rfl, by decide +kernel, rfl, by decide +kernel, by decide +kernel⟩
theorem ok_NS {fd : FuncData} {k : Nat} (F : Fun K "next_start" "Cursor.next_start" sNS fNS fd) (T : CuT K mg CU CS fS aO aC fNT fNK fNS fRF fTA fIB fEX fTI fTN fBE fEE fBI fEI) : FnOk P w K mg base CX0 (k + 1) fNS fd ["self"] (spNS CU) := by
  refine F.ok scNS (fun vs H Q E h => ?_) (fun cdv A outer s H vs Q E hr h => ?_)
  · obtain ⟨ts, n, p, s, rfl, _⟩ := h
    rfl
  · obtain ⟨ts, n, p, s, rfl, c, q⟩ := h
    refine ⟨_,
(pss_one (ps_ret (pe_ifExp (pt_cmpR op_lt (pe_fld (pv 0) rfl) (pe_callB call_len_seq (by rfl) T.len (by decide +kernel) (pa_cons (pe_fld (pv 0) rfl) pa_nil)) (nomark _)) (pe_ix ix_tup (pe_ix ix_list (pe_fld (pv 0) rfl) (pe_fld (pv 0) rfl) (fun _ _ => rfl)) pe_int (fun _ _ => rfl)) (pe_fld (pv 0) rfl)))), ?_⟩
    obtain ⟨dx, a, qs, hp, hq, pq⟩ := c.ob
    have le : qs.length = ts.length := pq.length
    refine ⟨_, rfl, p, CU, dx, _, _, rfl, hp, T.cl, T.nA, rfl, _, rfl, p, CU, dx, _, _, rfl, hp, T.cl, T.nT, rfl, a, _, rfl, .inl (.inl (.inl hq)), _, _, rfl, rfl, _, rfl, ?_⟩
    refine bool_if (fun hb => ?_) (fun hb => ?_)
    · have hlt : s.i < ts.length := by
        have z := of_decide_eq_true hb
        rw [List.length_map, le] at z
        omega
      obtain ⟨t, ht⟩ : ∃ t, ts[s.i]? = some t := ⟨_, List.getElem?_eq_getElem hlt⟩
      obtain ⟨b, hb', tb⟩ := tk_get pq ht
      have e1 : (qs.map V.ref)[s.i]? = some (.ref b) := by rw [List.getElem?_map, hb']; rfl
      refine ⟨_, rfl, p, CU, dx, _, _, rfl, hp, T.cl, T.nT, rfl, _, rfl, p, CU, dx, _, _, rfl, hp, T.cl, T.nA, rfl, a, _, ((s.i : Nat) : Int), _, rfl, rfl, .inl (.inl hq), atI_nat e1, ?_⟩
      refine ⟨b, _, 2, _, rfl, rfl, .inl (.inl tb), rfl, ?_⟩
      have e0 : st ts n s = t.start := by
        unfold st
        rw [ht]
        try rfl
      rw [e0] at q
      exact q
    · have hge : ¬ s.i < ts.length := by
        have z := of_decide_eq_false hb
        rw [List.length_map, le] at z
        omega
      have e0 : st ts n s = n := by
        unfold st
        rw [List.getElem?_eq_none (by omega)]
        try rfl
      rw [e0] at q
      exact ⟨_, rfl, p, CU, dx, _, _, rfl, hp, T.cl, T.nL, rfl, q⟩
theorem scRF : FnScope ["self"] ["self"] (defScope sRF) := ⟨rfl, rfl, rfl, by decide +kernel, rfl, by decide +kernel, by decide +kernel⟩
theorem ok_RF {fd fdI fdNS : FuncData} (F : Fun K "refuse" "Cursor.refuse" sRF fRF fd) (T : CuT K mg CU CS fS aO aC fNT fNK fNS fRF fTA fIB fEX fTI fTN fBE fEE fBI fEI) (GI : FnOk P w K mg base CX0 1 fS fdI ["self", "at"] (spI CS 1 (look1 "at"))) (bI : Binds K fdI ["self", "at"] [])
    (GNS : FnOk P w K mg base CX0 1 fNS fdNS ["self"] (spNS CU)) (bNS : Binds K fdNS ["self"] []) : FnOk P w K mg base (L2.CX P w) 3 fRF fd ["self"] (spRF CU CS) := by
  refine F.okX scRF (fun vs H Q E h => ?_) (fun cdv A outer s H vs Q E hr2 h => ?_)
  · obtain ⟨ts, n, p, s, rfl, _⟩ := h
    rfl
  · obtain ⟨ts, n, p, s, rfl, c, q⟩ := h
    have hr1 := hr2.mono (show 1 ≤ 2 by decide)
    refine ⟨_,
(pss_one (ps_raise rfl (takes_of rfl rfl rfl rfl) (pmk_oex T.err.T T.err.iC T.err.tI GI hr2 bI .nil pass0 (by rfl) T.err.g (pa_cons (pe_meth0 (pv 0) T.cl T.mNS GNS hr1 bNS .nil pass0) pa_nil)))), ?_⟩
    obtain ⟨dx, a, qs, hp, hq, pq⟩ := c.ob
    refine raise1 (v := .int (st ts n s : Nat)) (Evl.ea_cons (fun H1 e1 Q1 q1 => ?_) Evl.ea_nil) fun d H' sm nd hd => q d H' sm hd
    exact ⟨_, rfl, p, dx, _, rfl, e1 _ _ hp, rfl, ts, n, p, s, rfl, c.same e1, q1 H1 (Evl.Ex.refl H1)⟩
theorem scIB : FnScope ["self", "text"] ["self", "text"] (defScope sIB) := ⟨rfl, rfl, rfl, by decide +kernel, rfl, by decide +kernel, by decide +kernel⟩
theorem ok_IB {fd : FuncData} {k : Nat} (F : Fun K "_is_beyond" "Cursor._is_beyond" sIB fIB fd) (T : CuT K mg CU CS fS aO aC fNT fNK fNS fRF fTA fIB fEX fTI fTN fBE fEE fBI fEI) : FnOk P w K mg base CX0 (k + 1) fIB fd ["self", "text"] (spIB CU) := by
  refine F.ok scIB (fun vs H Q E h => ?_) (fun cdv A outer s H vs Q E hr h => ?_)
  · obtain ⟨ts, n, p, s, rfl, _⟩ := h
    rfl
  · obtain ⟨ts, n, p, s, rfl, c, q⟩ := h
    obtain ⟨t1, gMO⟩ := T.MO
    obtain ⟨t2, gMT⟩ := T.MT
    refine ⟨_,
(pss_cons (ps_if (PW.pt (pw_and (pt_cmpR op_in_seq (pv 1) (pe_glob (v := .ref aO) rfl T.gOPN rfl) (by rfl)) (pw_and1 (pt_cmpR op_eq (pe_fld (pv 0) rfl) (pe_glob (v := .int 30) rfl gMO ⟨_, rfl⟩) (nomark _)))))
 (pss_one (ps_ret pe_bl))
 pss_nil)
 (pss_one (ps_ret (pe_and (pe_cmpR op_notN (pe_fld (pv 0) rfl) pe_non (nomark _)) (pe_one (pe_cmpR op_eq (pe_op op_sub (pe_fld (pv 0) rfl) (pe_fld (pv 0) rfl)) (pe_glob (v := .int 100) rfl gMT ⟨_, rfl⟩) (nomark _))))))), ?_⟩
    obtain ⟨dx, a, qs, hp, hq, pq⟩ := c.ob
    rw [beyond_eq] at q
    refine ⟨_, rfl, aO, _, rfl, .inr (T.sOPN _), rfl, flat_words _, ?_⟩
    rw [in_b]
    refine ⟨_, rfl, bool_if (fun h1 => ?_) (fun h1 => ?_)⟩
    · refine ⟨_, rfl, p, CU, dx, _, _, rfl, hp, T.cl, T.nO, rfl, rfl, _, rfl, bool_if (fun h2 => ?_) (fun h2 => ?_)⟩
      · rw [int_eq] at h2
        rw [h1, h2] at q
        exact q
      · rw [int_eq] at h2
        rw [h1, h2] at q
        refine ⟨_, rfl, p, CU, dx, _, _, rfl, hp, T.cl, T.nF, rfl, rfl, _, rfl, ?_⟩
        cases hf : s.f with
        | none =>
          refine iteF ?_
          unfold far at q
          rw [hf] at q
          exact q
        | some f =>
          refine iteT ?_
          refine ⟨_, rfl, p, CU, dx, _, _, rfl, hp, T.cl, T.nA, rfl, _, rfl, p, CU, dx, _, _, rfl, hp, T.cl, T.nF, rfl, _, _, rfl, (by rw [hf]; rfl), rfl, ?_⟩
          unfold far at q
          rw [hf] at q
          show Q (V.bl (decide (V.int ((s.i : Int) - (f : Int)) = V.int 100))) H
          rw [int_eq]
          exact q
    · rw [h1] at q
      refine iteF ?_
      refine ⟨_, rfl, p, CU, dx, _, _, rfl, hp, T.cl, T.nF, rfl, rfl, _, rfl, ?_⟩
      cases hf : s.f with
      | none =>
        refine iteF ?_
        unfold far at q
        rw [hf] at q
        exact q
      | some f =>
        refine iteT ?_
        refine ⟨_, rfl, p, CU, dx, _, _, rfl, hp, T.cl, T.nA, rfl, _, rfl, p, CU, dx, _, _, rfl, hp, T.cl, T.nF, rfl, _, _, rfl, (by rw [hf]; rfl), rfl, ?_⟩
        unfold far at q
        rw [hf] at q
        show Q (V.bl (decide (V.int ((s.i : Int) - (f : Int)) = V.int 100))) H
        rw [int_eq]
        exact q
def spTA (CU CS : Addr) : Sp := fun vs H Q E => ∃ (ts : List Tk) (n : Nat) (p : Addr) (s : PS), vs = [.ref p] ∧ CuAt CU ts n H p s ∧ Ps CU CS ts n p H (take ts n s) isI Q E
def spEX (CU CS : Addr) : Sp := fun vs H Q E => ∃ (ts : List Tk) (n : Nat) (p : Addr) (s : PS) (w : List Nat), vs = [.ref p, .str (S w)] ∧ CuAt CU ts n H p s ∧ Ps CU CS ts n p H (expect ts n w s) isI Q E
def spTI (CU CS : Addr) : Sp := fun vs H Q E => ∃ (ts : List Tk) (n : Nat) (p : Addr) (s : PS) (w : List Nat), vs = [.ref p, .str (S w)] ∧ CuAt CU ts n H p s ∧ Ps CU CS ts n p H (takeIf ts n w s) isB Q E
def spBE (CU CS : Addr) : Sp := fun vs H Q E => ∃ (ts : List Tk) (n : Nat) (p : Addr) (s : PS), vs = [.ref p] ∧ CuAt CU ts n H p s ∧ Ps CU CS ts n p H (begin s) isB Q E
def spEE (CU CS : Addr) : Sp := fun vs H Q E => ∃ (ts : List Tk) (n : Nat) (p : Addr) (s : PS), vs = [.ref p] ∧ CuAt CU ts n H p s ∧ Ps CU CS ts n p H (endE s) isU Q E
def spBI (CU CS : Addr) (z : Int) : Sp := fun vs H Q E => ∃ (ts : List Tk) (n : Nat) (p : Addr) (s : PS), vs = [.ref p] ∧ CuAt CU ts n H p s ∧ Ps CU CS ts n p H (addO z s) isU Q E
theorem Ps.err {ts : List Tk} {n : Nat} {p : Addr} {H : Hp} {α : Type} {s : PS} {R : Hp → V → α → Prop} {Q : VK} {E : XK} (h : Ps CU CS ts n p H (refuse (α := α) ts n s) R Q E) : ∀ d H', Same H H' → H' d = some (.xd [("at", .int (st ts n s : Nat))]) → E (.ref CS) (some d) H' :=
  fun d H' sm hd => h d H' (.same sm) hd
theorem scEE : FnScope ["self"] ["self"] (defScope sEE) := ⟨rfl, rfl, rfl, by decide +kernel, rfl, by decide +kernel, by decide +kernel⟩
theorem ok_EE {fd : FuncData} {k : Nat} (F : Fun K "end_expression" "Cursor.end_expression" sEE fEE fd) (T : CuT K mg CU CS fS aO aC fNT fNK fNS fRF fTA fIB fEX fTI fTN fBE fEE fBI fEI) : FnOk P w K mg base CX0 (k + 1) fEE fd ["self"] (spEE CU CS) := by
  refine F.ok scEE (fun vs H Q E h => ?_) (fun cdv A outer s H vs Q E hr h => ?_)
  · obtain ⟨ts, n, p, s, rfl, _⟩ := h
    rfl
  · obtain ⟨ts, n, p, s, rfl, c, q⟩ := h
    refine ⟨_,
(pss_one (ps_fld (pv 0) pe_non rfl)), ?_⟩
    obtain ⟨dx, a, qs, hp, hq, pq⟩ := c.ob
    refine ⟨_, rfl, p, CU, dx, _, rfl, hp, T.cl, T.nF, (by show 6 < 1000; decide), ?_⟩
    refine q .non _ (.put hp rfl rfl) (c.set .upd fun dx' a' e => ?_) rfl
    rw [hp] at e
    cases e
    exact upd_same
theorem scBI : FnScope ["self"] ["self"] (defScope sBI) := ⟨rfl, rfl, rfl, by decide +kernel, rfl, by decide +kernel, by decide +kernel⟩
theorem ok_BI {fd : FuncData} {k : Nat} (F : Fun K "begin_else_if" "Cursor.begin_else_if" sBI fBI fd) (T : CuT K mg CU CS fS aO aC fNT fNK fNS fRF fTA fIB fEX fTI fTN fBE fEE fBI fEI) : FnOk P w K mg base CX0 (k + 1) fBI fd ["self"] (spBI CU CS 1) := by
  refine F.ok scBI (fun vs H Q E h => ?_) (fun cdv A outer s H vs Q E hr h => ?_)
  · obtain ⟨ts, n, p, s, rfl, _⟩ := h
    rfl
  · obtain ⟨ts, n, p, s, rfl, c, q⟩ := h
    refine ⟨_,
(pss_one (ps_fldaug (pv 0) pe_int in_add)), ?_⟩
    obtain ⟨dx, a, qs, hp, hq, pq⟩ := c.ob
    refine ⟨_, rfl, p, CU, dx, _, _, rfl, hp, T.cl, T.nO, rfl, _, _, rfl, rfl, dx, _, hp, (by show 6 < 1000; decide), ?_⟩
    refine q .non _ (.put hp rfl rfl) (c.set .upd fun dx' a' e => ?_) rfl
    rw [hp] at e
    cases e
    exact upd_same
theorem scEI : FnScope ["self"] ["self"] (defScope sEI) := ⟨rfl, rfl, rfl, by decide +kernel, rfl, by decide +kernel, by decide +kernel⟩
theorem ok_EI {fd : FuncData} {k : Nat} (F : Fun K "end_else_if" "Cursor.end_else_if" sEI fEI fd) (T : CuT K mg CU CS fS aO aC fNT fNK fNS fRF fTA fIB fEX fTI fTN fBE fEE fBI fEI) : FnOk P w K mg base CX0 (k + 1) fEI fd ["self"] (spBI CU CS (-1)) := by
  refine F.ok scEI (fun vs H Q E h => ?_) (fun cdv A outer s H vs Q E hr h => ?_)
  · obtain ⟨ts, n, p, s, rfl, _⟩ := h
    rfl
  · obtain ⟨ts, n, p, s, rfl, c, q⟩ := h
    refine ⟨_,
(pss_one (ps_fldaug (pv 0) pe_int in_sub)), ?_⟩
    obtain ⟨dx, a, qs, hp, hq, pq⟩ := c.ob
    refine ⟨_, rfl, p, CU, dx, _, _, rfl, hp, T.cl, T.nO, rfl, _, _, rfl, rfl, dx, _, hp, (by show 6 < 1000; decide), ?_⟩
    refine q .non _ (.put hp rfl rfl) (c.set .upd fun dx' a' e => ?_) rfl
    rw [hp] at e
    cases e
    exact upd_same
theorem scBE : FnScope ["self"] ["self"] (defScope sBE) := ⟨rfl, rfl, rfl, by decide +kernel, rfl, by decide +kernel, by decide +kernel⟩
theorem ok_BE {fd : FuncData} {k : Nat} (F : Fun K "begin_expression" "Cursor.begin_expression" sBE fBE fd) (T : CuT K mg CU CS fS aO aC fNT fNK fNS fRF fTA fIB fEX fTI fTN fBE fEE fBI fEI) : FnOk P w K mg base CX0 (k + 1) fBE fd ["self"] (spBE CU CS) := by
  refine F.ok scBE (fun vs H Q E h => ?_) (fun cdv A outer s H vs Q E hr h => ?_)
  · obtain ⟨ts, n, p, s, rfl, _⟩ := h
    rfl
  · obtain ⟨ts, n, p, s, rfl, c, q⟩ := h
    refine ⟨_,
(pss_cons (ps_if (pt_cmpR op_notN (pe_fld (pv 0) rfl) pe_non (nomark _))
 (pss_one (ps_ret pe_bl))
 pss_nil)
 (pss_cons (ps_fld (pv 0) (pe_fld (pv 0) rfl) rfl)
 (pss_one (ps_ret pe_bl)))), ?_⟩
    obtain ⟨dx, a, qs, hp, hq, pq⟩ := c.ob
    refine ⟨_, rfl, p, CU, dx, _, _, rfl, hp, T.cl, T.nF, rfl, rfl, _, rfl, ?_⟩
    unfold begin at q
    cases hf : s.f with
    | some f =>
      rw [hf] at q
      refine iteT ?_
      exact q _ _ (.refl _ _) c rfl
    | none =>
      rw [hf] at q
      refine iteF ?_
      refine ⟨_, rfl, p, CU, dx, _, _, rfl, hp, T.cl, T.nA, rfl, _, rfl, p, CU, dx, _, rfl, hp, T.cl, T.nF, (by show 6 < 1000; decide), ?_⟩
      refine q _ _ (.put hp rfl rfl) (c.set .upd fun dx' a' e => ?_) rfl
      rw [hp] at e
      cases e
      exact upd_same
theorem scTA : FnScope ["self", "text", "start"] ["self"] (defScope sTA) := ⟨rfl, rfl, rfl, by decide +kernel, rfl, by decide +kernel, by decide +kernel⟩
theorem ok_TA {fd fdNT fdNS fdIB fdRF : FuncData} {d0 : List Value} (F : Fun K "take" "Cursor.take" sTA fTA fd) (T : CuT K mg CU CS fS aO aC fNT fNK fNS fRF fTA fIB fEX fTI fTN fBE fEE fBI fEI)
    (GNT : FnOk P w K mg base CX0 1 fNT fdNT ["self", "further"] (spNT CU)) (bNT0 : Binds K fdNT ["self", "further"] d0) (dNT0 : Vals [.int 0] d0) (GNS : FnOk P w K mg base CX0 1 fNS fdNS ["self"] (spNS CU)) (bNS : Binds K fdNS ["self"] [])
    (GIB : FnOk P w K mg base CX0 1 fIB fdIB ["self", "text"] (spIB CU)) (bIB : Binds K fdIB ["self", "text"] []) (GRF : FnOk P w K mg base (L2.CX P w) 3 fRF fdRF ["self"] (spRF CU CS)) (bRF : Binds K fdRF ["self"] []) :
    FnOk P w K mg base (L2.CX P w) 4 fTA fd ["self"] (spTA CU CS) := by
  refine F.okX scTA (fun vs H Q E h => ?_) (fun cdv A outer s H vs Q E hr3 h => ?_)
  · obtain ⟨ts, n, p, s, rfl, _⟩ := h
    rfl
  · obtain ⟨ts, n, p, s, rfl, c, q⟩ := h
    have hr1 := hr3.mono (show 1 ≤ 3 by decide)
    refine ⟨_,
(pss_cons (ps_set (i := 1) scTA.nd rfl (.inl rfl) (pe_meth0 (pv 0) T.cl T.mNT GNT hr1 bNT0 dNT0 pass0))
 (pss_cons (ps_set (i := 2) scTA.nd rfl (.inl rfl) (pe_meth0 (pv 0) T.cl T.mNS GNS hr1 bNS .nil pass0))
 (pss_cons (ps_if (pt_val (pe_meth (pv 0) T.cl T.mIB GIB hr1 bIB .nil pass0 (pa_cons (pv 1) pa_nil)))
 (pss_one (ps_expr (pe_meth0 (pv 0) T.cl T.mRF GRF hr3 bRF .nil (passes_call (takes_of rfl rfl rfl rfl) (fun _ _ _ _ h => h)))))
 pss_nil)
 (Evl.pss_cut (ps_if (pt_cmpR op_in_seq (pv 1) (pe_glob (v := .ref aO) rfl T.gOPN rfl) (by rfl))
 (pss_one (ps_fldaug (pv 0) pe_int in_add))
 (pss_one (ps_if (pt_cmpR op_in_seq (pv 1) (pe_glob (v := .ref aC) rfl T.gCLO rfl) (by rfl))
 (pss_one (ps_fldaug (pv 0) pe_int in_sub))
 pss_nil)))
 (pss_cons (ps_fldaug (pv 0) pe_int in_add)
 (pss_cons (ps_fld (pv 0) (pe_op op_add (pv 2) (pe_callB call_len_str (by rfl) T.len (by decide +kernel) (pa_cons (pv 1) pa_nil))) rfl)
 (pss_one (ps_ret (pv 2))))))))), ?_⟩
    obtain ⟨dx, a, qs, hp, hq, pq⟩ := c.ob
    refine ⟨_, rfl, p, dx, _, rfl, hp, rfl, ts, n, p, s, 0, rfl, c, ?_⟩
    refine ⟨_, rfl, p, dx, _, rfl, hp, rfl, ts, n, p, s, rfl, c, ?_⟩
    refine ⟨_, rfl, p, dx, _, rfl, hp, rfl, _, rfl, ts, n, p, s, rfl, c, ?_⟩
    unfold take at q
    refine ⟨_, rfl, bool_if (fun hb => ?_) (fun hb => ?_)⟩
    · rw [if_pos hb] at q
      exact ⟨_, rfl, p, dx, _, rfl, hp, rfl, ts, n, p, s, rfl, c, q.err⟩
    · rw [if_neg (by rw [hb]; decide)] at q
      let o' : Int := if tx ts 0 s ∈ openB then s.o + 1 else if tx ts 0 s ∈ closeB then s.o - 1 else s.o
      refine ⟨fun σ H1 => σ = [some (.ref p), some (.str (S (tx ts 0 s))), some (.int (st ts n s : Nat))] ∧ KeepBut p H H1 ∧ H1 p = some (.ins CU dx (cuF a n { s with o := o' })), ?_, ?_⟩
      · refine ⟨_, rfl, aO, _, rfl, .inr (T.sOPN _), rfl, flat_words _, ?_⟩
        rw [in_b]
        refine ⟨_, rfl, bool_if (fun h1 => ?_) (fun h1 => ?_)⟩
        · have eo : o' = s.o + 1 := if_pos (of_decide_eq_true h1)
          rw [eo]
          exact ⟨_, rfl, p, CU, dx, _, _, rfl, hp, T.cl, T.nO, rfl, _, _, rfl, rfl, dx, _, hp, (by show 6 < 1000; decide), rfl, .upd, upd_same⟩
        · refine ⟨_, rfl, aC, _, rfl, .inr (T.sCLO _), rfl, flat_words _, ?_⟩
          rw [in_b]
          refine ⟨_, rfl, bool_if (fun h2 => ?_) (fun h2 => ?_)⟩
          · have eo : o' = s.o - 1 := (if_neg (of_decide_eq_false h1)).trans (if_pos (of_decide_eq_true h2))
            rw [eo]
            exact ⟨_, rfl, p, CU, dx, _, _, rfl, hp, T.cl, T.nO, rfl, _, _, rfl, rfl, dx, _, hp, (by show 6 < 1000; decide), rfl, .upd, upd_same⟩
          · have eo : o' = s.o := (if_neg (of_decide_eq_false h1)).trans (if_neg (of_decide_eq_false h2))
            rw [eo]
            exact ⟨rfl, .refl _ _, hp⟩
      · rintro σ H1 ⟨rfl, k1, hp1⟩
        refine ⟨_, rfl, p, CU, dx, _, _, rfl, hp1, T.cl, T.nA, rfl, _, _, rfl, rfl, dx, _, hp1, (by show 6 < 1000; decide), ?_⟩
        refine ⟨_, rfl, _, rfl, S (tx ts 0 s), rfl, ?_⟩
        refine ⟨tx_len c 0, _, _, rfl, rfl, _, rfl, p, CU, dx, _, rfl, upd_same, T.cl, T.nE, (by show 6 < 1000; decide), _, rfl, ?_⟩
        have kk : KeepBut p H (upd (upd H1 p (.ins CU dx (cuF a n { s with o := o', i := s.i + 1 }))) p (.ins CU dx (cuF a n { s with o := o', i := s.i + 1, e := st ts n s + (tx ts 0 s).length }))) := k1.trans (KeepBut.upd.trans .upd)
        have el : ((S (tx ts 0 s)).length : Nat) = (tx ts 0 s).length := S_len _
        rw [el]
        refine q _ _ (.set kk hp upd_same rfl rfl) (c.set kk fun dx' a' e => ?_) rfl
        rw [hp] at e
        cases e
        exact upd_same
theorem scEX : FnScope ["self", "text"] ["self", "text"] (defScope sEX) := ⟨rfl, rfl, rfl, by decide +kernel, rfl, by decide +kernel, by decide +kernel⟩
theorem ok_EX {fd fdNT fdTA fdRF : FuncData} {d0 : List Value} (F : Fun K "expect" "Cursor.expect" sEX fEX fd) (T : CuT K mg CU CS fS aO aC fNT fNK fNS fRF fTA fIB fEX fTI fTN fBE fEE fBI fEI)
    (GNT : FnOk P w K mg base CX0 1 fNT fdNT ["self", "further"] (spNT CU)) (bNT0 : Binds K fdNT ["self", "further"] d0) (dNT0 : Vals [.int 0] d0)
    (GRF : FnOk P w K mg base (L2.CX P w) 3 fRF fdRF ["self"] (spRF CU CS)) (bRF : Binds K fdRF ["self"] []) (GTA : FnOk P w K mg base (L2.CX P w) 4 fTA fdTA ["self"] (spTA CU CS)) (bTA : Binds K fdTA ["self"] []) :
    FnOk P w K mg base (L2.CX P w) 5 fEX fd ["self", "text"] (spEX CU CS) := by
  refine F.okX scEX (fun vs H Q E h => ?_) (fun cdv A outer s H vs Q E hr4 h => ?_)
  · obtain ⟨ts, n, p, s, w, rfl, _⟩ := h
    rfl
  · obtain ⟨ts, n, p, s, w, rfl, c, q⟩ := h
    have hr1 := hr4.mono (show 1 ≤ 4 by decide)
    have hr3 := hr4.mono (show 3 ≤ 4 by decide)
    refine ⟨_,
(pss_cons (ps_if (pt_cmpR op_ne (pe_meth0 (pv 0) T.cl T.mNT GNT hr1 bNT0 dNT0 pass0) (pv 1) (nomark _))
 (pss_one (ps_expr (pe_meth0 (pv 0) T.cl T.mRF GRF hr3 bRF .nil (passes_call (takes_of rfl rfl rfl rfl) (fun _ _ _ _ h => h)))))
 pss_nil)
 (pss_one (ps_ret (pe_meth0 (pv 0) T.cl T.mTA GTA hr4 bTA .nil (passes_call (takes_of rfl rfl rfl rfl) (fun _ _ _ _ h => h)))))), ?_⟩
    obtain ⟨dx, a, qs, hp, hq, pq⟩ := c.ob
    unfold expect at q
    refine ⟨_, rfl, p, dx, _, rfl, hp, rfl, ts, n, p, s, 0, rfl, c, ?_⟩
    refine ⟨_, rfl, rfl, _, rfl, ?_⟩
    rw [S_eq]
    by_cases hw : tx ts 0 s = w
    · rw [if_pos hw] at q
      refine iteF' (by rw [decide_eq_true hw]; rfl) ?_
      exact ⟨_, rfl, p, dx, _, rfl, hp, rfl, ts, n, p, s, rfl, c, q⟩
    · rw [if_neg hw] at q
      refine iteT' (by rw [decide_eq_false hw]; rfl) ?_
      exact ⟨_, rfl, p, dx, _, rfl, hp, rfl, ts, n, p, s, rfl, c, q.err⟩
theorem scTI : FnScope ["self", "text"] ["self", "text"] (defScope sTI) := ⟨rfl, rfl, rfl, by decide +kernel, rfl, by decide +kernel, by decide +kernel⟩
theorem ok_TI {fd fdNT fdTA : FuncData} {d0 : List Value} (F : Fun K "take_if" "Cursor.take_if" sTI fTI fd) (T : CuT K mg CU CS fS aO aC fNT fNK fNS fRF fTA fIB fEX fTI fTN fBE fEE fBI fEI)
    (GNT : FnOk P w K mg base CX0 1 fNT fdNT ["self", "further"] (spNT CU)) (bNT0 : Binds K fdNT ["self", "further"] d0) (dNT0 : Vals [.int 0] d0)
    (GTA : FnOk P w K mg base (L2.CX P w) 4 fTA fdTA ["self"] (spTA CU CS)) (bTA : Binds K fdTA ["self"] []) :
    FnOk P w K mg base (L2.CX P w) 5 fTI fd ["self", "text"] (spTI CU CS) := by
  refine F.okX scTI (fun vs H Q E h => ?_) (fun cdv A outer s H vs Q E hr4 h => ?_)
  · obtain ⟨ts, n, p, s, w, rfl, _⟩ := h
    rfl
  · obtain ⟨ts, n, p, s, w, rfl, c, q⟩ := h
    have hr1 := hr4.mono (show 1 ≤ 4 by decide)
    refine ⟨_,
(pss_cons (ps_if (pt_cmpR op_ne (pe_meth0 (pv 0) T.cl T.mNT GNT hr1 bNT0 dNT0 pass0) (pv 1) (nomark _))
 (pss_one (ps_ret pe_bl))
 pss_nil)
 (pss_cons (ps_expr (pe_meth0 (pv 0) T.cl T.mTA GTA hr4 bTA .nil (passes_call (takes_of rfl rfl rfl rfl) (fun _ _ _ _ h => h))))
 (pss_one (ps_ret pe_bl)))), ?_⟩
    obtain ⟨dx, a, qs, hp, hq, pq⟩ := c.ob
    unfold takeIf at q
    refine ⟨_, rfl, p, dx, _, rfl, hp, rfl, ts, n, p, s, 0, rfl, c, ?_⟩
    refine ⟨_, rfl, rfl, _, rfl, ?_⟩
    rw [S_eq]
    by_cases hw : tx ts 0 s = w
    · rw [if_pos hw] at q
      refine iteF' (by rw [decide_eq_true hw]; rfl) ?_
      refine ⟨_, rfl, p, dx, _, rfl, hp, rfl, ts, n, p, s, rfl, c, q.bnd fun z s' v H' k' c' r q' => ?_⟩
      exact q'.ret c' rfl
    · rw [if_neg hw] at q
      refine iteT' (by rw [decide_eq_false hw]; rfl) ?_
      exact q _ _ (.refl _ _) c rfl
end
end KB
namespace KB
open PySem PySem.Spec PyProof.Rows L2
/-- an instance with a start and an end, both ints -/
structure NdOf (K : PySem.W.Frag) (H : Hp) (b C d : Addr) (fs : List (Str × V)) (z1 z2 : Int) : Prop where
  at_ : H b = some (.ins C d fs)
  cl : Cls K C
  ns : NoAttr K C "start"
  ne : NoAttr K C "end"
  l1 : fs.lookup ("start" : Str) = some (.int z1)
  l2 : fs.lookup ("end" : Str) = some (.int z2)
def NdAt (K : PySem.W.Frag) (H : Hp) (v : V) : Prop := ∃ b C d fs z1 z2, v = .ref b ∧ NdOf K H b C d fs z1 z2
inductive Kd where
  | any | int | str | node | onode | nodes
def ArgOk (K : PySem.W.Frag) (H : Hp) (v : V) : Kd → Prop
  | .any => True
  | .int => ∃ z, v = .int z
  | .str => ∃ w : List Nat, v = .str (S w) ∧ w.length ≤ 5000
  | .node => NdAt K H v
  | .onode => v = .non ∨ NdAt K H v
  | .nodes => ∃ q x xs, v = .ref q ∧ H q = some (.lst (x :: xs)) ∧ NdAt K H x
def spMk (K : PySem.W.Frag) (C : Addr) (kds : List Kd) (F : List V → Int → Int → List (Str × V)) : Sp := fun vs H Q _ => ∃ (a dx : Addr) (us : List V), vs = .ref a :: us ∧ H a = some (.ins C dx []) ∧ Paired (ArgOk K H) us kds ∧
  ∀ (H' : Hp) (z1 z2 : Int), KeepBut a H H' → H' a = some (.ins C dx (F us z1 z2)) → Q .non H'
/-- a class whose instances have these fields -/
structure NcT (K : PySem.W.Frag) (C : Addr) (fs : List Str) : Prop where
  cl : Cls K C
  no : ∀ f ∈ fs, NoAttr K C f
theorem NdOf.other {K : PySem.W.Frag} {H : Hp} {b C d a C' dx : Addr} {fs : List (Str × V)} {z1 z2 : Int} (n : NdOf K H b C d fs z1 z2) (ha : H a = some (.ins C' dx [])) : b ≠ a := fun e => by
  have h := n.at_
  rw [e, ha] at h
  cases h
  have := n.l1
  cases this
theorem lst_other {H : Hp} {q a C dx : Addr} {xs : List V} (hq : H q = some (.lst xs)) (ha : H a = some (.ins C dx [])) : q ≠ a := fun e => by
  rw [e, ha] at hq
  cases hq
section
variable {P : Program} {w : World} {K : PySem.W.Frag} {mg : Str → Option Value} {base : Heap}
abbrev s_Name : Stmt := inClass (topS 24) 0
def F_Name (us : List V) (z1 z2 : Int) : List (Str × V) := [("text", (us.getD 0 .non)), ("start", (us.getD 1 .non)), ("end", (.int z2))]
theorem sc_Name : FnScope ["self", "text", "start"] ["self", "text", "start"] (defScope s_Name) := ⟨rfl, rfl, rfl, by decide +kernel, rfl, by decide +kernel, by decide +kernel⟩
theorem ok_Name {f C : Addr} {fd : FuncData} {k : Nat} (F : Fun K "__init__" "Name.__init__" s_Name f fd) (T : NcT K C ["text", "start", "end"]) (len : mg "len" = none) : FnOk P w K mg base CX0 (k + 1) f fd ["self", "text", "start"] (spMk K C [.str, .int] F_Name) := by
  refine F.ok sc_Name (fun vs H Q E h => ?_) (fun cdv A outer s H vs Q E hr h => ?_)
  · obtain ⟨a, dx, us, rfl, _, hk, _⟩ := h
    have z := hk.length
    show us.length + 1 = _
    rw [z]
    rfl
  · obtain ⟨a, dx, us, rfl, ha, hk, q⟩ := h
    match us, hk, q with
    | [u0, u1], .cons h0 (.cons h1 .nil), q =>
      obtain ⟨w0, rfl, hw0⟩ := h0
      obtain ⟨y1, rfl⟩ := h1
      refine ⟨_, (pss_cons (ps_fld (pv 0) (pv 1) rfl) (pss_cons (ps_fld (pv 0) (pv 2) rfl) (pss_one (ps_fld (pv 0) (pe_op op_add (pv 2) (pe_callB call_len_str (by rfl) len (by decide +kernel) (pa_cons (pv 1) pa_nil))) rfl)))), ?_⟩
      refine ⟨_, rfl, _, rfl, a, C, dx, _, rfl, ha, T.cl, T.no "text" (by simp), (by show 0 < 1000; decide), _, rfl, _, rfl, a, C, dx, _, rfl, upd_same, T.cl, T.no "start" (by simp), (by show 1 < 1000; decide), _, rfl, _, rfl, S w0, rfl, (by rw [S_len]; exact small (by omega)), _, _, rfl, rfl, _, rfl, a, C, dx, _, rfl, upd_same, T.cl, T.no "end" (by simp), (by show 2 < 1000; decide), ?_⟩
      exact q _ 0 (y1 + ((S w0).length : Nat)) (fun c o n h => by rw [upd_ne n, upd_ne n, upd_ne n]; exact h) (by rw [upd_same]; rfl)
abbrev s_Literal : Stmt := inClass (topS 25) 0
def F_Literal (us : List V) (z1 z2 : Int) : List (Str × V) := [("text", (us.getD 0 .non)), ("start", (us.getD 1 .non)), ("end", (.int z2))]
theorem sc_Literal : FnScope ["self", "text", "start"] ["self", "text", "start"] (defScope s_Literal) := ⟨rfl, rfl, rfl, by decide +kernel, rfl, by decide +kernel, by decide +kernel⟩
theorem ok_Literal {f C : Addr} {fd : FuncData} {k : Nat} (F : Fun K "__init__" "Literal.__init__" s_Literal f fd) (T : NcT K C ["text", "start", "end"]) (len : mg "len" = none) : FnOk P w K mg base CX0 (k + 1) f fd ["self", "text", "start"] (spMk K C [.str, .int] F_Literal) := by
  refine F.ok sc_Literal (fun vs H Q E h => ?_) (fun cdv A outer s H vs Q E hr h => ?_)
  · obtain ⟨a, dx, us, rfl, _, hk, _⟩ := h
    have z := hk.length
    show us.length + 1 = _
    rw [z]
    rfl
  · obtain ⟨a, dx, us, rfl, ha, hk, q⟩ := h
    match us, hk, q with
    | [u0, u1], .cons h0 (.cons h1 .nil), q =>
      obtain ⟨w0, rfl, hw0⟩ := h0
      obtain ⟨y1, rfl⟩ := h1
      refine ⟨_, (pss_cons (ps_fld (pv 0) (pv 1) rfl) (pss_cons (ps_fld (pv 0) (pv 2) rfl) (pss_one (ps_fld (pv 0) (pe_op op_add (pv 2) (pe_callB call_len_str (by rfl) len (by decide +kernel) (pa_cons (pv 1) pa_nil))) rfl)))), ?_⟩
      refine ⟨_, rfl, _, rfl, a, C, dx, _, rfl, ha, T.cl, T.no "text" (by simp), (by show 0 < 1000; decide), _, rfl, _, rfl, a, C, dx, _, rfl, upd_same, T.cl, T.no "start" (by simp), (by show 1 < 1000; decide), _, rfl, _, rfl, S w0, rfl, (by rw [S_len]; exact small (by omega)), _, _, rfl, rfl, _, rfl, a, C, dx, _, rfl, upd_same, T.cl, T.no "end" (by simp), (by show 2 < 1000; decide), ?_⟩
      exact q _ 0 (y1 + ((S w0).length : Nat)) (fun c o n h => by rw [upd_ne n, upd_ne n, upd_ne n]; exact h) (by rw [upd_same]; rfl)
abbrev s_Group : Stmt := inClass (topS 26) 0
def F_Group (us : List V) (z1 z2 : Int) : List (Str × V) := [("start", (us.getD 0 .non)), ("end", (us.getD 1 .non)), ("inner", (us.getD 2 .non))]
theorem sc_Group : FnScope ["self", "start", "end", "inner"] ["self", "start", "end", "inner"] (defScope s_Group) := ⟨rfl, rfl, rfl, by decide +kernel, rfl, by decide +kernel, by decide +kernel⟩
theorem ok_Group {f C : Addr} {fd : FuncData} {k : Nat} (F : Fun K "__init__" "Group.__init__" s_Group f fd) (T : NcT K C ["start", "end", "inner"]) : FnOk P w K mg base CX0 (k + 1) f fd ["self", "start", "end", "inner"] (spMk K C [.int, .int, .any] F_Group) := by
  refine F.ok sc_Group (fun vs H Q E h => ?_) (fun cdv A outer s H vs Q E hr h => ?_)
  · obtain ⟨a, dx, us, rfl, _, hk, _⟩ := h
    have z := hk.length
    show us.length + 1 = _
    rw [z]
    rfl
  · obtain ⟨a, dx, us, rfl, ha, hk, q⟩ := h
    match us, hk, q with
    | [u0, u1, u2], .cons h0 (.cons h1 (.cons h2 .nil)), q =>
      obtain ⟨y0, rfl⟩ := h0
      obtain ⟨y1, rfl⟩ := h1
      refine ⟨_, (pss_cons (ps_fld (pv 0) (pv 1) rfl) (pss_cons (ps_fld (pv 0) (pv 2) rfl) (pss_one (ps_fld (pv 0) (pv 3) rfl)))), ?_⟩
      refine ⟨_, rfl, _, rfl, a, C, dx, _, rfl, ha, T.cl, T.no "start" (by simp), (by show 0 < 1000; decide), _, rfl, _, rfl, a, C, dx, _, rfl, upd_same, T.cl, T.no "end" (by simp), (by show 1 < 1000; decide), _, rfl, _, rfl, a, C, dx, _, rfl, upd_same, T.cl, T.no "inner" (by simp), (by show 2 < 1000; decide), ?_⟩
      exact q _ 0 0 (fun c o n h => by rw [upd_ne n, upd_ne n, upd_ne n]; exact h) (by rw [upd_same]; rfl)
abbrev s_Listing : Stmt := inClass (topS 27) 0
def F_Listing (us : List V) (z1 z2 : Int) : List (Str × V) := [("start", (us.getD 0 .non)), ("end", (us.getD 1 .non)), ("rows", (us.getD 2 .non))]
theorem sc_Listing : FnScope ["self", "start", "end", "rows"] ["self", "start", "end", "rows"] (defScope s_Listing) := ⟨rfl, rfl, rfl, by decide +kernel, rfl, by decide +kernel, by decide +kernel⟩
theorem ok_Listing {f C : Addr} {fd : FuncData} {k : Nat} (F : Fun K "__init__" "Listing.__init__" s_Listing f fd) (T : NcT K C ["start", "end", "rows"]) : FnOk P w K mg base CX0 (k + 1) f fd ["self", "start", "end", "rows"] (spMk K C [.int, .int, .any] F_Listing) := by
  refine F.ok sc_Listing (fun vs H Q E h => ?_) (fun cdv A outer s H vs Q E hr h => ?_)
  · obtain ⟨a, dx, us, rfl, _, hk, _⟩ := h
    have z := hk.length
    show us.length + 1 = _
    rw [z]
    rfl
  · obtain ⟨a, dx, us, rfl, ha, hk, q⟩ := h
    match us, hk, q with
    | [u0, u1, u2], .cons h0 (.cons h1 (.cons h2 .nil)), q =>
      obtain ⟨y0, rfl⟩ := h0
      obtain ⟨y1, rfl⟩ := h1
      refine ⟨_, (pss_cons (ps_fld (pv 0) (pv 1) rfl) (pss_cons (ps_fld (pv 0) (pv 2) rfl) (pss_one (ps_fld (pv 0) (pv 3) rfl)))), ?_⟩
      refine ⟨_, rfl, _, rfl, a, C, dx, _, rfl, ha, T.cl, T.no "start" (by simp), (by show 0 < 1000; decide), _, rfl, _, rfl, a, C, dx, _, rfl, upd_same, T.cl, T.no "end" (by simp), (by show 1 < 1000; decide), _, rfl, _, rfl, a, C, dx, _, rfl, upd_same, T.cl, T.no "rows" (by simp), (by show 2 < 1000; decide), ?_⟩
      exact q _ 0 0 (fun c o n h => by rw [upd_ne n, upd_ne n, upd_ne n]; exact h) (by rw [upd_same]; rfl)
abbrev s_Comprehension : Stmt := inClass (topS 28) 0
def F_Comprehension (us : List V) (z1 z2 : Int) : List (Str × V) := [("start", (us.getD 0 .non)), ("end", (us.getD 1 .non)), ("row", (us.getD 2 .non)), ("name", (us.getD 3 .non)), ("source", (us.getD 4 .non)), ("test", (us.getD 5 .non))]
theorem sc_Comprehension : FnScope ["self", "start", "end", "row", "name", "source", "test"] ["self", "start", "end", "row", "name", "source", "test"] (defScope s_Comprehension) := ⟨rfl, rfl, rfl, by decide +kernel, rfl, by decide +kernel, by decide +kernel⟩
theorem ok_Comprehension {f C : Addr} {fd : FuncData} {k : Nat} (F : Fun K "__init__" "Comprehension.__init__" s_Comprehension f fd) (T : NcT K C ["start", "end", "row", "name", "source", "test"]) : FnOk P w K mg base CX0 (k + 1) f fd ["self", "start", "end", "row", "name", "source", "test"] (spMk K C [.int, .int, .any, .any, .any, .any] F_Comprehension) := by
  refine F.ok sc_Comprehension (fun vs H Q E h => ?_) (fun cdv A outer s H vs Q E hr h => ?_)
  · obtain ⟨a, dx, us, rfl, _, hk, _⟩ := h
    have z := hk.length
    show us.length + 1 = _
    rw [z]
    rfl
  · obtain ⟨a, dx, us, rfl, ha, hk, q⟩ := h
    match us, hk, q with
    | [u0, u1, u2, u3, u4, u5], .cons h0 (.cons h1 (.cons h2 (.cons h3 (.cons h4 (.cons h5 .nil))))), q =>
      obtain ⟨y0, rfl⟩ := h0
      obtain ⟨y1, rfl⟩ := h1
      refine ⟨_, (pss_cons (ps_fld (pv 0) (pv 1) rfl) (pss_cons (ps_fld (pv 0) (pv 2) rfl) (pss_cons (ps_fld (pv 0) (pv 3) rfl) (pss_cons (ps_fld (pv 0) (pv 4) rfl) (pss_cons (ps_fld (pv 0) (pv 5) rfl) (pss_one (ps_fld (pv 0) (pv 6) rfl))))))), ?_⟩
      refine ⟨_, rfl, _, rfl, a, C, dx, _, rfl, ha, T.cl, T.no "start" (by simp), (by show 0 < 1000; decide), _, rfl, _, rfl, a, C, dx, _, rfl, upd_same, T.cl, T.no "end" (by simp), (by show 1 < 1000; decide), _, rfl, _, rfl, a, C, dx, _, rfl, upd_same, T.cl, T.no "row" (by simp), (by show 2 < 1000; decide), _, rfl, _, rfl, a, C, dx, _, rfl, upd_same, T.cl, T.no "name" (by simp), (by show 3 < 1000; decide), _, rfl, _, rfl, a, C, dx, _, rfl, upd_same, T.cl, T.no "source" (by simp), (by show 4 < 1000; decide), _, rfl, _, rfl, a, C, dx, _, rfl, upd_same, T.cl, T.no "test" (by simp), (by show 5 < 1000; decide), ?_⟩
      exact q _ 0 0 (fun c o n h => by rw [upd_ne n, upd_ne n, upd_ne n, upd_ne n, upd_ne n, upd_ne n]; exact h) (by rw [upd_same]; rfl)
abbrev s_Member : Stmt := inClass (topS 29) 0
def F_Member (us : List V) (z1 z2 : Int) : List (Str × V) := [("start", (.int z1)), ("end", (.int z2)), ("left", (us.getD 0 .non)), ("name", (us.getD 1 .non))]
theorem sc_Member : FnScope ["self", "left", "name"] ["self", "left", "name"] (defScope s_Member) := ⟨rfl, rfl, rfl, by decide +kernel, rfl, by decide +kernel, by decide +kernel⟩
theorem ok_Member {f C : Addr} {fd : FuncData} {k : Nat} (F : Fun K "__init__" "Member.__init__" s_Member f fd) (T : NcT K C ["start", "end", "left", "name"]) : FnOk P w K mg base CX0 (k + 1) f fd ["self", "left", "name"] (spMk K C [.node, .node] F_Member) := by
  refine F.ok sc_Member (fun vs H Q E h => ?_) (fun cdv A outer s H vs Q E hr h => ?_)
  · obtain ⟨a, dx, us, rfl, _, hk, _⟩ := h
    have z := hk.length
    show us.length + 1 = _
    rw [z]
    rfl
  · obtain ⟨a, dx, us, rfl, ha, hk, q⟩ := h
    match us, hk, q with
    | [u0, u1], .cons h0 (.cons h1 .nil), q =>
      obtain ⟨b0, C0, d0, fs0, x0, y0, rfl, n0⟩ := h0
      have nb0 := n0.other ha
      obtain ⟨b1, C1, d1, fs1, x1, y1, rfl, n1⟩ := h1
      have nb1 := n1.other ha
      refine ⟨_, (pss_cons (ps_fld (pv 0) (pe_fld (pv 1) rfl) rfl) (pss_cons (ps_fld (pv 0) (pe_fld (pv 2) rfl) rfl) (pss_cons (ps_fld (pv 0) (pv 1) rfl) (pss_one (ps_fld (pv 0) (pv 2) rfl))))), ?_⟩
      refine ⟨_, rfl, b0, C0, d0, fs0, _, rfl, (by exact n0.at_), n0.cl, n0.ns, n0.l1, _, rfl, a, C, dx, _, rfl, ha, T.cl, T.no "start" (by simp), (by show 0 < 1000; decide), _, rfl, b1, C1, d1, fs1, _, rfl, (by rw [upd_ne nb1]; exact n1.at_), n1.cl, n1.ne, n1.l2, _, rfl, a, C, dx, _, rfl, upd_same, T.cl, T.no "end" (by simp), (by show 1 < 1000; decide), _, rfl, _, rfl, a, C, dx, _, rfl, upd_same, T.cl, T.no "left" (by simp), (by show 2 < 1000; decide), _, rfl, _, rfl, a, C, dx, _, rfl, upd_same, T.cl, T.no "name" (by simp), (by show 3 < 1000; decide), ?_⟩
      exact q _ x0 y1 (fun c o n h => by rw [upd_ne n, upd_ne n, upd_ne n, upd_ne n]; exact h) (by rw [upd_same]; rfl)
abbrev s_Index : Stmt := inClass (topS 30) 0
def F_Index (us : List V) (z1 z2 : Int) : List (Str × V) := [("start", (.int z1)), ("end", (us.getD 2 .non)), ("left", (us.getD 0 .non)), ("at", (us.getD 1 .non))]
theorem sc_Index : FnScope ["self", "left", "at", "end"] ["self", "left", "at", "end"] (defScope s_Index) := ⟨rfl, rfl, rfl, by decide +kernel, rfl, by decide +kernel, by decide +kernel⟩
theorem ok_Index {f C : Addr} {fd : FuncData} {k : Nat} (F : Fun K "__init__" "Index.__init__" s_Index f fd) (T : NcT K C ["start", "end", "left", "at"]) : FnOk P w K mg base CX0 (k + 1) f fd ["self", "left", "at", "end"] (spMk K C [.node, .any, .int] F_Index) := by
  refine F.ok sc_Index (fun vs H Q E h => ?_) (fun cdv A outer s H vs Q E hr h => ?_)
  · obtain ⟨a, dx, us, rfl, _, hk, _⟩ := h
    have z := hk.length
    show us.length + 1 = _
    rw [z]
    rfl
  · obtain ⟨a, dx, us, rfl, ha, hk, q⟩ := h
    match us, hk, q with
    | [u0, u1, u2], .cons h0 (.cons h1 (.cons h2 .nil)), q =>
      obtain ⟨b0, C0, d0, fs0, x0, y0, rfl, n0⟩ := h0
      have nb0 := n0.other ha
      obtain ⟨y2, rfl⟩ := h2
      refine ⟨_, (pss_cons (ps_fld (pv 0) (pe_fld (pv 1) rfl) rfl) (pss_cons (ps_fld (pv 0) (pv 3) rfl) (pss_cons (ps_fld (pv 0) (pv 1) rfl) (pss_one (ps_fld (pv 0) (pv 2) rfl))))), ?_⟩
      refine ⟨_, rfl, b0, C0, d0, fs0, _, rfl, (by exact n0.at_), n0.cl, n0.ns, n0.l1, _, rfl, a, C, dx, _, rfl, ha, T.cl, T.no "start" (by simp), (by show 0 < 1000; decide), _, rfl, _, rfl, a, C, dx, _, rfl, upd_same, T.cl, T.no "end" (by simp), (by show 1 < 1000; decide), _, rfl, _, rfl, a, C, dx, _, rfl, upd_same, T.cl, T.no "left" (by simp), (by show 2 < 1000; decide), _, rfl, _, rfl, a, C, dx, _, rfl, upd_same, T.cl, T.no "at" (by simp), (by show 3 < 1000; decide), ?_⟩
      exact q _ x0 0 (fun c o n h => by rw [upd_ne n, upd_ne n, upd_ne n, upd_ne n]; exact h) (by rw [upd_same]; rfl)
abbrev s_Argument : Stmt := inClass (topS 31) 0
def F_Argument (us : List V) (z1 z2 : Int) : List (Str × V) := [("start", (.int z1)), ("end", (.int z2)), ("keyword", (us.getD 0 .non)), ("value", (us.getD 1 .non))]
theorem sc_Argument : FnScope ["self", "keyword", "value"] ["self", "keyword", "value"] (defScope s_Argument) := ⟨rfl, rfl, rfl, by decide +kernel, rfl, by decide +kernel, by decide +kernel⟩
theorem ok_Argument {f C : Addr} {fd : FuncData} {k : Nat} (F : Fun K "__init__" "Argument.__init__" s_Argument f fd) (T : NcT K C ["start", "end", "keyword", "value"]) : FnOk P w K mg base CX0 (k + 1) f fd ["self", "keyword", "value"] (spMk K C [.onode, .node] F_Argument) := by
  refine F.ok sc_Argument (fun vs H Q E h => ?_) (fun cdv A outer s H vs Q E hr h => ?_)
  · obtain ⟨a, dx, us, rfl, _, hk, _⟩ := h
    have z := hk.length
    show us.length + 1 = _
    rw [z]
    rfl
  · obtain ⟨a, dx, us, rfl, ha, hk, q⟩ := h
    match us, hk, q with
    | [u0, u1], .cons h0 (.cons h1 .nil), q =>
      obtain ⟨b1, C1, d1, fs1, x1, y1, rfl, n1⟩ := h1
      have nb1 := n1.other ha
      refine ⟨_, (pss_cons (ps_fld (pv 0) (pe_ifExp (pt_cmpR op_isN (pv 1) pe_non (nomark _)) (pe_fld (pv 2) rfl) (pe_fld (pv 1) rfl)) rfl) (pss_cons (ps_fld (pv 0) (pe_fld (pv 2) rfl) rfl) (pss_cons (ps_fld (pv 0) (pv 1) rfl) (pss_one (ps_fld (pv 0) (pv 2) rfl))))), ?_⟩
      rcases h0 with rfl | ⟨b0, C0, d0, fs0, x0, y0, rfl, n0⟩
      · refine ⟨_, rfl, rfl, _, rfl, ?_⟩
        refine iteT ?_
        refine ⟨_, rfl, b1, C1, d1, fs1, _, rfl, (by exact n1.at_), n1.cl, n1.ns, n1.l1, _, rfl, a, C, dx, _, rfl, ha, T.cl, T.no "start" (by simp), (by show 0 < 1000; decide), _, rfl, b1, C1, d1, fs1, _, rfl, (by rw [upd_ne nb1]; exact n1.at_), n1.cl, n1.ne, n1.l2, _, rfl, a, C, dx, _, rfl, upd_same, T.cl, T.no "end" (by simp), (by show 1 < 1000; decide), _, rfl, _, rfl, a, C, dx, _, rfl, upd_same, T.cl, T.no "keyword" (by simp), (by show 2 < 1000; decide), _, rfl, _, rfl, a, C, dx, _, rfl, upd_same, T.cl, T.no "value" (by simp), (by show 3 < 1000; decide), ?_⟩
        exact q _ x1 y1 (fun c o n h => by rw [upd_ne n, upd_ne n, upd_ne n, upd_ne n]; exact h) (by rw [upd_same]; rfl)
      · have nb0 := n0.other ha
        refine ⟨_, rfl, rfl, _, rfl, ?_⟩
        refine iteF ?_
        refine ⟨_, rfl, b0, C0, d0, fs0, _, rfl, (by exact n0.at_), n0.cl, n0.ns, n0.l1, _, rfl, a, C, dx, _, rfl, ha, T.cl, T.no "start" (by simp), (by show 0 < 1000; decide), _, rfl, b1, C1, d1, fs1, _, rfl, (by rw [upd_ne nb1]; exact n1.at_), n1.cl, n1.ne, n1.l2, _, rfl, a, C, dx, _, rfl, upd_same, T.cl, T.no "end" (by simp), (by show 1 < 1000; decide), _, rfl, _, rfl, a, C, dx, _, rfl, upd_same, T.cl, T.no "keyword" (by simp), (by show 2 < 1000; decide), _, rfl, _, rfl, a, C, dx, _, rfl, upd_same, T.cl, T.no "value" (by simp), (by show 3 < 1000; decide), ?_⟩
        exact q _ x0 y1 (fun c o n h => by rw [upd_ne n, upd_ne n, upd_ne n, upd_ne n]; exact h) (by rw [upd_same]; rfl)
abbrev s_Call : Stmt := inClass (topS 32) 0
def F_Call (us : List V) (z1 z2 : Int) : List (Str × V) := [("start", (.int z1)), ("end", (us.getD 2 .non)), ("called", (us.getD 0 .non)), ("arguments", (us.getD 1 .non))]
theorem sc_Call : FnScope ["self", "called", "arguments", "end"] ["self", "called", "arguments", "end"] (defScope s_Call) := ⟨rfl, rfl, rfl, by decide +kernel, rfl, by decide +kernel, by decide +kernel⟩
theorem ok_Call {f C : Addr} {fd : FuncData} {k : Nat} (F : Fun K "__init__" "Call.__init__" s_Call f fd) (T : NcT K C ["start", "end", "called", "arguments"]) : FnOk P w K mg base CX0 (k + 1) f fd ["self", "called", "arguments", "end"] (spMk K C [.node, .any, .int] F_Call) := by
  refine F.ok sc_Call (fun vs H Q E h => ?_) (fun cdv A outer s H vs Q E hr h => ?_)
  · obtain ⟨a, dx, us, rfl, _, hk, _⟩ := h
    have z := hk.length
    show us.length + 1 = _
    rw [z]
    rfl
  · obtain ⟨a, dx, us, rfl, ha, hk, q⟩ := h
    match us, hk, q with
    | [u0, u1, u2], .cons h0 (.cons h1 (.cons h2 .nil)), q =>
      obtain ⟨b0, C0, d0, fs0, x0, y0, rfl, n0⟩ := h0
      have nb0 := n0.other ha
      obtain ⟨y2, rfl⟩ := h2
      refine ⟨_, (pss_cons (ps_fld (pv 0) (pe_fld (pv 1) rfl) rfl) (pss_cons (ps_fld (pv 0) (pv 3) rfl) (pss_cons (ps_fld (pv 0) (pv 1) rfl) (pss_one (ps_fld (pv 0) (pv 2) rfl))))), ?_⟩
      refine ⟨_, rfl, b0, C0, d0, fs0, _, rfl, (by exact n0.at_), n0.cl, n0.ns, n0.l1, _, rfl, a, C, dx, _, rfl, ha, T.cl, T.no "start" (by simp), (by show 0 < 1000; decide), _, rfl, _, rfl, a, C, dx, _, rfl, upd_same, T.cl, T.no "end" (by simp), (by show 1 < 1000; decide), _, rfl, _, rfl, a, C, dx, _, rfl, upd_same, T.cl, T.no "called" (by simp), (by show 2 < 1000; decide), _, rfl, _, rfl, a, C, dx, _, rfl, upd_same, T.cl, T.no "arguments" (by simp), (by show 3 < 1000; decide), ?_⟩
      exact q _ x0 0 (fun c o n h => by rw [upd_ne n, upd_ne n, upd_ne n, upd_ne n]; exact h) (by rw [upd_same]; rfl)
abbrev s_Unary : Stmt := inClass (topS 33) 0
def F_Unary (us : List V) (z1 z2 : Int) : List (Str × V) := [("start", (us.getD 1 .non)), ("end", (.int z2)), ("sign", (us.getD 0 .non)), ("inner", (us.getD 2 .non))]
theorem sc_Unary : FnScope ["self", "sign", "start", "inner"] ["self", "sign", "start", "inner"] (defScope s_Unary) := ⟨rfl, rfl, rfl, by decide +kernel, rfl, by decide +kernel, by decide +kernel⟩
theorem ok_Unary {f C : Addr} {fd : FuncData} {k : Nat} (F : Fun K "__init__" "Unary.__init__" s_Unary f fd) (T : NcT K C ["start", "end", "sign", "inner"]) : FnOk P w K mg base CX0 (k + 1) f fd ["self", "sign", "start", "inner"] (spMk K C [.any, .int, .node] F_Unary) := by
  refine F.ok sc_Unary (fun vs H Q E h => ?_) (fun cdv A outer s H vs Q E hr h => ?_)
  · obtain ⟨a, dx, us, rfl, _, hk, _⟩ := h
    have z := hk.length
    show us.length + 1 = _
    rw [z]
    rfl
  · obtain ⟨a, dx, us, rfl, ha, hk, q⟩ := h
    match us, hk, q with
    | [u0, u1, u2], .cons h0 (.cons h1 (.cons h2 .nil)), q =>
      obtain ⟨y1, rfl⟩ := h1
      obtain ⟨b2, C2, d2, fs2, x2, y2, rfl, n2⟩ := h2
      have nb2 := n2.other ha
      refine ⟨_, (pss_cons (ps_fld (pv 0) (pv 2) rfl) (pss_cons (ps_fld (pv 0) (pe_fld (pv 3) rfl) rfl) (pss_cons (ps_fld (pv 0) (pv 1) rfl) (pss_one (ps_fld (pv 0) (pv 3) rfl))))), ?_⟩
      refine ⟨_, rfl, _, rfl, a, C, dx, _, rfl, ha, T.cl, T.no "start" (by simp), (by show 0 < 1000; decide), _, rfl, b2, C2, d2, fs2, _, rfl, (by rw [upd_ne nb2]; exact n2.at_), n2.cl, n2.ne, n2.l2, _, rfl, a, C, dx, _, rfl, upd_same, T.cl, T.no "end" (by simp), (by show 1 < 1000; decide), _, rfl, _, rfl, a, C, dx, _, rfl, upd_same, T.cl, T.no "sign" (by simp), (by show 2 < 1000; decide), _, rfl, _, rfl, a, C, dx, _, rfl, upd_same, T.cl, T.no "inner" (by simp), (by show 3 < 1000; decide), ?_⟩
      exact q _ 0 y2 (fun c o n h => by rw [upd_ne n, upd_ne n, upd_ne n, upd_ne n]; exact h) (by rw [upd_same]; rfl)
abbrev s_Binary : Stmt := inClass (topS 34) 0
def F_Binary (us : List V) (z1 z2 : Int) : List (Str × V) := [("start", (.int z1)), ("end", (.int z2)), ("sign", (us.getD 0 .non)), ("left", (us.getD 1 .non)), ("right", (us.getD 2 .non))]
theorem sc_Binary : FnScope ["self", "sign", "left", "right"] ["self", "sign", "left", "right"] (defScope s_Binary) := ⟨rfl, rfl, rfl, by decide +kernel, rfl, by decide +kernel, by decide +kernel⟩
theorem ok_Binary {f C : Addr} {fd : FuncData} {k : Nat} (F : Fun K "__init__" "Binary.__init__" s_Binary f fd) (T : NcT K C ["start", "end", "sign", "left", "right"]) : FnOk P w K mg base CX0 (k + 1) f fd ["self", "sign", "left", "right"] (spMk K C [.any, .node, .node] F_Binary) := by
  refine F.ok sc_Binary (fun vs H Q E h => ?_) (fun cdv A outer s H vs Q E hr h => ?_)
  · obtain ⟨a, dx, us, rfl, _, hk, _⟩ := h
    have z := hk.length
    show us.length + 1 = _
    rw [z]
    rfl
  · obtain ⟨a, dx, us, rfl, ha, hk, q⟩ := h
    match us, hk, q with
    | [u0, u1, u2], .cons h0 (.cons h1 (.cons h2 .nil)), q =>
      obtain ⟨b1, C1, d1, fs1, x1, y1, rfl, n1⟩ := h1
      have nb1 := n1.other ha
      obtain ⟨b2, C2, d2, fs2, x2, y2, rfl, n2⟩ := h2
      have nb2 := n2.other ha
      refine ⟨_, (pss_cons (ps_fld (pv 0) (pe_fld (pv 2) rfl) rfl) (pss_cons (ps_fld (pv 0) (pe_fld (pv 3) rfl) rfl) (pss_cons (ps_fld (pv 0) (pv 1) rfl) (pss_cons (ps_fld (pv 0) (pv 2) rfl) (pss_one (ps_fld (pv 0) (pv 3) rfl)))))), ?_⟩
      refine ⟨_, rfl, b1, C1, d1, fs1, _, rfl, (by exact n1.at_), n1.cl, n1.ns, n1.l1, _, rfl, a, C, dx, _, rfl, ha, T.cl, T.no "start" (by simp), (by show 0 < 1000; decide), _, rfl, b2, C2, d2, fs2, _, rfl, (by rw [upd_ne nb2]; exact n2.at_), n2.cl, n2.ne, n2.l2, _, rfl, a, C, dx, _, rfl, upd_same, T.cl, T.no "end" (by simp), (by show 1 < 1000; decide), _, rfl, _, rfl, a, C, dx, _, rfl, upd_same, T.cl, T.no "sign" (by simp), (by show 2 < 1000; decide), _, rfl, _, rfl, a, C, dx, _, rfl, upd_same, T.cl, T.no "left" (by simp), (by show 3 < 1000; decide), _, rfl, _, rfl, a, C, dx, _, rfl, upd_same, T.cl, T.no "right" (by simp), (by show 4 < 1000; decide), ?_⟩
      exact q _ x1 y2 (fun c o n h => by rw [upd_ne n, upd_ne n, upd_ne n, upd_ne n, upd_ne n]; exact h) (by rw [upd_same]; rfl)
abbrev s_Parameter : Stmt := inClass (topS 35) 0
def F_Parameter (us : List V) (z1 z2 : Int) : List (Str × V) := [("start", (.int z1)), ("end", (.int z2)), ("name", (us.getD 0 .non)), ("default", (us.getD 1 .non))]
theorem sc_Parameter : FnScope ["self", "name", "default"] ["self", "name", "default"] (defScope s_Parameter) := ⟨rfl, rfl, rfl, by decide +kernel, rfl, by decide +kernel, by decide +kernel⟩
theorem ok_Parameter {f C : Addr} {fd : FuncData} {k : Nat} (F : Fun K "__init__" "Parameter.__init__" s_Parameter f fd) (T : NcT K C ["start", "end", "name", "default"]) : FnOk P w K mg base CX0 (k + 1) f fd ["self", "name", "default"] (spMk K C [.node, .onode] F_Parameter) := by
  refine F.ok sc_Parameter (fun vs H Q E h => ?_) (fun cdv A outer s H vs Q E hr h => ?_)
  · obtain ⟨a, dx, us, rfl, _, hk, _⟩ := h
    have z := hk.length
    show us.length + 1 = _
    rw [z]
    rfl
  · obtain ⟨a, dx, us, rfl, ha, hk, q⟩ := h
    match us, hk, q with
    | [u0, u1], .cons h0 (.cons h1 .nil), q =>
      obtain ⟨b0, C0, d0, fs0, x0, y0, rfl, n0⟩ := h0
      have nb0 := n0.other ha
      refine ⟨_, (pss_cons (ps_fld (pv 0) (pe_fld (pv 1) rfl) rfl) (pss_cons (ps_fld (pv 0) (pe_ifExp (pt_cmpR op_isN (pv 2) pe_non (nomark _)) (pe_fld (pv 1) rfl) (pe_fld (pv 2) rfl)) rfl) (pss_cons (ps_fld (pv 0) (pv 1) rfl) (pss_one (ps_fld (pv 0) (pv 2) rfl))))), ?_⟩
      rcases h1 with rfl | ⟨b1, C1, d1, fs1, x1, y1, rfl, n1⟩
      · refine ⟨_, rfl, b0, C0, d0, fs0, _, rfl, (by exact n0.at_), n0.cl, n0.ns, n0.l1, _, rfl, a, C, dx, _, rfl, ha, T.cl, T.no "start" (by simp), (by show 0 < 1000; decide), _, rfl, rfl, _, rfl, ?_⟩
        refine iteT ?_
        refine ⟨_, rfl, b0, C0, d0, fs0, _, rfl, (by rw [upd_ne nb0]; exact n0.at_), n0.cl, n0.ne, n0.l2, _, rfl, a, C, dx, _, rfl, upd_same, T.cl, T.no "end" (by simp), (by show 1 < 1000; decide), _, rfl, _, rfl, a, C, dx, _, rfl, upd_same, T.cl, T.no "name" (by simp), (by show 2 < 1000; decide), _, rfl, _, rfl, a, C, dx, _, rfl, upd_same, T.cl, T.no "default" (by simp), (by show 3 < 1000; decide), ?_⟩
        exact q _ x0 y0 (fun c o n h => by rw [upd_ne n, upd_ne n, upd_ne n, upd_ne n]; exact h) (by rw [upd_same]; rfl)
      · have nb1 := n1.other ha
        refine ⟨_, rfl, b0, C0, d0, fs0, _, rfl, (by exact n0.at_), n0.cl, n0.ns, n0.l1, _, rfl, a, C, dx, _, rfl, ha, T.cl, T.no "start" (by simp), (by show 0 < 1000; decide), _, rfl, rfl, _, rfl, ?_⟩
        refine iteF ?_
        refine ⟨_, rfl, b1, C1, d1, fs1, _, rfl, (by rw [upd_ne nb1]; exact n1.at_), n1.cl, n1.ne, n1.l2, _, rfl, a, C, dx, _, rfl, upd_same, T.cl, T.no "end" (by simp), (by show 1 < 1000; decide), _, rfl, _, rfl, a, C, dx, _, rfl, upd_same, T.cl, T.no "name" (by simp), (by show 2 < 1000; decide), _, rfl, _, rfl, a, C, dx, _, rfl, upd_same, T.cl, T.no "default" (by simp), (by show 3 < 1000; decide), ?_⟩
        exact q _ x0 y1 (fun c o n h => by rw [upd_ne n, upd_ne n, upd_ne n, upd_ne n]; exact h) (by rw [upd_same]; rfl)
abbrev s_Fn : Stmt := inClass (topS 36) 0
def F_Fn (us : List V) (z1 z2 : Int) : List (Str × V) := [("start", (us.getD 0 .non)), ("end", (.int z2)), ("parameters", (us.getD 1 .non)), ("body", (us.getD 2 .non))]
theorem sc_Fn : FnScope ["self", "start", "parameters", "body"] ["self", "start", "parameters", "body"] (defScope s_Fn) := ⟨rfl, rfl, rfl, by decide +kernel, rfl, by decide +kernel, by decide +kernel⟩
theorem ok_Fn {f C : Addr} {fd : FuncData} {k : Nat} (F : Fun K "__init__" "Fn.__init__" s_Fn f fd) (T : NcT K C ["start", "end", "parameters", "body"]) : FnOk P w K mg base CX0 (k + 1) f fd ["self", "start", "parameters", "body"] (spMk K C [.int, .any, .node] F_Fn) := by
  refine F.ok sc_Fn (fun vs H Q E h => ?_) (fun cdv A outer s H vs Q E hr h => ?_)
  · obtain ⟨a, dx, us, rfl, _, hk, _⟩ := h
    have z := hk.length
    show us.length + 1 = _
    rw [z]
    rfl
  · obtain ⟨a, dx, us, rfl, ha, hk, q⟩ := h
    match us, hk, q with
    | [u0, u1, u2], .cons h0 (.cons h1 (.cons h2 .nil)), q =>
      obtain ⟨y0, rfl⟩ := h0
      obtain ⟨b2, C2, d2, fs2, x2, y2, rfl, n2⟩ := h2
      have nb2 := n2.other ha
      refine ⟨_, (pss_cons (ps_fld (pv 0) (pv 1) rfl) (pss_cons (ps_fld (pv 0) (pe_fld (pv 3) rfl) rfl) (pss_cons (ps_fld (pv 0) (pv 2) rfl) (pss_one (ps_fld (pv 0) (pv 3) rfl))))), ?_⟩
      refine ⟨_, rfl, _, rfl, a, C, dx, _, rfl, ha, T.cl, T.no "start" (by simp), (by show 0 < 1000; decide), _, rfl, b2, C2, d2, fs2, _, rfl, (by rw [upd_ne nb2]; exact n2.at_), n2.cl, n2.ne, n2.l2, _, rfl, a, C, dx, _, rfl, upd_same, T.cl, T.no "end" (by simp), (by show 1 < 1000; decide), _, rfl, _, rfl, a, C, dx, _, rfl, upd_same, T.cl, T.no "parameters" (by simp), (by show 2 < 1000; decide), _, rfl, _, rfl, a, C, dx, _, rfl, upd_same, T.cl, T.no "body" (by simp), (by show 3 < 1000; decide), ?_⟩
      exact q _ 0 y2 (fun c o n h => by rw [upd_ne n, upd_ne n, upd_ne n, upd_ne n]; exact h) (by rw [upd_same]; rfl)
abbrev s_Import : Stmt := inClass (topS 37) 0
def F_Import (us : List V) (z1 z2 : Int) : List (Str × V) := [("start", (us.getD 0 .non)), ("end", (us.getD 1 .non)), ("module", (us.getD 2 .non)), ("alias", (us.getD 3 .non))]
theorem sc_Import : FnScope ["self", "start", "end", "module", "alias"] ["self", "start", "end", "module", "alias"] (defScope s_Import) := ⟨rfl, rfl, rfl, by decide +kernel, rfl, by decide +kernel, by decide +kernel⟩
theorem ok_Import {f C : Addr} {fd : FuncData} {k : Nat} (F : Fun K "__init__" "Import.__init__" s_Import f fd) (T : NcT K C ["start", "end", "module", "alias"]) : FnOk P w K mg base CX0 (k + 1) f fd ["self", "start", "end", "module", "alias"] (spMk K C [.any, .any, .any, .any] F_Import) := by
  refine F.ok sc_Import (fun vs H Q E h => ?_) (fun cdv A outer s H vs Q E hr h => ?_)
  · obtain ⟨a, dx, us, rfl, _, hk, _⟩ := h
    have z := hk.length
    show us.length + 1 = _
    rw [z]
    rfl
  · obtain ⟨a, dx, us, rfl, ha, hk, q⟩ := h
    match us, hk, q with
    | [u0, u1, u2, u3], .cons h0 (.cons h1 (.cons h2 (.cons h3 .nil))), q =>
      refine ⟨_, (pss_cons (ps_fld (pv 0) (pv 1) rfl) (pss_cons (ps_fld (pv 0) (pv 2) rfl) (pss_cons (ps_fld (pv 0) (pv 3) rfl) (pss_one (ps_fld (pv 0) (pv 4) rfl))))), ?_⟩
      refine ⟨_, rfl, _, rfl, a, C, dx, _, rfl, ha, T.cl, T.no "start" (by simp), (by show 0 < 1000; decide), _, rfl, _, rfl, a, C, dx, _, rfl, upd_same, T.cl, T.no "end" (by simp), (by show 1 < 1000; decide), _, rfl, _, rfl, a, C, dx, _, rfl, upd_same, T.cl, T.no "module" (by simp), (by show 2 < 1000; decide), _, rfl, _, rfl, a, C, dx, _, rfl, upd_same, T.cl, T.no "alias" (by simp), (by show 3 < 1000; decide), ?_⟩
      exact q _ 0 0 (fun c o n h => by rw [upd_ne n, upd_ne n, upd_ne n, upd_ne n]; exact h) (by rw [upd_same]; rfl)
abbrev s_ImportItem : Stmt := inClass (topS 38) 0
def F_ImportItem (us : List V) (z1 z2 : Int) : List (Str × V) := [("start", (.int z1)), ("end", (.int z2)), ("name", (us.getD 0 .non)), ("alias", (us.getD 1 .non))]
theorem sc_ImportItem : FnScope ["self", "name", "alias"] ["self", "name", "alias"] (defScope s_ImportItem) := ⟨rfl, rfl, rfl, by decide +kernel, rfl, by decide +kernel, by decide +kernel⟩
theorem ok_ImportItem {f C : Addr} {fd : FuncData} {k : Nat} (F : Fun K "__init__" "ImportItem.__init__" s_ImportItem f fd) (T : NcT K C ["start", "end", "name", "alias"]) : FnOk P w K mg base CX0 (k + 1) f fd ["self", "name", "alias"] (spMk K C [.node, .onode] F_ImportItem) := by
  refine F.ok sc_ImportItem (fun vs H Q E h => ?_) (fun cdv A outer s H vs Q E hr h => ?_)
  · obtain ⟨a, dx, us, rfl, _, hk, _⟩ := h
    have z := hk.length
    show us.length + 1 = _
    rw [z]
    rfl
  · obtain ⟨a, dx, us, rfl, ha, hk, q⟩ := h
    match us, hk, q with
    | [u0, u1], .cons h0 (.cons h1 .nil), q =>
      obtain ⟨b0, C0, d0, fs0, x0, y0, rfl, n0⟩ := h0
      have nb0 := n0.other ha
      refine ⟨_, (pss_cons (ps_fld (pv 0) (pe_fld (pv 1) rfl) rfl) (pss_cons (ps_fld (pv 0) (pe_ifExp (pt_cmpR op_isN (pv 2) pe_non (nomark _)) (pe_fld (pv 1) rfl) (pe_fld (pv 2) rfl)) rfl) (pss_cons (ps_fld (pv 0) (pv 1) rfl) (pss_one (ps_fld (pv 0) (pv 2) rfl))))), ?_⟩
      rcases h1 with rfl | ⟨b1, C1, d1, fs1, x1, y1, rfl, n1⟩
      · refine ⟨_, rfl, b0, C0, d0, fs0, _, rfl, (by exact n0.at_), n0.cl, n0.ns, n0.l1, _, rfl, a, C, dx, _, rfl, ha, T.cl, T.no "start" (by simp), (by show 0 < 1000; decide), _, rfl, rfl, _, rfl, ?_⟩
        refine iteT ?_
        refine ⟨_, rfl, b0, C0, d0, fs0, _, rfl, (by rw [upd_ne nb0]; exact n0.at_), n0.cl, n0.ne, n0.l2, _, rfl, a, C, dx, _, rfl, upd_same, T.cl, T.no "end" (by simp), (by show 1 < 1000; decide), _, rfl, _, rfl, a, C, dx, _, rfl, upd_same, T.cl, T.no "name" (by simp), (by show 2 < 1000; decide), _, rfl, _, rfl, a, C, dx, _, rfl, upd_same, T.cl, T.no "alias" (by simp), (by show 3 < 1000; decide), ?_⟩
        exact q _ x0 y0 (fun c o n h => by rw [upd_ne n, upd_ne n, upd_ne n, upd_ne n]; exact h) (by rw [upd_same]; rfl)
      · have nb1 := n1.other ha
        refine ⟨_, rfl, b0, C0, d0, fs0, _, rfl, (by exact n0.at_), n0.cl, n0.ns, n0.l1, _, rfl, a, C, dx, _, rfl, ha, T.cl, T.no "start" (by simp), (by show 0 < 1000; decide), _, rfl, rfl, _, rfl, ?_⟩
        refine iteF ?_
        refine ⟨_, rfl, b1, C1, d1, fs1, _, rfl, (by rw [upd_ne nb1]; exact n1.at_), n1.cl, n1.ne, n1.l2, _, rfl, a, C, dx, _, rfl, upd_same, T.cl, T.no "end" (by simp), (by show 1 < 1000; decide), _, rfl, _, rfl, a, C, dx, _, rfl, upd_same, T.cl, T.no "name" (by simp), (by show 2 < 1000; decide), _, rfl, _, rfl, a, C, dx, _, rfl, upd_same, T.cl, T.no "alias" (by simp), (by show 3 < 1000; decide), ?_⟩
        exact q _ x0 y1 (fun c o n h => by rw [upd_ne n, upd_ne n, upd_ne n, upd_ne n]; exact h) (by rw [upd_same]; rfl)
abbrev s_FromImport : Stmt := inClass (topS 39) 0
def F_FromImport (us : List V) (z1 z2 : Int) : List (Str × V) := [("start", (us.getD 0 .non)), ("end", (us.getD 1 .non)), ("module", (us.getD 2 .non)), ("star", (us.getD 3 .non)), ("rows", (us.getD 4 .non))]
theorem sc_FromImport : FnScope ["self", "start", "end", "module", "star", "rows"] ["self", "start", "end", "module", "star", "rows"] (defScope s_FromImport) := ⟨rfl, rfl, rfl, by decide +kernel, rfl, by decide +kernel, by decide +kernel⟩
theorem ok_FromImport {f C : Addr} {fd : FuncData} {k : Nat} (F : Fun K "__init__" "FromImport.__init__" s_FromImport f fd) (T : NcT K C ["start", "end", "module", "star", "rows"]) : FnOk P w K mg base CX0 (k + 1) f fd ["self", "start", "end", "module", "star", "rows"] (spMk K C [.any, .any, .any, .any, .any] F_FromImport) := by
  refine F.ok sc_FromImport (fun vs H Q E h => ?_) (fun cdv A outer s H vs Q E hr h => ?_)
  · obtain ⟨a, dx, us, rfl, _, hk, _⟩ := h
    have z := hk.length
    show us.length + 1 = _
    rw [z]
    rfl
  · obtain ⟨a, dx, us, rfl, ha, hk, q⟩ := h
    match us, hk, q with
    | [u0, u1, u2, u3, u4], .cons h0 (.cons h1 (.cons h2 (.cons h3 (.cons h4 .nil)))), q =>
      refine ⟨_, (pss_cons (ps_fld (pv 0) (pv 1) rfl) (pss_cons (ps_fld (pv 0) (pv 2) rfl) (pss_cons (ps_fld (pv 0) (pv 3) rfl) (pss_cons (ps_fld (pv 0) (pv 4) rfl) (pss_one (ps_fld (pv 0) (pv 5) rfl)))))), ?_⟩
      refine ⟨_, rfl, _, rfl, a, C, dx, _, rfl, ha, T.cl, T.no "start" (by simp), (by show 0 < 1000; decide), _, rfl, _, rfl, a, C, dx, _, rfl, upd_same, T.cl, T.no "end" (by simp), (by show 1 < 1000; decide), _, rfl, _, rfl, a, C, dx, _, rfl, upd_same, T.cl, T.no "module" (by simp), (by show 2 < 1000; decide), _, rfl, _, rfl, a, C, dx, _, rfl, upd_same, T.cl, T.no "star" (by simp), (by show 3 < 1000; decide), _, rfl, _, rfl, a, C, dx, _, rfl, upd_same, T.cl, T.no "rows" (by simp), (by show 4 < 1000; decide), ?_⟩
      exact q _ 0 0 (fun c o n h => by rw [upd_ne n, upd_ne n, upd_ne n, upd_ne n, upd_ne n]; exact h) (by rw [upd_same]; rfl)
abbrev s_Assignment : Stmt := inClass (topS 40) 0
def F_Assignment (us : List V) (z1 z2 : Int) : List (Str × V) := [("start", (.int z1)), ("end", (us.getD 0 .non)), ("targets", (us.getD 1 .non)), ("value", (us.getD 2 .non))]
theorem sc_Assignment : FnScope ["self", "end", "targets", "value"] ["self", "end", "targets", "value"] (defScope s_Assignment) := ⟨rfl, rfl, rfl, by decide +kernel, rfl, by decide +kernel, by decide +kernel⟩
theorem ok_Assignment {f C : Addr} {fd : FuncData} {k : Nat} (F : Fun K "__init__" "Assignment.__init__" s_Assignment f fd) (T : NcT K C ["start", "end", "targets", "value"]) : FnOk P w K mg base CX0 (k + 1) f fd ["self", "end", "targets", "value"] (spMk K C [.any, .nodes, .any] F_Assignment) := by
  refine F.ok sc_Assignment (fun vs H Q E h => ?_) (fun cdv A outer s H vs Q E hr h => ?_)
  · obtain ⟨a, dx, us, rfl, _, hk, _⟩ := h
    have z := hk.length
    show us.length + 1 = _
    rw [z]
    rfl
  · obtain ⟨a, dx, us, rfl, ha, hk, q⟩ := h
    match us, hk, q with
    | [u0, u1, u2], .cons h0 (.cons h1 (.cons h2 .nil)), q =>
      obtain ⟨q1, v1, vs1, rfl, hq1, b1, C1, d1, fs1, x1, y1, rfl, n1⟩ := h1
      have nb1 := n1.other ha
      have nq1 := lst_other hq1 ha
      refine ⟨_, (pss_cons (ps_fld (pv 0) (pe_fld (pe_ix ix_list (pv 2) pe_int (fun _ _ => rfl)) rfl) rfl) (pss_cons (ps_fld (pv 0) (pv 1) rfl) (pss_cons (ps_fld (pv 0) (pv 2) rfl) (pss_one (ps_fld (pv 0) (pv 3) rfl))))), ?_⟩
      refine ⟨_, rfl, q1, _, 0, _, rfl, rfl, .inl (.inl (by exact hq1)), (by exact atI_nat (j := 0) rfl), b1, C1, d1, fs1, _, rfl, (by exact n1.at_), n1.cl, n1.ns, n1.l1, _, rfl, a, C, dx, _, rfl, ha, T.cl, T.no "start" (by simp), (by show 0 < 1000; decide), _, rfl, _, rfl, a, C, dx, _, rfl, upd_same, T.cl, T.no "end" (by simp), (by show 1 < 1000; decide), _, rfl, _, rfl, a, C, dx, _, rfl, upd_same, T.cl, T.no "targets" (by simp), (by show 2 < 1000; decide), _, rfl, _, rfl, a, C, dx, _, rfl, upd_same, T.cl, T.no "value" (by simp), (by show 3 < 1000; decide), ?_⟩
      exact q _ x1 0 (fun c o n h => by rw [upd_ne n, upd_ne n, upd_ne n, upd_ne n]; exact h) (by rw [upd_same]; rfl)
abbrev s_Def : Stmt := inClass (topS 41) 0
def F_Def (us : List V) (z1 z2 : Int) : List (Str × V) := [("start", (us.getD 0 .non)), ("end", (us.getD 1 .non)), ("name", (us.getD 2 .non)), ("parameters", (us.getD 3 .non)), ("body", (us.getD 4 .non))]
theorem sc_Def : FnScope ["self", "start", "end", "name", "parameters", "body"] ["self", "start", "end", "name", "parameters", "body"] (defScope s_Def) := ⟨rfl, rfl, rfl, by decide +kernel, rfl, by decide +kernel, by decide +kernel⟩
theorem ok_Def {f C : Addr} {fd : FuncData} {k : Nat} (F : Fun K "__init__" "Def.__init__" s_Def f fd) (T : NcT K C ["start", "end", "name", "parameters", "body"]) : FnOk P w K mg base CX0 (k + 1) f fd ["self", "start", "end", "name", "parameters", "body"] (spMk K C [.any, .any, .any, .any, .any] F_Def) := by
  refine F.ok sc_Def (fun vs H Q E h => ?_) (fun cdv A outer s H vs Q E hr h => ?_)
  · obtain ⟨a, dx, us, rfl, _, hk, _⟩ := h
    have z := hk.length
    show us.length + 1 = _
    rw [z]
    rfl
  · obtain ⟨a, dx, us, rfl, ha, hk, q⟩ := h
    match us, hk, q with
    | [u0, u1, u2, u3, u4], .cons h0 (.cons h1 (.cons h2 (.cons h3 (.cons h4 .nil)))), q =>
      refine ⟨_, (pss_cons (ps_fld (pv 0) (pv 1) rfl) (pss_cons (ps_fld (pv 0) (pv 2) rfl) (pss_cons (ps_fld (pv 0) (pv 3) rfl) (pss_cons (ps_fld (pv 0) (pv 4) rfl) (pss_one (ps_fld (pv 0) (pv 5) rfl)))))), ?_⟩
      refine ⟨_, rfl, _, rfl, a, C, dx, _, rfl, ha, T.cl, T.no "start" (by simp), (by show 0 < 1000; decide), _, rfl, _, rfl, a, C, dx, _, rfl, upd_same, T.cl, T.no "end" (by simp), (by show 1 < 1000; decide), _, rfl, _, rfl, a, C, dx, _, rfl, upd_same, T.cl, T.no "name" (by simp), (by show 2 < 1000; decide), _, rfl, _, rfl, a, C, dx, _, rfl, upd_same, T.cl, T.no "parameters" (by simp), (by show 3 < 1000; decide), _, rfl, _, rfl, a, C, dx, _, rfl, upd_same, T.cl, T.no "body" (by simp), (by show 4 < 1000; decide), ?_⟩
      exact q _ 0 0 (fun c o n h => by rw [upd_ne n, upd_ne n, upd_ne n, upd_ne n, upd_ne n]; exact h) (by rw [upd_same]; rfl)
abbrev s_ClassBlock : Stmt := inClass (topS 42) 0
def F_ClassBlock (us : List V) (z1 z2 : Int) : List (Str × V) := [("start", (us.getD 0 .non)), ("end", (us.getD 1 .non)), ("name", (us.getD 2 .non)), ("base", (us.getD 3 .non)), ("body", (us.getD 4 .non))]
theorem sc_ClassBlock : FnScope ["self", "start", "end", "name", "base", "body"] ["self", "start", "end", "name", "base", "body"] (defScope s_ClassBlock) := ⟨rfl, rfl, rfl, by decide +kernel, rfl, by decide +kernel, by decide +kernel⟩
theorem ok_ClassBlock {f C : Addr} {fd : FuncData} {k : Nat} (F : Fun K "__init__" "ClassBlock.__init__" s_ClassBlock f fd) (T : NcT K C ["start", "end", "name", "base", "body"]) : FnOk P w K mg base CX0 (k + 1) f fd ["self", "start", "end", "name", "base", "body"] (spMk K C [.any, .any, .any, .any, .any] F_ClassBlock) := by
  refine F.ok sc_ClassBlock (fun vs H Q E h => ?_) (fun cdv A outer s H vs Q E hr h => ?_)
  · obtain ⟨a, dx, us, rfl, _, hk, _⟩ := h
    have z := hk.length
    show us.length + 1 = _
    rw [z]
    rfl
  · obtain ⟨a, dx, us, rfl, ha, hk, q⟩ := h
    match us, hk, q with
    | [u0, u1, u2, u3, u4], .cons h0 (.cons h1 (.cons h2 (.cons h3 (.cons h4 .nil)))), q =>
      refine ⟨_, (pss_cons (ps_fld (pv 0) (pv 1) rfl) (pss_cons (ps_fld (pv 0) (pv 2) rfl) (pss_cons (ps_fld (pv 0) (pv 3) rfl) (pss_cons (ps_fld (pv 0) (pv 4) rfl) (pss_one (ps_fld (pv 0) (pv 5) rfl)))))), ?_⟩
      refine ⟨_, rfl, _, rfl, a, C, dx, _, rfl, ha, T.cl, T.no "start" (by simp), (by show 0 < 1000; decide), _, rfl, _, rfl, a, C, dx, _, rfl, upd_same, T.cl, T.no "end" (by simp), (by show 1 < 1000; decide), _, rfl, _, rfl, a, C, dx, _, rfl, upd_same, T.cl, T.no "name" (by simp), (by show 2 < 1000; decide), _, rfl, _, rfl, a, C, dx, _, rfl, upd_same, T.cl, T.no "base" (by simp), (by show 3 < 1000; decide), _, rfl, _, rfl, a, C, dx, _, rfl, upd_same, T.cl, T.no "body" (by simp), (by show 4 < 1000; decide), ?_⟩
      exact q _ 0 0 (fun c o n h => by rw [upd_ne n, upd_ne n, upd_ne n, upd_ne n, upd_ne n]; exact h) (by rw [upd_same]; rfl)
abbrev s_OuterNames : Stmt := inClass (topS 43) 0
def F_OuterNames (us : List V) (z1 z2 : Int) : List (Str × V) := [("start", (us.getD 0 .non)), ("end", (us.getD 1 .non)), ("word", (us.getD 2 .non)), ("names", (us.getD 3 .non))]
theorem sc_OuterNames : FnScope ["self", "start", "end", "word", "names"] ["self", "start", "end", "word", "names"] (defScope s_OuterNames) := ⟨rfl, rfl, rfl, by decide +kernel, rfl, by decide +kernel, by decide +kernel⟩
theorem ok_OuterNames {f C : Addr} {fd : FuncData} {k : Nat} (F : Fun K "__init__" "OuterNames.__init__" s_OuterNames f fd) (T : NcT K C ["start", "end", "word", "names"]) : FnOk P w K mg base CX0 (k + 1) f fd ["self", "start", "end", "word", "names"] (spMk K C [.any, .any, .any, .any] F_OuterNames) := by
  refine F.ok sc_OuterNames (fun vs H Q E h => ?_) (fun cdv A outer s H vs Q E hr h => ?_)
  · obtain ⟨a, dx, us, rfl, _, hk, _⟩ := h
    have z := hk.length
    show us.length + 1 = _
    rw [z]
    rfl
  · obtain ⟨a, dx, us, rfl, ha, hk, q⟩ := h
    match us, hk, q with
    | [u0, u1, u2, u3], .cons h0 (.cons h1 (.cons h2 (.cons h3 .nil))), q =>
      refine ⟨_, (pss_cons (ps_fld (pv 0) (pv 1) rfl) (pss_cons (ps_fld (pv 0) (pv 2) rfl) (pss_cons (ps_fld (pv 0) (pv 3) rfl) (pss_one (ps_fld (pv 0) (pv 4) rfl))))), ?_⟩
      refine ⟨_, rfl, _, rfl, a, C, dx, _, rfl, ha, T.cl, T.no "start" (by simp), (by show 0 < 1000; decide), _, rfl, _, rfl, a, C, dx, _, rfl, upd_same, T.cl, T.no "end" (by simp), (by show 1 < 1000; decide), _, rfl, _, rfl, a, C, dx, _, rfl, upd_same, T.cl, T.no "word" (by simp), (by show 2 < 1000; decide), _, rfl, _, rfl, a, C, dx, _, rfl, upd_same, T.cl, T.no "names" (by simp), (by show 3 < 1000; decide), ?_⟩
      exact q _ 0 0 (fun c o n h => by rw [upd_ne n, upd_ne n, upd_ne n, upd_ne n]; exact h) (by rw [upd_same]; rfl)
abbrev s_If : Stmt := inClass (topS 44) 0
def F_If (us : List V) (z1 z2 : Int) : List (Str × V) := [("start", (us.getD 0 .non)), ("end", (us.getD 1 .non)), ("test", (us.getD 2 .non)), ("body", (us.getD 3 .non)), ("other", (us.getD 4 .non)), ("else_if", (us.getD 5 .non))]
theorem sc_If : FnScope ["self", "start", "end", "test", "body", "other", "else_if"] ["self", "start", "end", "test", "body", "other", "else_if"] (defScope s_If) := ⟨rfl, rfl, rfl, by decide +kernel, rfl, by decide +kernel, by decide +kernel⟩
theorem ok_If {f C : Addr} {fd : FuncData} {k : Nat} (F : Fun K "__init__" "If.__init__" s_If f fd) (T : NcT K C ["start", "end", "test", "body", "other", "else_if"]) : FnOk P w K mg base CX0 (k + 1) f fd ["self", "start", "end", "test", "body", "other", "else_if"] (spMk K C [.any, .any, .any, .any, .any, .any] F_If) := by
  refine F.ok sc_If (fun vs H Q E h => ?_) (fun cdv A outer s H vs Q E hr h => ?_)
  · obtain ⟨a, dx, us, rfl, _, hk, _⟩ := h
    have z := hk.length
    show us.length + 1 = _
    rw [z]
    rfl
  · obtain ⟨a, dx, us, rfl, ha, hk, q⟩ := h
    match us, hk, q with
    | [u0, u1, u2, u3, u4, u5], .cons h0 (.cons h1 (.cons h2 (.cons h3 (.cons h4 (.cons h5 .nil))))), q =>
      refine ⟨_, (pss_cons (ps_fld (pv 0) (pv 1) rfl) (pss_cons (ps_fld (pv 0) (pv 2) rfl) (pss_cons (ps_fld (pv 0) (pv 3) rfl) (pss_cons (ps_fld (pv 0) (pv 4) rfl) (pss_cons (ps_fld (pv 0) (pv 5) rfl) (pss_one (ps_fld (pv 0) (pv 6) rfl))))))), ?_⟩
      refine ⟨_, rfl, _, rfl, a, C, dx, _, rfl, ha, T.cl, T.no "start" (by simp), (by show 0 < 1000; decide), _, rfl, _, rfl, a, C, dx, _, rfl, upd_same, T.cl, T.no "end" (by simp), (by show 1 < 1000; decide), _, rfl, _, rfl, a, C, dx, _, rfl, upd_same, T.cl, T.no "test" (by simp), (by show 2 < 1000; decide), _, rfl, _, rfl, a, C, dx, _, rfl, upd_same, T.cl, T.no "body" (by simp), (by show 3 < 1000; decide), _, rfl, _, rfl, a, C, dx, _, rfl, upd_same, T.cl, T.no "other" (by simp), (by show 4 < 1000; decide), _, rfl, _, rfl, a, C, dx, _, rfl, upd_same, T.cl, T.no "else_if" (by simp), (by show 5 < 1000; decide), ?_⟩
      exact q _ 0 0 (fun c o n h => by rw [upd_ne n, upd_ne n, upd_ne n, upd_ne n, upd_ne n, upd_ne n]; exact h) (by rw [upd_same]; rfl)
abbrev s_While : Stmt := inClass (topS 45) 0
def F_While (us : List V) (z1 z2 : Int) : List (Str × V) := [("start", (us.getD 0 .non)), ("end", (us.getD 1 .non)), ("test", (us.getD 2 .non)), ("body", (us.getD 3 .non))]
theorem sc_While : FnScope ["self", "start", "end", "test", "body"] ["self", "start", "end", "test", "body"] (defScope s_While) := ⟨rfl, rfl, rfl, by decide +kernel, rfl, by decide +kernel, by decide +kernel⟩
theorem ok_While {f C : Addr} {fd : FuncData} {k : Nat} (F : Fun K "__init__" "While.__init__" s_While f fd) (T : NcT K C ["start", "end", "test", "body"]) : FnOk P w K mg base CX0 (k + 1) f fd ["self", "start", "end", "test", "body"] (spMk K C [.any, .any, .any, .any] F_While) := by
  refine F.ok sc_While (fun vs H Q E h => ?_) (fun cdv A outer s H vs Q E hr h => ?_)
  · obtain ⟨a, dx, us, rfl, _, hk, _⟩ := h
    have z := hk.length
    show us.length + 1 = _
    rw [z]
    rfl
  · obtain ⟨a, dx, us, rfl, ha, hk, q⟩ := h
    match us, hk, q with
    | [u0, u1, u2, u3], .cons h0 (.cons h1 (.cons h2 (.cons h3 .nil))), q =>
      refine ⟨_, (pss_cons (ps_fld (pv 0) (pv 1) rfl) (pss_cons (ps_fld (pv 0) (pv 2) rfl) (pss_cons (ps_fld (pv 0) (pv 3) rfl) (pss_one (ps_fld (pv 0) (pv 4) rfl))))), ?_⟩
      refine ⟨_, rfl, _, rfl, a, C, dx, _, rfl, ha, T.cl, T.no "start" (by simp), (by show 0 < 1000; decide), _, rfl, _, rfl, a, C, dx, _, rfl, upd_same, T.cl, T.no "end" (by simp), (by show 1 < 1000; decide), _, rfl, _, rfl, a, C, dx, _, rfl, upd_same, T.cl, T.no "test" (by simp), (by show 2 < 1000; decide), _, rfl, _, rfl, a, C, dx, _, rfl, upd_same, T.cl, T.no "body" (by simp), (by show 3 < 1000; decide), ?_⟩
      exact q _ 0 0 (fun c o n h => by rw [upd_ne n, upd_ne n, upd_ne n, upd_ne n]; exact h) (by rw [upd_same]; rfl)
abbrev s_For : Stmt := inClass (topS 46) 0
def F_For (us : List V) (z1 z2 : Int) : List (Str × V) := [("start", (us.getD 0 .non)), ("end", (us.getD 1 .non)), ("name", (us.getD 2 .non)), ("word_in", (us.getD 3 .non)), ("source", (us.getD 4 .non)), ("body", (us.getD 5 .non))]
theorem sc_For : FnScope ["self", "start", "end", "name", "word_in", "source", "body"] ["self", "start", "end", "name", "word_in", "source", "body"] (defScope s_For) := ⟨rfl, rfl, rfl, by decide +kernel, rfl, by decide +kernel, by decide +kernel⟩
theorem ok_For {f C : Addr} {fd : FuncData} {k : Nat} (F : Fun K "__init__" "For.__init__" s_For f fd) (T : NcT K C ["start", "end", "name", "word_in", "source", "body"]) : FnOk P w K mg base CX0 (k + 1) f fd ["self", "start", "end", "name", "word_in", "source", "body"] (spMk K C [.any, .any, .any, .any, .any, .any] F_For) := by
  refine F.ok sc_For (fun vs H Q E h => ?_) (fun cdv A outer s H vs Q E hr h => ?_)
  · obtain ⟨a, dx, us, rfl, _, hk, _⟩ := h
    have z := hk.length
    show us.length + 1 = _
    rw [z]
    rfl
  · obtain ⟨a, dx, us, rfl, ha, hk, q⟩ := h
    match us, hk, q with
    | [u0, u1, u2, u3, u4, u5], .cons h0 (.cons h1 (.cons h2 (.cons h3 (.cons h4 (.cons h5 .nil))))), q =>
      refine ⟨_, (pss_cons (ps_fld (pv 0) (pv 1) rfl) (pss_cons (ps_fld (pv 0) (pv 2) rfl) (pss_cons (ps_fld (pv 0) (pv 3) rfl) (pss_cons (ps_fld (pv 0) (pv 4) rfl) (pss_cons (ps_fld (pv 0) (pv 5) rfl) (pss_one (ps_fld (pv 0) (pv 6) rfl))))))), ?_⟩
      refine ⟨_, rfl, _, rfl, a, C, dx, _, rfl, ha, T.cl, T.no "start" (by simp), (by show 0 < 1000; decide), _, rfl, _, rfl, a, C, dx, _, rfl, upd_same, T.cl, T.no "end" (by simp), (by show 1 < 1000; decide), _, rfl, _, rfl, a, C, dx, _, rfl, upd_same, T.cl, T.no "name" (by simp), (by show 2 < 1000; decide), _, rfl, _, rfl, a, C, dx, _, rfl, upd_same, T.cl, T.no "word_in" (by simp), (by show 3 < 1000; decide), _, rfl, _, rfl, a, C, dx, _, rfl, upd_same, T.cl, T.no "source" (by simp), (by show 4 < 1000; decide), _, rfl, _, rfl, a, C, dx, _, rfl, upd_same, T.cl, T.no "body" (by simp), (by show 5 < 1000; decide), ?_⟩
      exact q _ 0 0 (fun c o n h => by rw [upd_ne n, upd_ne n, upd_ne n, upd_ne n, upd_ne n, upd_ne n]; exact h) (by rw [upd_same]; rfl)
abbrev s_Return : Stmt := inClass (topS 47) 0
def F_Return (us : List V) (z1 z2 : Int) : List (Str × V) := [("start", (us.getD 0 .non)), ("end", (us.getD 1 .non)), ("value", (us.getD 2 .non))]
theorem sc_Return : FnScope ["self", "start", "end", "value"] ["self", "start", "end", "value"] (defScope s_Return) := ⟨rfl, rfl, rfl, by decide +kernel, rfl, by decide +kernel, by decide +kernel⟩
theorem ok_Return {f C : Addr} {fd : FuncData} {k : Nat} (F : Fun K "__init__" "Return.__init__" s_Return f fd) (T : NcT K C ["start", "end", "value"]) : FnOk P w K mg base CX0 (k + 1) f fd ["self", "start", "end", "value"] (spMk K C [.any, .any, .any] F_Return) := by
  refine F.ok sc_Return (fun vs H Q E h => ?_) (fun cdv A outer s H vs Q E hr h => ?_)
  · obtain ⟨a, dx, us, rfl, _, hk, _⟩ := h
    have z := hk.length
    show us.length + 1 = _
    rw [z]
    rfl
  · obtain ⟨a, dx, us, rfl, ha, hk, q⟩ := h
    match us, hk, q with
    | [u0, u1, u2], .cons h0 (.cons h1 (.cons h2 .nil)), q =>
      refine ⟨_, (pss_cons (ps_fld (pv 0) (pv 1) rfl) (pss_cons (ps_fld (pv 0) (pv 2) rfl) (pss_one (ps_fld (pv 0) (pv 3) rfl)))), ?_⟩
      refine ⟨_, rfl, _, rfl, a, C, dx, _, rfl, ha, T.cl, T.no "start" (by simp), (by show 0 < 1000; decide), _, rfl, _, rfl, a, C, dx, _, rfl, upd_same, T.cl, T.no "end" (by simp), (by show 1 < 1000; decide), _, rfl, _, rfl, a, C, dx, _, rfl, upd_same, T.cl, T.no "value" (by simp), (by show 2 < 1000; decide), ?_⟩
      exact q _ 0 0 (fun c o n h => by rw [upd_ne n, upd_ne n, upd_ne n]; exact h) (by rw [upd_same]; rfl)
abbrev s_WordAlone : Stmt := inClass (topS 48) 0
def F_WordAlone (us : List V) (z1 z2 : Int) : List (Str × V) := [("start", (us.getD 0 .non)), ("end", (us.getD 1 .non)), ("word", (us.getD 2 .non))]
theorem sc_WordAlone : FnScope ["self", "start", "end", "word"] ["self", "start", "end", "word"] (defScope s_WordAlone) := ⟨rfl, rfl, rfl, by decide +kernel, rfl, by decide +kernel, by decide +kernel⟩
theorem ok_WordAlone {f C : Addr} {fd : FuncData} {k : Nat} (F : Fun K "__init__" "WordAlone.__init__" s_WordAlone f fd) (T : NcT K C ["start", "end", "word"]) : FnOk P w K mg base CX0 (k + 1) f fd ["self", "start", "end", "word"] (spMk K C [.any, .any, .any] F_WordAlone) := by
  refine F.ok sc_WordAlone (fun vs H Q E h => ?_) (fun cdv A outer s H vs Q E hr h => ?_)
  · obtain ⟨a, dx, us, rfl, _, hk, _⟩ := h
    have z := hk.length
    show us.length + 1 = _
    rw [z]
    rfl
  · obtain ⟨a, dx, us, rfl, ha, hk, q⟩ := h
    match us, hk, q with
    | [u0, u1, u2], .cons h0 (.cons h1 (.cons h2 .nil)), q =>
      refine ⟨_, (pss_cons (ps_fld (pv 0) (pv 1) rfl) (pss_cons (ps_fld (pv 0) (pv 2) rfl) (pss_one (ps_fld (pv 0) (pv 3) rfl)))), ?_⟩
      refine ⟨_, rfl, _, rfl, a, C, dx, _, rfl, ha, T.cl, T.no "start" (by simp), (by show 0 < 1000; decide), _, rfl, _, rfl, a, C, dx, _, rfl, upd_same, T.cl, T.no "end" (by simp), (by show 1 < 1000; decide), _, rfl, _, rfl, a, C, dx, _, rfl, upd_same, T.cl, T.no "word" (by simp), (by show 2 < 1000; decide), ?_⟩
      exact q _ 0 0 (fun c o n h => by rw [upd_ne n, upd_ne n, upd_ne n]; exact h) (by rw [upd_same]; rfl)
abbrev s_Evaluation : Stmt := inClass (topS 49) 0
def F_Evaluation (us : List V) (z1 z2 : Int) : List (Str × V) := [("start", (.int z1)), ("end", (us.getD 0 .non)), ("value", (us.getD 1 .non))]
theorem sc_Evaluation : FnScope ["self", "end", "value"] ["self", "end", "value"] (defScope s_Evaluation) := ⟨rfl, rfl, rfl, by decide +kernel, rfl, by decide +kernel, by decide +kernel⟩
theorem ok_Evaluation {f C : Addr} {fd : FuncData} {k : Nat} (F : Fun K "__init__" "Evaluation.__init__" s_Evaluation f fd) (T : NcT K C ["start", "end", "value"]) : FnOk P w K mg base CX0 (k + 1) f fd ["self", "end", "value"] (spMk K C [.any, .node] F_Evaluation) := by
  refine F.ok sc_Evaluation (fun vs H Q E h => ?_) (fun cdv A outer s H vs Q E hr h => ?_)
  · obtain ⟨a, dx, us, rfl, _, hk, _⟩ := h
    have z := hk.length
    show us.length + 1 = _
    rw [z]
    rfl
  · obtain ⟨a, dx, us, rfl, ha, hk, q⟩ := h
    match us, hk, q with
    | [u0, u1], .cons h0 (.cons h1 .nil), q =>
      obtain ⟨b1, C1, d1, fs1, x1, y1, rfl, n1⟩ := h1
      have nb1 := n1.other ha
      refine ⟨_, (pss_cons (ps_fld (pv 0) (pe_fld (pv 2) rfl) rfl) (pss_cons (ps_fld (pv 0) (pv 1) rfl) (pss_one (ps_fld (pv 0) (pv 2) rfl)))), ?_⟩
      refine ⟨_, rfl, b1, C1, d1, fs1, _, rfl, (by exact n1.at_), n1.cl, n1.ns, n1.l1, _, rfl, a, C, dx, _, rfl, ha, T.cl, T.no "start" (by simp), (by show 0 < 1000; decide), _, rfl, _, rfl, a, C, dx, _, rfl, upd_same, T.cl, T.no "end" (by simp), (by show 1 < 1000; decide), _, rfl, _, rfl, a, C, dx, _, rfl, upd_same, T.cl, T.no "value" (by simp), (by show 2 < 1000; decide), ?_⟩
      exact q _ x1 0 (fun c o n h => by rw [upd_ne n, upd_ne n, upd_ne n]; exact h) (by rw [upd_same]; rfl)
end
end KB
namespace KB
open PySem PySem.Spec PyProof.Rows L2
theorem made {H H2 : Hp} {x dx : Addr} {o : HO} (nx : H x = none) (nd : H dx = none) (k : KeepBut x (upd (upd H dx (.own x)) x o) H2) : Same H H2 := fun b o' h => by
  have n1 := ne_of_none h nx
  have n2 := ne_of_none h nd
  refine k b o' n1 ?_
  rw [upd_ne n1, upd_ne n2]
  exact h
def NmAt (CN : Addr) (H : Hp) (v : V) (t : List Nat) : Prop := ∃ a dx z y, v = .ref a ∧ H a = some (.ins CN dx [("text", .str (S t)), ("start", .int z), ("end", .int y)])
def SqA (K : PySem.W.Frag) (H : Hp) (a : Addr) (xs : List V) : Prop := SqL K H a xs ∨ SqT K H a xs
def spTN (K : PySem.W.Frag) (CU CS CN : Addr) : Sp := fun vs H Q E => ∃ (ts : List Tk) (n : Nat) (p : Addr) (s : PS) (a : Addr) (l : List (List Nat)), vs = [.ref p, .ref a] ∧ SqA K H a (l.map fun s => .str (S s)) ∧ CuAt CU ts n H p s ∧ Ps CU CS ts n p H (takeName ts n l s) (NmAt CN) Q E
theorem kind_name (k : Option Kind) : decide (V.str (kindS k) = V.str (Str.ofString "name")) = decide (k = some .name) := by
  cases k with
  | none => decide +kernel
  | some k => cases k <;> decide +kernel
/-- a class of trees, made by its name -/
structure MkT (K : PySem.W.Frag) (mg : Str → Option Value) (P : Program) (w : World) (base : Heap) (name : Str) (ps : List Str) (C f : Addr) (kds : List Kd) (F : List V → Int → Int → List (Str × V)) : Prop where
  M0 : Mk K C f
  g : mg name = some (.ref C)
  G : ∃ fd, FnOk P w K mg base CX0 1 f fd ("self" :: ps) (spMk K C kds F) ∧ Binds K fd ("self" :: ps) []
section
variable {P : Program} {w : World} {K : PySem.W.Frag} {mg : Str → Option Value} {base : Heap} {CU CS fS aO aC fNT fNK fNS fRF fTA fIB fEX fTI fTN fBE fEE fBI fEI CN fN : Addr}
theorem scTN : FnScope ["self", "taken", "text"] ["self", "taken"] (defScope sTN) := ⟨rfl, rfl, rfl, by decide +kernel, rfl, by decide +kernel, by decide +kernel⟩
theorem ok_TN {fd fdNT fdTA fdNK fdRF : FuncData} {d0 : List Value} {dv : List V} (F : FunD K "take_name" "Cursor.take_name" (defArgs sTN) (defBody sTN) (defScope sTN) dv [] fTN fd) (T : CuT K mg CU CS fS aO aC fNT fNK fNS fRF fTA fIB fEX fTI fTN fBE fEE fBI fEI) (M : MkT K mg P w base "Name" ["text", "start"] CN fN [.str, .int] F_Name)
    (GNT : FnOk P w K mg base CX0 1 fNT fdNT ["self", "further"] (spNT CU)) (bNT0 : Binds K fdNT ["self", "further"] d0) (dNT0 : Vals [.int 0] d0) (GNK : FnOk P w K mg base CX0 1 fNK fdNK ["self"] (spNK CU)) (bNK : Binds K fdNK ["self"] [])
    (GRF : FnOk P w K mg base (L2.CX P w) 3 fRF fdRF ["self"] (spRF CU CS)) (bRF : Binds K fdRF ["self"] []) (GTA : FnOk P w K mg base (L2.CX P w) 4 fTA fdTA ["self"] (spTA CU CS)) (bTA : Binds K fdTA ["self"] []) :
    FnOk P w K mg base (L2.CX P w) 5 fTN fd ["self", "taken"] (spTN K CU CS CN) := by
  refine F.ok scTN (fun vs H Q E h => ?_) (fun cdv A outer s H vs Q E hr4 h => ?_)
  · obtain ⟨ts, n, p, s, a, l, rfl, _⟩ := h
    rfl
  · obtain ⟨ts, n, p, s, aT, l, rfl, hT, c, q⟩ := h
    have hr1 := hr4.mono (show 1 ≤ 4 by decide)
    have hr2 := hr4.mono (show 2 ≤ 4 by decide)
    have hr3 := hr4.mono (show 3 ≤ 4 by decide)
    obtain ⟨fdN, GN, bN⟩ := M.G
    refine ⟨_,
(pss_cons (ps_set (i := 2) scTN.nd rfl (.inl rfl) (pe_meth0 (pv 0) T.cl T.mNT GNT hr1 bNT0 dNT0 pass0))
 (pss_cons (ps_if (PW.pt (pw_or (pt_cmpR op_ne (pe_meth0 (pv 0) T.cl T.mNK GNK hr1 bNK .nil pass0) pe_str (nomark _)) (pw_or1 (pt_cmpR op_in_seq (pv 2) (pv 1) (by rfl)))))
 (pss_one (ps_expr (pe_meth0 (pv 0) T.cl T.mRF GRF hr3 bRF .nil (passes_call (takes_of rfl rfl rfl rfl) (fun _ _ _ _ h => h)))))
 pss_nil)
 (pss_one (ps_ret (pe_make M.M0 GN hr2 (by rfl) M.g bN .nil pass0 (pa_cons (pv 2) (pa_cons (pe_meth0 (pv 0) T.cl T.mTA GTA hr4 bTA .nil (passes_call (takes_of rfl rfl rfl rfl) (fun _ _ _ _ h => h))) pa_nil))))))), ?_⟩
    obtain ⟨dx, a, qs, hp, hq, pq⟩ := c.ob
    unfold takeName at q
    refine ⟨_, rfl, p, dx, _, rfl, hp, rfl, ts, n, p, s, 0, rfl, c, ?_⟩
    refine ⟨_, rfl, p, dx, _, rfl, hp, rfl, ts, n, p, s, rfl, c, ?_⟩
    refine ⟨rfl, _, rfl, ?_⟩
    rw [kind_name]
    by_cases hk : kd ts s = some .name
    · refine iteF' (by rw [decide_eq_true hk]; rfl) ?_
      refine ⟨_, rfl, _, rfl, aT, _, rfl, hT, rfl, flat_words _, ?_⟩
      rw [in_b]
      refine ⟨_, rfl, bool_if (fun h1 => ?_) (fun h1 => ?_)⟩
      · rw [if_neg fun z => z.2 (of_decide_eq_true h1)] at q
        exact ⟨_, rfl, p, dx, _, rfl, hp, rfl, ts, n, p, s, rfl, c, q.err⟩
      · rw [if_pos ⟨hk, of_decide_eq_false h1⟩] at q
        refine ⟨_, rfl, _, rfl, p, dx, _, rfl, hp, rfl, ts, n, p, s, rfl, c, q.bnd fun z s' v H' k' c' r q' => ?_⟩
        intro x dx2 nx ndx _
        have hl : (tx ts 0 s).length ≤ 5000 := by
          unfold tx
          split
          · rename_i t ht
            exact c.lx t (List.mem_of_getElem? ht)
          · decide
        refine ⟨x, dx2, _, rfl, upd_same, .cons ⟨_, rfl, hl⟩ (.cons ⟨_, r⟩ .nil), fun H2 z1 z2 k2 h2 => ⟨rfl, ?_⟩⟩
        have sm := made nx ndx k2
        have r' : v = .int (z : Int) := r
        subst r'
        exact q' _ H2 (.same sm) (c'.same sm) ⟨x, dx2, _, _, rfl, h2⟩
    · refine iteT' (by rw [decide_eq_false hk]; rfl) ?_
      rw [if_neg fun z => hk z.1] at q
      exact ⟨_, rfl, p, dx, _, rfl, hp, rfl, ts, n, p, s, rfl, c, q.err⟩
end
end KB
namespace KB
open PySem PySem.Spec PyProof.Rows L2
abbrev sE_ : Stmt := topS 66
abbrev sRT : Stmt := topS 67
abbrev sIT : Stmt := topS 68
abbrev sPS : Stmt := topS 69
abbrev sPM : Stmt := topS 70
abbrev sFN : Stmt := topS 71
abbrev sSG : Stmt := topS 72
abbrev sAH : Stmt := topS 73
abbrev sCL : Stmt := topS 74
abbrev sAS : Stmt := topS 75
abbrev sAR : Stmt := topS 76
abbrev sSI : Stmt := topS 77
abbrev sLI : Stmt := topS 78
abbrev sCO : Stmt := topS 79
abbrev sMO : Stmt := topS 81
abbrev sTO1 : Stmt := topS 82
abbrev sDA : Stmt := topS 83
abbrev sRS : Stmt := topS 84
abbrev sIM : Stmt := topS 85
abbrev sAL : Stmt := topS 86
abbrev sFR : Stmt := topS 87
abbrev sIS : Stmt := topS 88
abbrev sII : Stmt := topS 89
abbrev sCC : Stmt := topS 90
abbrev sDE : Stmt := topS 91
abbrev sBL : Stmt := topS 92
abbrev sSS : Stmt := topS 93
abbrev sIF : Stmt := topS 94
abbrev sWH : Stmt := topS 95
abbrev sFO : Stmt := topS 96
abbrev sRE1 : Stmt := topS 97
abbrev sON : Stmt := topS 98
abbrev sAE : Stmt := topS 99
abbrev sCS1 : Stmt := topS 101
def constB : List (List Nat) := [[110, 111, 110, 101], [116, 114, 117, 101], [102, 97, 108, 115, 101]]
/-- a class of trees, made by its name -/
structure MkX (P : Program) (w : World) (K : PySem.W.Frag) (mg : Str → Option Value) (base : Heap) (name : Str) (ps : List Str) (C f : Addr) (kds : List Kd) (F : List V → Int → Int → List (Str × V)) where
  M0 : Mk K C f
  g : mg name = some (.ref C)
  fd : FuncData
  G : FnOk P w K mg base CX0 1 f fd ("self" :: ps) (spMk K C kds F)
  b : Binds K fd ("self" :: ps) []
/-- what isinstance asks of a class of trees; b: whether it is a target -/
structure CIn (K : PySem.W.Frag) (CN CM C : Addr) (b : Bool) : Prop where
  ha : PySem.W.findIn K (.ref C) "__class__" = some (some (.builtin "object.__class__"))
  hn : PySem.W.specialIn K (.builtin "object.__class__") "__get__" = some (some (.builtin "getset_descriptor.__get__"))
  ht : PySem.W.takesIn K (.builtin "object.__class__") = some true
  hm : PySem.W.mroIn K C (.type "object") = some true
  kit : PySem.W.kitAny K (.ref C) [.ref CN, .ref CM] = some b
structure NodeC (K : PySem.W.Frag) (CN CM C : Addr) (b : Bool) : Prop where
  cl : Cls K C
  ns : NoAttr K C "start"
  ne : NoAttr K C "end"
  ci : CIn K CN CM C b
/-- the table of the levels, as it stands written -/
def LevD (K : PySem.W.Frag) (w : World) (aL : Addr) : Prop := ∃ es n, K.lookup aL = some ⟨.type "dict", none, .dict es n, #[]⟩ ∧ PySem.W.KeysLit w.params es.toList ∧ (aL == sysModules) = false ∧ ∀ k : List Nat, (level k = 0 ∧ PySem.W.nsIn K aL (S k) = some none) ∨ ∃ t, PySem.W.nsIn K aL (S k) = some (some (.int (level k : Nat) t))
structure XT (P : Program) (w : World) (K : PySem.W.Frag) (mg : Str → Option Value) (base : Heap) where
  (CU CS fS aO aC fNT fNK fNS fRF fTA fIB fEX fTI fTN fBE fEE fBI fEI : Addr)
  T : CuT K mg CU CS fS aO aC fNT fNK fNS fRF fTA fIB fEX fTI fTN fBE fEE fBI fEI
  (fdNT fdNK fdRF fdTA fdEX fdTI fdTN fdBE fdEE fdBI fdEI : FuncData)
  (dN dT : List Value)
  aE : Addr
  GNK : FnOk P w K mg base CX0 1 fNK fdNK ["self"] (spNK CU)
  bNK : Binds K fdNK ["self"] []
  GRF : FnOk P w K mg base (L2.CX P w) 3 fRF fdRF ["self"] (spRF CU CS)
  bRF : Binds K fdRF ["self"] []
  GTA : FnOk P w K mg base (L2.CX P w) 4 fTA fdTA ["self"] (spTA CU CS)
  bTA : Binds K fdTA ["self"] []
  GEX : FnOk P w K mg base (L2.CX P w) 5 fEX fdEX ["self", "text"] (spEX CU CS)
  bEX : Binds K fdEX ["self", "text"] []
  GTI : FnOk P w K mg base (L2.CX P w) 5 fTI fdTI ["self", "text"] (spTI CU CS)
  bTI : Binds K fdTI ["self", "text"] []
  GBE : FnOk P w K mg base CX0 1 fBE fdBE ["self"] (spBE CU CS)
  bBE : Binds K fdBE ["self"] []
  GEE : FnOk P w K mg base CX0 1 fEE fdEE ["self"] (spEE CU CS)
  bEE : Binds K fdEE ["self"] []
  GBI : FnOk P w K mg base CX0 1 fBI fdBI ["self"] (spBI CU CS 1)
  bBI : Binds K fdBI ["self"] []
  GEI : FnOk P w K mg base CX0 1 fEI fdEI ["self"] (spBI CU CS (-1))
  bEI : Binds K fdEI ["self"] []
  GNT : FnOk P w K mg base CX0 1 fNT fdNT ["self", "further"] (spNT CU)
  bNT0 : Binds K fdNT ["self", "further"] dN
  dNT0 : Vals [.int 0] dN
  bNT1 : Binds K fdNT ["self", "further"] []
  (cName fName : Addr)
  (cLiteral fLiteral : Addr)
  (cGroup fGroup : Addr)
  (cListing fListing : Addr)
  (cComprehension fComprehension : Addr)
  (cMember fMember : Addr)
  (cIndex fIndex : Addr)
  (cArgument fArgument : Addr)
  (cCall fCall : Addr)
  (cUnary fUnary : Addr)
  (cBinary fBinary : Addr)
  (cParameter fParameter : Addr)
  (cFn fFn : Addr)
  (cImport fImport : Addr)
  (cImportItem fImportItem : Addr)
  (cFromImport fFromImport : Addr)
  (cAssignment fAssignment : Addr)
  (cDef fDef : Addr)
  (cClassBlock fClassBlock : Addr)
  (cOuterNames fOuterNames : Addr)
  (cIf fIf : Addr)
  (cWhile fWhile : Addr)
  (cFor fFor : Addr)
  (cReturn fReturn : Addr)
  (cWordAlone fWordAlone : Addr)
  (cEvaluation fEvaluation : Addr)
  GTN : FnOk P w K mg base (L2.CX P w) 5 fTN fdTN ["self", "taken"] (spTN K CU CS cName)
  bTN0 : Binds K fdTN ["self", "taken"] dT
  dTN0 : Vals [.ref aE] dT
  bTN : Binds K fdTN ["self", "taken"] []
  sE0 : ∀ H, SqT K H aE []
  mName : MkX P w K mg base "Name" ["text", "start"] cName fName [.str, .int] F_Name
  mLiteral : MkX P w K mg base "Literal" ["text", "start"] cLiteral fLiteral [.str, .int] F_Literal
  mGroup : MkX P w K mg base "Group" ["start", "end", "inner"] cGroup fGroup [.int, .int, .any] F_Group
  mListing : MkX P w K mg base "Listing" ["start", "end", "rows"] cListing fListing [.int, .int, .any] F_Listing
  mComprehension : MkX P w K mg base "Comprehension" ["start", "end", "row", "name", "source", "test"] cComprehension fComprehension [.int, .int, .any, .any, .any, .any] F_Comprehension
  mMember : MkX P w K mg base "Member" ["left", "name"] cMember fMember [.node, .node] F_Member
  mIndex : MkX P w K mg base "Index" ["left", "at", "end"] cIndex fIndex [.node, .any, .int] F_Index
  mArgument : MkX P w K mg base "Argument" ["keyword", "value"] cArgument fArgument [.onode, .node] F_Argument
  mCall : MkX P w K mg base "Call" ["called", "arguments", "end"] cCall fCall [.node, .any, .int] F_Call
  mUnary : MkX P w K mg base "Unary" ["sign", "start", "inner"] cUnary fUnary [.any, .int, .node] F_Unary
  mBinary : MkX P w K mg base "Binary" ["sign", "left", "right"] cBinary fBinary [.any, .node, .node] F_Binary
  mParameter : MkX P w K mg base "Parameter" ["name", "default"] cParameter fParameter [.node, .onode] F_Parameter
  mFn : MkX P w K mg base "Fn" ["start", "parameters", "body"] cFn fFn [.int, .any, .node] F_Fn
  mImport : MkX P w K mg base "Import" ["start", "end", "module", "alias"] cImport fImport [.any, .any, .any, .any] F_Import
  mImportItem : MkX P w K mg base "ImportItem" ["name", "alias"] cImportItem fImportItem [.node, .onode] F_ImportItem
  mFromImport : MkX P w K mg base "FromImport" ["start", "end", "module", "star", "rows"] cFromImport fFromImport [.any, .any, .any, .any, .any] F_FromImport
  mAssignment : MkX P w K mg base "Assignment" ["end", "targets", "value"] cAssignment fAssignment [.any, .nodes, .any] F_Assignment
  mDef : MkX P w K mg base "Def" ["start", "end", "name", "parameters", "body"] cDef fDef [.any, .any, .any, .any, .any] F_Def
  mClassBlock : MkX P w K mg base "ClassBlock" ["start", "end", "name", "base", "body"] cClassBlock fClassBlock [.any, .any, .any, .any, .any] F_ClassBlock
  mOuterNames : MkX P w K mg base "OuterNames" ["start", "end", "word", "names"] cOuterNames fOuterNames [.any, .any, .any, .any] F_OuterNames
  mIf : MkX P w K mg base "If" ["start", "end", "test", "body", "other", "else_if"] cIf fIf [.any, .any, .any, .any, .any, .any] F_If
  mWhile : MkX P w K mg base "While" ["start", "end", "test", "body"] cWhile fWhile [.any, .any, .any, .any] F_While
  mFor : MkX P w K mg base "For" ["start", "end", "name", "word_in", "source", "body"] cFor fFor [.any, .any, .any, .any, .any, .any] F_For
  mReturn : MkX P w K mg base "Return" ["start", "end", "value"] cReturn fReturn [.any, .any, .any] F_Return
  mWordAlone : MkX P w K mg base "WordAlone" ["start", "end", "word"] cWordAlone fWordAlone [.any, .any, .any] F_WordAlone
  mEvaluation : MkX P w K mg base "Evaluation" ["end", "value"] cEvaluation fEvaluation [.any, .node] F_Evaluation
  nName : NodeC K cName cMember cName true
  nMember : NodeC K cName cMember cMember true
  nLiteral : NodeC K cName cMember cLiteral false
  nGroup : NodeC K cName cMember cGroup false
  nListing : NodeC K cName cMember cListing false
  nComprehension : NodeC K cName cMember cComprehension false
  nIndex : NodeC K cName cMember cIndex false
  nCall : NodeC K cName cMember cCall false
  nUnary : NodeC K cName cMember cUnary false
  nBinary : NodeC K cName cMember cBinary false
  nFn : NodeC K cName cMember cFn false
  pcl : Cls K cParameter
  pna : NoAttr K cParameter "name"
  pde : NoAttr K cParameter "default"
  acl : Cls K cArgument
  ake : NoAttr K cArgument "keyword"
  nte : NoAttr K cName "text"
  isinstance : mg "isinstance" = none
  reversed : mg "reversed" = none
  gPLAIN : ∃ t, mg "PLAIN" = some (.int 0 t)
  gSTILL : ∃ t, mg "STILL" = some (.int 1 t)
  gFREE : ∃ t, mg "FREE" = some (.int 2 t)
  gLOOSEST : ∃ t, mg "LOOSEST" = some (.int 1 t)
  gNOT_LEVEL : ∃ t, mg "NOT_LEVEL" = some (.int 3 t)
  gCOMPARISON : ∃ t, mg "COMPARISON" = some (.int 4 t)
  gCLOSEST : ∃ t, mg "CLOSEST" = some (.int 6 t)
  aK : Addr
  gCON : mg "CONSTANTS" = some (.ref aK)
  sCON : ∀ H, SqT K H aK (constB.map fun s => .str (S s))
  aL : Addr
  gLEV : mg "LEVELS" = some (.ref aL)
  lev : LevD K w aL
  fE : Addr
  fdE : FuncData
  FE : Fun K "read_expression" "read_expression" sE_ fE fdE
  gE : mg "read_expression" = some (.ref fE)
  kE : PySem.W.keepIn K (.ref fE) = true
  bE : Binds K fdE ["cursor", "mode"] []
  fRT : Addr
  fdRT : FuncData
  FRT : Fun K "read_target" "read_target" sRT fRT fdRT
  gRT : mg "read_target" = some (.ref fRT)
  kRT : PySem.W.keepIn K (.ref fRT) = true
  bRT : Binds K fdRT ["cursor"] []
  fIT : Addr
  fdIT : FuncData
  FIT : Fun K "is_target" "is_target" sIT fIT fdIT
  gIT : mg "is_target" = some (.ref fIT)
  kIT : PySem.W.keepIn K (.ref fIT) = true
  bIT : Binds K fdIT ["found"] []
  fPS : Addr
  fdPS : FuncData
  FPS : Fun K "read_parameters" "read_parameters" sPS fPS fdPS
  gPS : mg "read_parameters" = some (.ref fPS)
  kPS : PySem.W.keepIn K (.ref fPS) = true
  bPS : Binds K fdPS ["cursor", "closer"] []
  fPM : Addr
  fdPM : FuncData
  FPM : Fun K "_read_parameter" "_read_parameter" sPM fPM fdPM
  gPM : mg "_read_parameter" = some (.ref fPM)
  kPM : PySem.W.keepIn K (.ref fPM) = true
  bPM : Binds K fdPM ["cursor", "ahead"] []
  fFN : Addr
  fdFN : FuncData
  FFN : Fun K "_read_fn" "_read_fn" sFN fFN fdFN
  gFN : mg "_read_fn" = some (.ref fFN)
  kFN : PySem.W.keepIn K (.ref fFN) = true
  bFN : Binds K fdFN ["cursor"] []
  fSG : Addr
  fdSG : FuncData
  FSG : Fun K "_read_signs" "_read_signs" sSG fSG fdSG
  gSG : mg "_read_signs" = some (.ref fSG)
  kSG : PySem.W.keepIn K (.ref fSG) = true
  bSG : Binds K fdSG ["cursor", "mode", "level"] []
  fAH : Addr
  fdAH : FuncData
  FAH : Fun K "_read_ahead" "_read_ahead" sAH fAH fdAH
  gAH : mg "_read_ahead" = some (.ref fAH)
  kAH : PySem.W.keepIn K (.ref fAH) = true
  bAH : Binds K fdAH ["cursor", "mode", "level"] []
  fCL : Addr
  fdCL : FuncData
  FCL : Fun K "_read_call" "_read_call" sCL fCL fdCL
  gCL : mg "_read_call" = some (.ref fCL)
  kCL : PySem.W.keepIn K (.ref fCL) = true
  bCL : Binds K fdCL ["cursor", "mode"] []
  fAS : Addr
  fdAS : FuncData
  FAS : Fun K "_read_arguments" "_read_arguments" sAS fAS fdAS
  gAS : mg "_read_arguments" = some (.ref fAS)
  kAS : PySem.W.keepIn K (.ref fAS) = true
  bAS : Binds K fdAS ["cursor"] []
  fAR : Addr
  fdAR : FuncData
  FAR : Fun K "_read_argument" "_read_argument" sAR fAR fdAR
  gAR : mg "_read_argument" = some (.ref fAR)
  kAR : PySem.W.keepIn K (.ref fAR) = true
  bAR : Binds K fdAR ["cursor", "ahead"] []
  fSI : Addr
  fdSI : FuncData
  FSI : Fun K "_read_single" "_read_single" sSI fSI fdSI
  gSI : mg "_read_single" = some (.ref fSI)
  kSI : PySem.W.keepIn K (.ref fSI) = true
  bSI : Binds K fdSI ["cursor", "mode"] []
  fLI : Addr
  fdLI : FuncData
  FLI : Fun K "_read_list" "_read_list" sLI fLI fdLI
  gLI : mg "_read_list" = some (.ref fLI)
  kLI : PySem.W.keepIn K (.ref fLI) = true
  bLI : Binds K fdLI ["cursor", "mode"] []
  fCO : Addr
  fdCO : FuncData
  FCO : Fun K "_read_comprehension" "_read_comprehension" sCO fCO fdCO
  gCO : mg "_read_comprehension" = some (.ref fCO)
  kCO : PySem.W.keepIn K (.ref fCO) = true
  bCO : Binds K fdCO ["cursor", "mode", "start", "row"] []
  fMO : Addr
  fdMO : FuncData
  FMO : Fun K "read_module" "read_module" sMO fMO fdMO
  gMO : mg "read_module" = some (.ref fMO)
  kMO : PySem.W.keepIn K (.ref fMO) = true
  bMO : Binds K fdMO ["text"] []
  fTO1 : Addr
  fdTO1 : FuncData
  FTO1 : Fun K "_read_top" "_read_top" sTO1 fTO1 fdTO1
  gTO1 : mg "_read_top" = some (.ref fTO1)
  kTO1 : PySem.W.keepIn K (.ref fTO1) = true
  bTO1 : Binds K fdTO1 ["cursor"] []
  fDA : Addr
  fdDA : FuncData
  FDA : Fun K "_read_def_or_assignment" "_read_def_or_assignment" sDA fDA fdDA
  gDA : mg "_read_def_or_assignment" = some (.ref fDA)
  kDA : PySem.W.keepIn K (.ref fDA) = true
  bDA : Binds K fdDA ["cursor"] []
  fRS : Addr
  fdRS : FuncData
  FRS : Fun K "_read_right_side" "_read_right_side" sRS fRS fdRS
  gRS : mg "_read_right_side" = some (.ref fRS)
  kRS : PySem.W.keepIn K (.ref fRS) = true
  bRS : Binds K fdRS ["cursor", "targets", "mode"] []
  fIM : Addr
  fdIM : FuncData
  FIM : Fun K "_read_import" "_read_import" sIM fIM fdIM
  gIM : mg "_read_import" = some (.ref fIM)
  kIM : PySem.W.keepIn K (.ref fIM) = true
  bIM : Binds K fdIM ["cursor"] []
  fAL : Addr
  fdAL : FuncData
  FAL : Fun K "_read_alias" "_read_alias" sAL fAL fdAL
  gAL : mg "_read_alias" = some (.ref fAL)
  kAL : PySem.W.keepIn K (.ref fAL) = true
  bAL : Binds K fdAL ["cursor"] []
  fFR : Addr
  fdFR : FuncData
  FFR : Fun K "_read_from" "_read_from" sFR fFR fdFR
  gFR : mg "_read_from" = some (.ref fFR)
  kFR : PySem.W.keepIn K (.ref fFR) = true
  bFR : Binds K fdFR ["cursor"] []
  fIS : Addr
  fdIS : FuncData
  FIS : Fun K "_read_items" "_read_items" sIS fIS fdIS
  gIS : mg "_read_items" = some (.ref fIS)
  kIS : PySem.W.keepIn K (.ref fIS) = true
  bIS : Binds K fdIS ["cursor"] []
  fII : Addr
  fdII : FuncData
  FII : Fun K "_read_item" "_read_item" sII fII fdII
  gII : mg "_read_item" = some (.ref fII)
  kII : PySem.W.keepIn K (.ref fII) = true
  bII : Binds K fdII ["cursor"] []
  fCC : Addr
  fdCC : FuncData
  FCC : Fun K "_read_class" "_read_class" sCC fCC fdCC
  gCC : mg "_read_class" = some (.ref fCC)
  kCC : PySem.W.keepIn K (.ref fCC) = true
  bCC : Binds K fdCC ["cursor"] []
  fDE : Addr
  fdDE : FuncData
  FDE : Fun K "_read_def" "_read_def" sDE fDE fdDE
  gDE : mg "_read_def" = some (.ref fDE)
  kDE : PySem.W.keepIn K (.ref fDE) = true
  bDE : Binds K fdDE ["cursor"] []
  fBL : Addr
  fdBL : FuncData
  FBL : Fun K "_read_block" "_read_block" sBL fBL fdBL
  gBL : mg "_read_block" = some (.ref fBL)
  kBL : PySem.W.keepIn K (.ref fBL) = true
  bBL : Binds K fdBL ["cursor", "looped"] []
  fSS : Addr
  fdSS : FuncData
  FSS : Fun K "_read_statement" "_read_statement" sSS fSS fdSS
  gSS : mg "_read_statement" = some (.ref fSS)
  kSS : PySem.W.keepIn K (.ref fSS) = true
  bSS : Binds K fdSS ["cursor", "looped"] []
  fIF : Addr
  fdIF : FuncData
  FIF : Fun K "_read_if" "_read_if" sIF fIF fdIF
  gIF : mg "_read_if" = some (.ref fIF)
  kIF : PySem.W.keepIn K (.ref fIF) = true
  bIF : Binds K fdIF ["cursor", "looped"] []
  fWH : Addr
  fdWH : FuncData
  FWH : Fun K "_read_while" "_read_while" sWH fWH fdWH
  gWH : mg "_read_while" = some (.ref fWH)
  kWH : PySem.W.keepIn K (.ref fWH) = true
  bWH : Binds K fdWH ["cursor"] []
  fFO : Addr
  fdFO : FuncData
  FFO : Fun K "_read_for" "_read_for" sFO fFO fdFO
  gFO : mg "_read_for" = some (.ref fFO)
  kFO : PySem.W.keepIn K (.ref fFO) = true
  bFO : Binds K fdFO ["cursor"] []
  fRE1 : Addr
  fdRE1 : FuncData
  FRE1 : Fun K "_read_return" "_read_return" sRE1 fRE1 fdRE1
  gRE1 : mg "_read_return" = some (.ref fRE1)
  kRE1 : PySem.W.keepIn K (.ref fRE1) = true
  bRE1 : Binds K fdRE1 ["cursor"] []
  fON : Addr
  fdON : FuncData
  FON : Fun K "_read_outer_names" "_read_outer_names" sON fON fdON
  gON : mg "_read_outer_names" = some (.ref fON)
  kON : PySem.W.keepIn K (.ref fON) = true
  bON : Binds K fdON ["cursor"] []
  fAE : Addr
  fdAE : FuncData
  FAE : Fun K "_read_assignment_or_evaluation" "_read_assignment_or_evaluation" sAE fAE fdAE
  gAE : mg "_read_assignment_or_evaluation" = some (.ref fAE)
  kAE : PySem.W.keepIn K (.ref fAE) = true
  bAE : Binds K fdAE ["cursor"] []
  fCS1 : Addr
  fdCS1 : FuncData
  FCS1 : Fun K "check_syntax" "check_syntax" sCS1 fCS1 fdCS1
  gCS1 : mg "check_syntax" = some (.ref fCS1)
  kCS1 : PySem.W.keepIn K (.ref fCS1) = true
  bCS1 : Binds K fdCS1 ["text"] []
section
variable {P : Program} {w : World} {K : PySem.W.Frag} {mg : Str → Option Value} {base : Heap}
/-- what stands where an expression was read; b: whether it is a target -/
def ShAt (X : XT P w K mg base) (H : Hp) (v : V) (x : Sh) : Prop := ∃ b C d fs z1 z2, v = .ref b ∧ NdOf K H b C d fs z1 z2 ∧ CIn K X.cName X.cMember C x.target
theorem NdOf.keep {H H' : Hp} {b C d p CU : Addr} {fs : List (Str × V)} {z1 z2 : Int} {ts : List Tk} {n : Nat} {s : PS} (h : NdOf K H b C d fs z1 z2) (c : CuAt CU ts n H p s) (k : Kc p H H') : NdOf K H' b C d fs z1 z2 := by
  refine ⟨k.1 b _ (fun e => ?_) h.at_, h.cl, h.ns, h.ne, h.l1, h.l2⟩
  obtain ⟨dx, q, qs, hp, _⟩ := c.ob
  have h1 := h.at_
  rw [e, hp] at h1
  cases h1
  exact absurd h.l1 (by show (none : Option V) ≠ _; simp)
theorem NdOf.same {H H' : Hp} {b C d : Addr} {fs : List (Str × V)} {z1 z2 : Int} (h : NdOf K H b C d fs z1 z2) (k : Same H H') : NdOf K H' b C d fs z1 z2 := ⟨k _ _ h.at_, h.cl, h.ns, h.ne, h.l1, h.l2⟩
theorem ShAt.keep {X : XT P w K mg base} {H H' : Hp} {v : V} {x : Sh} {p CU : Addr} {ts : List Tk} {n : Nat} {s : PS} (h : ShAt X H v x) (c : CuAt CU ts n H p s) (k : Kc p H H') : ShAt X H' v x := by
  obtain ⟨b, C, d, fs, z1, z2, e, nd, ci⟩ := h
  exact ⟨b, C, d, fs, z1, z2, e, nd.keep c k, ci⟩
theorem ShAt.same {X : XT P w K mg base} {H H' : Hp} {v : V} {x : Sh} (h : ShAt X H v x) (k : Same H H') : ShAt X H' v x := by
  obtain ⟨b, C, d, fs, z1, z2, e, nd, ci⟩ := h
  exact ⟨b, C, d, fs, z1, z2, e, nd.same k, ci⟩
theorem ShAt.nd {X : XT P w K mg base} {H : Hp} {v : V} {x : Sh} (h : ShAt X H v x) : NdAt K H v := by
  obtain ⟨b, C, d, fs, z1, z2, e, nd, ci⟩ := h
  exact ⟨b, C, d, fs, z1, z2, e, nd⟩
theorem NmAt.nd {X : XT P w K mg base} {H : Hp} {v : V} {t : List Nat} (h : NmAt X.cName H v t) : ShAt X H v (.name t) := by
  obtain ⟨a, dx, z, y, e, h⟩ := h
  exact ⟨a, _, dx, _, z, y, e, ⟨h, X.nName.cl, X.nName.ns, X.nName.ne, rfl, rfl⟩, X.nName.ci⟩
theorem NmAt.keep {X : XT P w K mg base} {H H' : Hp} {v : V} {t : List Nat} {p CU : Addr} {ts : List Tk} {n : Nat} {s : PS} (h : NmAt X.cName H v t) (c : CuAt CU ts n H p s) (k : Kc p H H') : NmAt X.cName H' v t := by
  have h2 := h.nd (X := X)
  obtain ⟨a, dx, z, y, e, h⟩ := h
  refine ⟨a, dx, z, y, e, k.1 a _ (fun e2 => ?_) h⟩
  obtain ⟨dx2, q, qs, hp, _⟩ := c.ob
  rw [e2, hp] at h
  cases h
theorem NmAt.same {CN : Addr} {H H' : Hp} {v : V} {t : List Nat} (h : NmAt CN H v t) (k : Same H H') : NmAt CN H' v t := by
  obtain ⟨a, dx, z, y, e, h⟩ := h
  exact ⟨a, dx, z, y, e, k _ _ h⟩
def anyV {α : Type} : Hp → V → α → Prop := fun _ _ _ => True
/-- promises by the cursor alone, with a mode, with a mode and a level -/
def sp1 (X : XT P w K mg base) {α : Type} (x : List Tk → Nat → M α) (R : Hp → V → α → Prop) : Sp := fun vs H Q E => ∃ (ts : List Tk) (n : Nat) (p : Addr) (s : PS), vs = [.ref p] ∧ CuAt X.CU ts n H p s ∧ Ps X.CU X.CS ts n p H (x ts n s) R Q E
def sp2 (X : XT P w K mg base) {α : Type} (x : List Tk → Nat → Nat → M α) (R : Hp → V → α → Prop) : Sp := fun vs H Q E => ∃ (ts : List Tk) (n : Nat) (p : Addr) (s : PS) (m : Nat), vs = [.ref p, .int (m : Int)] ∧ CuAt X.CU ts n H p s ∧ Ps X.CU X.CS ts n p H (x ts n m s) R Q E
def sp3 (X : XT P w K mg base) {α : Type} (x : List Tk → Nat → Nat → Nat → M α) (R : Hp → V → α → Prop) : Sp := fun vs H Q E => ∃ (ts : List Tk) (n : Nat) (p : Addr) (s : PS) (m l : Nat), vs = [.ref p, .int (m : Int), .int (l : Int)] ∧ CuAt X.CU ts n H p s ∧ Ps X.CU X.CS ts n p H (x ts n m l s) R Q E
def spW (X : XT P w K mg base) {α : Type} (x : List Tk → Nat → List Nat → M α) (R : Hp → V → α → Prop) : Sp := fun vs H Q E => ∃ (ts : List Tk) (n : Nat) (p : Addr) (s : PS) (c : List Nat), vs = [.ref p, .str (S c)] ∧ CuAt X.CU ts n H p s ∧ Ps X.CU X.CS ts n p H (x ts n c s) R Q E
def spE (X : XT P w K mg base) (d : Nat) : Sp := sp2 X (fun ts n m => (par ts n d).expr m) (ShAt X)
def spS (X : XT P w K mg base) (d : Nat) : Sp := fun vs H Q E => ∃ (ts : List Tk) (n : Nat) (p : Addr) (s : PS) (m l : Nat), vs = [.ref p, .int (m : Int), .int (l : Int)] ∧ 1 ≤ l ∧ CuAt X.CU ts n H p s ∧ Ps X.CU X.CS ts n p H ((par ts n d).signs m l s) (ShAt X) Q E
theorem ArgOk.same {H H' : Hp} {v : V} {k : Kd} (h : ArgOk K H v k) (sm : Same H H') : ArgOk K H' v k := by
  cases k with
  | any => trivial
  | int => exact h
  | str => exact h
  | node =>
    obtain ⟨b, C, d, fs, z1, z2, e, nd⟩ := h
    exact ⟨b, C, d, fs, z1, z2, e, nd.same sm⟩
  | onode =>
    rcases h with e | ⟨b, C, d, fs, z1, z2, e, nd⟩
    · exact .inl e
    · exact .inr ⟨b, C, d, fs, z1, z2, e, nd.same sm⟩
  | nodes =>
    obtain ⟨q, x, xs, e, hq, b, C, d, fs, z1, z2, e2, nd⟩ := h
    exact ⟨q, x, xs, e, sm _ _ hq, b, C, d, fs, z1, z2, e2, nd.same sm⟩
theorem paired_imp2 {α β : Type} {R R' : α → β → Prop} {as : List α} {bs : List β} (h : Paired R as bs) (k : ∀ a b, R a b → R' a b) : Paired R' as bs := by
  induction h with
  | nil => exact .nil
  | cons h _ ih => exact .cons (k _ _ h) ih
theorem mk_ok {C x dx : Addr} {kds : List Kd} {F : List V → Int → Int → List (Str × V)} {H : Hp} {us : List V} {Q : V → Hp → Prop} {E : XK} (nx : H x = none) (nd : H dx = none) (ha : Paired (ArgOk K H) us kds)
    (k : ∀ (H' : Hp) (z1 z2 : Int), Same H H' → H' x = some (.ins C dx (F us z1 z2)) → Q (.ref x) H') : spMk K C kds F (V.ref x :: (us ++ [])) (upd (upd H dx (.own x)) x (.ins C dx [])) (fun v H2 => v = .non ∧ Q (.ref x) H2) E := by
  have sm : Same H (upd (upd H dx (.own x)) x (.ins C dx [])) := made nx nd (.refl _ _)
  refine ⟨x, dx, us, by rw [List.append_nil], upd_same, paired_imp2 ha fun a b z => z.same sm, fun H' z1 z2 kk h => ⟨rfl, k H' z1 z2 (made nx nd kk) h⟩⟩
theorem NodeC.sh {X : XT P w K mg base} {C x d : Addr} {H : Hp} {fs : List (Str × V)} {z1 z2 : Int} {sh : Sh} (nc : NodeC K X.cName X.cMember C sh.target) (h : H x = some (.ins C d fs)) (l1 : fs.lookup ("start" : Str) = some (.int z1)) (l2 : fs.lookup ("end" : Str) = some (.int z2)) : ShAt X H (.ref x) sh :=
  ⟨x, C, d, fs, z1, z2, rfl, ⟨h, nc.cl, nc.ns, nc.ne, l1, l2⟩, nc.ci⟩
theorem M.assoc {α β γ : Type} (x : M α) (f : α → M β) (g : β → M γ) : (x.bnd f).bnd g = x.bnd fun a => (f a).bnd g := by
  funext s
  unfold M.bnd
  cases x s with
  | none => rfl
  | some r =>
    match r with
    | .error e => rfl
    | .ok (a, s') => rfl
theorem M.retb {α β : Type} (a : α) (f : α → M β) : (M.ret a).bnd f = f a := rfl
theorem scFN : FnScope ["cursor", "start", "parameters"] ["cursor"] (defScope sFN) := ⟨rfl, rfl, rfl, by decide +kernel, rfl, by decide +kernel, by decide +kernel⟩
theorem ok_FN (X : XT P w K mg base) {d : Nat} (GE : FnOk P w K mg base (L2.CX P w) (5 + 7 * d) X.fE X.fdE ["cursor", "mode"] (spE X d)) (GPS : FnOk P w K mg base (L2.CX P w) (7 + 7 * d) X.fPS X.fdPS ["cursor", "closer"] (spW X (fun ts n => paramsS ts n (par ts n d)) anyV)) :
    FnOk P w K mg base (L2.CX P w) (8 + 7 * d) X.fFN X.fdFN ["cursor"] (sp1 X (fun ts n => fnS ts n (par ts n d)) (ShAt X)) := by
  rw [show 8 + 7 * d = (7 + 7 * d) + 1 by omega]
  refine X.FFN.okX scFN (fun vs H Q E h => ?_) (fun cdv A outer s H vs Q E hr h => ?_)
  · obtain ⟨ts, n, p, s, rfl, _⟩ := h
    rfl
  · obtain ⟨ts, n, p, s, rfl, c, q⟩ := h
    obtain ⟨tF, gFREE⟩ := X.gFREE
    refine ⟨_,
(pss_cons (ps_set (i := 1) scFN.nd rfl (.inl rfl) (pe_meth (pv 0) X.T.cl X.T.mEX X.GEX (hr.mono (by omega)) X.bEX .nil (passes_call (takes_of rfl rfl rfl rfl) (fun _ _ _ _ h => h)) (pa_cons pe_str pa_nil)))
 (pss_cons (ps_set (i := 2) scFN.nd rfl (.inl rfl) (pe_call GPS (hr.mono (by omega)) (by rfl) X.gPS X.kPS X.bPS .nil (passes_call (takes_of rfl rfl rfl rfl) (fun _ _ _ _ h => h)) (pa_cons (pv 0) (pa_cons pe_str pa_nil))))
 (pss_one (ps_ret (pe_make X.mFn.M0 X.mFn.G (hr.mono (by omega)) (by rfl) X.mFn.g X.mFn.b .nil pass0 (pa_cons (pv 1) (pa_cons (pv 2) (pa_cons (pe_call GE (hr.mono (by omega)) (by rfl) X.gE X.kE X.bE .nil (passes_call (takes_of rfl rfl rfl rfl) (fun _ _ _ _ h => h)) (pa_cons (pv 0) (pa_cons (pe_glob (v := .int 2) rfl gFREE ⟨_, rfl⟩) pa_nil))) pa_nil)))))))), ?_⟩
    unfold fnS at q
    obtain ⟨dx, a, qs, hp, hq, pq⟩ := c.ob
    have eF : Str.ofString "fn" = S [102, 110] := by decide +kernel
    have eC : Str.ofString ":" = S [58] := by decide +kernel
    refine ⟨_, rfl, p, dx, _, rfl, hp, rfl, ts, n, p, s, _, by rw [eF]; rfl, c, q.bnd fun z s1 v1 H1 k1 c1 r1 q1 => ?_⟩
    refine ⟨_, rfl, ts, n, p, s1, _, by rw [eC]; rfl, c1, q1.bnd fun z2 s2 v2 H2 k2 c2 r2 q2 => ?_⟩
    refine ⟨_, rfl, _, rfl, _, rfl, ts, n, p, s2, 2, rfl, c2, q2.bnd fun z3 s3 v3 H3 k3 c3 r3 q3 => ?_⟩
    intro x dx2 nx ndx _
    have r1' : v1 = .int (z : Int) := r1
    subst r1'
    refine mk_ok nx ndx (.cons ⟨_, rfl⟩ (.cons trivial (.cons r3.nd .nil))) fun H' y1 y2 sm h => ?_
    exact q3 _ H' (.same sm) (c3.same sm) (NodeC.sh (sh := .other) X.nFn h rfl rfl)
theorem scCO : FnScope ["cursor", "mode", "start", "row", "name", "source", "test"] ["cursor", "mode", "start", "row"] (defScope sCO) := ⟨rfl, rfl, rfl, by decide +kernel, rfl, by decide +kernel, by decide +kernel⟩
def spCO (X : XT P w K mg base) (d : Nat) : Sp := fun vs H Q E => ∃ (ts : List Tk) (n : Nat) (p : Addr) (s : PS) (m : Nat) (z : Int) (r : V), vs = [.ref p, .int (m : Int), .int z, r] ∧ CuAt X.CU ts n H p s ∧ Ps X.CU X.CS ts n p H (compS ts n (par ts n d) m s) (ShAt X) Q E
theorem ok_CO (X : XT P w K mg base) {d : Nat} (GE : FnOk P w K mg base (L2.CX P w) (5 + 7 * d) X.fE X.fdE ["cursor", "mode"] (spE X d)) :
    FnOk P w K mg base (L2.CX P w) (6 + 7 * d) X.fCO X.fdCO ["cursor", "mode", "start", "row"] (spCO X d) := by
  rw [show 6 + 7 * d = (5 + 7 * d) + 1 by omega]
  refine X.FCO.okX scCO (fun vs H Q E h => ?_) (fun cdv A outer s H vs Q E hr h => ?_)
  · obtain ⟨ts, n, p, s, m, z, r, rfl, _⟩ := h
    rfl
  · obtain ⟨ts, n, p, s, m, z0, r, rfl, c, q⟩ := h
    refine ⟨_,
(pss_cons (ps_expr (pe_meth (pv 0) X.T.cl X.T.mEX X.GEX (hr.mono (by omega)) X.bEX .nil (passes_call (takes_of rfl rfl rfl rfl) (fun _ _ _ _ h => h)) (pa_cons pe_str pa_nil)))
 (pss_cons (ps_set (i := 4) scCO.nd rfl (.inl rfl) (pe_meth0 (pv 0) X.T.cl X.T.mTN X.GTN (hr.mono (by omega)) X.bTN0 X.dTN0 (passes_call (takes_of rfl rfl rfl rfl) (fun _ _ _ _ h => h))))
 (pss_cons (ps_expr (pe_meth (pv 0) X.T.cl X.T.mEX X.GEX (hr.mono (by omega)) X.bEX .nil (passes_call (takes_of rfl rfl rfl rfl) (fun _ _ _ _ h => h)) (pa_cons pe_str pa_nil)))
 (pss_cons (ps_set (i := 5) scCO.nd rfl (.inl rfl) (pe_call GE (hr.mono (by omega)) (by rfl) X.gE X.kE X.bE .nil (passes_call (takes_of rfl rfl rfl rfl) (fun _ _ _ _ h => h)) (pa_cons (pv 0) (pa_cons (pv 1) pa_nil))))
 (pss_cons (ps_set (i := 6) scCO.nd rfl (.inl rfl) pe_non)
 (Evl.pss_cut (ps_if (pt_val (pe_meth (pv 0) X.T.cl X.T.mTI X.GTI (hr.mono (by omega)) X.bTI .nil (passes_call (takes_of rfl rfl rfl rfl) (fun _ _ _ _ h => h)) (pa_cons pe_str pa_nil)))
 (pss_one (ps_set (i := 6) scCO.nd rfl (.inl rfl) (pe_call GE (hr.mono (by omega)) (by rfl) X.gE X.kE X.bE .nil (passes_call (takes_of rfl rfl rfl rfl) (fun _ _ _ _ h => h)) (pa_cons (pv 0) (pa_cons (pv 1) pa_nil)))))
 pss_nil)
 (pss_cons (ps_expr (pe_meth (pv 0) X.T.cl X.T.mEX X.GEX (hr.mono (by omega)) X.bEX .nil (passes_call (takes_of rfl rfl rfl rfl) (fun _ _ _ _ h => h)) (pa_cons pe_str pa_nil)))
 (pss_one (ps_ret (pe_make X.mComprehension.M0 X.mComprehension.G (hr.mono (by omega)) (by rfl) X.mComprehension.g X.mComprehension.b .nil pass0 (pa_cons (pv 2) (pa_cons (pe_fld (pv 0) rfl) (pa_cons (pv 3) (pa_cons (pv 4) (pa_cons (pv 5) (pa_cons (pv 6) pa_nil)))))))))))))))), ?_⟩
    unfold compS at q
    have eF : Str.ofString "for" = S [102, 111, 114] := by decide +kernel
    have eI : Str.ofString "in" = S [105, 110] := by decide +kernel
    have eIf : Str.ofString "if" = S [105, 102] := by decide +kernel
    have eB : Str.ofString "]" = S [93] := by decide +kernel
    obtain ⟨dx, _, _, hp, _⟩ := c.ob
    refine ⟨_, rfl, p, dx, _, rfl, hp, rfl, ts, n, p, s, _, by rw [eF]; rfl, c, q.bnd fun _ s1 v1 H1 k1 c1 r1 q1 => ?_⟩
    clear hp dx
    obtain ⟨dx, _, _, hp, _⟩ := c1.ob
    refine ⟨_, rfl, p, dx, _, rfl, hp, rfl, ts, n, p, s1, X.aE, [], rfl, .inr (X.sE0 _), c1, q1.bnd fun _ s2 v2 H2 k2 c2 r2 q2 => ?_⟩
    clear hp dx
    obtain ⟨dx, _, _, hp, _⟩ := c2.ob
    refine ⟨_, rfl, p, dx, _, rfl, hp, rfl, ts, n, p, s2, _, by rw [eI]; rfl, c2, q2.bnd fun _ s3 v3 H3 k3 c3 r3 q3 => ?_⟩
    refine ⟨_, rfl, _, rfl, ts, n, p, s3, m, rfl, c3, q3.bnd fun _ s4 v4 H4 k4 c4 r4 q4 => ?_⟩
    clear hp dx
    obtain ⟨dx, _, _, hp, _⟩ := c4.ob
    refine ⟨fun σ H' => ∃ s6 v6, σ = [some (.ref p), some (.int (m : Int)), some (.int z0), some r, some v2, some v4, some v6] ∧ CuAt X.CU ts n H' p s6 ∧ Ps X.CU X.CS ts n p H' ((expect ts n [93]).bnd (fun _ => M.ret .other) s6) (ShAt X) Q E, ?_, ?_⟩
    · refine ⟨_, rfl, p, dx, _, rfl, hp, rfl, ts, n, p, s4, _, by rw [eIf]; rfl, c4, q4.bnd fun b s5 v5 H5 k5 c5 r5 q5 => ?_⟩
      have r5' : v5 = .bl b := r5
      subst r5'
      cases b with
      | true =>
        rw [if_pos rfl, M.assoc] at q5
        refine ⟨_, rfl, iteT ?_⟩
        exact ⟨_, rfl, _, rfl, ts, n, p, s5, m, rfl, c5, q5.bnd fun _ s6 v6 H6 k6 c6 r6 q6 => ⟨s6, v6, rfl, c6, q6⟩⟩
      | false =>
        rw [if_neg (by decide)] at q5
        refine ⟨_, rfl, iteF ?_⟩
        exact ⟨s5, .non, rfl, c5, q5⟩
    · rintro σ H6 ⟨s6, v6, rfl, c6, q6⟩
      clear hp dx
      obtain ⟨dx, _, _, hp, _⟩ := c6.ob
      refine ⟨_, rfl, p, dx, _, rfl, hp, rfl, ts, n, p, s6, _, by rw [eB]; rfl, c6, q6.bnd fun _ s7 v7 H7 k7 c7 r7 q7 => ?_⟩
      clear hp dx
      obtain ⟨dx, qa, _, hp, _⟩ := c7.ob
      refine ⟨_, rfl, _, rfl, p, X.CU, dx, _, _, rfl, hp, X.T.cl, X.T.nE, rfl, _, rfl, _, rfl, _, rfl, _, rfl, ?_⟩
      intro x dx2 nx ndx _
      refine mk_ok nx ndx (.cons ⟨_, rfl⟩ (.cons ⟨_, rfl⟩ (.cons trivial (.cons trivial (.cons trivial (.cons trivial .nil)))))) fun H' y1 y2 sm h => ?_
      exact q7 _ H' (.same sm) (c7.same sm) (NodeC.sh (sh := .other) X.nComprehension h rfl rfl)
end
end KB
namespace KB
open PySem PySem.Spec PyProof.Rows L2
section
variable {P : Program} {w : World} {K : PySem.W.Frag} {mg : Str → Option Value} {base : Heap}
theorem Ps.eq {CU CS : Addr} {ts : List Tk} {n : Nat} {p : Addr} {H : Hp} {α : Type} {r r' : Rs α} {R : Hp → V → α → Prop} {Q : VK} {E : XK} (h : Ps CU CS ts n p H r R Q E) (e : r = r') : Ps CU CS ts n p H r' R Q E := e ▸ h
theorem scLI : FnScope ["cursor", "mode", "start", "rows"] ["cursor", "mode"] (defScope sLI) := ⟨rfl, rfl, rfl, by decide +kernel, rfl, by decide +kernel, by decide +kernel⟩
theorem ok_LI (X : XT P w K mg base) {d : Nat} (GE : FnOk P w K mg base (L2.CX P w) (5 + 7 * d) X.fE X.fdE ["cursor", "mode"] (spE X d)) (GCO : FnOk P w K mg base (L2.CX P w) (6 + 7 * d) X.fCO X.fdCO ["cursor", "mode", "start", "row"] (spCO X d)) :
    FnOk P w K mg base (L2.CX P w) (7 + 7 * d) X.fLI X.fdLI ["cursor", "mode"] (sp2 X (fun ts n m => listS ts n (par ts n d) m) (ShAt X)) := by
  rw [show 7 + 7 * d = (6 + 7 * d) + 1 by omega]
  refine X.FLI.okX scLI (fun vs H Q E h => ?_) (fun cdv A outer s H vs Q E hr h => ?_)
  · obtain ⟨ts, n, p, s, m, rfl, _⟩ := h
    rfl
  · obtain ⟨ts, n, p, s, m, rfl, c, q⟩ := h
    refine ⟨_,
(pss_cons (ps_set (i := 2) scLI.nd rfl (.inl rfl) (pe_meth (pv 0) X.T.cl X.T.mEX X.GEX (hr.mono (by omega)) X.bEX .nil (passes_call (takes_of rfl rfl rfl rfl) (fun _ _ _ _ h => h)) (pa_cons pe_str pa_nil)))
 (pss_cons (ps_if (pt_val (pe_meth (pv 0) X.T.cl X.T.mTI X.GTI (hr.mono (by omega)) X.bTI .nil (passes_call (takes_of rfl rfl rfl rfl) (fun _ _ _ _ h => h)) (pa_cons pe_str pa_nil)))
 (pss_one (ps_ret (pe_make X.mListing.M0 X.mListing.G (hr.mono (by omega)) (by rfl) X.mListing.g X.mListing.b .nil pass0 (pa_cons (pv 2) (pa_cons (pe_fld (pv 0) rfl) (pa_cons (pe_lst pa_nil) pa_nil))))))
 pss_nil)
 (pss_cons (ps_set (i := 3) scLI.nd rfl (.inl rfl) (pe_lst (pa_cons (pe_call GE (hr.mono (by omega)) (by rfl) X.gE X.kE X.bE .nil (passes_call (takes_of rfl rfl rfl rfl) (fun _ _ _ _ h => h)) (pa_cons (pv 0) (pa_cons (pv 1) pa_nil))) pa_nil)))
 (pss_cons (ps_if (pt_cmpR op_eq (pe_meth0 (pv 0) X.T.cl X.T.mNT X.GNT (hr.mono (by omega)) X.bNT0 X.dNT0 pass0) pe_str (nomark _))
 (pss_one (ps_ret (pe_call GCO (hr.mono (by omega)) (by rfl) X.gCO X.kCO X.bCO .nil (passes_call (takes_of rfl rfl rfl rfl) (fun _ _ _ _ h => h)) (pa_cons (pv 0) (pa_cons (pv 1) (pa_cons (pv 2) (pa_cons (pe_ix ix_list (pv 3) pe_int (fun _ _ => rfl)) pa_nil)))))))
 pss_nil)
 (pss_cons (ps_while (passes_of rfl) (pt_val (pe_meth (pv 0) X.T.cl X.T.mTI X.GTI (hr.mono (by omega)) X.bTI .nil (passes_call (takes_of rfl rfl rfl rfl) (fun _ _ _ _ h => h)) (pa_cons pe_str pa_nil)))
 (pss_one (ps_expr (pe_bm PySem.F.plainAttrs_list PySem.F.slot_list_append PySem.F.type_list_append mt_append (pv 3) (pa_cons (pe_call GE (hr.mono (by omega)) (by rfl) X.gE X.kE X.bE .nil (passes_call (takes_of rfl rfl rfl rfl) (fun _ _ _ _ h => h)) (pa_cons (pv 0) (pa_cons (pv 1) pa_nil))) pa_nil)))))
 (pss_cons (ps_expr (pe_meth (pv 0) X.T.cl X.T.mEX X.GEX (hr.mono (by omega)) X.bEX .nil (passes_call (takes_of rfl rfl rfl rfl) (fun _ _ _ _ h => h)) (pa_cons pe_str pa_nil)))
 (pss_one (ps_ret (pe_make X.mListing.M0 X.mListing.G (hr.mono (by omega)) (by rfl) X.mListing.g X.mListing.b .nil pass0 (pa_cons (pv 2) (pa_cons (pe_fld (pv 0) rfl) (pa_cons (pv 3) pa_nil)))))))))))), ?_⟩
    unfold listS at q
    have eO : Str.ofString "[" = S [91] := by decide +kernel
    have eB : Str.ofString "]" = S [93] := by decide +kernel
    have eF : Str.ofString "for" = S [102, 111, 114] := by decide +kernel
    have eK : Str.ofString "," = S [44] := by decide +kernel
    obtain ⟨dx, _, _, hp, _⟩ := c.ob
    refine ⟨_, rfl, p, dx, _, rfl, hp, rfl, ts, n, p, s, _, by rw [eO]; rfl, c, q.bnd fun z1 s1 v1 H1 k1 c1 r1 q1 => ?_⟩
    have r1' : v1 = .int (z1 : Int) := r1
    subst r1'
    clear hp dx
    obtain ⟨dx, _, _, hp, _⟩ := c1.ob
    refine ⟨_, rfl, p, dx, _, rfl, hp, rfl, ts, n, p, s1, _, by rw [eB]; rfl, c1, q1.bnd fun b s2 v2 H2 k2 c2 r2 q2 => ?_⟩
    have r2' : v2 = .bl b := r2
    subst r2'
    clear hp dx
    obtain ⟨dx, _, _, hp, _⟩ := c2.ob
    cases b with
    | true =>
      rw [if_pos rfl] at q2
      refine ⟨_, rfl, iteT ?_⟩
      refine ⟨_, rfl, _, rfl, p, X.CU, dx, _, _, rfl, hp, X.T.cl, X.T.nE, rfl, (by show 0 ≤ sizeLine; decide), fun l hl => ?_⟩
      have sl := same_new (o := .lst []) hl
      intro x dx2 nx ndx _
      refine mk_ok nx ndx (.cons ⟨_, rfl⟩ (.cons ⟨_, rfl⟩ (.cons trivial .nil))) fun H' y1 y2 sm h => ?_
      exact q2 _ H' (.same (sl.trans sm)) (c2.same (sl.trans sm)) (NodeC.sh (sh := .other) X.nListing h rfl rfl)
    | false =>
      rw [if_neg (by decide)] at q2
      refine ⟨_, rfl, iteF ?_⟩
      refine ⟨_, rfl, _, rfl, ts, n, p, s2, m, rfl, c2, q2.bnd fun x3 s3 v3 H3 k3 c3 r3 q3 => ?_⟩
      refine ⟨(by show 1 ≤ sizeLine; decide), fun l hl => ?_⟩
      have sl := same_new (o := .lst [v3]) hl
      have c3' := c3.same sl
      have q3' := q3.keep (.same sl)
      clear hp dx
      obtain ⟨dx, _, _, hp, _⟩ := c3'.ob
      refine ⟨_, rfl, p, dx, _, rfl, hp, rfl, ts, n, p, s3, 0, rfl, c3', rfl, _, rfl, ?_⟩
      rw [eF, S_eq]
      by_cases hf : tx ts 0 s3 = [102, 111, 114]
      · refine iteT' (decide_eq_true hf) ?_
        refine ⟨_, rfl, _, rfl, _, rfl, _, rfl, l, _, 0, _, rfl, rfl, .inl (.inl upd_same), (by exact atI_nat (j := 0) rfl), ts, n, p, s3, m, _, _, rfl, c3', q3'.eq (if_pos hf)⟩
      · refine iteF' (decide_eq_false hf) ?_
        have q4 := q3.eq (if_neg hf)
        have nl : H3 l = none := hl
        have h3p : H3 p ≠ none := by
          obtain ⟨_, _, _, z, _⟩ := c3.ob
          rw [z]
          exact Option.some_ne_none _
        have lp : l ≠ p := fun e => h3p (by rw [← e]; exact hl)
        refine ⟨fun mm σ H' => ∃ s6 xs, σ = [some (.ref p), some (.int (m : Int)), some (.int (z1 : Int)), some (.ref l)] ∧ H' l = some (.lst xs) ∧ xs.length + mm ≤ 5002 ∧ Kc p H3 H' ∧ CuAt X.CU ts n H' p s6 ∧ Ps X.CU X.CS ts n p H3 ((rowsL ts n (par ts n d) m mm).bnd (fun _ => (expect ts n [93]).bnd fun _ => M.ret .other) s6) (ShAt X) Q E,
          ⟨_, s3, [v3], rfl, upd_same, (by have := c3.lt; show 1 + (ts.length + 1) ≤ 5002; omega), .same sl, c3', q4⟩, ?_⟩
        rintro mm σ H6 ⟨s6, xs, rfl, h6, hxs, k6, c6, q6⟩
        clear hp dx
        obtain ⟨dx, _, _, hp, _⟩ := c6.ob
        cases mm with
        | zero => exact absurd q6 id
        | succ mm =>
          unfold rowsL at q6
          rw [M.assoc] at q6
          refine ⟨_, rfl, p, dx, _, rfl, hp, rfl, ts, n, p, s6, _, by rw [eK]; rfl, c6, q6.bnd0 k6 fun b s7 v7 H7 k7 c7 r7 q7 => ?_⟩
          have r7' : v7 = .bl b := r7
          subst r7'
          refine ⟨_, rfl, ?_⟩
          have h7 : H7 l = some (.lst xs) := k7.1 _ _ lp h6
          cases b with
          | true =>
            rw [if_pos rfl, M.assoc] at q7
            refine iteT ?_
            refine ⟨fun σ H' => ∃ s6 xs, σ = [some (.ref p), some (.int (m : Int)), some (.int (z1 : Int)), some (.ref l)] ∧ H' l = some (.lst xs) ∧ xs.length + mm ≤ 5002 ∧ Kc p H3 H' ∧ CuAt X.CU ts n H' p s6 ∧ Ps X.CU X.CS ts n p H3 ((rowsL ts n (par ts n d) m mm).bnd (fun _ => (expect ts n [93]).bnd fun _ => M.ret .other) s6) (ShAt X) Q E, fun σ' H' z => ⟨mm, Nat.lt_succ_self _, z⟩, ?_⟩
            refine ⟨_, rfl, .inl ⟨rfl, _, .inl (.inl h7)⟩, _, rfl, _, rfl, ts, n, p, s7, m, rfl, c7, q7.bnd0 (k6.trans k7) fun _ s8 v8 H8 k8 c8 r8 q8 => ?_⟩
            have h8 : H8 l = some (.lst xs) := k8.1 _ _ lp h7
            have k38 := (k6.trans k7).trans k8
            have c9 := c3.updL (o := .lst (xs ++ [v8])) nl k38 c8
            refine ⟨l, xs, v8, rfl, rfl, h8, Nat.lt_of_le_of_lt (show xs.length ≤ 5002 by omega) (by decide), ?_⟩
            exact ⟨s8, _, rfl, upd_same, (by rw [List.length_append]; show xs.length + 1 + mm ≤ 5002; omega), k38.updL nl h3p, c9, q8⟩
          | false =>
            rw [if_neg (by decide), M.retb] at q7
            refine iteF ?_
            clear hp dx
            obtain ⟨dx, _, _, hp, _⟩ := c7.ob
            refine ⟨_, rfl, p, dx, _, rfl, hp, rfl, ts, n, p, s7, _, by rw [eB]; rfl, c7, q7.bnd0 (k6.trans k7) fun _ s8 v8 H8 k8 c8 r8 q8 => ?_⟩
            clear hp dx
            obtain ⟨dx, _, _, hp, _⟩ := c8.ob
            refine ⟨_, rfl, _, rfl, p, X.CU, dx, _, _, rfl, hp, X.T.cl, X.T.nE, rfl, _, rfl, ?_⟩
            intro x dx2 nx ndx _
            refine mk_ok nx ndx (.cons ⟨_, rfl⟩ (.cons ⟨_, rfl⟩ (.cons trivial .nil))) fun H' y1 y2 sm h => ?_
            exact q8 _ H' (((k6.trans k7).trans k8).trans (.same sm)) (c8.same sm) (NodeC.sh (sh := .other) X.nListing h rfl rfl)
end
end KB
namespace KB
open PySem PySem.Spec PyProof.Rows L2
section
variable {P : Program} {w : World} {K : PySem.W.Frag} {mg : Str → Option Value} {base : Heap}
theorem mk_okR {C x dx : Addr} {kds : List Kd} {F : List V → Int → Int → List (Str × V)} {H : Hp} {us : List V} {R : VK} {E : XK} (nx : H x = none) (nd : H dx = none) (ha : Paired (ArgOk K H) us kds)
    (k : ∀ (H' : Hp) (z1 z2 : Int), Same H H' → H' x = some (.ins C dx (F us z1 z2)) → R .non H') : spMk K C kds F (V.ref x :: (us ++ [])) (upd (upd H dx (.own x)) x (.ins C dx [])) R E := by
  have sm : Same H (upd (upd H dx (.own x)) x (.ins C dx [])) := made nx nd (.refl _ _)
  exact ⟨x, dx, us, by rw [List.append_nil], upd_same, paired_imp2 ha fun a b z => z.same sm, fun H' z1 z2 kk h => k H' z1 z2 (made nx nd kk) h⟩
theorem inV_two (k : Option Kind) : inV (.str (kindS k)) [.str "number", .str "text"] = decide (k = some .number ∨ k = some .text) := by
  cases k with
  | none => decide +kernel
  | some k => cases k <;> decide +kernel
theorem scSI : FnScope ["cursor", "mode", "kind", "text", "start", "inner"] ["cursor", "mode"] (defScope sSI) := ⟨rfl, rfl, rfl, by decide +kernel, rfl, by decide +kernel, by decide +kernel⟩
theorem tx_le {CU : Addr} {ts : List Tk} {n : Nat} {H : Hp} {p : Addr} {s : PS} (c : CuAt CU ts n H p s) : (tx ts 0 s).length ≤ 5000 := by
  unfold tx
  split
  · rename_i t ht
    exact c.lx t (List.mem_of_getElem? ht)
  · decide
theorem ok_SI (X : XT P w K mg base) {d : Nat} (GE : FnOk P w K mg base (L2.CX P w) (5 + 7 * d) X.fE X.fdE ["cursor", "mode"] (spE X d)) (GLI : FnOk P w K mg base (L2.CX P w) (7 + 7 * d) X.fLI X.fdLI ["cursor", "mode"] (sp2 X (fun ts n m => listS ts n (par ts n d) m) (ShAt X))) :
    FnOk P w K mg base (L2.CX P w) (8 + 7 * d) X.fSI X.fdSI ["cursor", "mode"] (sp2 X (fun ts n m => singleS ts n (par ts n d) m) (ShAt X)) := by
  rw [show 8 + 7 * d = (7 + 7 * d) + 1 by omega]
  refine X.FSI.okX scSI (fun vs H Q E h => ?_) (fun cdv A outer s H vs Q E hr h => ?_)
  · obtain ⟨ts, n, p, s, m, rfl, _⟩ := h
    rfl
  · obtain ⟨ts, n, p, s, m, rfl, c, q⟩ := h
    refine ⟨_,
(pss_cons (ps_set (i := 2) scSI.nd rfl (.inl rfl) (pe_meth0 (pv 0) X.T.cl X.T.mNK X.GNK (hr.mono (by omega)) X.bNK .nil pass0))
 (pss_cons (ps_set (i := 3) scSI.nd rfl (.inl rfl) (pe_meth0 (pv 0) X.T.cl X.T.mNT X.GNT (hr.mono (by omega)) X.bNT0 X.dNT0 pass0))
 (pss_cons (ps_if (pt_cmpR op_eq (pv 2) pe_str (nomark _))
 (pss_one (ps_ret (pe_meth0 (pv 0) X.T.cl X.T.mTN X.GTN (hr.mono (by omega)) X.bTN0 X.dTN0 (passes_call (takes_of rfl rfl rfl rfl) (fun _ _ _ _ h => h)))))
 pss_nil)
 (pss_cons (ps_if (PW.pt (pw_or (pt_cmpR op_in_seq (pv 2) (pe_tup (pa_cons pe_str (pa_cons pe_str pa_nil))) (by rfl)) (pw_or1 (pt_cmpR op_in_seq (pv 3) (pe_glob (v := .ref X.aK) rfl X.gCON rfl) (by rfl)))))
 (pss_one (ps_ret (pe_make X.mLiteral.M0 X.mLiteral.G (hr.mono (by omega)) (by rfl) X.mLiteral.g X.mLiteral.b .nil pass0 (pa_cons (pv 3) (pa_cons (pe_meth0 (pv 0) X.T.cl X.T.mTA X.GTA (hr.mono (by omega)) X.bTA .nil (passes_call (takes_of rfl rfl rfl rfl) (fun _ _ _ _ h => h))) pa_nil)))))
 pss_nil)
 (pss_cons (ps_if (pt_cmpR op_eq (pv 3) pe_str (nomark _))
 (pss_one (ps_ret (pe_call GLI (hr.mono (by omega)) (by rfl) X.gLI X.kLI X.bLI .nil (passes_call (takes_of rfl rfl rfl rfl) (fun _ _ _ _ h => h)) (pa_cons (pv 0) (pa_cons (pv 1) pa_nil)))))
 pss_nil)
 (pss_cons (ps_set (i := 4) scSI.nd rfl (.inl rfl) (pe_meth (pv 0) X.T.cl X.T.mEX X.GEX (hr.mono (by omega)) X.bEX .nil (passes_call (takes_of rfl rfl rfl rfl) (fun _ _ _ _ h => h)) (pa_cons pe_str pa_nil)))
 (pss_cons (ps_set (i := 5) scSI.nd rfl (.inl rfl) (pe_call GE (hr.mono (by omega)) (by rfl) X.gE X.kE X.bE .nil (passes_call (takes_of rfl rfl rfl rfl) (fun _ _ _ _ h => h)) (pa_cons (pv 0) (pa_cons (pv 1) pa_nil))))
 (pss_cons (ps_expr (pe_meth (pv 0) X.T.cl X.T.mEX X.GEX (hr.mono (by omega)) X.bEX .nil (passes_call (takes_of rfl rfl rfl rfl) (fun _ _ _ _ h => h)) (pa_cons pe_str pa_nil)))
 (pss_one (ps_ret (pe_make X.mGroup.M0 X.mGroup.G (hr.mono (by omega)) (by rfl) X.mGroup.g X.mGroup.b .nil pass0 (pa_cons (pv 4) (pa_cons (pe_fld (pv 0) rfl) (pa_cons (pv 5) pa_nil)))))))))))))), ?_⟩
    have eO : Str.ofString "[" = S [91] := by decide +kernel
    have eP : Str.ofString "(" = S [40] := by decide +kernel
    have eQ : Str.ofString ")" = S [41] := by decide +kernel
    obtain ⟨dx, _, _, hp, _⟩ := c.ob
    refine ⟨_, rfl, p, dx, _, rfl, hp, rfl, ts, n, p, s, rfl, c, ?_⟩
    refine ⟨_, rfl, p, dx, _, rfl, hp, rfl, ts, n, p, s, 0, rfl, c, ?_⟩
    refine ⟨_, rfl, rfl, _, rfl, ?_⟩
    rw [kind_name]
    by_cases h1 : kd ts s = some .name
    · refine iteT' (decide_eq_true h1) ?_
      have q1 := q.eq (if_pos h1)
      exact ⟨_, rfl, p, dx, _, rfl, hp, rfl, ts, n, p, s, X.aE, [], rfl, .inr (X.sE0 _), c, q1.bnd fun a s1 v1 H1 k1 c1 r1 q2 => q2 v1 H1 (.refl _ _) c1 r1.nd⟩
    · refine iteF' (decide_eq_false h1) ?_
      have q1 := q.eq (if_neg h1)
      refine ⟨_, rfl, (by show 2 ≤ sizeLine; decide), fun t ht => ?_⟩
      have st := same_new (o := .tup [.str "number", .str "text"]) ht
      have c' := c.same st
      have q1' := q1.keep (.same st)
      clear hp dx
      obtain ⟨dx, _, _, hp, _⟩ := c'.ob
      refine ⟨t, _, rfl, .inr (.inl (.inl upd_same)), rfl, rfl, ?_⟩
      refine ⟨_, rfl, ?_⟩
      rw [show (if false = true then !inV (.str (kindS (kd ts s))) [.str "number", .str "text"] else inV (.str (kindS (kd ts s))) [.str "number", .str "text"]) = decide (kd ts s = some .number ∨ kd ts s = some .text) from inV_two _]
      refine bool_if (fun h2 => ?_) (fun h2 => ?_)
      · refine iteT ?_
        have h2' := of_decide_eq_true h2
        have q2 := q1'.eq (if_pos (by rcases h2' with h | h <;> simp [h]))
        refine ⟨_, rfl, _, rfl, p, dx, _, rfl, hp, rfl, ts, n, p, s, rfl, c', q2.bnd fun z s3 v3 H3 k3 c3 r3 q3 => ?_⟩
        intro x dx2 nx ndx _
        have r3' : v3 = .int (z : Int) := r3
        subst r3'
        refine mk_ok nx ndx (.cons ⟨_, rfl, tx_le c⟩ (.cons ⟨_, rfl⟩ .nil)) fun H' y1 y2 sm h => ?_
        exact q3 _ H' (.same sm) (c3.same sm) (NodeC.sh (sh := .other) X.nLiteral h rfl rfl)
      · have h2' := of_decide_eq_false h2
        refine ⟨_, rfl, X.aK, _, rfl, .inr (X.sCON _), rfl, flat_words _, ?_⟩
        rw [in_b]
        refine ⟨_, rfl, bool_if (fun h3 => ?_) (fun h3 => ?_)⟩
        · have h3' := of_decide_eq_true h3
          have q2 := q1'.eq (if_pos (.inr (.inr h3')))
          refine ⟨_, rfl, _, rfl, p, dx, _, rfl, hp, rfl, ts, n, p, s, rfl, c', q2.bnd fun z s3 v3 H3 k3 c3 r3 q3 => ?_⟩
          intro x dx2 nx ndx _
          have r3' : v3 = .int (z : Int) := r3
          subst r3'
          refine mk_ok nx ndx (.cons ⟨_, rfl, tx_le c⟩ (.cons ⟨_, rfl⟩ .nil)) fun H' y1 y2 sm h => ?_
          exact q3 _ H' (.same sm) (c3.same sm) (NodeC.sh (sh := .other) X.nLiteral h rfl rfl)
        · have h3' := of_decide_eq_false h3
          have q2 := q1'.eq (if_neg fun z => by
            rcases z with z | z | z
            · exact h2' (.inl z)
            · exact h2' (.inr z)
            · exact h3' z)
          refine ⟨_, rfl, rfl, _, rfl, ?_⟩
          rw [eO, S_eq]
          by_cases h4 : tx ts 0 s = [91]
          · refine iteT' (decide_eq_true h4) ?_
            exact ⟨_, rfl, _, rfl, ts, n, p, s, m, rfl, c', q2.eq (if_pos h4)⟩
          · refine iteF' (decide_eq_false h4) ?_
            have q3 := q2.eq (if_neg h4)
            refine ⟨_, rfl, p, dx, _, rfl, hp, rfl, ts, n, p, s, _, by rw [eP]; rfl, c', q3.bnd fun z s4 v4 H4 k4 c4 r4 q4 => ?_⟩
            have r4' : v4 = .int (z : Int) := r4
            subst r4'
            refine ⟨_, rfl, _, rfl, ts, n, p, s4, m, rfl, c4, q4.bnd fun x5 s5 v5 H5 k5 c5 r5 q5 => ?_⟩
            clear hp dx
            obtain ⟨dx, _, _, hp, _⟩ := c5.ob
            refine ⟨_, rfl, p, dx, _, rfl, hp, rfl, ts, n, p, s5, _, by rw [eQ]; rfl, c5, q5.bnd fun _ s6 v6 H6 k6 c6 r6 q6 => ?_⟩
            clear hp dx
            obtain ⟨dx, _, _, hp, _⟩ := c6.ob
            refine ⟨_, rfl, _, rfl, p, X.CU, dx, _, _, rfl, hp, X.T.cl, X.T.nE, rfl, _, rfl, ?_⟩
            intro x dx2 nx ndx _
            refine mk_ok nx ndx (.cons ⟨_, rfl⟩ (.cons ⟨_, rfl⟩ (.cons trivial .nil))) fun H' y1 y2 sm h => ?_
            exact q6 _ H' (.same sm) (c6.same sm) (NodeC.sh (sh := .other) X.nGroup h rfl rfl)
theorem scCL : FnScope ["cursor", "mode", "found", "at", "arguments"] ["cursor", "mode"] (defScope sCL) := ⟨rfl, rfl, rfl, by decide +kernel, rfl, by decide +kernel, by decide +kernel⟩
theorem ok_CL (X : XT P w K mg base) {d : Nat} (GE : FnOk P w K mg base (L2.CX P w) (5 + 7 * d) X.fE X.fdE ["cursor", "mode"] (spE X d)) (GSI : FnOk P w K mg base (L2.CX P w) (8 + 7 * d) X.fSI X.fdSI ["cursor", "mode"] (sp2 X (fun ts n m => singleS ts n (par ts n d) m) (ShAt X)))
    (GAS : FnOk P w K mg base (L2.CX P w) (7 + 7 * d) X.fAS X.fdAS ["cursor"] (sp1 X (fun ts n => argsS ts n (par ts n d)) anyV)) :
    FnOk P w K mg base (L2.CX P w) (9 + 7 * d) X.fCL X.fdCL ["cursor", "mode"] (sp2 X (fun ts n m => callS ts n (par ts n d) m) (ShAt X)) := by
  rw [show 9 + 7 * d = (8 + 7 * d) + 1 by omega]
  refine X.FCL.okX scCL (fun vs H Q E h => ?_) (fun cdv A outer s H vs Q E hr h => ?_)
  · obtain ⟨ts, n, p, s, m, rfl, _⟩ := h
    rfl
  · obtain ⟨ts, n, p, s, m, rfl, c, q⟩ := h
    obtain ⟨tF, gFREE⟩ := X.gFREE
    refine ⟨_,
(pss_cons (ps_set (i := 2) scCL.nd rfl (.inl rfl) (pe_call GSI (hr.mono (by omega)) (by rfl) X.gSI X.kSI X.bSI .nil (passes_call (takes_of rfl rfl rfl rfl) (fun _ _ _ _ h => h)) (pa_cons (pv 0) (pa_cons (pv 1) pa_nil))))
 (pss_one (ps_while (passes_of rfl) (pt_val pe_bl)
 (pss_one (ps_if (pt_val (pe_meth (pv 0) X.T.cl X.T.mTI X.GTI (hr.mono (by omega)) X.bTI .nil (passes_call (takes_of rfl rfl rfl rfl) (fun _ _ _ _ h => h)) (pa_cons pe_str pa_nil)))
 (pss_one (ps_set (i := 2) scCL.nd rfl (.inl rfl) (pe_make X.mMember.M0 X.mMember.G (hr.mono (by omega)) (by rfl) X.mMember.g X.mMember.b .nil pass0 (pa_cons (pv 2) (pa_cons (pe_meth0 (pv 0) X.T.cl X.T.mTN X.GTN (hr.mono (by omega)) X.bTN0 X.dTN0 (passes_call (takes_of rfl rfl rfl rfl) (fun _ _ _ _ h => h))) pa_nil)))))
 (pss_one (ps_if (pt_val (pe_meth (pv 0) X.T.cl X.T.mTI X.GTI (hr.mono (by omega)) X.bTI .nil (passes_call (takes_of rfl rfl rfl rfl) (fun _ _ _ _ h => h)) (pa_cons pe_str pa_nil)))
 (pss_cons (ps_set (i := 3) scCL.nd rfl (.inl rfl) (pe_call GE (hr.mono (by omega)) (by rfl) X.gE X.kE X.bE .nil (passes_call (takes_of rfl rfl rfl rfl) (fun _ _ _ _ h => h)) (pa_cons (pv 0) (pa_cons (pv 1) pa_nil))))
 (pss_cons (ps_expr (pe_meth (pv 0) X.T.cl X.T.mEX X.GEX (hr.mono (by omega)) X.bEX .nil (passes_call (takes_of rfl rfl rfl rfl) (fun _ _ _ _ h => h)) (pa_cons pe_str pa_nil)))
 (pss_one (ps_set (i := 2) scCL.nd rfl (.inl rfl) (pe_make X.mIndex.M0 X.mIndex.G (hr.mono (by omega)) (by rfl) X.mIndex.g X.mIndex.b .nil pass0 (pa_cons (pv 2) (pa_cons (pv 3) (pa_cons (pe_fld (pv 0) rfl) pa_nil))))))))
 (pss_one (ps_if (PW.pt (pw_and (pt_cmpR op_eq (pv 1) (pe_glob (v := .int 2) rfl gFREE ⟨_, rfl⟩) (nomark _)) (pw_and1 (pt_val (pe_meth (pv 0) X.T.cl X.T.mTI X.GTI (hr.mono (by omega)) X.bTI .nil (passes_call (takes_of rfl rfl rfl rfl) (fun _ _ _ _ h => h)) (pa_cons pe_str pa_nil))))))
 (pss_cons (ps_set (i := 4) scCL.nd rfl (.inl rfl) (pe_call GAS (hr.mono (by omega)) (by rfl) X.gAS X.kAS X.bAS .nil (passes_call (takes_of rfl rfl rfl rfl) (fun _ _ _ _ h => h)) (pa_cons (pv 0) pa_nil)))
 (pss_one (ps_set (i := 2) scCL.nd rfl (.inl rfl) (pe_make X.mCall.M0 X.mCall.G (hr.mono (by omega)) (by rfl) X.mCall.g X.mCall.b .nil pass0 (pa_cons (pv 2) (pa_cons (pv 4) (pa_cons (pe_fld (pv 0) rfl) pa_nil)))))))
 (pss_one (ps_ret (pv 2)))))))))))), ?_⟩
    have eD : Str.ofString "." = S [46] := by decide +kernel
    have eO : Str.ofString "[" = S [91] := by decide +kernel
    have eB : Str.ofString "]" = S [93] := by decide +kernel
    have eP : Str.ofString "(" = S [40] := by decide +kernel
    unfold callS at q
    refine ⟨_, rfl, _, rfl, ts, n, p, s, m, rfl, c, q.bnd fun x1 s1 v1 H1 k1 c1 r1 q1 => ?_⟩
    refine ⟨fun mm σ H' => ∃ s6 v6 x6 y3 y4, σ = [some (.ref p), some (.int (m : Int)), some v6, y3, y4] ∧ ShAt X H' v6 x6 ∧ CuAt X.CU ts n H' p s6 ∧ Ps X.CU X.CS ts n p H' (callL ts n (par ts n d) m mm x6 s6) (ShAt X) Q E, ⟨_, s1, v1, x1, _, _, rfl, r1, c1, q1⟩, ?_⟩
    rintro mm σ H6 ⟨s6, v6, x6, y3, y4, rfl, r6, c6, q6⟩
    refine ⟨true, rfl, iteT ?_⟩
    cases mm with
    | zero => exact absurd q6 id
    | succ mm =>
      unfold callL at q6
      refine ⟨fun σ H' => ∃ s6 v6 x6 y3 y4, σ = [some (.ref p), some (.int (m : Int)), some v6, y3, y4] ∧ ShAt X H' v6 x6 ∧ CuAt X.CU ts n H' p s6 ∧ Ps X.CU X.CS ts n p H' (callL ts n (par ts n d) m mm x6 s6) (ShAt X) Q E, fun σ' H' z => ⟨mm, Nat.lt_succ_self _, z⟩, ?_⟩
      obtain ⟨dx, _, _, hp, _⟩ := c6.ob
      refine ⟨_, rfl, p, dx, _, rfl, hp, rfl, ts, n, p, s6, _, by rw [eD]; rfl, c6, q6.bnd fun b s7 v7 H7 k7 c7 r7 q7 => ?_⟩
      have r7' : v7 = .bl b := r7
      subst r7'
      have r6' := r6.keep c6 k7
      clear hp dx
      obtain ⟨dx, _, _, hp, _⟩ := c7.ob
      cases b with
      | true =>
        rw [if_pos rfl] at q7
        refine ⟨_, rfl, iteT ?_⟩
        refine ⟨_, rfl, _, rfl, p, dx, _, rfl, hp, rfl, ts, n, p, s7, X.aE, [], rfl, .inr (X.sE0 _), c7, q7.bnd fun a8 s8 v8 H8 k8 c8 r8 q8 => ?_⟩
        have r6'' := r6'.keep c7 k8
        intro x dx2 nx ndx _
        refine mk_okR nx ndx (.cons r6''.nd (.cons r8.nd.nd .nil)) fun H' y1 y2 sm h => ⟨rfl, ?_⟩
        exact ⟨s8, _, .member, _, _, rfl, NodeC.sh (sh := .member) X.nMember h rfl rfl, c8.same sm, q8.keep (.same sm)⟩
      | false =>
        rw [if_neg (by decide)] at q7
        refine ⟨_, rfl, iteF ?_⟩
        refine ⟨_, rfl, p, dx, _, rfl, hp, rfl, ts, n, p, s7, _, by rw [eO]; rfl, c7, q7.bnd fun b s8 v8 H8 k8 c8 r8 q8 => ?_⟩
        have r8' : v8 = .bl b := r8
        subst r8'
        have r6'' := r6'.keep c7 k8
        clear hp dx
        obtain ⟨dx, _, _, hp, _⟩ := c8.ob
        cases b with
        | true =>
          rw [if_pos rfl] at q8
          refine ⟨_, rfl, iteT ?_⟩
          refine ⟨_, rfl, _, rfl, ts, n, p, s8, m, rfl, c8, q8.bnd fun x9 s9 v9 H9 k9 c9 r9 q9 => ?_⟩
          have t9 := r6''.keep c8 k9
          clear hp dx
          obtain ⟨dx, _, _, hp, _⟩ := c9.ob
          refine ⟨_, rfl, p, dx, _, rfl, hp, rfl, ts, n, p, s9, _, by rw [eB]; rfl, c9, q9.bnd fun _ sA vA HA kA cA rA qA => ?_⟩
          have tA := t9.keep c9 kA
          clear hp dx
          obtain ⟨dx, _, _, hp, _⟩ := cA.ob
          refine ⟨_, rfl, _, rfl, _, rfl, p, X.CU, dx, _, _, rfl, hp, X.T.cl, X.T.nE, rfl, ?_⟩
          intro x dx2 nx ndx _
          refine mk_okR nx ndx (.cons tA.nd (.cons trivial (.cons ⟨_, rfl⟩ .nil))) fun H' y1 y2 sm h => ⟨rfl, ?_⟩
          exact ⟨sA, _, .other, _, _, rfl, NodeC.sh (sh := .other) X.nIndex h rfl rfl, cA.same sm, qA.keep (.same sm)⟩
        | false =>
          rw [if_neg (by decide)] at q8
          refine ⟨_, rfl, iteF ?_⟩
          refine ⟨_, rfl, rfl, _, rfl, ?_⟩
          rw [int_eq]
          by_cases hm : m = 2
          · have q9 := q8.eq (r' := _) (congrFun (if_pos hm) s8)
            refine iteT' (decide_eq_true (by omega)) ?_
            refine ⟨_, rfl, p, dx, _, rfl, hp, rfl, ts, n, p, s8, _, by rw [eP]; rfl, c8, q9.bnd fun b s9 v9 H9 k9 c9 r9 qA => ?_⟩
            have r9' : v9 = .bl b := r9
            subst r9'
            have t9 := r6''.keep c8 k9
            cases b with
            | true =>
              rw [if_pos rfl] at qA
              refine ⟨_, rfl, iteT ?_⟩
              refine ⟨_, rfl, ts, n, p, s9, rfl, c9, qA.bnd fun _ sB vB HB kB cB rB qB => ?_⟩
              have tB := t9.keep c9 kB
              clear hp dx
              obtain ⟨dx, _, _, hp, _⟩ := cB.ob
              refine ⟨_, rfl, _, rfl, _, rfl, p, X.CU, dx, _, _, rfl, hp, X.T.cl, X.T.nE, rfl, ?_⟩
              intro x dx2 nx ndx _
              refine mk_okR nx ndx (.cons tB.nd (.cons trivial (.cons ⟨_, rfl⟩ .nil))) fun H' y1 y2 sm h => ⟨rfl, ?_⟩
              exact ⟨sB, _, .other, _, _, rfl, NodeC.sh (sh := .other) X.nCall h rfl rfl, cB.same sm, qB.keep (.same sm)⟩
            | false =>
              rw [if_neg (by decide)] at qA
              refine ⟨_, rfl, iteF ?_⟩
              exact ⟨_, rfl, qA _ _ (.refl _ _) c9 t9⟩
          · have q9 := q8.eq (r' := _) (congrFun (if_neg hm) s8)
            refine iteF' (decide_eq_false (by omega)) ?_
            exact ⟨_, rfl, q9 _ _ (.refl _ _) c8 r6''⟩
end
end KB
namespace KB
open PySem PySem.Spec PyProof.Rows L2
section
variable {P : Program} {w : World} {K : PySem.W.Frag} {mg : Str → Option Value} {base : Heap}
/-- a parameter: its name, and whether it has a default -/
def PmAt (X : XT P w K mg base) (H : Hp) (v : V) (r : List Nat × Bool) : Prop := ∃ b dx nm dv z1 z2, v = .ref b ∧ H b = some (.ins X.cParameter dx (F_Parameter [nm, dv] z1 z2)) ∧ NmAt X.cName H nm r.1 ∧ (dv = .non ↔ r.2 = false)
theorem PmAt.keep {X : XT P w K mg base} {H H' : Hp} {v : V} {r : List Nat × Bool} {p CU : Addr} {ts : List Tk} {n : Nat} {s : PS} (h : PmAt X H v r) (c : CuAt CU ts n H p s) (k : Kc p H H') : PmAt X H' v r := by
  obtain ⟨b, dx, nm, dv, z1, z2, e, hb, hn, hd⟩ := h
  refine ⟨b, dx, nm, dv, z1, z2, e, k.1 b _ (fun e2 => ?_) hb, hn.keep c k, hd⟩
  obtain ⟨dx2, q, qs, hp, _⟩ := c.ob
  rw [e2, hp] at hb
  have z := Option.some.inj hb
  injection z with _ _ z
  injection z with z _
  injection z with z _
  exact absurd z (by decide +kernel)
theorem PmAt.same {X : XT P w K mg base} {H H' : Hp} {v : V} {r : List Nat × Bool} (h : PmAt X H v r) (k : Same H H') : PmAt X H' v r := by
  obtain ⟨b, dx, nm, dv, z1, z2, e, hb, hn, hd⟩ := h
  exact ⟨b, dx, nm, dv, z1, z2, e, k _ _ hb, hn.same k, hd⟩
def lastB (l : List (List Nat × Bool)) : Bool := match l.getLast? with
  | some r => r.2
  | none => false
def spPM (X : XT P w K mg base) (d : Nat) : Sp := fun vs H Q E => ∃ (ts : List Tk) (n : Nat) (p : Addr) (s : PS) (l : Addr) (xs : List V) (rs : List (List Nat × Bool)), vs = [.ref p, .ref l] ∧ H l = some (.lst xs) ∧ Paired (PmAt X H) xs rs ∧ xs.length ≤ 6000 ∧ CuAt X.CU ts n H p s ∧ Ps X.CU X.CS ts n p H (paramS ts n (par ts n d) (rs.map (·.1)) (lastB rs) s) (PmAt X) Q E
theorem paired_get {α β : Type} {R : α → β → Prop} {as : List α} {bs : List β} (h : Paired R as bs) {i : Nat} {a : α} (e : as[i]? = some a) : ∃ b, bs[i]? = some b ∧ R a b := by
  induction h generalizing i with
  | nil => simp at e
  | cons h1 _ ih =>
    cases i with
    | zero => simp at e; subst e; exact ⟨_, rfl, h1⟩
    | succ j => simp at e; simpa using ih e
theorem atI_last {α : Type} {xs : List α} {v : α} (h : xs[xs.length - 1]? = some v) : atI xs (-1) = some v := by
  have hj : xs.length - 1 < xs.length := (List.getElem?_eq_some_iff.mp h).1
  have e : ixN xs.length (-1) = some (xs.length - 1) := by
    unfold ixN
    have h1 : ¬ (0 ≤ (-1 : Int)) := by omega
    simp only [h1, if_false]
    split <;> first | (congr 1; omega) | omega
  unfold atI
  rw [e]
  exact h
theorem CuAt.out {CU : Addr} {ts : List Tk} {n : Nat} {H : Hp} {p l : Addr} {s : PS} {xs : List V} (c : CuAt CU ts n H p s) (h : H l = some (.lst xs)) : l ≠ p := fun e => by
  obtain ⟨dx, _, _, hp, _⟩ := c.ob
  rw [e, hp] at h
  cases h
theorem scPM : FnScope ["cursor", "ahead", "name", "one"] ["cursor", "ahead"] (defScope sPM) := ⟨rfl, rfl, rfl, by decide +kernel, rfl, by decide +kernel, by decide +kernel⟩
theorem ok_PM (X : XT P w K mg base) {d : Nat} (GE : FnOk P w K mg base (L2.CX P w) (5 + 7 * d) X.fE X.fdE ["cursor", "mode"] (spE X d)) :
    FnOk P w K mg base (L2.CX P w) (6 + 7 * d) X.fPM X.fdPM ["cursor", "ahead"] (spPM X d) := by
  rw [show 6 + 7 * d = (5 + 7 * d) + 1 by omega]
  refine X.FPM.okX scPM (fun vs H Q E h => ?_) (fun cdv A outer s H vs Q E hr h => ?_)
  · obtain ⟨ts, n, p, s, l, xs, rs, rfl, _⟩ := h
    rfl
  · obtain ⟨ts, n, p, s, l, xs, rs, rfl, hl, hx, hlen, c, q⟩ := h
    obtain ⟨tF, gPLAIN⟩ := X.gPLAIN
    refine ⟨_,
(pss_cons (ps_set (i := 2) scPM.nd rfl (.inl rfl) (pe_meth (pv 0) X.T.cl X.T.mTN X.GTN (hr.mono (by omega)) X.bTN .nil (passes_call (takes_of rfl rfl rfl rfl) (fun _ _ _ _ h => h)) (pa_cons (pe_lc (own := [("one", 3)]) (g := gName 3) (te := (tFld K (tFld K (tVar 3) "name") "text")) (tt := tYes) rfl scPM.nd (pi_list (pv 1)) (blkOk_by (own := [("one", 3)]) (N := ["cursor", "ahead", "name", "one"]) (sc := defScope sPM) (by decide +kernel)) (fun _ _ _ _ _ => pg_name (i := 3) scPM.nd rfl (Or.inl rfl)) (fun _ _ _ _ _ => pts_nil) (fun _ _ _ _ _ => (by exact pe_fld (by exact pe_fld (pv 3) (by rfl)) (by rfl)))) pa_nil)))
 (pss_cons (ps_if (pt_val (pe_meth (pv 0) X.T.cl X.T.mTI X.GTI (hr.mono (by omega)) X.bTI .nil (passes_call (takes_of rfl rfl rfl rfl) (fun _ _ _ _ h => h)) (pa_cons pe_str pa_nil)))
 (pss_one (ps_ret (pe_make X.mParameter.M0 X.mParameter.G (hr.mono (by omega)) (by rfl) X.mParameter.g X.mParameter.b .nil pass0 (pa_cons (pv 2) (pa_cons (pe_call GE (hr.mono (by omega)) (by rfl) X.gE X.kE X.bE .nil (passes_call (takes_of rfl rfl rfl rfl) (fun _ _ _ _ h => h)) (pa_cons (pv 0) (pa_cons (pe_glob (v := .int 0) rfl gPLAIN ⟨_, rfl⟩) pa_nil))) pa_nil)))))
 pss_nil)
 (pss_cons (ps_if (PW.pt (pw_and (pt_truth (pv 1) (fun _ => rfl)) (pw_and1 (pt_cmpR op_notN (pe_fld (pe_ix ix_list (pv 1) (pe_un un_neg pe_int) (fun _ _ => rfl)) rfl) pe_non (nomark _)))))
 (pss_one (ps_expr (pe_meth0 (pv 0) X.T.cl X.T.mRF X.GRF (hr.mono (by omega)) X.bRF .nil (passes_call (takes_of rfl rfl rfl rfl) (fun _ _ _ _ h => h)))))
 pss_nil)
 (pss_one (ps_ret (pe_make X.mParameter.M0 X.mParameter.G (hr.mono (by omega)) (by rfl) X.mParameter.g X.mParameter.b .nil pass0 (pa_cons (pv 2) (pa_cons pe_non pa_nil)))))))), ?_⟩
    have eE : Str.ofString "=" = S [61] := by decide +kernel
    unfold paramS at q
    obtain ⟨dx, qa, _, hp, hqa, _⟩ := c.ob
    refine ⟨_, rfl, p, dx, _, rfl, hp, rfl, ?_⟩
    refine ⟨_, rfl, l, rfl, ⟨xs, .inl (.inl hl)⟩, fun D hD => ?_⟩
    have lr : xs.length = rs.length := hx.length
    refine lc_it (walk_list (K := K) (xs := xs)) (fun i H' => H' D = some (.lst ((rs.take i).map fun r => V.str (S r.1))) ∧ ∀ b, b ≠ D → H' b = H b) ⟨upd_same, fun b hb => upd_ne hb⟩ (fun i H' _ z => .inl (.inl ((z.2 l (ne_of_none hl hD)).trans hl))) ?_ ?_
    · rintro i x H1 H2 hi ⟨z1, z2⟩ ⟨e12, hxi⟩
      subst e12
      obtain ⟨r, hr', b, dxp, nm, dv, y1, y2, rfl, hb, ⟨a, dxn, u1, u2, rfl, ha⟩, _⟩ := paired_get hx hxi
      refine ⟨rfl, _, rfl, b, X.cParameter, dxp, _, _, rfl, (z2 b (ne_of_none hb hD)).trans hb, X.pcl, X.pna, rfl, a, X.cName, dxn, _, _, rfl, (z2 a (ne_of_none ha hD)).trans ha, X.nName.cl, X.nte, rfl, _, z1, ?_, ?_, fun b hb => ?_⟩
      · rw [List.length_map, List.length_take]
        exact Nat.lt_of_le_of_lt (show min i rs.length ≤ 6000 by omega) (by decide)
      · rw [upd_same, List.take_succ, hr', List.map_append]
        rfl
      · rw [upd_ne hb]
        exact z2 b hb
    · rintro H1 ⟨z1, z2⟩
      have sD : Same H H1 := fun b o h => (z2 b (ne_of_none h hD)).trans h
      rw [lr, List.take_length] at z1
      have c1 := c.same sD
      have q1 := q.keep (.same sD)
      refine ⟨ts, n, p, s, D, rs.map (·.1), rfl, .inl (.inl (.inl (by rw [z1, List.map_map]; rfl))), c1, q1.bnd fun a2 s2 v2 H2 k2 c2 r2 q2 => ?_⟩
      have hl1 := sD _ _ hl
      have hx1 := paired_imp2 hx fun u r z => z.same sD
      have lp1 := c1.out hl1
      have hl2 : H2 l = some (.lst xs) := k2.1 _ _ lp1 hl1
      have hx2 := paired_imp2 hx1 fun u r z => z.keep c1 k2
      clear hp dx
      obtain ⟨dx, _, _, hp, _⟩ := c2.ob
      refine ⟨_, rfl, p, dx, _, rfl, hp, rfl, ts, n, p, s2, _, by rw [eE]; rfl, c2, q2.bnd fun b s3 v3 H3 k3 c3 r3 q3 => ?_⟩
      have r3' : v3 = .bl b := r3
      subst r3'
      have t3 := r2.keep c2 k3
      cases b with
      | true =>
        rw [if_pos rfl] at q3
        refine ⟨_, rfl, iteT ?_⟩
        refine ⟨_, rfl, _, rfl, ts, n, p, s3, 0, rfl, c3, q3.bnd fun x4 s4 v4 H4 k4 c4 r4 q4 => ?_⟩
        have t4 := t3.keep c3 k4
        intro x dx2 nx ndx _
        refine mk_ok nx ndx (.cons t4.nd.nd (.cons (.inr r4.nd) .nil)) fun H' y1 y2 sm h => ?_
        refine q4 _ H' (.same sm) (c4.same sm) ⟨x, dx2, v2, v4, y1, y2, rfl, h, t4.same sm, ⟨fun e => ?_, fun e => Bool.noConfusion e⟩⟩
        obtain ⟨b', _, _, _, _, _, e', _⟩ := r4
        rw [e'] at e
        cases e
      | false =>
        rw [if_neg (by decide)] at q3
        refine ⟨_, rfl, iteF ?_⟩
        have hl3 : H3 l = some (.lst xs) := k3.1 _ _ (c2.out hl2) hl2
        have hx3 := paired_imp2 hx2 fun u r z => z.keep c2 k3
        clear hp dx
        obtain ⟨dx, _, _, hp, _⟩ := c3.ob
        have mk : ∀ (q5 : Ps X.CU X.CS ts n p H3 (M.ret (a2, false) s3) (PmAt X) Q E), ∀ x dx2, H3 x = none → H3 dx2 = none → dx2 ≠ x → spMk K X.cParameter [.node, .onode] F_Parameter (V.ref x :: ([v2, .non] ++ [])) (upd (upd H3 dx2 (.own x)) x (.ins X.cParameter dx2 [])) (fun v H2 => v = .non ∧ Q (.ref x) H2) E0 := by
          intro q5 x dx2 nx ndx _
          refine mk_ok nx ndx (.cons t3.nd.nd (.cons (.inl rfl) .nil)) fun H' y1 y2 sm h => ?_
          exact q5 _ H' (.same sm) (c3.same sm) ⟨x, dx2, v2, .non, y1, y2, rfl, h, t3.same sm, ⟨fun _ => rfl, fun _ => rfl⟩⟩
        cases hlast : xs[xs.length - 1]? with
        | none =>
          have e0 : xs = [] := by
            rw [List.getElem?_eq_none_iff] at hlast
            exact List.eq_nil_of_length_eq_zero (by omega)
          have e1 : rs = [] := List.eq_nil_of_length_eq_zero (by rw [← lr, e0]; rfl)
          have e2 : lastB rs = false := by rw [e1]; rfl
          refine ⟨_, rfl, false, .inl ⟨xs, .inl (.inl hl3), by rw [e0]; rfl⟩, iteF (iteF ?_)⟩
          have q4 := q3.eq (congrFun (if_neg (by rw [e2]; decide)) s3)
          exact ⟨_, rfl, mk q4⟩
        | some u =>
          obtain ⟨r, hr', b, dxp, nm, dv, y1, y2, rfl, hb, hn, hd⟩ := paired_get hx3 hlast
          have e2 : lastB rs = r.2 := by
            unfold lastB
            rw [List.getLast?_eq_getElem?, ← lr, hr']
          have ne : xs.isEmpty = false := by
            cases xs with
            | nil => simp at hlast
            | cons _ _ => rfl
          refine ⟨_, rfl, true, .inl ⟨xs, .inl (.inl hl3), by rw [ne]; rfl⟩, iteT ?_⟩
          refine ⟨_, rfl, 1, rfl, l, xs, -1, _, rfl, rfl, .inl (.inl hl3), atI_last hlast, b, X.cParameter, dxp, _, dv, rfl, hb, X.pcl, X.pde, rfl, rfl, _, rfl, ?_⟩
          by_cases hdv : dv = .non
          · have q4 := q3.eq (congrFun (if_neg (by rw [e2, hd.mp hdv]; decide)) s3)
            refine iteF' (by rw [decide_eq_true hdv]; rfl) ?_
            exact ⟨_, rfl, mk q4⟩
          · have h2 : r.2 = true := by
              cases h : r.2 with
              | true => rfl
              | false => exact absurd (hd.mpr h) hdv
            have q4 := q3.eq (congrFun (if_pos (by rw [e2, h2])) s3)
            refine iteT' (by rw [decide_eq_false hdv]; rfl) ?_
            exact ⟨_, rfl, p, dx, _, rfl, hp, rfl, ts, n, p, s3, rfl, c3, q4.err⟩
end
end KB
namespace KB
open PySem PySem.Spec PyProof.Rows L2
section
variable {P : Program} {w : World} {K : PySem.W.Frag} {mg : Str → Option Value} {base : Heap}
def KwAt (X : XT P w K mg base) (H : Hp) (kv : V) (k : Option (List Nat)) : Prop := (kv = .non ∧ k = none) ∨ ∃ t, k = some t ∧ NmAt X.cName H kv t
theorem KwAt.keep {X : XT P w K mg base} {H H' : Hp} {v : V} {r : Option (List Nat)} {p CU : Addr} {ts : List Tk} {n : Nat} {s : PS} (h : KwAt X H v r) (c : CuAt CU ts n H p s) (k : Kc p H H') : KwAt X H' v r := by
  rcases h with h | ⟨t, e, h⟩
  · exact .inl h
  · exact .inr ⟨t, e, h.keep c k⟩
theorem KwAt.same {X : XT P w K mg base} {H H' : Hp} {v : V} {r : Option (List Nat)} (h : KwAt X H v r) (k : Same H H') : KwAt X H' v r := by
  rcases h with h | ⟨t, e, h⟩
  · exact .inl h
  · exact .inr ⟨t, e, h.same k⟩
/-- an argument: its keyword -/
def ArAt (X : XT P w K mg base) (H : Hp) (v : V) (r : Option (List Nat)) : Prop := ∃ b dx kv vv z1 z2, v = .ref b ∧ H b = some (.ins X.cArgument dx (F_Argument [kv, vv] z1 z2)) ∧ KwAt X H kv r
theorem ArAt.keep {X : XT P w K mg base} {H H' : Hp} {v : V} {r : Option (List Nat)} {p CU : Addr} {ts : List Tk} {n : Nat} {s : PS} (h : ArAt X H v r) (c : CuAt CU ts n H p s) (k : Kc p H H') : ArAt X H' v r := by
  obtain ⟨b, dx, nm, dv, z1, z2, e, hb, hn⟩ := h
  refine ⟨b, dx, nm, dv, z1, z2, e, k.1 b _ (fun e2 => ?_) hb, hn.keep c k⟩
  obtain ⟨dx2, q, qs, hp, _⟩ := c.ob
  rw [e2, hp] at hb
  have z := Option.some.inj hb
  injection z with _ _ z
  injection z with z _
  injection z with z _
  exact absurd z (by decide +kernel)
theorem ArAt.same {X : XT P w K mg base} {H H' : Hp} {v : V} {r : Option (List Nat)} (h : ArAt X H v r) (k : Same H H') : ArAt X H' v r := by
  obtain ⟨b, dx, nm, dv, z1, z2, e, hb, hn⟩ := h
  exact ⟨b, dx, nm, dv, z1, z2, e, k _ _ hb, hn.same k⟩
def spAR (X : XT P w K mg base) (d : Nat) : Sp := fun vs H Q E => ∃ (ts : List Tk) (n : Nat) (p : Addr) (s : PS) (l : Addr) (xs : List V) (rs : List (Option (List Nat))), vs = [.ref p, .ref l] ∧ H l = some (.lst xs) ∧ Paired (ArAt X H) xs rs ∧ xs.length ≤ 6000 ∧ CuAt X.CU ts n H p s ∧ Ps X.CU X.CS ts n p H (argS ts n (par ts n d) (rs.filterMap id) s) (ArAt X) Q E
theorem scAR : FnScope ["cursor", "ahead", "keywords", "keyword", "one"] ["cursor", "ahead"] (defScope sAR) := ⟨rfl, rfl, rfl, by decide +kernel, rfl, by decide +kernel, by decide +kernel⟩
theorem ok_AR (X : XT P w K mg base) {d : Nat} (GE : FnOk P w K mg base (L2.CX P w) (5 + 7 * d) X.fE X.fdE ["cursor", "mode"] (spE X d)) :
    FnOk P w K mg base (L2.CX P w) (6 + 7 * d) X.fAR X.fdAR ["cursor", "ahead"] (spAR X d) := by
  rw [show 6 + 7 * d = (5 + 7 * d) + 1 by omega]
  refine X.FAR.okX scAR (fun vs H Q E h => ?_) (fun cdv A outer s H vs Q E hr h => ?_)
  · obtain ⟨ts, n, p, s, l, xs, rs, rfl, _⟩ := h
    rfl
  · obtain ⟨ts, n, p, s, l, xs, rs, rfl, hl, hx, hlen, c, q⟩ := h
    obtain ⟨tF, gFREE⟩ := X.gFREE
    refine ⟨_,
(pss_cons (ps_setLc (i := 2) (own := [("one", 4)]) (g := gName 4) (te := (tFld K (tFld K (tVar 4) "keyword") "text")) (tt := (tTest (tOp rNotN (tFld K (tVar 4) "keyword") (tC .non)))) rfl scAR.nd rfl rfl (sw_true rfl rfl rfl (by decide +kernel)) (pi_list (pv 1)) (blkOk_by (own := [("one", 4)]) (N := ["cursor", "ahead", "keywords", "keyword", "one"]) (sc := defScope sAR) (by decide +kernel)) (fun _ _ _ _ _ => pg_name (i := 4) scAR.nd rfl (Or.inl rfl)) (fun _ _ _ _ _ => (pts_one (pt_cmpR op_notN1 (by exact pe_fld (pv 4) (by rfl)) pe_non (nomark _)))) (fun _ _ _ _ _ => (by exact pe_fld (by exact pe_fld (pv 4) (by rfl)) (by rfl))))
 (pss_cons (ps_set (i := 3) scAR.nd rfl (.inl rfl) pe_non)
 (Evl.pss_cut (ps_if (PW.pt (pw_or (pt_truth (pv 2) (fun _ => rfl)) (pw_or1 (PW.pt (pw_and (pt_cmpR op_eq (pe_meth0 (pv 0) X.T.cl X.T.mNK X.GNK (hr.mono (by omega)) X.bNK .nil pass0) pe_str (nomark _)) (pw_and1 (pt_cmpR op_eq (pe_meth (pv 0) X.T.cl X.T.mNT X.GNT (hr.mono (by omega)) X.bNT1 .nil pass0 (pa_cons pe_int pa_nil)) pe_str (nomark _))))))))
 (pss_cons (ps_set (i := 3) scAR.nd rfl (.inl rfl) (pe_meth (pv 0) X.T.cl X.T.mTN X.GTN (hr.mono (by omega)) X.bTN .nil (passes_call (takes_of rfl rfl rfl rfl) (fun _ _ _ _ h => h)) (pa_cons (pv 2) pa_nil)))
 (pss_one (ps_expr (pe_meth (pv 0) X.T.cl X.T.mEX X.GEX (hr.mono (by omega)) X.bEX .nil (passes_call (takes_of rfl rfl rfl rfl) (fun _ _ _ _ h => h)) (pa_cons pe_str pa_nil)))))
 pss_nil)
 (pss_one (ps_ret (pe_make X.mArgument.M0 X.mArgument.G (hr.mono (by omega)) (by rfl) X.mArgument.g X.mArgument.b .nil pass0 (pa_cons (pv 3) (pa_cons (pe_call GE (hr.mono (by omega)) (by rfl) X.gE X.kE X.bE .nil (passes_call (takes_of rfl rfl rfl rfl) (fun _ _ _ _ h => h)) (pa_cons (pv 0) (pa_cons (pe_glob (v := .int 2) rfl gFREE ⟨_, rfl⟩) pa_nil))) pa_nil)))))))), ?_⟩
    have eE : Str.ofString "=" = S [61] := by decide +kernel
    refine ⟨_, rfl, l, rfl, ⟨xs, .inl (.inl hl)⟩, fun D hD => ?_⟩
    have lr : xs.length = rs.length := hx.length
    refine lc_it (walk_list (K := K) (xs := xs)) (fun i H' => H' D = some (.lst (((rs.take i).filterMap id).map fun r => V.str (S r))) ∧ ∀ b, b ≠ D → H' b = H b) ⟨upd_same, fun b hb => upd_ne hb⟩ (fun i H' _ z => .inl (.inl ((z.2 l (ne_of_none hl hD)).trans hl))) ?_ ?_
    · rintro i x H1 H2 hi ⟨z1, z2⟩ ⟨e12, hxi⟩
      subst e12
      obtain ⟨r, hr', b, dxp, kv, vv, y1, y2, rfl, hb, hk⟩ := paired_get hx hxi
      have tk : rs.take (i + 1) = rs.take i ++ [r] := by rw [List.take_succ, hr']; rfl
      refine ⟨rfl, _, rfl, b, X.cArgument, dxp, _, kv, rfl, (z2 b (ne_of_none hb hD)).trans hb, X.acl, X.ake, rfl, rfl, _, rfl, ?_⟩
      rcases hk with ⟨rfl, rfl⟩ | ⟨t, rfl, a, dxn, u1, u2, rfl, ha⟩
      · refine iteF ?_
        rw [tk, List.filterMap_append]
        exact ⟨by rw [z1]; simp, z2⟩
      · refine iteT' (by rfl) ?_
        refine ⟨_, rfl, b, X.cArgument, dxp, _, _, rfl, (z2 b (ne_of_none hb hD)).trans hb, X.acl, X.ake, rfl, a, X.cName, dxn, _, _, rfl, (z2 a (ne_of_none ha hD)).trans ha, X.nName.cl, X.nte, rfl, _, z1, ?_, ?_, fun b hb => ?_⟩
        · have hh : ((rs.take i).filterMap id).length ≤ (rs.take i).length := List.length_filterMap_le _ _
          rw [List.length_take] at hh
          rw [List.length_map]
          exact Nat.lt_of_le_of_lt (show _ ≤ 6000 by omega) (by decide)
        · rw [upd_same, tk, List.filterMap_append, List.map_append]
          rfl
        · rw [upd_ne hb]
          exact z2 b hb
    · rintro H1 ⟨z1, z2⟩
      have sD : Same H H1 := fun b o h => (z2 b (ne_of_none h hD)).trans h
      rw [lr, List.take_length] at z1
      have c1 := c.same sD
      have q1 := q.keep (.same sD)
      have hk1 : SqA K H1 D ((rs.filterMap id).map fun s => .str (S s)) := .inl (.inl (.inl z1))
      generalize hkeys : rs.filterMap id = keys at z1 q1 hk1
      obtain ⟨dx, _, _, hp, _⟩ := c1.ob
      refine ⟨fun σ H' => ∃ s6 v6 k6, σ = [some (.ref p), some (.ref l), some (.ref D), some v6, none] ∧ KwAt X H' v6 k6 ∧ CuAt X.CU ts n H' p s6 ∧ Ps X.CU X.CS ts n p H' (((par ts n d).expr 2).bnd (fun _ => M.ret k6) s6) (ArAt X) Q E, ?_, ?_⟩
      · refine ⟨_, rfl, _, .inl ⟨_, .inl (.inl z1), rfl⟩, ?_⟩
        cases keys with
        | cons k r =>
          refine iteT (iteT ?_)
          refine ⟨_, rfl, p, dx, _, rfl, hp, rfl, _, rfl, ts, n, p, s, D, _, rfl, hk1, c1, Ps.bnd (f := fun a => (expect ts n [61]).bnd fun _ => ((par ts n d).expr 2).bnd fun _ => M.ret (some a)) (q1.eq (if_pos (.inl (by simp)))) fun a s2 v2 H2 k2 c2 r2 q3 => ?_⟩
          obtain ⟨dx', _, _, hp', _⟩ := c2.ob
          exact ⟨_, rfl, p, dx', _, rfl, hp', rfl, ts, n, p, s2, _, by first | rfl | (rw [eE]; rfl), c2, q3.bnd fun _ s3 v3 H3 k3 c3 r3 q4 => ⟨s3, v2, some a, rfl, .inr ⟨a, rfl, r2.keep c2 k3⟩, c3, q4⟩⟩
        | nil =>
          refine iteF ?_
          refine ⟨_, rfl, p, dx, _, rfl, hp, rfl, ts, n, p, s, rfl, c1, rfl, _, rfl, ?_⟩
          rw [kind_name]
          by_cases hk : kd ts s = some .name
          · refine iteT' (decide_eq_true hk) ?_
            refine ⟨_, rfl, p, dx, _, rfl, hp, rfl, ts, n, p, s, 1, rfl, c1, rfl, _, rfl, ?_⟩
            rw [eE, S_eq]
            by_cases h1 : tx ts 1 s = [61]
            · refine iteT' (decide_eq_true h1) ?_
              refine ⟨_, rfl, p, dx, _, rfl, hp, rfl, _, rfl, ts, n, p, s, D, _, rfl, hk1, c1, Ps.bnd (f := fun a => (expect ts n [61]).bnd fun _ => ((par ts n d).expr 2).bnd fun _ => M.ret (some a)) (q1.eq (if_pos (.inr ⟨hk, h1⟩))) fun a s2 v2 H2 k2 c2 r2 q3 => ?_⟩
              obtain ⟨dx', _, _, hp', _⟩ := c2.ob
              exact ⟨_, rfl, p, dx', _, rfl, hp', rfl, ts, n, p, s2, _, by first | rfl | (rw [eE]; rfl), c2, q3.bnd fun _ s3 v3 H3 k3 c3 r3 q4 => ⟨s3, v2, some a, rfl, .inr ⟨a, rfl, r2.keep c2 k3⟩, c3, q4⟩⟩
            · refine iteF' (decide_eq_false h1) ?_
              exact ⟨s, .non, none, rfl, .inl ⟨rfl, rfl⟩, c1, q1.eq (if_neg fun z => z.elim (fun z => z rfl) fun z => h1 z.2)⟩
          · refine iteF' (decide_eq_false hk) (iteF ?_)
            exact ⟨s, .non, none, rfl, .inl ⟨rfl, rfl⟩, c1, q1.eq (if_neg fun z => z.elim (fun z => z rfl) fun z => hk z.1)⟩
      · rintro σ H6 ⟨s6, v6, k6, rfl, r6, c6, q6⟩
        refine ⟨_, rfl, _, rfl, ts, n, p, s6, 2, rfl, c6, q6.bnd fun x7 s7 v7 H7 k7 c7 r7 q7 => ?_⟩
        have t7 := r6.keep c6 k7
        intro x dx2 nx ndx _
        have on : ArgOk K H7 v6 .onode := by
          rcases t7 with ⟨e, _⟩ | ⟨t, _, h⟩
          · exact .inl e
          · exact .inr h.nd.nd
        refine mk_ok nx ndx (.cons on (.cons r7.nd .nil)) fun H' y1 y2 sm h => ?_
        exact q7 _ H' (.same sm) (c7.same sm) ⟨x, dx2, v6, v7, y1, y2, rfl, h, t7.same sm⟩
end
end KB
namespace KB
open PySem PySem.Spec PyProof.Rows L2
section
variable {P : Program} {w : World} {K : PySem.W.Frag} {mg : Str → Option Value} {base : Heap}
theorem paired_snoc' {α β : Type} {R : α → β → Prop} {as : List α} {bs : List β} {a : α} {b : β} (h : Paired R as bs) (r : R a b) : Paired R (as ++ [a]) (bs ++ [b]) := by
  induction h with
  | nil => exact .cons r .nil
  | cons h _ ih => exact .cons h ih
theorem CuAt.some {CU : Addr} {ts : List Tk} {n : Nat} {H : Hp} {p : Addr} {s : PS} (c : CuAt CU ts n H p s) : H p ≠ none := by
  obtain ⟨_, _, _, z, _⟩ := c.ob
  rw [z]
  exact Option.some_ne_none _
theorem ArAt.updL {X : XT P w K mg base} {H0 H : Hp} {v : V} {r : Option (List Nat)} {l : Addr} {xs : List V} {o : HO} (h : ArAt X H v r) (hl : H l = some (.lst xs)) : ArAt X (upd H l o) v r := by
  obtain ⟨b, dx, nm, dv, z1, z2, e, hb, hn⟩ := h
  refine ⟨b, dx, nm, dv, z1, z2, e, ?_, ?_⟩
  · rw [upd_ne fun e => by rw [e, hl] at hb; cases hb]
    exact hb
  · rcases hn with h | ⟨t, e, a, dx2, u1, u2, e2, ha⟩
    · exact .inl h
    · refine .inr ⟨t, e, a, dx2, u1, u2, e2, ?_⟩
      rw [upd_ne fun e => by rw [e, hl] at ha; cases ha]
      exact ha
theorem PmAt.updL {X : XT P w K mg base} {H0 H : Hp} {v : V} {r : List Nat × Bool} {l : Addr} {xs : List V} {o : HO} (h : PmAt X H v r) (hl : H l = some (.lst xs)) : PmAt X (upd H l o) v r := by
  obtain ⟨b, dx, nm, dv, z1, z2, e, hb, ⟨a, dx2, u1, u2, e2, ha⟩, hd⟩ := h
  refine ⟨b, dx, nm, dv, z1, z2, e, ?_, ⟨a, dx2, u1, u2, e2, ?_⟩, hd⟩
  · rw [upd_ne fun e => by rw [e, hl] at hb; cases hb]
    exact hb
  · rw [upd_ne fun e => by rw [e, hl] at ha; cases ha]
    exact ha
theorem scAS : FnScope ["cursor", "found"] ["cursor"] (defScope sAS) := ⟨rfl, rfl, rfl, by decide +kernel, rfl, by decide +kernel, by decide +kernel⟩
theorem ok_AS (X : XT P w K mg base) {d : Nat} (GAR : FnOk P w K mg base (L2.CX P w) (6 + 7 * d) X.fAR X.fdAR ["cursor", "ahead"] (spAR X d)) :
    FnOk P w K mg base (L2.CX P w) (7 + 7 * d) X.fAS X.fdAS ["cursor"] (sp1 X (fun ts n => argsS ts n (par ts n d)) anyV) := by
  rw [show 7 + 7 * d = (6 + 7 * d) + 1 by omega]
  refine X.FAS.okX scAS (fun vs H Q E h => ?_) (fun cdv A outer s H vs Q E hr h => ?_)
  · obtain ⟨ts, n, p, s, rfl, _⟩ := h
    rfl
  · obtain ⟨ts, n, p, s, rfl, c, q⟩ := h
    refine ⟨_,
(pss_cons (ps_set (i := 1) scAS.nd rfl (.inl rfl) (pe_lst pa_nil))
 (pss_cons (ps_if (pt_val (pe_meth (pv 0) X.T.cl X.T.mTI X.GTI (hr.mono (by omega)) X.bTI .nil (passes_call (takes_of rfl rfl rfl rfl) (fun _ _ _ _ h => h)) (pa_cons pe_str pa_nil)))
 (pss_one (ps_ret (pv 1)))
 pss_nil)
 (pss_one (ps_while (passes_of rfl) (pt_val pe_bl)
 (pss_cons (ps_expr (pe_bm PySem.F.plainAttrs_list PySem.F.slot_list_append PySem.F.type_list_append mt_append (pv 1) (pa_cons (pe_call GAR (hr.mono (by omega)) (by rfl) X.gAR X.kAR X.bAR .nil (passes_call (takes_of rfl rfl rfl rfl) (fun _ _ _ _ h => h)) (pa_cons (pv 0) (pa_cons (pv 1) pa_nil))) pa_nil)))
 (pss_cons (ps_if (pt_val (pe_meth (pv 0) X.T.cl X.T.mTI X.GTI (hr.mono (by omega)) X.bTI .nil (passes_call (takes_of rfl rfl rfl rfl) (fun _ _ _ _ h => h)) (pa_cons pe_str pa_nil)))
 (pss_one (ps_ret (pv 1)))
 pss_nil)
 (pss_one (ps_expr (pe_meth (pv 0) X.T.cl X.T.mEX X.GEX (hr.mono (by omega)) X.bEX .nil (passes_call (takes_of rfl rfl rfl rfl) (fun _ _ _ _ h => h)) (pa_cons pe_str pa_nil)))))))))), ?_⟩
    have eQ : Str.ofString ")" = S [41] := by decide +kernel
    have eK : Str.ofString "," = S [44] := by decide +kernel
    unfold argsS at q
    refine ⟨(by show 0 ≤ sizeLine; decide), fun l hl => ?_⟩
    have hp0 := c.some
    have k0 : Kc p H (upd H l (.lst [])) := (Kc.refl p H).updL hl hp0
    have c0 : CuAt X.CU ts n (upd H l (.lst [])) p s := c.same (same_new hl)
    obtain ⟨dx, _, _, hp, _⟩ := c0.ob
    refine ⟨_, rfl, p, dx, _, rfl, hp, rfl, ts, n, p, s, _, by rw [eQ]; rfl, c0, q.bnd0 k0 fun b s1 v1 H1 k1 c1 r1 q1 => ?_⟩
    have r1' : v1 = .bl b := r1
    subst r1'
    have h1 : H1 l = some (.lst []) := k1.1 _ _ (c0.out upd_same) upd_same
    cases b with
    | true =>
      rw [if_pos rfl] at q1
      exact ⟨_, rfl, iteT ⟨_, rfl, q1 _ _ (k0.trans k1) c1 trivial⟩⟩
    | false =>
      rw [if_neg (by decide)] at q1
      refine ⟨_, rfl, iteF ?_⟩
      refine ⟨fun mm σ H' => ∃ s6 xs rs, σ = [some (.ref p), some (.ref l)] ∧ H' l = some (.lst xs) ∧ Paired (ArAt X H') xs rs ∧ xs.length + mm ≤ 5002 ∧ Kc p H H' ∧ CuAt X.CU ts n H' p s6 ∧ Ps X.CU X.CS ts n p H (argsL ts n (par ts n d) mm (rs.filterMap id) s6) anyV Q E,
        ⟨ts.length + 1, s1, [], [], rfl, h1, .nil, (by have := c.lt; show 0 + (ts.length + 1) ≤ 5002; omega), k0.trans k1, c1, q1⟩, ?_⟩
      rintro mm σ H6 ⟨s6, xs, rs, rfl, h6, x6, hxs, k6, c6, q6⟩
      refine ⟨true, rfl, iteT ?_⟩
      cases mm with
      | zero => exact absurd q6 id
      | succ mm =>
        unfold argsL at q6
        refine ⟨fun σ H' => ∃ s6 xs rs, σ = [some (.ref p), some (.ref l)] ∧ H' l = some (.lst xs) ∧ Paired (ArAt X H') xs rs ∧ xs.length + mm ≤ 5002 ∧ Kc p H H' ∧ CuAt X.CU ts n H' p s6 ∧ Ps X.CU X.CS ts n p H (argsL ts n (par ts n d) mm (rs.filterMap id) s6) anyV Q E, fun σ' H' z => ⟨mm, Nat.lt_succ_self _, z⟩, ?_⟩
        refine ⟨_, rfl, .inl ⟨rfl, _, .inl (.inl h6)⟩, _, rfl, _, rfl, ts, n, p, s6, l, xs, rs, rfl, h6, x6, by omega, c6, q6.bnd0 k6 fun r s7 v7 H7 k7 c7 r7 q7 => ?_⟩
        have h7 : H7 l = some (.lst xs) := k7.1 _ _ (c6.out h6) h6
        have x7 := paired_imp2 x6 fun u r z => z.keep c6 k7
        refine ⟨l, xs, v7, rfl, rfl, h7, Nat.lt_of_le_of_lt (show xs.length ≤ 5002 by omega) (by decide), ?_⟩
        have k67 := k6.trans k7
        have c8 := c.updL (o := .lst (xs ++ [v7])) hl k67 c7
        have k8 := k67.updL (o := .lst (xs ++ [v7])) hl hp0
        have x8 : Paired (ArAt X (upd H7 l (.lst (xs ++ [v7])))) (xs ++ [v7]) (rs ++ [r]) := paired_snoc' (paired_imp2 x7 fun u r z => z.updL (H0 := H) h7) (r7.updL (H0 := H) h7)
        clear hp dx
        obtain ⟨dx, _, _, hp, _⟩ := c8.ob
        refine ⟨_, rfl, p, dx, _, rfl, hp, rfl, ts, n, p, s7, _, by rw [eQ]; rfl, c8, q7.bnd0 k8 fun b s9 v9 H9 k9 c9 r9 q9 => ?_⟩
        have r9' : v9 = .bl b := r9
        subst r9'
        have h9 : H9 l = some (.lst (xs ++ [v7])) := k9.1 _ _ (c8.out upd_same) upd_same
        have x9 := paired_imp2 x8 fun u r z => z.keep c8 k9
        cases b with
        | true =>
          rw [if_pos rfl] at q9
          exact ⟨_, rfl, iteT ⟨_, rfl, q9 _ _ (k8.trans k9) c9 trivial⟩⟩
        | false =>
          rw [if_neg (by decide)] at q9
          refine ⟨_, rfl, iteF ?_⟩
          clear hp dx
          obtain ⟨dx, _, _, hp, _⟩ := c9.ob
          refine ⟨_, rfl, p, dx, _, rfl, hp, rfl, ts, n, p, s9, _, by rw [eK]; rfl, c9, q9.bnd0 (k8.trans k9) fun _ sA vA HA kA cA rA qA => ?_⟩
          refine ⟨sA, _, rs ++ [r], rfl, kA.1 _ _ (c9.out h9) h9, paired_imp2 x9 fun u r z => z.keep c9 kA, (by rw [List.length_append]; show xs.length + 1 + mm ≤ 5002; omega), (k8.trans k9).trans kA, cA, qA.eq ?_⟩
          cases r with
          | none => rw [List.filterMap_append]; simp
          | some t => rw [List.filterMap_append]; rfl
theorem scPS : FnScope ["cursor", "closer", "found"] ["cursor", "closer"] (defScope sPS) := ⟨rfl, rfl, rfl, by decide +kernel, rfl, by decide +kernel, by decide +kernel⟩
theorem lastB_snoc (rs : List (List Nat × Bool)) (r : List Nat × Bool) : lastB (rs ++ [r]) = r.2 := by
  unfold lastB
  rw [List.getLast?_append]
  rfl
theorem ok_PS (X : XT P w K mg base) {d : Nat} (GPM : FnOk P w K mg base (L2.CX P w) (6 + 7 * d) X.fPM X.fdPM ["cursor", "ahead"] (spPM X d)) :
    FnOk P w K mg base (L2.CX P w) (7 + 7 * d) X.fPS X.fdPS ["cursor", "closer"] (spW X (fun ts n => paramsS ts n (par ts n d)) anyV) := by
  rw [show 7 + 7 * d = (6 + 7 * d) + 1 by omega]
  refine X.FPS.okX scPS (fun vs H Q E h => ?_) (fun cdv A outer s H vs Q E hr h => ?_)
  · obtain ⟨ts, n, p, s, cl, rfl, _⟩ := h
    rfl
  · obtain ⟨ts, n, p, s, cl, rfl, c, q⟩ := h
    refine ⟨_,
(pss_cons (ps_set (i := 2) scPS.nd rfl (.inl rfl) (pe_lst pa_nil))
 (pss_cons (ps_if (pt_val (pe_meth (pv 0) X.T.cl X.T.mTI X.GTI (hr.mono (by omega)) X.bTI .nil (passes_call (takes_of rfl rfl rfl rfl) (fun _ _ _ _ h => h)) (pa_cons (pv 1) pa_nil)))
 (pss_one (ps_ret (pv 2)))
 pss_nil)
 (pss_one (ps_while (passes_of rfl) (pt_val pe_bl)
 (pss_cons (ps_expr (pe_bm PySem.F.plainAttrs_list PySem.F.slot_list_append PySem.F.type_list_append mt_append (pv 2) (pa_cons (pe_call GPM (hr.mono (by omega)) (by rfl) X.gPM X.kPM X.bPM .nil (passes_call (takes_of rfl rfl rfl rfl) (fun _ _ _ _ h => h)) (pa_cons (pv 0) (pa_cons (pv 2) pa_nil))) pa_nil)))
 (pss_cons (ps_if (pt_val (pe_meth (pv 0) X.T.cl X.T.mTI X.GTI (hr.mono (by omega)) X.bTI .nil (passes_call (takes_of rfl rfl rfl rfl) (fun _ _ _ _ h => h)) (pa_cons (pv 1) pa_nil)))
 (pss_one (ps_ret (pv 2)))
 pss_nil)
 (pss_one (ps_expr (pe_meth (pv 0) X.T.cl X.T.mEX X.GEX (hr.mono (by omega)) X.bEX .nil (passes_call (takes_of rfl rfl rfl rfl) (fun _ _ _ _ h => h)) (pa_cons pe_str pa_nil)))))))))), ?_⟩
    have eK : Str.ofString "," = S [44] := by decide +kernel
    unfold paramsS at q
    refine ⟨(by show 0 ≤ sizeLine; decide), fun l hl => ?_⟩
    have hp0 := c.some
    have k0 : Kc p H (upd H l (.lst [])) := (Kc.refl p H).updL hl hp0
    have c0 : CuAt X.CU ts n (upd H l (.lst [])) p s := c.same (same_new hl)
    obtain ⟨dx, _, _, hp, _⟩ := c0.ob
    refine ⟨_, rfl, p, dx, _, rfl, hp, rfl, _, rfl, ts, n, p, s, _, rfl, c0, q.bnd0 k0 fun b s1 v1 H1 k1 c1 r1 q1 => ?_⟩
    have r1' : v1 = .bl b := r1
    subst r1'
    have h1 : H1 l = some (.lst []) := k1.1 _ _ (c0.out upd_same) upd_same
    cases b with
    | true =>
      rw [if_pos rfl] at q1
      exact ⟨_, rfl, iteT ⟨_, rfl, q1 _ _ (k0.trans k1) c1 trivial⟩⟩
    | false =>
      rw [if_neg (by decide)] at q1
      refine ⟨_, rfl, iteF ?_⟩
      refine ⟨fun mm σ H' => ∃ s6 xs rs, σ = [some (.ref p), some (.str (S cl)), some (.ref l)] ∧ H' l = some (.lst xs) ∧ Paired (PmAt X H') xs rs ∧ xs.length + mm ≤ 5002 ∧ Kc p H H' ∧ CuAt X.CU ts n H' p s6 ∧ Ps X.CU X.CS ts n p H (paramsL ts n (par ts n d) cl mm (rs.map (·.1)) (lastB rs) s6) anyV Q E,
        ⟨ts.length + 1, s1, [], [], rfl, h1, .nil, (by have := c.lt; show 0 + (ts.length + 1) ≤ 5002; omega), k0.trans k1, c1, q1⟩, ?_⟩
      rintro mm σ H6 ⟨s6, xs, rs, rfl, h6, x6, hxs, k6, c6, q6⟩
      refine ⟨true, rfl, iteT ?_⟩
      cases mm with
      | zero => exact absurd q6 id
      | succ mm =>
        unfold paramsL at q6
        refine ⟨fun σ H' => ∃ s6 xs rs, σ = [some (.ref p), some (.str (S cl)), some (.ref l)] ∧ H' l = some (.lst xs) ∧ Paired (PmAt X H') xs rs ∧ xs.length + mm ≤ 5002 ∧ Kc p H H' ∧ CuAt X.CU ts n H' p s6 ∧ Ps X.CU X.CS ts n p H (paramsL ts n (par ts n d) cl mm (rs.map (·.1)) (lastB rs) s6) anyV Q E, fun σ' H' z => ⟨mm, Nat.lt_succ_self _, z⟩, ?_⟩
        refine ⟨_, rfl, .inl ⟨rfl, _, .inl (.inl h6)⟩, _, rfl, _, rfl, ts, n, p, s6, l, xs, rs, rfl, h6, x6, by omega, c6, q6.bnd0 k6 fun r s7 v7 H7 k7 c7 r7 q7 => ?_⟩
        have h7 : H7 l = some (.lst xs) := k7.1 _ _ (c6.out h6) h6
        have x7 := paired_imp2 x6 fun u r z => z.keep c6 k7
        refine ⟨l, xs, v7, rfl, rfl, h7, Nat.lt_of_le_of_lt (show xs.length ≤ 5002 by omega) (by decide), ?_⟩
        have k67 := k6.trans k7
        have c8 := c.updL (o := .lst (xs ++ [v7])) hl k67 c7
        have k8 := k67.updL (o := .lst (xs ++ [v7])) hl hp0
        have x8 : Paired (PmAt X (upd H7 l (.lst (xs ++ [v7])))) (xs ++ [v7]) (rs ++ [r]) := paired_snoc' (paired_imp2 x7 fun u r z => z.updL (H0 := H) h7) (r7.updL (H0 := H) h7)
        clear hp dx
        obtain ⟨dx, _, _, hp, _⟩ := c8.ob
        refine ⟨_, rfl, p, dx, _, rfl, hp, rfl, _, rfl, ts, n, p, s7, _, rfl, c8, q7.bnd0 k8 fun b s9 v9 H9 k9 c9 r9 q9 => ?_⟩
        have r9' : v9 = .bl b := r9
        subst r9'
        have h9 : H9 l = some (.lst (xs ++ [v7])) := k9.1 _ _ (c8.out upd_same) upd_same
        have x9 := paired_imp2 x8 fun u r z => z.keep c8 k9
        cases b with
        | true =>
          rw [if_pos rfl] at q9
          exact ⟨_, rfl, iteT ⟨_, rfl, q9 _ _ (k8.trans k9) c9 trivial⟩⟩
        | false =>
          rw [if_neg (by decide)] at q9
          refine ⟨_, rfl, iteF ?_⟩
          clear hp dx
          obtain ⟨dx, _, _, hp, _⟩ := c9.ob
          refine ⟨_, rfl, p, dx, _, rfl, hp, rfl, ts, n, p, s9, _, by rw [eK]; rfl, c9, q9.bnd0 (k8.trans k9) fun _ sA vA HA kA cA rA qA => ?_⟩
          refine ⟨sA, _, rs ++ [r], rfl, kA.1 _ _ (c9.out h9) h9, paired_imp2 x9 fun u r z => z.keep c9 kA, (by rw [List.length_append]; show xs.length + 1 + mm ≤ 5002; omega), (k8.trans k9).trans kA, cA, qA.eq ?_⟩
          rw [List.map_append, lastB_snoc]
          rfl
end
end KB
namespace L2
open PySem PySem.Spec PyProof.Rows
/-- d.get(k, x) of a written dict of texts -/
def tKGet2 (K : PySem.W.Frag) (w : World) (td ty tx : TE) : TE := fun σ H Q => td σ H fun x H1 => ∃ a es n, x = .ref a ∧ K.lookup a = some ⟨.type "dict", none, .dict es n, #[]⟩ ∧ PySem.W.KeysLit w.params es.toList ∧ (a == sysModules) = false ∧
  ty σ H1 fun y H2 => tx σ H2 fun z H3 => ∃ k v, y = .str k ∧ ((∃ u, PySem.W.nsIn K a k = some (some u) ∧ RelV v u) ∨ (PySem.W.nsIn K a k = some none ∧ v = z)) ∧ Q v H3
section
variable {X : Cx} {o e f : Expr} {apos cpos : Pos} {td ty tx : TE}
theorem pe_kget2 (ho : PE X o td) (he : PE X e ty) (hf : PE X f tx) (m : M2 X o "get" apos e f cpos) : PE X (.Call (.Attribute o "get" apos) [e, f] [] cpos) (tKGet2 X.K X.w td ty tx) := by
  refine ⟨fun pins s σ H Q I h => ?_⟩
  refine wpAny_Call_method m.base m.few m.line PySem.F.plainAttrs_dict PySem.F.slot_dict_get PySem.F.type_dict_get (thn (ho.run pins s σ H _ I h) fun u s1 ⟨x, H1, I1, rx, a, es, n, ex, hl, hk, hd, q1⟩ => ?_)
  subst ex
  obtain rfl : u = Value.ref a := rx
  have hm1 := PySem.W.mapOf_K (prog := X.prog) (w := X.w) I1.kIn hl hk
  refine ⟨hm1.typeIs, fun b q => ?_, ?_⟩
  · cases q
    exact ⟨_, I1.kIn _ _ hl, rfl⟩
  rw [m.trees]
  refine Calls.callWith_builtin rfl (Calls.evalArgs_plain (Calls.spliced_cons (thn (he.run pins s1 σ H1 _ I1 q1) fun iv s2 ⟨y, H2, I2, ry, q2⟩ =>
    Calls.spliced_cons (thn (hf.run pins s2 σ H2 _ I2 q2) fun fv s3 ⟨z, H3, I3, rz, k, v, ey, hv, q3⟩ => Calls.spliced_nil ?_))))
  subst ey
  obtain ⟨t, rfl⟩ := (show ∃ t, iv = Value.str k t from ry)
  have hm := PySem.W.mapOf_K (prog := X.prog) (w := X.w) I3.kIn hl hk
  refine call_meetsIn PySem.F.slot_dict_get hm.typeIs PySem.F.entry_dict_get (PySem.F.args_dict_get_3 _ _ _) (meets_dict_get_default (strKind X.prog X.w) a (strKind_is X.prog X.w k t) hd fv) ⟨_, hm, ?_⟩
  rcases hv with ⟨u, e, ru⟩ | ⟨e, rfl⟩
  · rw [PySem.W.find_K hl e]
    exact ⟨v, H3, I3.tok _, ru, q3⟩
  · rw [PySem.W.find_K hl e]
    exact ⟨v, H3, I3.tok _, rz, q3⟩
end
end L2
namespace KB
open PySem PySem.Spec PyProof.Rows L2
section
variable {P : Program} {w : World} {K : PySem.W.Frag} {mg : Str → Option Value} {base : Heap}
def AhAt (X : XT P w K mg base) (H : Hp) (v : V) (r : Sh × Nat) : Prop := ∃ t fv, v = .ref t ∧ H t = some (.tup [fv, .int (r.2 : Int)]) ∧ ShAt X H fv r.1
def notL : List Nat := [110, 111, 116]
def minL : List Nat := [45]
theorem bnd_eq {α β : Type} {x x' : M α} {f : α → M β} {s : PS} (h : x s = x' s) : x.bnd f s = x'.bnd f s := by
  unfold M.bnd
  rw [h]
theorem minus_yes {ts : List Tk} {n m k : Nat} {wd : List Nat} {s : PS} (h : tx ts 0 s = wd) : minus ts n wd (m + 1) k s = ((take ts n).bnd fun _ => minus ts n wd m (k + 1)) s := by
  show (if tx ts 0 s = wd then _ else _) = _
  rw [if_pos h]
theorem minus_no {ts : List Tk} {n m k : Nat} {wd : List Nat} {s : PS} (h : tx ts 0 s ≠ wd) : minus ts n wd (m + 1) k s = M.ret k s := by
  show (if tx ts 0 s = wd then _ else _) = _
  rw [if_neg h]
  rfl
theorem scAH : FnScope ["cursor", "mode", "level", "sign", "starts", "start", "found"] ["cursor", "mode", "level"] (defScope sAH) := ⟨rfl, rfl, rfl, by decide +kernel, rfl, by decide +kernel, by decide +kernel⟩
theorem ok_AH (X : XT P w K mg base) {d : Nat} (GSG : FnOk P w K mg base (L2.CX P w) (5 + 7 * d) X.fSG X.fdSG ["cursor", "mode", "level"] (spS X d)) (GCL : FnOk P w K mg base (L2.CX P w) (9 + 7 * d) X.fCL X.fdCL ["cursor", "mode"] (sp2 X (fun ts n m => callS ts n (par ts n d) m) (ShAt X))) :
    FnOk P w K mg base (L2.CX P w) (10 + 7 * d) X.fAH X.fdAH ["cursor", "mode", "level"] (sp3 X (fun ts n m l => aheadS ts n (par ts n d) m l) (AhAt X)) := by
  rw [show 10 + 7 * d = (9 + 7 * d) + 1 by omega]
  refine X.FAH.okX scAH (fun vs H Q E h => ?_) (fun cdv A outer s H vs Q E hr h => ?_)
  · obtain ⟨ts, n, p, s, m, lv, rfl, _⟩ := h
    rfl
  · obtain ⟨ts, n, p, s, m, lv, rfl, c, q⟩ := h
    obtain ⟨t1, gNOT_LEVEL⟩ := X.gNOT_LEVEL
    obtain ⟨t2, gCOMPARISON⟩ := X.gCOMPARISON
    obtain ⟨t3, gCLOSEST⟩ := X.gCLOSEST
    refine ⟨_,
(Evl.pss_cut (ps_set (i := 3) scAH.nd rfl (.inl rfl) (pe_ifExp (PW.pt (pw_and (pt_cmpR op_le (pv 2) (pe_glob (v := .int 3) rfl gNOT_LEVEL ⟨_, rfl⟩) (nomark _)) (pw_and1 (pt_cmpR op_eq (pe_meth0 (pv 0) X.T.cl X.T.mNT X.GNT (hr.mono (by omega)) X.bNT0 X.dNT0 pass0) pe_str (nomark _))))) pe_str pe_str))
 (pss_cons (ps_set (i := 4) scAH.nd rfl (.inl rfl) (pe_lst pa_nil))
 (Evl.pss_cut (ps_while (passes_of rfl) (pt_cmpR op_eq (pe_meth0 (pv 0) X.T.cl X.T.mNT X.GNT (hr.mono (by omega)) X.bNT0 X.dNT0 pass0) (pv 3) (nomark _))
 (pss_one (ps_expr (pe_bm PySem.F.plainAttrs_list PySem.F.slot_list_append PySem.F.type_list_append mt_append (pv 4) (pa_cons (pe_meth0 (pv 0) X.T.cl X.T.mTA X.GTA (hr.mono (by omega)) X.bTA .nil (passes_call (takes_of rfl rfl rfl rfl) (fun _ _ _ _ h => h))) pa_nil)))))
 (Evl.pss_cut (ps_if (pt_cmpR op_eq (pv 3) pe_str (nomark _))
 (pss_one (ps_set (i := 6) scAH.nd rfl (.inl rfl) (pe_call GSG (hr.mono (by omega)) (by rfl) X.gSG X.kSG X.bSG .nil (passes_call (takes_of rfl rfl rfl rfl) (fun _ _ _ _ h => h)) (pa_cons (pv 0) (pa_cons (pv 1) (pa_cons (pe_glob (v := .int 4) rfl gCOMPARISON ⟨_, rfl⟩) pa_nil))))))
 (pss_one (ps_set (i := 6) scAH.nd rfl (.inl rfl) (pe_call GCL (hr.mono (by omega)) (by rfl) X.gCL X.kCL X.bCL .nil (passes_call (takes_of rfl rfl rfl rfl) (fun _ _ _ _ h => h)) (pa_cons (pv 0) (pa_cons (pv 1) pa_nil))))))
 (pss_cons (ps_for (passes_of rfl) rfl (pi_reversed rfl X.reversed (pa_cons (pv 4) pa_nil)) (pg_name (i := 5) scAH.nd rfl (.inl rfl))
 (pss_one (ps_set (i := 6) scAH.nd rfl (.inl rfl) (pe_make X.mUnary.M0 X.mUnary.G (hr.mono (by omega)) (by rfl) X.mUnary.g X.mUnary.b .nil pass0 (pa_cons (pv 3) (pa_cons (pv 5) (pa_cons (pv 6) pa_nil)))))))
 (pss_one (ps_ret (pe_tup (pa_cons (pv 6) (pa_cons (pe_ifExp (pt_cmpR op_eq (pv 3) pe_str (nomark _)) (pe_glob (v := .int 3) rfl gNOT_LEVEL ⟨_, rfl⟩) (pe_glob (v := .int 6) rfl gCLOSEST ⟨_, rfl⟩)) pa_nil)))))))))), ?_⟩
    have eN : Str.ofString "not" = S notL := by decide +kernel
    have eM : Str.ofString "-" = S minL := by decide +kernel
    have hp0 := c.some
    obtain ⟨dx, _, _, hp, _⟩ := c.ob
    let fN : Nat → M (Sh × Nat) := fun k => ((par ts n d).signs m 4).bnd fun x => M.ret (if k = 0 then x else .other, 3)
    let fM : Nat → M (Sh × Nat) := fun k => (callS ts n (par ts n d) m).bnd fun x => M.ret (if k = 0 then x else .other, 6)
    refine ⟨fun σ H' => ∃ w f, σ = [some (.ref p), some (.int (m : Int)), some (.int (lv : Int)), some (.str (S w)), none, none, none] ∧ H' = H ∧ Ps X.CU X.CS ts n p H ((minus ts n w (ts.length + 1) 0).bnd f s) (AhAt X) Q E ∧ ((w = notL ∧ f = fN) ∨ (w = minL ∧ f = fM)), ?_, ?_⟩
    · refine ⟨_, rfl, _, _, rfl, rfl, _, rfl, ?_⟩
      refine bool_if (fun h1 => ?_) (fun h1 => ?_)
      · have h1' : lv ≤ 3 := by
          have z := of_decide_eq_true h1
          omega
        refine ⟨_, rfl, p, dx, _, rfl, hp, rfl, ts, n, p, s, 0, rfl, c, rfl, _, rfl, ?_⟩
        rw [eN, S_eq]
        by_cases h2 : tx ts 0 s = notL
        · refine iteT' (decide_eq_true h2) ?_
          exact ⟨notL, fN, rfl, rfl, q.eq (if_pos ⟨h1', h2⟩), .inl ⟨rfl, rfl⟩⟩
        · refine iteF' (decide_eq_false h2) ?_
          refine ⟨minL, fM, ?_, rfl, q.eq (if_neg fun z => h2 z.2), .inr ⟨rfl, rfl⟩⟩
          rw [eM]
          rfl
      · have h1' : ¬ lv ≤ 3 := by
          have z := of_decide_eq_false h1
          omega
        refine iteF ?_
        refine ⟨minL, fM, ?_, rfl, q.eq (if_neg fun z => h1' z.1), .inr ⟨rfl, rfl⟩⟩
        rw [eM]
        rfl
    · rintro σ H1 ⟨wd, f, rfl, rfl, q1, hw⟩
      refine ⟨(by show 0 ≤ sizeLine; decide), fun l hl => ?_⟩
      have k0 : Kc p H1 (upd H1 l (.lst [])) := (Kc.refl p H1).updL hl hp0
      have c0 : CuAt X.CU ts n (upd H1 l (.lst [])) p s := c.same (same_new hl)
      refine ⟨fun σ H' => ∃ (s6 : PS) (zs : List Int), σ = [some (.ref p), some (.int (m : Int)), some (.int (lv : Int)), some (.str (S wd)), some (.ref l), none, none] ∧ H' l = some (.lst (zs.map V.int)) ∧ zs.length ≤ 5002 ∧ Kc p H1 H' ∧ CuAt X.CU ts n H' p s6 ∧ Ps X.CU X.CS ts n p H1 (f zs.length s6) (AhAt X) Q E, ?_, ?_⟩
      · refine ⟨fun mm σ H' => ∃ (s6 : PS) (zs : List Int), σ = [some (.ref p), some (.int (m : Int)), some (.int (lv : Int)), some (.str (S wd)), some (.ref l), none, none] ∧ H' l = some (.lst (zs.map V.int)) ∧ zs.length + mm ≤ 5002 ∧ Kc p H1 H' ∧ CuAt X.CU ts n H' p s6 ∧ Ps X.CU X.CS ts n p H1 ((minus ts n wd mm zs.length).bnd f s6) (AhAt X) Q E,
          ⟨ts.length + 1, s, [], rfl, upd_same, (by have := c.lt; show 0 + (ts.length + 1) ≤ 5002; omega), k0, c0, q1⟩, ?_⟩
        rintro mm σ H6 ⟨s6, zs, rfl, h6, hz, k6, c6, q6⟩
        clear hp dx
        obtain ⟨dx, _, _, hp, _⟩ := c6.ob
        refine ⟨_, rfl, p, dx, _, rfl, hp, rfl, ts, n, p, s6, 0, rfl, c6, ?_⟩
        refine ⟨_, rfl, rfl, _, rfl, ?_⟩
        rw [S_eq]
        cases mm with
        | zero => exact absurd q6 id
        | succ mm =>
          by_cases h2 : tx ts 0 s6 = wd
          · have q7 : Ps X.CU X.CS ts n p H1 (((take ts n).bnd fun _ => (minus ts n wd mm (zs.length + 1)).bnd f) s6) (AhAt X) Q E := by
              have z : (minus ts n wd (mm + 1) zs.length).bnd f s6 = ((take ts n).bnd fun _ => minus ts n wd mm (zs.length + 1)).bnd f s6 := bnd_eq (minus_yes h2)
              rw [M.assoc] at z
              exact q6.eq z
            refine iteT' (decide_eq_true h2) ?_
            refine ⟨fun σ H' => ∃ (s6 : PS) (zs : List Int), σ = [some (.ref p), some (.int (m : Int)), some (.int (lv : Int)), some (.str (S wd)), some (.ref l), none, none] ∧ H' l = some (.lst (zs.map V.int)) ∧ zs.length + mm ≤ 5002 ∧ Kc p H1 H' ∧ CuAt X.CU ts n H' p s6 ∧ Ps X.CU X.CS ts n p H1 ((minus ts n wd mm zs.length).bnd f s6) (AhAt X) Q E, fun σ' H' z => ⟨mm, Nat.lt_succ_self _, z⟩, ?_⟩
            refine ⟨_, rfl, .inl ⟨rfl, _, .inl (.inl h6)⟩, _, rfl, p, dx, _, rfl, hp, rfl, ts, n, p, s6, rfl, c6, q7.bnd0 k6 fun z s8 v8 H8 k8 c8 r8 q8 => ?_⟩
            have r8' : v8 = .int (z : Int) := r8
            subst r8'
            have h8 : H8 l = some (.lst (zs.map V.int)) := k8.1 _ _ (c6.out h6) h6
            refine ⟨l, _, _, rfl, rfl, h8, (by rw [List.length_map]; exact Nat.lt_of_le_of_lt (show zs.length ≤ 5002 by omega) (by decide)), ?_⟩
            have k68 := k6.trans k8
            refine ⟨s8, zs ++ [(z : Int)], rfl, ?_, (by rw [List.length_append]; show zs.length + 1 + mm ≤ 5002; omega), k68.updL hl hp0, c.updL hl k68 c8, q8.eq (by rw [List.length_append]; rfl)⟩
            rw [upd_same, List.map_append]
            rfl
          · have q7 : Ps X.CU X.CS ts n p H1 (f zs.length s6) (AhAt X) Q E := by
              have z : (minus ts n wd (mm + 1) zs.length).bnd f s6 = f zs.length s6 := bnd_eq (x' := M.ret zs.length) (minus_no h2)
              exact q6.eq z
            refine iteF' (decide_eq_false h2) ?_
            exact ⟨s6, zs, rfl, h6, by omega, k6, c6, q7⟩
      · rintro σ H6 ⟨s6, zs, rfl, h6, hz, k6, c6, q6⟩
        refine ⟨fun σ H' => ∃ s7 v x lev, σ = [some (.ref p), some (.int (m : Int)), some (.int (lv : Int)), some (.str (S wd)), some (.ref l), none, some v] ∧ H' l = some (.lst (zs.map V.int)) ∧ Kc p H1 H' ∧ CuAt X.CU ts n H' p s7 ∧ ShAt X H' v x ∧ Ps X.CU X.CS ts n p H1 (M.ret (if zs.length = 0 then x else .other, lev) s7) (AhAt X) Q E ∧ ((wd = notL ∧ lev = 3) ∨ (wd = minL ∧ lev = 6)), ?_, ?_⟩
        · refine ⟨_, rfl, rfl, _, rfl, ?_⟩
          rw [eN, S_eq]
          rcases hw with ⟨rfl, rfl⟩ | ⟨rfl, rfl⟩
          · refine iteT' (by decide) ?_
            refine ⟨_, rfl, _, rfl, ts, n, p, s6, m, 4, rfl, by decide, c6, q6.bnd0 k6 fun x s7 v7 H7 k7 c7 r7 q7 => ?_⟩
            exact ⟨s7, v7, x, 3, rfl, k7.1 _ _ (c6.out h6) h6, k6.trans k7, c7, r7, q7, .inl ⟨rfl, rfl⟩⟩
          · refine iteF' (by decide) ?_
            refine ⟨_, rfl, _, rfl, ts, n, p, s6, m, rfl, c6, q6.bnd0 k6 fun x s7 v7 H7 k7 c7 r7 q7 => ?_⟩
            exact ⟨s7, v7, x, 6, rfl, k7.1 _ _ (c6.out h6) h6, k6.trans k7, c7, r7, q7, .inr ⟨rfl, rfl⟩⟩
        · rintro σ H7 ⟨s7, v, x, lev, rfl, h7, k7, c7, r7, q7, hlev⟩
          refine ⟨_, rfl, l, _, rfl, .inl (.inl h7), ?_⟩
          have ln : (zs.map V.int).length = zs.length := List.length_map ..
          refine for_it (walk_rev (K := K) (a := l) (xs := zs.map V.int)) (fun i σ H' => ∃ y v, σ = [some (.ref p), some (.int (m : Int)), some (.int (lv : Int)), some (.str (S wd)), some (.ref l), y, some v] ∧ Same H7 H' ∧ ShAt X H' v (if i = 0 then x else .other)) ⟨_, v, rfl, Same.refl _, by rw [if_pos rfl]; exact r7⟩ ?_ ?_ ?_
          · rintro i σ H' _ ⟨y, v, _, sm, _⟩
            exact .inl (.inl (sm _ _ h7))
          · rintro i y σ H8 H9 hi ⟨y0, v, rfl, sm, rv⟩ ⟨e89, hy⟩
            subst e89
            obtain ⟨z, hz1, rfl⟩ : ∃ z : Int, zs[(zs.map V.int).length - 1 - i]? = some z ∧ y = V.int z := by
              rw [List.getElem?_map] at hy
              cases hh : zs[(zs.map V.int).length - 1 - i]? with
              | none => rw [hh] at hy; cases hy
              | some z => rw [hh] at hy; exact ⟨z, rfl, (Option.some.inj hy).symm⟩
            refine ⟨_, rfl, _, rfl, _, rfl, ?_⟩
            intro u dx2 nx ndx _
            refine mk_okR nx ndx (.cons trivial (.cons ⟨_, rfl⟩ (.cons rv.nd .nil))) fun H' y1 y2 sm2 h => ⟨rfl, ?_⟩
            exact ⟨_, _, rfl, sm.trans sm2, by rw [if_neg (Nat.succ_ne_zero i)]; exact NodeC.sh (sh := .other) X.nUnary h rfl rfl⟩
          · rintro σ H8 ⟨y, v, rfl, sm, rv⟩
            rw [ln] at rv
            refine ⟨_, rfl, ?_⟩
            have fin : ∀ H9 t, Same H8 H9 → H9 t = some (.tup [v, .int (lev : Int)]) → Q (.ref t) H9 := fun H9 t sm9 h9 => q7 _ H9 ((k7.trans (.same sm)).trans (.same sm9)) ((c7.same sm).same sm9) ⟨t, v, rfl, h9, rv.same sm9⟩
            refine ⟨_, rfl, rfl, _, rfl, ?_⟩
            rw [eN, S_eq]
            rcases hlev with ⟨rfl, rfl⟩ | ⟨rfl, rfl⟩
            · refine iteT' (by decide) ?_
              exact ⟨(by show 2 ≤ sizeLine; decide), fun t ht => fin _ t (same_new ht) upd_same⟩
            · refine iteF' (by decide) ?_
              exact ⟨(by show 2 ≤ sizeLine; decide), fun t ht => fin _ t (same_new ht) upd_same⟩
end
end KB
namespace KB
open PySem PySem.Spec PyProof.Rows L2
section
variable {P : Program} {w : World} {K : PySem.W.Frag} {mg : Str → Option Value} {base : Heap}
theorem Ps.anyE {CU CS : Addr} {ts : List Tk} {n : Nat} {p : Addr} {H : Hp} {α : Type} {r : Rs α} {R : Hp → V → α → Prop} {Q : VK} {E E' : XK} (h : Ps CU CS ts n p H r R Q E) (ne : ∀ e, r ≠ some (.error e)) : Ps CU CS ts n p H r R Q E' := by
  match r, h, ne with
  | some (.error e), _, ne => exact absurd rfl (ne e)
  | some (.ok (a, s')), h, _ => exact h
theorem begin_ne (s : PS) (e : Nat) : begin s ≠ some (.error e) := by
  unfold begin
  cases s.f <;> simp
theorem endE_ne (s : PS) (e : Nat) : endE s ≠ some (.error e) := by
  unfold endE
  simp
theorem addO_ne (z : Int) (s : PS) (e : Nat) : addO z s ≠ some (.error e) := by
  unfold addO
  simp
theorem scSG : FnScope ["cursor", "mode", "level", "left", "closest", "sign", "right"] ["cursor", "mode", "level"] (defScope sSG) := ⟨rfl, rfl, rfl, by decide +kernel, rfl, by decide +kernel, by decide +kernel⟩
theorem ok_SG (X : XT P w K mg base) {d : Nat} (GSG : FnOk P w K mg base (L2.CX P w) (5 + 7 * d) X.fSG X.fdSG ["cursor", "mode", "level"] (spS X d)) (GAH : FnOk P w K mg base (L2.CX P w) (10 + 7 * d) X.fAH X.fdAH ["cursor", "mode", "level"] (sp3 X (fun ts n m l => aheadS ts n (par ts n d) m l) (AhAt X))) :
    FnOk P w K mg base (L2.CX P w) (11 + 7 * d) X.fSG X.fdSG ["cursor", "mode", "level"] (spS X (d + 1)) := by
  rw [show 11 + 7 * d = (10 + 7 * d) + 1 by omega]
  refine X.FSG.okX scSG (fun vs H Q E h => ?_) (fun cdv A outer s H vs Q E hr h => ?_)
  · obtain ⟨ts, n, p, s, m, lv, rfl, _⟩ := h
    rfl
  · obtain ⟨ts, n, p, s, m, lv, rfl, lv1, c, q⟩ := h
    obtain ⟨t2, gCOMPARISON⟩ := X.gCOMPARISON
    obtain ⟨es, nn, hl, hk, low, hlev⟩ := X.lev
    refine ⟨_,
(pss_cons (ps_asg (pe_call GAH (hr.mono (by omega)) (by rfl) X.gAH X.kAH X.bAH .nil (passes_call (takes_of rfl rfl rfl rfl) (fun _ _ _ _ h => h)) (pa_cons (pv 0) (pa_cons (pv 1) (pa_cons (pv 2) pa_nil)))) (pg_tup rfl (pgs_cons (pg_name (i := 3) scSG.nd rfl (.inl rfl)) (pgs_cons (pg_name (i := 4) scSG.nd rfl (.inl rfl)) pgs_nil))))
 (pss_cons (ps_while (passes_of rfl) (pt_chain op_le op_le (pv 2) (pe_kget2 (pe_glob (v := .ref X.aL) rfl X.gLEV rfl) (pe_meth0 (pv 0) X.T.cl X.T.mNT X.GNT (hr.mono (by omega)) X.bNT0 X.dNT0 pass0) pe_int ⟨rfl, rfl, rfl, rfl⟩) (pv 4))
 (pss_cons (ps_set (i := 5) scSG.nd rfl (.inl rfl) (pe_meth0 (pv 0) X.T.cl X.T.mNT X.GNT (hr.mono (by omega)) X.bNT0 X.dNT0 pass0))
 (pss_cons (ps_expr (pe_meth0 (pv 0) X.T.cl X.T.mTA X.GTA (hr.mono (by omega)) X.bTA .nil (passes_call (takes_of rfl rfl rfl rfl) (fun _ _ _ _ h => h))))
 (pss_cons (ps_set (i := 6) scSG.nd rfl (.inl rfl) (pe_call GSG (hr.mono (by omega)) (by rfl) X.gSG X.kSG X.bSG .nil (passes_call (takes_of rfl rfl rfl rfl) (fun _ _ _ _ h => h)) (pa_cons (pv 0) (pa_cons (pv 1) (pa_cons (pe_op op_add (pe_ix ix_kdict (pe_glob (v := .ref X.aL) rfl X.gLEV rfl) (pv 5) (fun _ _ => rfl)) pe_int) pa_nil)))))
 (pss_cons (ps_set (i := 3) scSG.nd rfl (.inl rfl) (pe_make X.mBinary.M0 X.mBinary.G (hr.mono (by omega)) (by rfl) X.mBinary.g X.mBinary.b .nil pass0 (pa_cons (pv 5) (pa_cons (pv 3) (pa_cons (pv 6) pa_nil)))))
 (pss_one (ps_set (i := 4) scSG.nd rfl (.inl rfl) (pe_ifExp (pt_cmpR op_eq (pe_ix ix_kdict (pe_glob (v := .ref X.aL) rfl X.gLEV rfl) (pv 5) (fun _ _ => rfl)) (pe_glob (v := .int 4) rfl gCOMPARISON ⟨_, rfl⟩) (nomark _)) (pe_op op_sub (pe_ix ix_kdict (pe_glob (v := .ref X.aL) rfl X.gLEV rfl) (pv 5) (fun _ _ => rfl)) pe_int) (pe_ix ix_kdict (pe_glob (v := .ref X.aL) rfl X.gLEV rfl) (pv 5) (fun _ _ => rfl))))))))))
 (pss_one (ps_ret (pv 3))))), ?_⟩
    have q0 : Ps X.CU X.CS ts n p H (((aheadS ts n (par ts n d) m lv).bnd fun a => sgnL ts n (par ts n d) m lv (ts.length + 1) a.1 a.2) s) (ShAt X) Q E := q
    refine ⟨_, rfl, _, rfl, _, rfl, ts, n, p, s, m, lv, rfl, c, q0.bnd fun a s1 v1 H1 k1 c1 r1 q1 => ?_⟩
    obtain ⟨t, fv, rfl, ht, rf⟩ := r1
    refine ⟨t, _, rfl, .inl (.inl ht), rfl, _, _, rfl, _, _, rfl, rfl, ?_⟩
    refine ⟨fun mm σ H' => ∃ s6 v x cl y5 y6, σ = [some (.ref p), some (.int (m : Int)), some (.int (lv : Int)), some v, some (.int ((cl : Nat) : Int)), y5, y6] ∧ ShAt X H' v x ∧ CuAt X.CU ts n H' p s6 ∧ Ps X.CU X.CS ts n p H' (sgnL ts n (par ts n d) m lv mm x cl s6) (ShAt X) Q E, ⟨_, s1, fv, a.1, a.2, _, _, rfl, rf, c1, q1⟩, ?_⟩
    rintro mm σ H6 ⟨s6, v, x, cl, y5, y6, rfl, r6, c6, q6⟩
    obtain ⟨dx, _, _, hp, _⟩ := c6.ob
    have hv : (∃ u, PySem.W.nsIn K X.aL (S (tx ts 0 s6)) = some (some u) ∧ RelV (.int ((level (tx ts 0 s6) : Nat) : Int)) u) ∨ (PySem.W.nsIn K X.aL (S (tx ts 0 s6)) = some none ∧ V.int ((level (tx ts 0 s6) : Nat) : Int) = .int 0) := by
      rcases hlev (tx ts 0 s6) with ⟨e, h⟩ | ⟨t, h⟩
      · exact .inr ⟨h, by rw [e]; rfl⟩
      · exact .inl ⟨_, h, t, rfl⟩
    cases mm with
    | zero => exact absurd q6 id
    | succ mm =>
      refine ⟨_, rfl, X.aL, es, nn, rfl, hl, hk, low, _, rfl, p, dx, _, rfl, hp, rfl, ts, n, p, s6, 0, rfl, c6, S (tx ts 0 s6), .int ((level (tx ts 0 s6) : Nat) : Int), rfl, hv, _, _, rfl, rfl, _, rfl, ?_⟩
      have no : ¬ (lv ≤ level (tx ts 0 s6) ∧ level (tx ts 0 s6) ≤ cl) → Q v H6 := fun h => (q6.eq (show sgnL ts n (par ts n d) m lv (mm + 1) x cl s6 = some (.ok (x, s6)) from if_neg h)) _ _ (.refl _ _) c6 r6
      refine bool_if (fun h1 => ?_) (fun h1 => ?_)
      · have h1' : lv ≤ level (tx ts 0 s6) := by
          have z := of_decide_eq_true h1
          omega
        refine ⟨_, rfl, _, _, rfl, rfl, _, rfl, ?_⟩
        refine bool_if (fun h2 => ?_) (fun h2 => ?_)
        · have h2' : level (tx ts 0 s6) ≤ cl := by
            have z := of_decide_eq_true h2
            omega
          have q7 : Ps X.CU X.CS ts n p H6 (((take ts n).bnd fun _ => ((par ts n d).signs m (level (tx ts 0 s6) + 1)).bnd fun _ => sgnL ts n (par ts n d) m lv mm .other (if level (tx ts 0 s6) = 4 then 3 else level (tx ts 0 s6))) s6) (ShAt X) Q E := q6.eq (if_pos ⟨h1', h2'⟩)
          have kd : KDct K w X.aL (S (tx ts 0 s6)) (.int ((level (tx ts 0 s6) : Nat) : Int)) := by
            rcases hlev (tx ts 0 s6) with ⟨e, h⟩ | ⟨t, h⟩
            · omega
            · exact ⟨es, nn, _, hl, hk, h, t, rfl⟩
          refine ⟨fun σ H' => ∃ s6 v x cl y5 y6, σ = [some (.ref p), some (.int (m : Int)), some (.int (lv : Int)), some v, some (.int ((cl : Nat) : Int)), y5, y6] ∧ ShAt X H' v x ∧ CuAt X.CU ts n H' p s6 ∧ Ps X.CU X.CS ts n p H' (sgnL ts n (par ts n d) m lv mm x cl s6) (ShAt X) Q E, fun σ' H' z => ⟨mm, Nat.lt_succ_self _, z⟩, ?_⟩
          generalize level (tx ts 0 s6) = l at *
          refine ⟨_, rfl, p, dx, _, rfl, hp, rfl, ts, n, p, s6, 0, rfl, c6, ?_⟩
          refine ⟨_, rfl, p, dx, _, rfl, hp, rfl, ts, n, p, s6, rfl, c6, q7.bnd fun _ s8 v8 H8 k8 c8 r8 q8 => ?_⟩
          have r6' := r6.keep c6 k8
          refine ⟨_, rfl, _, rfl, _, rfl, X.aL, _, _, rfl, rfl, kd, _, _, rfl, rfl, ts, n, p, s8, m, l + 1, rfl, by omega, c8, q8.bnd fun x9 s9 v9 H9 k9 c9 r9 q9 => ?_⟩
          have r6'' := r6'.keep c8 k9
          refine ⟨_, rfl, _, rfl, _, rfl, ?_⟩
          intro u dx2 nx ndx _
          refine mk_okR nx ndx (.cons trivial (.cons r6''.nd (.cons r9.nd .nil))) fun H' y1 y2 sm h => ⟨rfl, ?_⟩
          have sh : ShAt X H' (.ref u) .other := NodeC.sh (sh := .other) X.nBinary h rfl rfl
          refine ⟨_, rfl, X.aL, _, _, rfl, rfl, kd, rfl, _, rfl, ?_⟩
          rw [int_eq]
          by_cases h4 : l = 4
          · refine iteT' (decide_eq_true (by omega)) ?_
            subst h4
            exact ⟨_, rfl, X.aL, _, _, rfl, rfl, kd, _, _, rfl, rfl, s9, _, .other, 3, _, _, rfl, sh, c9.same sm, q9.keep (.same sm)⟩
          · refine iteF' (decide_eq_false (by omega)) ?_
            rw [if_neg h4] at q9
            exact ⟨_, rfl, X.aL, _, _, rfl, rfl, kd, s9, _, .other, l, _, _, rfl, sh, c9.same sm, q9.keep (.same sm)⟩
        · have h2' : ¬ level (tx ts 0 s6) ≤ cl := by
            have z := of_decide_eq_false h2
            omega
          exact ⟨_, rfl, no fun z => h2' z.2⟩
      · have h1' : ¬ lv ≤ level (tx ts 0 s6) := by
          have z := of_decide_eq_false h1
          omega
        exact ⟨false, rfl, iteF ⟨_, rfl, no fun z => h1' z.1⟩⟩
theorem scE : FnScope ["cursor", "mode", "outermost", "found"] ["cursor", "mode"] (defScope sE_) := ⟨rfl, rfl, rfl, by decide +kernel, rfl, by decide +kernel, by decide +kernel⟩
theorem ok_E (X : XT P w K mg base) {d : Nat} (GSG : FnOk P w K mg base (L2.CX P w) (11 + 7 * d) X.fSG X.fdSG ["cursor", "mode", "level"] (spS X (d + 1))) (GFN : FnOk P w K mg base (L2.CX P w) (8 + 7 * d) X.fFN X.fdFN ["cursor"] (sp1 X (fun ts n => fnS ts n (par ts n d)) (ShAt X))) :
    FnOk P w K mg base (L2.CX P w) (12 + 7 * d) X.fE X.fdE ["cursor", "mode"] (spE X (d + 1)) := by
  rw [show 12 + 7 * d = (11 + 7 * d) + 1 by omega]
  refine X.FE.okX scE (fun vs H Q E h => ?_) (fun cdv A outer s H vs Q E hr h => ?_)
  · obtain ⟨ts, n, p, s, m, rfl, _⟩ := h
    rfl
  · obtain ⟨ts, n, p, s, m, rfl, c, q⟩ := h
    obtain ⟨t1, gPLAIN⟩ := X.gPLAIN
    obtain ⟨t2, gLOOSEST⟩ := X.gLOOSEST
    refine ⟨_,
(pss_cons (ps_set (i := 2) scE.nd rfl (.inl rfl) (pe_meth0 (pv 0) X.T.cl X.T.mBE X.GBE (hr.mono (by omega)) X.bBE .nil pass0))
 (Evl.pss_cut (ps_if (PW.pt (pw_and (pt_cmpR op_eq (pe_meth0 (pv 0) X.T.cl X.T.mNT X.GNT (hr.mono (by omega)) X.bNT0 X.dNT0 pass0) pe_str (nomark _)) (pw_and1 (pt_cmpR op_ne (pv 1) (pe_glob (v := .int 0) rfl gPLAIN ⟨_, rfl⟩) (nomark _)))))
 (pss_one (ps_set (i := 3) scE.nd rfl (.inl rfl) (pe_call GFN (hr.mono (by omega)) (by rfl) X.gFN X.kFN X.bFN .nil (passes_call (takes_of rfl rfl rfl rfl) (fun _ _ _ _ h => h)) (pa_cons (pv 0) pa_nil))))
 (pss_one (ps_set (i := 3) scE.nd rfl (.inl rfl) (pe_call GSG (hr.mono (by omega)) (by rfl) X.gSG X.kSG X.bSG .nil (passes_call (takes_of rfl rfl rfl rfl) (fun _ _ _ _ h => h)) (pa_cons (pv 0) (pa_cons (pv 1) (pa_cons (pe_glob (v := .int 1) rfl gLOOSEST ⟨_, rfl⟩) pa_nil)))))))
 (pss_cons (ps_if (pt_val (pv 2))
 (pss_one (ps_expr (pe_meth0 (pv 0) X.T.cl X.T.mEE X.GEE (hr.mono (by omega)) X.bEE .nil pass0)))
 pss_nil)
 (pss_one (ps_ret (pv 3)))))), ?_⟩
    have eF : Str.ofString "fn" = S [102, 110] := by decide +kernel
    obtain ⟨dx, _, _, hp, _⟩ := c.ob
    have q0 : Ps X.CU X.CS ts n p H ((begin.bnd fun out => M.bnd (fun s => if tx ts 0 s = [102, 110] ∧ m ≠ 0 then fnS ts n (par ts n d) s else signsS ts n (par ts n d) m 1 s) fun x => if out = true then endE.bnd fun _ => M.ret x else M.ret x) s) (ShAt X) Q E := q
    refine ⟨_, rfl, p, dx, _, rfl, hp, rfl, ts, n, p, s, rfl, c, Ps.anyE (q0.bnd fun b s1 v1 H1 k1 c1 r1 q1 => ?_) (begin_ne s)⟩
    have r1' : v1 = .bl b := r1
    subst r1'
    clear hp dx
    obtain ⟨dx, _, _, hp, _⟩ := c1.ob
    refine ⟨fun σ H' => ∃ s6 v x, σ = [some (.ref p), some (.int (m : Int)), some (.bl b), some v] ∧ ShAt X H' v x ∧ CuAt X.CU ts n H' p s6 ∧ Ps X.CU X.CS ts n p H' ((if b = true then endE.bnd fun _ => M.ret x else M.ret x) s6) (ShAt X) Q E, ?_, ?_⟩
    · refine ⟨_, rfl, p, dx, _, rfl, hp, rfl, ts, n, p, s1, 0, rfl, c1, rfl, _, rfl, ?_⟩
      rw [eF, S_eq]
      by_cases h1 : tx ts 0 s1 = [102, 110]
      · refine iteT' (decide_eq_true h1) ?_
        refine ⟨_, rfl, rfl, _, rfl, ?_⟩
        rw [int_eq]
        by_cases hm : m = 0
        · refine iteF' (by rw [decide_eq_true (by omega)]; rfl) ?_
          have q2 : Ps X.CU X.CS ts n p H1 ((signsS ts n (par ts n d) m 1).bnd (fun x => if b = true then endE.bnd fun _ => M.ret x else M.ret x) s1) (ShAt X) Q E := q1.eq (bnd_eq (if_neg fun z => z.2 hm))
          exact ⟨_, rfl, _, rfl, ts, n, p, s1, m, 1, rfl, by decide, c1, q2.bnd fun x s2 v2 H2 k2 c2 r2 q3 => ⟨s2, v2, x, rfl, r2, c2, q3⟩⟩
        · refine iteT' (by rw [decide_eq_false (by omega)]; rfl) ?_
          have q2 : Ps X.CU X.CS ts n p H1 ((fnS ts n (par ts n d)).bnd (fun x => if b = true then endE.bnd fun _ => M.ret x else M.ret x) s1) (ShAt X) Q E := q1.eq (bnd_eq (if_pos ⟨h1, hm⟩))
          exact ⟨_, rfl, ts, n, p, s1, rfl, c1, q2.bnd fun x s2 v2 H2 k2 c2 r2 q3 => ⟨s2, v2, x, rfl, r2, c2, q3⟩⟩
      · refine iteF' (decide_eq_false h1) (iteF ?_)
        have q2 : Ps X.CU X.CS ts n p H1 ((signsS ts n (par ts n d) m 1).bnd (fun x => if b = true then endE.bnd fun _ => M.ret x else M.ret x) s1) (ShAt X) Q E := q1.eq (bnd_eq (if_neg fun z => h1 z.1))
        exact ⟨_, rfl, _, rfl, ts, n, p, s1, m, 1, rfl, by decide, c1, q2.bnd fun x s2 v2 H2 k2 c2 r2 q3 => ⟨s2, v2, x, rfl, r2, c2, q3⟩⟩
    · rintro σ H6 ⟨s6, v, x, rfl, r6, c6, q6⟩
      refine ⟨_, rfl, _, rfl, ?_⟩
      cases b with
      | true =>
        rw [if_pos rfl] at q6
        refine iteT ?_
        clear hp dx
        obtain ⟨dx, _, _, hp, _⟩ := c6.ob
        refine ⟨_, rfl, p, dx, _, rfl, hp, rfl, ts, n, p, s6, rfl, c6, Ps.anyE (q6.bnd fun _ s7 v7 H7 k7 c7 r7 q7 => ?_) (endE_ne s6)⟩
        exact ⟨_, rfl, q7 _ _ (.refl _ _) c7 (r6.keep c6 k7)⟩
      | false =>
        rw [if_neg (by decide)] at q6
        refine iteF ?_
        exact ⟨_, rfl, q6 _ _ (.refl _ _) c6 r6⟩
end
end KB
namespace KB
open PySem PySem.Spec PyProof.Rows L2
section
variable {P : Program} {w : World} {K : PySem.W.Frag} {mg : Str → Option Value} {base : Heap}
structure Lv (X : XT P w K mg base) (d : Nat) : Prop where
  E : FnOk P w K mg base (L2.CX P w) (5 + 7 * d) X.fE X.fdE ["cursor", "mode"] (spE X d)
  S : FnOk P w K mg base (L2.CX P w) (5 + 7 * d) X.fSG X.fdSG ["cursor", "mode", "level"] (spS X d)
theorem Lv.PS {X : XT P w K mg base} {d : Nat} (l : Lv X d) : FnOk P w K mg base (L2.CX P w) (7 + 7 * d) X.fPS X.fdPS ["cursor", "closer"] (spW X (fun ts n => paramsS ts n (par ts n d)) anyV) := ok_PS X (ok_PM X l.E)
theorem Lv.CL {X : XT P w K mg base} {d : Nat} (l : Lv X d) : FnOk P w K mg base (L2.CX P w) (9 + 7 * d) X.fCL X.fdCL ["cursor", "mode"] (sp2 X (fun ts n m => callS ts n (par ts n d) m) (ShAt X)) :=
  ok_CL X l.E (ok_SI X l.E (ok_LI X l.E (ok_CO X l.E))) (ok_AS X (ok_AR X l.E))
theorem lv (X : XT P w K mg base) : ∀ d, Lv X d
  | 0 => ⟨⟨fun vs H Q E h => by
        obtain ⟨ts, n, p, s, m, rfl, _, q⟩ := h
        exact absurd q id, fun A outer s H args us vs Q E hr he hb hv hs => by
        obtain ⟨ts, n, p, s, m, rfl, _, q⟩ := hs
        exact absurd q id⟩, ⟨fun vs H Q E h => by
        obtain ⟨ts, n, p, s, m, l, rfl, _, _, q⟩ := h
        exact absurd q id, fun A outer s H args us vs Q E hr he hb hv hs => by
        obtain ⟨ts, n, p, s, m, l, rfl, _, _, q⟩ := hs
        exact absurd q id⟩⟩
  | d + 1 => by
    have l := lv X d
    have sg := ok_SG X l.S (ok_AH X l.S l.CL)
    have e := ok_E X sg (ok_FN X l.E l.PS)
    have n : 5 + 7 * (d + 1) = 12 + 7 * d := by omega
    exact ⟨by rw [n]; exact e, by rw [n]; exact sg.mono (by omega)⟩
def spIT (X : XT P w K mg base) : Sp := fun vs H Q _ => ∃ (v : V) (x : Sh), vs = [v] ∧ ShAt X H v x ∧ ∀ H', Same H H' → Q (.bl x.target) H'
theorem scIT : FnScope ["found"] ["found"] (defScope sIT) := ⟨rfl, rfl, rfl, by decide +kernel, rfl, by decide +kernel, by decide +kernel⟩
theorem ok_IT (X : XT P w K mg base) {k : Nat} : FnOk P w K mg base CX0 (k + 1) X.fIT X.fdIT ["found"] (spIT X) := by
  refine X.FIT.ok scIT (fun vs H Q E h => ?_) (fun cdv A outer s H vs Q E hr h => ?_)
  · obtain ⟨v, x, rfl, _⟩ := h
    rfl
  · obtain ⟨v, x, rfl, r, q⟩ := h
    refine ⟨_,
(pss_one (ps_ret (pe_callB call_isiT (by rfl) X.isinstance (by decide +kernel) (pa_cons (pv 0) (pa_cons (pe_tup (pa_cons (pe_glob (v := .ref X.cName) rfl X.mName.g rfl) (pa_cons (pe_glob (v := .ref X.cMember) rfl X.mMember.g rfl) pa_nil))) pa_nil))))), ?_⟩
    obtain ⟨b, C, d, fs, z1, z2, rfl, nd, ci⟩ := r
    refine ⟨_, rfl, (by show 2 ≤ sizeLine; decide), fun t ht => ?_⟩
    have st := same_new (o := .tup [.ref X.cName, .ref X.cMember]) ht
    exact ⟨.ref b, t, [.ref X.cName, .ref X.cMember], .ref C, [.ref X.cName, .ref X.cMember], x.target, rfl, upd_same, .cons (.own _) (.cons (.own _) .nil), .base (.ins (st _ _ nd.at_) nd.cl ci.ha ci.hn ci.ht ci.hm), ci.kit, q _ st⟩
theorem scRT : FnScope ["cursor", "found"] ["cursor"] (defScope sRT) := ⟨rfl, rfl, rfl, by decide +kernel, rfl, by decide +kernel, by decide +kernel⟩
theorem ok_RT (X : XT P w K mg base) {d : Nat} (GCL : FnOk P w K mg base (L2.CX P w) (9 + 7 * d) X.fCL X.fdCL ["cursor", "mode"] (sp2 X (fun ts n m => callS ts n (par ts n d) m) (ShAt X)))
    (GIT : FnOk P w K mg base CX0 1 X.fIT X.fdIT ["found"] (spIT X)) :
    FnOk P w K mg base (L2.CX P w) (10 + 7 * d) X.fRT X.fdRT ["cursor"] (sp1 X (fun ts n => targetS ts n (par ts n d)) anyV) := by
  rw [show 10 + 7 * d = (9 + 7 * d) + 1 by omega]
  refine X.FRT.okX scRT (fun vs H Q E h => ?_) (fun cdv A outer s H vs Q E hr h => ?_)
  · obtain ⟨ts, n, p, s, rfl, _⟩ := h
    rfl
  · obtain ⟨ts, n, p, s, rfl, c, q⟩ := h
    obtain ⟨t1, gFREE⟩ := X.gFREE
    refine ⟨_,
(pss_cons (ps_expr (pe_meth0 (pv 0) X.T.cl X.T.mBE X.GBE (hr.mono (by omega)) X.bBE .nil pass0))
 (pss_cons (ps_set (i := 1) scRT.nd rfl (.inl rfl) (pe_call GCL (hr.mono (by omega)) (by rfl) X.gCL X.kCL X.bCL .nil (passes_call (takes_of rfl rfl rfl rfl) (fun _ _ _ _ h => h)) (pa_cons (pv 0) (pa_cons (pe_glob (v := .int 2) rfl gFREE ⟨_, rfl⟩) pa_nil))))
 (pss_cons (ps_expr (pe_meth0 (pv 0) X.T.cl X.T.mEE X.GEE (hr.mono (by omega)) X.bEE .nil pass0))
 (pss_cons (ps_if (pt_not (pt_val (pe_call GIT (hr.mono (by omega)) (by rfl) X.gIT X.kIT X.bIT .nil pass0 (pa_cons (pv 1) pa_nil))))
 (pss_one (ps_expr (pe_meth0 (pv 0) X.T.cl X.T.mRF X.GRF (hr.mono (by omega)) X.bRF .nil (passes_call (takes_of rfl rfl rfl rfl) (fun _ _ _ _ h => h)))))
 pss_nil)
 (pss_one (ps_ret (pv 1))))))), ?_⟩
    unfold targetS at q
    obtain ⟨dx, _, _, hp, _⟩ := c.ob
    refine ⟨_, rfl, p, dx, _, rfl, hp, rfl, ts, n, p, s, rfl, c, Ps.anyE (q.bnd fun b s1 v1 H1 k1 c1 r1 q1 => ?_) (begin_ne s)⟩
    refine ⟨_, rfl, ts, n, p, s1, 2, rfl, c1, q1.bnd fun x s2 v2 H2 k2 c2 r2 q2 => ?_⟩
    clear hp dx
    obtain ⟨dx, _, _, hp, _⟩ := c2.ob
    refine ⟨_, rfl, p, dx, _, rfl, hp, rfl, ts, n, p, s2, rfl, c2, Ps.anyE (q2.bnd fun _ s3 v3 H3 k3 c3 r3 q3 => ?_) (endE_ne s2)⟩
    have r2' := r2.keep c2 k3
    refine ⟨_, rfl, v2, x, rfl, r2', fun H4 sm4 => ?_⟩
    have c4 := c3.same sm4
    have q4 := q3.keep (.same sm4)
    refine ⟨_, rfl, ?_⟩
    clear hp dx
    obtain ⟨dx, _, _, hp, _⟩ := c4.ob
    cases hx : x.target with
    | true =>
      refine iteF ?_
      exact ⟨_, rfl, (q4.eq (congrFun (if_pos hx) s3)) _ _ (.refl _ _) c4 trivial⟩
    | false =>
      refine iteT' rfl ?_
      exact ⟨_, rfl, p, dx, _, rfl, hp, rfl, ts, n, p, s3, rfl, c4, (q4.eq (congrFun (if_neg (by rw [hx]; decide)) s3)).err⟩
end
end KB
namespace KB
open PySem PySem.Spec PyProof.Rows L2
section
variable {P : Program} {w : World} {K : PySem.W.Frag} {mg : Str → Option Value} {base : Heap}
theorem eSemi : Str.ofString ";" = S [59] := by decide +kernel
theorem eComma : Str.ofString "," = S [44] := by decide +kernel
def noneOrNd (K : PySem.W.Frag) {α : Type} : Hp → V → α → Prop := fun H v _ => v = .non ∨ NdAt K H v
theorem scAL : FnScope ["cursor"] ["cursor"] (defScope sAL) := ⟨rfl, rfl, rfl, by decide +kernel, rfl, by decide +kernel, by decide +kernel⟩
theorem ok_AL (X : XT P w K mg base) : FnOk P w K mg base (L2.CX P w) 6 X.fAL X.fdAL ["cursor"] (sp1 X aliasS (noneOrNd K)) := by
  refine X.FAL.okX scAL (fun vs H Q E h => ?_) (fun cdv A outer s H vs Q E hr h => ?_)
  · obtain ⟨ts, n, p, s, rfl, _⟩ := h
    rfl
  · obtain ⟨ts, n, p, s, rfl, c, q⟩ := h
    refine ⟨_,
(pss_one (ps_ret (pe_ifExp (pt_val (pe_meth (pv 0) X.T.cl X.T.mTI X.GTI (hr.mono (by omega)) X.bTI .nil (passes_call (takes_of rfl rfl rfl rfl) (fun _ _ _ _ h => h)) (pa_cons pe_str pa_nil))) (pe_meth0 (pv 0) X.T.cl X.T.mTN X.GTN (hr.mono (by omega)) X.bTN0 X.dTN0 (passes_call (takes_of rfl rfl rfl rfl) (fun _ _ _ _ h => h))) pe_non))), ?_⟩
    unfold aliasS at q
    have eA : Str.ofString "as" = S [97, 115] := by decide +kernel
    obtain ⟨dx, _, _, hp, _⟩ := c.ob
    refine ⟨_, rfl, p, dx, _, rfl, hp, rfl, ts, n, p, s, _, by rw [eA]; rfl, c, q.bnd fun b s1 v1 H1 k1 c1 r1 q1 => ?_⟩
    have r1' : v1 = .bl b := r1
    subst r1'
    cases b with
    | true =>
      rw [if_pos rfl] at q1
      refine ⟨_, rfl, iteT ?_⟩
      clear hp dx
      obtain ⟨dx, _, _, hp, _⟩ := c1.ob
      exact ⟨_, rfl, p, dx, _, rfl, hp, rfl, ts, n, p, s1, X.aE, [], rfl, .inr (X.sE0 _), c1, q1.bnd fun a s2 v2 H2 k2 c2 r2 q2 => q2 _ _ (.refl _ _) c2 (.inr (r2.nd (X := X)).nd)⟩
    | false =>
      rw [if_neg (by decide)] at q1
      exact ⟨_, rfl, iteF (q1 _ _ (.refl _ _) c1 (.inl rfl))⟩
theorem scIM : FnScope ["cursor", "start", "module", "alias"] ["cursor"] (defScope sIM) := ⟨rfl, rfl, rfl, by decide +kernel, rfl, by decide +kernel, by decide +kernel⟩
theorem ok_IM (X : XT P w K mg base) (GAL : FnOk P w K mg base (L2.CX P w) 6 X.fAL X.fdAL ["cursor"] (sp1 X aliasS (noneOrNd K))) : FnOk P w K mg base (L2.CX P w) 7 X.fIM X.fdIM ["cursor"] (sp1 X importS anyV) := by
  refine X.FIM.okX scIM (fun vs H Q E h => ?_) (fun cdv A outer s H vs Q E hr h => ?_)
  · obtain ⟨ts, n, p, s, rfl, _⟩ := h
    rfl
  · obtain ⟨ts, n, p, s, rfl, c, q⟩ := h
    refine ⟨_,
(pss_cons (ps_set (i := 1) scIM.nd rfl (.inl rfl) (pe_meth (pv 0) X.T.cl X.T.mEX X.GEX (hr.mono (by omega)) X.bEX .nil (passes_call (takes_of rfl rfl rfl rfl) (fun _ _ _ _ h => h)) (pa_cons pe_str pa_nil)))
 (pss_cons (ps_set (i := 2) scIM.nd rfl (.inl rfl) (pe_meth0 (pv 0) X.T.cl X.T.mTN X.GTN (hr.mono (by omega)) X.bTN0 X.dTN0 (passes_call (takes_of rfl rfl rfl rfl) (fun _ _ _ _ h => h))))
 (pss_cons (ps_set (i := 3) scIM.nd rfl (.inl rfl) (pe_call GAL (hr.mono (by omega)) (by rfl) X.gAL X.kAL X.bAL .nil (passes_call (takes_of rfl rfl rfl rfl) (fun _ _ _ _ h => h)) (pa_cons (pv 0) pa_nil)))
 (pss_cons (ps_expr (pe_meth (pv 0) X.T.cl X.T.mEX X.GEX (hr.mono (by omega)) X.bEX .nil (passes_call (takes_of rfl rfl rfl rfl) (fun _ _ _ _ h => h)) (pa_cons pe_str pa_nil)))
 (pss_one (ps_ret (pe_make X.mImport.M0 X.mImport.G (hr.mono (by omega)) (by rfl) X.mImport.g X.mImport.b .nil pass0 (pa_cons (pv 1) (pa_cons (pe_fld (pv 0) rfl) (pa_cons (pv 2) (pa_cons (pv 3) pa_nil))))))))))), ?_⟩
    unfold importS at q
    have eA : Str.ofString "import" = S [105, 109, 112, 111, 114, 116] := by decide +kernel
    obtain ⟨dx, _, _, hp, _⟩ := c.ob
    refine ⟨_, rfl, p, dx, _, rfl, hp, rfl, ts, n, p, s, _, by rw [eA]; rfl, c, q.bnd fun _ s1 v1 H1 k1 c1 r1 q1 => ?_⟩
    clear hp dx
    obtain ⟨dx, _, _, hp, _⟩ := c1.ob
    refine ⟨_, rfl, p, dx, _, rfl, hp, rfl, ts, n, p, s1, X.aE, [], rfl, .inr (X.sE0 _), c1, q1.bnd fun _ s2 v2 H2 k2 c2 r2 q2 => ?_⟩
    refine ⟨_, rfl, ts, n, p, s2, rfl, c2, q2.bnd fun _ s3 v3 H3 k3 c3 r3 q3 => ?_⟩
    clear hp dx
    obtain ⟨dx, _, _, hp, _⟩ := c3.ob
    refine ⟨_, rfl, p, dx, _, rfl, hp, rfl, ts, n, p, s3, _, by rw [eSemi]; rfl, c3, q3.bnd fun _ s4 v4 H4 k4 c4 r4 q4 => ?_⟩
    clear hp dx
    obtain ⟨dx, _, _, hp, _⟩ := c4.ob
    refine ⟨_, rfl, _, rfl, p, X.CU, dx, _, _, rfl, hp, X.T.cl, X.T.nE, rfl, _, rfl, _, rfl, ?_⟩
    intro x dx2 nx ndx _
    refine mk_okR nx ndx (.cons trivial (.cons trivial (.cons trivial (.cons trivial .nil)))) fun H' y1 y2 sm h => ⟨rfl, ?_⟩
    exact q4 _ H' (.same sm) (c4.same sm) trivial
theorem scII : FnScope ["cursor", "name"] ["cursor"] (defScope sII) := ⟨rfl, rfl, rfl, by decide +kernel, rfl, by decide +kernel, by decide +kernel⟩
theorem ok_II (X : XT P w K mg base) (GAL : FnOk P w K mg base (L2.CX P w) 6 X.fAL X.fdAL ["cursor"] (sp1 X aliasS (noneOrNd K))) : FnOk P w K mg base (L2.CX P w) 7 X.fII X.fdII ["cursor"] (sp1 X itemS anyV) := by
  refine X.FII.okX scII (fun vs H Q E h => ?_) (fun cdv A outer s H vs Q E hr h => ?_)
  · obtain ⟨ts, n, p, s, rfl, _⟩ := h
    rfl
  · obtain ⟨ts, n, p, s, rfl, c, q⟩ := h
    refine ⟨_,
(pss_cons (ps_set (i := 1) scII.nd rfl (.inl rfl) (pe_meth0 (pv 0) X.T.cl X.T.mTN X.GTN (hr.mono (by omega)) X.bTN0 X.dTN0 (passes_call (takes_of rfl rfl rfl rfl) (fun _ _ _ _ h => h))))
 (pss_one (ps_ret (pe_make X.mImportItem.M0 X.mImportItem.G (hr.mono (by omega)) (by rfl) X.mImportItem.g X.mImportItem.b .nil pass0 (pa_cons (pv 1) (pa_cons (pe_call GAL (hr.mono (by omega)) (by rfl) X.gAL X.kAL X.bAL .nil (passes_call (takes_of rfl rfl rfl rfl) (fun _ _ _ _ h => h)) (pa_cons (pv 0) pa_nil)) pa_nil)))))), ?_⟩
    unfold itemS at q
    obtain ⟨dx, _, _, hp, _⟩ := c.ob
    refine ⟨_, rfl, p, dx, _, rfl, hp, rfl, ts, n, p, s, X.aE, [], rfl, .inr (X.sE0 _), c, q.bnd fun a s1 v1 H1 k1 c1 r1 q1 => ?_⟩
    have q1' : Ps X.CU X.CS ts n p H1 ((aliasS ts n).bnd (fun u => M.ret u) s1) anyV Q E := by
      refine q1.eq ?_
      unfold M.bnd
      cases aliasS ts n s1 with
      | none => rfl
      | some r => cases r <;> rfl
    refine ⟨_, rfl, _, rfl, ts, n, p, s1, rfl, c1, q1'.bnd fun _ s2 v2 H2 k2 c2 r2 q2 => ?_⟩
    have t2 := (r1.nd (X := X)).keep c1 k2
    intro x dx2 nx ndx _
    refine mk_okR nx ndx (.cons t2.nd (.cons r2 .nil)) fun H' y1 y2 sm h => ⟨rfl, ?_⟩
    exact q2 _ H' (.same sm) (c2.same sm) trivial
theorem scRS : FnScope ["cursor", "targets", "mode", "value"] ["cursor", "targets", "mode"] (defScope sRS) := ⟨rfl, rfl, rfl, by decide +kernel, rfl, by decide +kernel, by decide +kernel⟩
def spRS (X : XT P w K mg base) (d : Nat) : Sp := fun vs H Q E => ∃ (ts : List Tk) (n : Nat) (p : Addr) (s : PS) (m : Nat) (l : Addr) (x : V) (xs : List V), vs = [.ref p, .ref l, .int (m : Int)] ∧ H l = some (.lst (x :: xs)) ∧ NdAt K H x ∧ CuAt X.CU ts n H p s ∧ Ps X.CU X.CS ts n p H (rightS ts n (par ts n d) m s) anyV Q E
theorem NdAt.keep {H H' : Hp} {v : V} {p CU : Addr} {ts : List Tk} {n : Nat} {s : PS} (h : NdAt K H v) (c : CuAt CU ts n H p s) (k : Kc p H H') : NdAt K H' v := by
  obtain ⟨b, C, d, fs, z1, z2, e, nd⟩ := h
  exact ⟨b, C, d, fs, z1, z2, e, nd.keep c k⟩
theorem ok_RS (X : XT P w K mg base) {d : Nat} (GE : FnOk P w K mg base (L2.CX P w) (5 + 7 * d) X.fE X.fdE ["cursor", "mode"] (spE X d)) : FnOk P w K mg base (L2.CX P w) (6 + 7 * d) X.fRS X.fdRS ["cursor", "targets", "mode"] (spRS X d) := by
  rw [show 6 + 7 * d = (5 + 7 * d) + 1 by omega]
  refine X.FRS.okX scRS (fun vs H Q E h => ?_) (fun cdv A outer s H vs Q E hr h => ?_)
  · obtain ⟨ts, n, p, s, m, l, x, xs, rfl, _⟩ := h
    rfl
  · obtain ⟨ts, n, p, s, m, l, x, xs, rfl, hl, hx, c, q⟩ := h
    refine ⟨_,
(pss_cons (ps_set (i := 3) scRS.nd rfl (.inl rfl) (pe_call GE (hr.mono (by omega)) (by rfl) X.gE X.kE X.bE .nil (passes_call (takes_of rfl rfl rfl rfl) (fun _ _ _ _ h => h)) (pa_cons (pv 0) (pa_cons (pv 2) pa_nil))))
 (pss_cons (ps_expr (pe_meth (pv 0) X.T.cl X.T.mEX X.GEX (hr.mono (by omega)) X.bEX .nil (passes_call (takes_of rfl rfl rfl rfl) (fun _ _ _ _ h => h)) (pa_cons pe_str pa_nil)))
 (pss_one (ps_ret (pe_make X.mAssignment.M0 X.mAssignment.G (hr.mono (by omega)) (by rfl) X.mAssignment.g X.mAssignment.b .nil pass0 (pa_cons (pe_fld (pv 0) rfl) (pa_cons (pv 1) (pa_cons (pv 3) pa_nil)))))))), ?_⟩
    unfold rightS at q
    refine ⟨_, rfl, _, rfl, ts, n, p, s, m, rfl, c, q.bnd fun x1 s1 v1 H1 k1 c1 r1 q1 => ?_⟩
    have hl1 : H1 l = some (.lst (x :: xs)) := k1.1 _ _ (c.out hl) hl
    have hx1 := hx.keep c k1
    obtain ⟨dx, _, _, hp, _⟩ := c1.ob
    refine ⟨_, rfl, p, dx, _, rfl, hp, rfl, ts, n, p, s1, _, by rw [eSemi]; rfl, c1, q1.bnd fun _ s2 v2 H2 k2 c2 r2 q2 => ?_⟩
    have hl2 : H2 l = some (.lst (x :: xs)) := k2.1 _ _ (c1.out hl1) hl1
    have hx2 := hx1.keep c1 k2
    clear hp dx
    obtain ⟨dx, _, _, hp, _⟩ := c2.ob
    refine ⟨_, rfl, p, X.CU, dx, _, _, rfl, hp, X.T.cl, X.T.nE, rfl, _, rfl, _, rfl, ?_⟩
    intro u dx2 nx ndx _
    refine mk_okR nx ndx (.cons trivial (.cons ⟨l, x, xs, rfl, hl2, hx2⟩ (.cons trivial .nil))) fun H' y1 y2 sm h => ⟨rfl, ?_⟩
    exact q2 _ H' (.same sm) (c2.same sm) trivial
theorem scRE1 : FnScope ["cursor", "start", "value"] ["cursor"] (defScope sRE1) := ⟨rfl, rfl, rfl, by decide +kernel, rfl, by decide +kernel, by decide +kernel⟩
theorem ok_RE1 (X : XT P w K mg base) {d : Nat} (GE : FnOk P w K mg base (L2.CX P w) (5 + 7 * d) X.fE X.fdE ["cursor", "mode"] (spE X d)) : FnOk P w K mg base (L2.CX P w) (6 + 7 * d) X.fRE1 X.fdRE1 ["cursor"] (sp1 X (fun ts n => returnS ts n (par ts n d)) anyV) := by
  rw [show 6 + 7 * d = (5 + 7 * d) + 1 by omega]
  refine X.FRE1.okX scRE1 (fun vs H Q E h => ?_) (fun cdv A outer s H vs Q E hr h => ?_)
  · obtain ⟨ts, n, p, s, rfl, _⟩ := h
    rfl
  · obtain ⟨ts, n, p, s, rfl, c, q⟩ := h
    obtain ⟨tF, gFREE⟩ := X.gFREE
    refine ⟨_,
(pss_cons (ps_set (i := 1) scRE1.nd rfl (.inl rfl) (pe_meth (pv 0) X.T.cl X.T.mEX X.GEX (hr.mono (by omega)) X.bEX .nil (passes_call (takes_of rfl rfl rfl rfl) (fun _ _ _ _ h => h)) (pa_cons pe_str pa_nil)))
 (pss_cons (ps_set (i := 2) scRE1.nd rfl (.inl rfl) pe_non)
 (Evl.pss_cut (ps_if (pt_cmpR op_ne (pe_meth0 (pv 0) X.T.cl X.T.mNT X.GNT (hr.mono (by omega)) X.bNT0 X.dNT0 pass0) pe_str (nomark _))
 (pss_one (ps_set (i := 2) scRE1.nd rfl (.inl rfl) (pe_call GE (hr.mono (by omega)) (by rfl) X.gE X.kE X.bE .nil (passes_call (takes_of rfl rfl rfl rfl) (fun _ _ _ _ h => h)) (pa_cons (pv 0) (pa_cons (pe_glob (v := .int 2) rfl gFREE ⟨_, rfl⟩) pa_nil)))))
 pss_nil)
 (pss_cons (ps_expr (pe_meth (pv 0) X.T.cl X.T.mEX X.GEX (hr.mono (by omega)) X.bEX .nil (passes_call (takes_of rfl rfl rfl rfl) (fun _ _ _ _ h => h)) (pa_cons pe_str pa_nil)))
 (pss_one (ps_ret (pe_make X.mReturn.M0 X.mReturn.G (hr.mono (by omega)) (by rfl) X.mReturn.g X.mReturn.b .nil pass0 (pa_cons (pv 1) (pa_cons (pe_fld (pv 0) rfl) (pa_cons (pv 2) pa_nil)))))))))), ?_⟩
    unfold returnS at q
    have eR : Str.ofString "return" = S [114, 101, 116, 117, 114, 110] := by decide +kernel
    obtain ⟨dx, _, _, hp, _⟩ := c.ob
    refine ⟨_, rfl, p, dx, _, rfl, hp, rfl, ts, n, p, s, _, by rw [eR]; rfl, c, q.bnd fun _ s1 v1 H1 k1 c1 r1 q1 => ?_⟩
    clear hp dx
    obtain ⟨dx, _, _, hp, _⟩ := c1.ob
    refine ⟨fun σ H' => ∃ s6 v6, σ = [some (.ref p), some v1, some v6] ∧ CuAt X.CU ts n H' p s6 ∧ Ps X.CU X.CS ts n p H' ((expect ts n [59]).bnd (fun _ => M.ret ()) s6) anyV Q E, ?_, ?_⟩
    · refine ⟨_, rfl, p, dx, _, rfl, hp, rfl, ts, n, p, s1, 0, rfl, c1, rfl, _, rfl, ?_⟩
      rw [eSemi, S_eq]
      by_cases h1 : tx ts 0 s1 = [59]
      · refine iteF' (by rw [decide_eq_true h1]; rfl) ?_
        exact ⟨s1, .non, rfl, c1, q1.eq (bnd_eq (x' := M.ret ()) (if_pos h1))⟩
      · refine iteT' (by rw [decide_eq_false h1]; rfl) ?_
        have q2 : Ps X.CU X.CS ts n p H1 ((((par ts n d).expr 2).bnd fun _ => M.ret ()).bnd (fun _ => (expect ts n [59]).bnd (fun _ => M.ret ())) s1) anyV Q E := q1.eq (bnd_eq (if_neg h1))
        rw [M.assoc] at q2
        exact ⟨_, rfl, ts, n, p, s1, 2, rfl, c1, q2.bnd fun x s2 v2 H2 k2 c2 r2 q3 => ⟨s2, v2, rfl, c2, q3⟩⟩
    · rintro σ H6 ⟨s6, v6, rfl, c6, q6⟩
      clear hp dx
      obtain ⟨dx, _, _, hp, _⟩ := c6.ob
      refine ⟨_, rfl, p, dx, _, rfl, hp, rfl, ts, n, p, s6, _, by rw [eSemi]; rfl, c6, q6.bnd fun _ s7 v7 H7 k7 c7 r7 q7 => ?_⟩
      clear hp dx
      obtain ⟨dx, _, _, hp, _⟩ := c7.ob
      refine ⟨_, rfl, _, rfl, p, X.CU, dx, _, _, rfl, hp, X.T.cl, X.T.nE, rfl, _, rfl, ?_⟩
      intro x dx2 nx ndx _
      refine mk_okR nx ndx (.cons trivial (.cons trivial (.cons trivial .nil))) fun H' y1 y2 sm h => ⟨rfl, ?_⟩
      exact q7 _ H' (.same sm) (c7.same sm) trivial
end
end KB
namespace KB
open PySem PySem.Spec PyProof.Rows L2
section
variable {P : Program} {w : World} {K : PySem.W.Frag} {mg : Str → Option Value} {base : Heap}
theorem scON : FnScope ["cursor", "word", "start", "names"] ["cursor"] (defScope sON) := ⟨rfl, rfl, rfl, by decide +kernel, rfl, by decide +kernel, by decide +kernel⟩
theorem ok_ON (X : XT P w K mg base) : FnOk P w K mg base (L2.CX P w) 6 X.fON X.fdON ["cursor"] (sp1 X outerS anyV) := by
  refine X.FON.okX scON (fun vs H Q E h => ?_) (fun cdv A outer s H vs Q E hr h => ?_)
  · obtain ⟨ts, n, p, s, rfl, _⟩ := h
    rfl
  · obtain ⟨ts, n, p, s, rfl, c, q⟩ := h
    refine ⟨_,
(pss_cons (ps_set (i := 1) scON.nd rfl (.inl rfl) (pe_meth0 (pv 0) X.T.cl X.T.mNT X.GNT (hr.mono (by omega)) X.bNT0 X.dNT0 pass0))
 (pss_cons (ps_set (i := 2) scON.nd rfl (.inl rfl) (pe_meth0 (pv 0) X.T.cl X.T.mTA X.GTA (hr.mono (by omega)) X.bTA .nil (passes_call (takes_of rfl rfl rfl rfl) (fun _ _ _ _ h => h))))
 (pss_cons (ps_set (i := 3) scON.nd rfl (.inl rfl) (pe_lst (pa_cons (pe_meth0 (pv 0) X.T.cl X.T.mTN X.GTN (hr.mono (by omega)) X.bTN0 X.dTN0 (passes_call (takes_of rfl rfl rfl rfl) (fun _ _ _ _ h => h))) pa_nil)))
 (pss_cons (ps_while (passes_of rfl) (pt_val (pe_meth (pv 0) X.T.cl X.T.mTI X.GTI (hr.mono (by omega)) X.bTI .nil (passes_call (takes_of rfl rfl rfl rfl) (fun _ _ _ _ h => h)) (pa_cons pe_str pa_nil)))
 (pss_one (ps_expr (pe_bm PySem.F.plainAttrs_list PySem.F.slot_list_append PySem.F.type_list_append mt_append (pv 3) (pa_cons (pe_meth0 (pv 0) X.T.cl X.T.mTN X.GTN (hr.mono (by omega)) X.bTN0 X.dTN0 (passes_call (takes_of rfl rfl rfl rfl) (fun _ _ _ _ h => h))) pa_nil)))))
 (pss_cons (ps_expr (pe_meth (pv 0) X.T.cl X.T.mEX X.GEX (hr.mono (by omega)) X.bEX .nil (passes_call (takes_of rfl rfl rfl rfl) (fun _ _ _ _ h => h)) (pa_cons pe_str pa_nil)))
 (pss_one (ps_ret (pe_make X.mOuterNames.M0 X.mOuterNames.G (hr.mono (by omega)) (by rfl) X.mOuterNames.g X.mOuterNames.b .nil pass0 (pa_cons (pv 2) (pa_cons (pe_fld (pv 0) rfl) (pa_cons (pv 1) (pa_cons (pv 3) pa_nil)))))))))))), ?_⟩
    unfold outerS at q
    obtain ⟨dx, _, _, hp, _⟩ := c.ob
    refine ⟨_, rfl, p, dx, _, rfl, hp, rfl, ts, n, p, s, 0, rfl, c, ?_⟩
    refine ⟨_, rfl, p, dx, _, rfl, hp, rfl, ts, n, p, s, rfl, c, q.bnd fun _ s1 v1 H1 k1 c1 r1 q1 => ?_⟩
    clear hp dx
    obtain ⟨dx, _, _, hp, _⟩ := c1.ob
    refine ⟨_, rfl, p, dx, _, rfl, hp, rfl, ts, n, p, s1, X.aE, [], rfl, .inr (X.sE0 _), c1, q1.bnd fun _ s3 v3 H3 k3 c3 r3 q3 => ?_⟩
    refine ⟨(by show 1 ≤ sizeLine; decide), fun l hl => ?_⟩
    have sl := same_new (o := .lst [v3]) hl
    have c3' := c3.same sl
    have h3p := c3.some
    have lp : l ≠ p := fun e => h3p (by rw [← e]; exact hl)
    clear hp dx
    generalize hw : V.str (S (tx ts 0 s)) = wv
    refine ⟨fun mm σ H' => ∃ s6 xs, σ = [some (.ref p), some wv, some v1, some (.ref l)] ∧ H' l = some (.lst xs) ∧ xs.length + mm ≤ 5002 ∧ Kc p H3 H' ∧ CuAt X.CU ts n H' p s6 ∧ Ps X.CU X.CS ts n p H3 ((namesL ts n mm).bnd (fun _ => (expect ts n [59]).bnd fun _ => M.ret ()) s6) anyV Q E,
      ⟨_, s3, [v3], rfl, upd_same, (by have := c3.lt; show 1 + (ts.length + 1) ≤ 5002; omega), .same sl, c3', q3⟩, ?_⟩
    rintro mm σ H6 ⟨s6, xs, rfl, h6, hxs, k6, c6, q6⟩
    obtain ⟨dx, _, _, hp, _⟩ := c6.ob
    cases mm with
    | zero => exact absurd q6 id
    | succ mm =>
      unfold namesL at q6
      rw [M.assoc] at q6
      refine ⟨_, rfl, p, dx, _, rfl, hp, rfl, ts, n, p, s6, _, by rw [eComma]; rfl, c6, q6.bnd0 k6 fun b s7 v7 H7 k7 c7 r7 q7 => ?_⟩
      have r7' : v7 = .bl b := r7
      subst r7'
      refine ⟨_, rfl, ?_⟩
      have h7 : H7 l = some (.lst xs) := k7.1 _ _ lp h6
      clear hp dx
      obtain ⟨dx, _, _, hp, _⟩ := c7.ob
      cases b with
      | true =>
        rw [if_pos rfl, M.assoc] at q7
        refine iteT ?_
        refine ⟨fun σ H' => ∃ s6 xs, σ = [some (.ref p), some wv, some v1, some (.ref l)] ∧ H' l = some (.lst xs) ∧ xs.length + mm ≤ 5002 ∧ Kc p H3 H' ∧ CuAt X.CU ts n H' p s6 ∧ Ps X.CU X.CS ts n p H3 ((namesL ts n mm).bnd (fun _ => (expect ts n [59]).bnd fun _ => M.ret ()) s6) anyV Q E, fun σ' H' z => ⟨mm, Nat.lt_succ_self _, z⟩, ?_⟩
        refine ⟨_, rfl, .inl ⟨rfl, _, .inl (.inl h7)⟩, _, rfl, p, dx, _, rfl, hp, rfl, ts, n, p, s7, X.aE, [], rfl, .inr (X.sE0 _), c7, q7.bnd0 (k6.trans k7) fun _ s8 v8 H8 k8 c8 r8 q8 => ?_⟩
        have h8 : H8 l = some (.lst xs) := k8.1 _ _ lp h7
        have k38 := (k6.trans k7).trans k8
        refine ⟨l, xs, v8, rfl, rfl, h8, Nat.lt_of_le_of_lt (show xs.length ≤ 5002 by omega) (by decide), ?_⟩
        exact ⟨s8, _, rfl, upd_same, (by rw [List.length_append]; show xs.length + 1 + mm ≤ 5002; omega), k38.updL hl h3p, c3.updL hl k38 c8, q8⟩
      | false =>
        rw [if_neg (by decide), M.retb] at q7
        refine iteF ?_
        refine ⟨_, rfl, p, dx, _, rfl, hp, rfl, ts, n, p, s7, _, by rw [eSemi]; rfl, c7, q7.bnd0 (k6.trans k7) fun _ s8 v8 H8 k8 c8 r8 q8 => ?_⟩
        clear hp dx
        obtain ⟨dx, _, _, hp, _⟩ := c8.ob
        refine ⟨_, rfl, _, rfl, p, X.CU, dx, _, _, rfl, hp, X.T.cl, X.T.nE, rfl, _, rfl, _, rfl, ?_⟩
        intro x dx2 nx ndx _
        refine mk_okR nx ndx (.cons trivial (.cons trivial (.cons trivial (.cons trivial .nil)))) fun H' y1 y2 sm h => ⟨rfl, ?_⟩
        exact q8 _ H' (((k6.trans k7).trans k8).trans (.same sm)) (c8.same sm) trivial
theorem scIS : FnScope ["cursor", "rows"] ["cursor"] (defScope sIS) := ⟨rfl, rfl, rfl, by decide +kernel, rfl, by decide +kernel, by decide +kernel⟩
theorem ok_IS (X : XT P w K mg base) (GII : FnOk P w K mg base (L2.CX P w) 7 X.fII X.fdII ["cursor"] (sp1 X itemS anyV)) : FnOk P w K mg base (L2.CX P w) 8 X.fIS X.fdIS ["cursor"] (sp1 X (fun ts n => (itemS ts n).bnd fun _ => itemsL ts n (ts.length + 1)) anyV) := by
  refine X.FIS.okX scIS (fun vs H Q E h => ?_) (fun cdv A outer s H vs Q E hr h => ?_)
  · obtain ⟨ts, n, p, s, rfl, _⟩ := h
    rfl
  · obtain ⟨ts, n, p, s, rfl, c, q⟩ := h
    refine ⟨_,
(pss_cons (ps_set (i := 1) scIS.nd rfl (.inl rfl) (pe_lst (pa_cons (pe_call GII (hr.mono (by omega)) (by rfl) X.gII X.kII X.bII .nil (passes_call (takes_of rfl rfl rfl rfl) (fun _ _ _ _ h => h)) (pa_cons (pv 0) pa_nil)) pa_nil)))
 (pss_cons (ps_while (passes_of rfl) (pt_val (pe_meth (pv 0) X.T.cl X.T.mTI X.GTI (hr.mono (by omega)) X.bTI .nil (passes_call (takes_of rfl rfl rfl rfl) (fun _ _ _ _ h => h)) (pa_cons pe_str pa_nil)))
 (pss_one (ps_expr (pe_bm PySem.F.plainAttrs_list PySem.F.slot_list_append PySem.F.type_list_append mt_append (pv 1) (pa_cons (pe_call GII (hr.mono (by omega)) (by rfl) X.gII X.kII X.bII .nil (passes_call (takes_of rfl rfl rfl rfl) (fun _ _ _ _ h => h)) (pa_cons (pv 0) pa_nil)) pa_nil)))))
 (pss_one (ps_ret (pv 1))))), ?_⟩
    refine ⟨_, rfl, ts, n, p, s, rfl, c, q.bnd fun _ s3 v3 H3 k3 c3 r3 q3 => ?_⟩
    refine ⟨(by show 1 ≤ sizeLine; decide), fun l hl => ?_⟩
    have sl := same_new (o := .lst [v3]) hl
    have c3' := c3.same sl
    have h3p := c3.some
    have lp : l ≠ p := fun e => h3p (by rw [← e]; exact hl)
    refine ⟨fun mm σ H' => ∃ s6 xs, σ = [some (.ref p), some (.ref l)] ∧ H' l = some (.lst xs) ∧ xs.length + mm ≤ 5002 ∧ Kc p H3 H' ∧ CuAt X.CU ts n H' p s6 ∧ Ps X.CU X.CS ts n p H3 (itemsL ts n mm s6) anyV Q E,
      ⟨_, s3, [v3], rfl, upd_same, (by have := c3.lt; show 1 + (ts.length + 1) ≤ 5002; omega), .same sl, c3', q3⟩, ?_⟩
    rintro mm σ H6 ⟨s6, xs, rfl, h6, hxs, k6, c6, q6⟩
    obtain ⟨dx, _, _, hp, _⟩ := c6.ob
    cases mm with
    | zero => exact absurd q6 id
    | succ mm =>
      unfold itemsL at q6
      refine ⟨_, rfl, p, dx, _, rfl, hp, rfl, ts, n, p, s6, _, by rw [eComma]; rfl, c6, q6.bnd0 k6 fun b s7 v7 H7 k7 c7 r7 q7 => ?_⟩
      have r7' : v7 = .bl b := r7
      subst r7'
      refine ⟨_, rfl, ?_⟩
      have h7 : H7 l = some (.lst xs) := k7.1 _ _ lp h6
      cases b with
      | true =>
        rw [if_pos rfl] at q7
        refine iteT ?_
        refine ⟨fun σ H' => ∃ s6 xs, σ = [some (.ref p), some (.ref l)] ∧ H' l = some (.lst xs) ∧ xs.length + mm ≤ 5002 ∧ Kc p H3 H' ∧ CuAt X.CU ts n H' p s6 ∧ Ps X.CU X.CS ts n p H3 (itemsL ts n mm s6) anyV Q E, fun σ' H' z => ⟨mm, Nat.lt_succ_self _, z⟩, ?_⟩
        refine ⟨_, rfl, .inl ⟨rfl, _, .inl (.inl h7)⟩, _, rfl, ts, n, p, s7, rfl, c7, q7.bnd0 (k6.trans k7) fun _ s8 v8 H8 k8 c8 r8 q8 => ?_⟩
        have h8 : H8 l = some (.lst xs) := k8.1 _ _ lp h7
        have k38 := (k6.trans k7).trans k8
        refine ⟨l, xs, v8, rfl, rfl, h8, Nat.lt_of_le_of_lt (show xs.length ≤ 5002 by omega) (by decide), ?_⟩
        exact ⟨s8, _, rfl, upd_same, (by rw [List.length_append]; show xs.length + 1 + mm ≤ 5002; omega), k38.updL hl h3p, c3.updL hl k38 c8, q8⟩
      | false =>
        rw [if_neg (by decide)] at q7
        exact iteF ⟨_, rfl, q7 _ _ (k6.trans k7) c7 trivial⟩
theorem scFR : FnScope ["cursor", "start", "module", "star", "rows"] ["cursor"] (defScope sFR) := ⟨rfl, rfl, rfl, by decide +kernel, rfl, by decide +kernel, by decide +kernel⟩
theorem ok_FR (X : XT P w K mg base) (GIS : FnOk P w K mg base (L2.CX P w) 8 X.fIS X.fdIS ["cursor"] (sp1 X (fun ts n => (itemS ts n).bnd fun _ => itemsL ts n (ts.length + 1)) anyV)) : FnOk P w K mg base (L2.CX P w) 9 X.fFR X.fdFR ["cursor"] (sp1 X fromS anyV) := by
  refine X.FFR.okX scFR (fun vs H Q E h => ?_) (fun cdv A outer s H vs Q E hr h => ?_)
  · obtain ⟨ts, n, p, s, rfl, _⟩ := h
    rfl
  · obtain ⟨ts, n, p, s, rfl, c, q⟩ := h
    refine ⟨_,
(pss_cons (ps_set (i := 1) scFR.nd rfl (.inl rfl) (pe_meth (pv 0) X.T.cl X.T.mEX X.GEX (hr.mono (by omega)) X.bEX .nil (passes_call (takes_of rfl rfl rfl rfl) (fun _ _ _ _ h => h)) (pa_cons pe_str pa_nil)))
 (pss_cons (ps_set (i := 2) scFR.nd rfl (.inl rfl) (pe_meth0 (pv 0) X.T.cl X.T.mTN X.GTN (hr.mono (by omega)) X.bTN0 X.dTN0 (passes_call (takes_of rfl rfl rfl rfl) (fun _ _ _ _ h => h))))
 (pss_cons (ps_expr (pe_meth (pv 0) X.T.cl X.T.mEX X.GEX (hr.mono (by omega)) X.bEX .nil (passes_call (takes_of rfl rfl rfl rfl) (fun _ _ _ _ h => h)) (pa_cons pe_str pa_nil)))
 (pss_cons (ps_set (i := 3) scFR.nd rfl (.inl rfl) pe_non)
 (pss_cons (ps_set (i := 4) scFR.nd rfl (.inl rfl) (pe_lst pa_nil))
 (Evl.pss_cut (ps_if (pt_cmpR op_eq (pe_meth0 (pv 0) X.T.cl X.T.mNT X.GNT (hr.mono (by omega)) X.bNT0 X.dNT0 pass0) pe_str (nomark _))
 (pss_one (ps_set (i := 3) scFR.nd rfl (.inl rfl) (pe_meth0 (pv 0) X.T.cl X.T.mTA X.GTA (hr.mono (by omega)) X.bTA .nil (passes_call (takes_of rfl rfl rfl rfl) (fun _ _ _ _ h => h)))))
 (pss_one (ps_set (i := 4) scFR.nd rfl (.inl rfl) (pe_call GIS (hr.mono (by omega)) (by rfl) X.gIS X.kIS X.bIS .nil (passes_call (takes_of rfl rfl rfl rfl) (fun _ _ _ _ h => h)) (pa_cons (pv 0) pa_nil)))))
 (pss_cons (ps_expr (pe_meth (pv 0) X.T.cl X.T.mEX X.GEX (hr.mono (by omega)) X.bEX .nil (passes_call (takes_of rfl rfl rfl rfl) (fun _ _ _ _ h => h)) (pa_cons pe_str pa_nil)))
 (pss_one (ps_ret (pe_make X.mFromImport.M0 X.mFromImport.G (hr.mono (by omega)) (by rfl) X.mFromImport.g X.mFromImport.b .nil pass0 (pa_cons (pv 1) (pa_cons (pe_fld (pv 0) rfl) (pa_cons (pv 2) (pa_cons (pv 3) (pa_cons (pv 4) pa_nil))))))))))))))), ?_⟩
    unfold fromS at q
    have eF : Str.ofString "from" = S [102, 114, 111, 109] := by decide +kernel
    have eI : Str.ofString "import" = S [105, 109, 112, 111, 114, 116] := by decide +kernel
    have eS : Str.ofString "*" = S [42] := by decide +kernel
    obtain ⟨dx, _, _, hp, _⟩ := c.ob
    refine ⟨_, rfl, p, dx, _, rfl, hp, rfl, ts, n, p, s, _, by rw [eF]; rfl, c, q.bnd fun _ s1 v1 H1 k1 c1 r1 q1 => ?_⟩
    clear hp dx
    obtain ⟨dx, _, _, hp, _⟩ := c1.ob
    refine ⟨_, rfl, p, dx, _, rfl, hp, rfl, ts, n, p, s1, X.aE, [], rfl, .inr (X.sE0 _), c1, q1.bnd fun _ s2 v2 H2 k2 c2 r2 q2 => ?_⟩
    clear hp dx
    obtain ⟨dx, _, _, hp, _⟩ := c2.ob
    refine ⟨_, rfl, p, dx, _, rfl, hp, rfl, ts, n, p, s2, _, by rw [eI]; rfl, c2, q2.bnd fun _ s3 v3 H3 k3 c3 r3 q3 => ?_⟩
    refine ⟨(by show 0 ≤ sizeLine; decide), fun l hl => ?_⟩
    have sl := same_new (o := .lst []) hl
    have c3' := c3.same sl
    have q3' := q3.keep (.same sl)
    clear hp dx
    obtain ⟨dx, _, _, hp, _⟩ := c3'.ob
    refine ⟨fun σ H' => ∃ s6 y3 y4, σ = [some (.ref p), some v1, some v2, some y3, some y4] ∧ CuAt X.CU ts n H' p s6 ∧ Ps X.CU X.CS ts n p H' ((expect ts n [59]).bnd (fun _ => M.ret ()) s6) anyV Q E, ?_, ?_⟩
    · refine ⟨_, rfl, p, dx, _, rfl, hp, rfl, ts, n, p, s3, 0, rfl, c3', rfl, _, rfl, ?_⟩
      rw [eS, S_eq]
      by_cases h1 : tx ts 0 s3 = [42]
      · refine iteT' (decide_eq_true h1) ?_
        have q4 : Ps X.CU X.CS ts n p _ (((take ts n).bnd fun _ => M.ret ()).bnd (fun _ => (expect ts n [59]).bnd (fun _ => M.ret ())) s3) anyV Q E := q3'.eq (bnd_eq (if_pos h1))
        rw [M.assoc] at q4
        exact ⟨_, rfl, p, dx, _, rfl, hp, rfl, ts, n, p, s3, rfl, c3', q4.bnd fun _ s5 v5 H5 k5 c5 r5 q5 => ⟨s5, v5, _, rfl, c5, q5⟩⟩
      · refine iteF' (decide_eq_false h1) ?_
        have q4 : Ps X.CU X.CS ts n p _ (((itemS ts n).bnd fun _ => itemsL ts n (ts.length + 1)).bnd (fun _ => (expect ts n [59]).bnd (fun _ => M.ret ())) s3) anyV Q E := q3'.eq (bnd_eq (if_neg h1))
        exact ⟨_, rfl, ts, n, p, s3, rfl, c3', q4.bnd fun _ s5 v5 H5 k5 c5 r5 q5 => ⟨s5, _, v5, rfl, c5, q5⟩⟩
    · rintro σ H6 ⟨s6, y3, y4, rfl, c6, q6⟩
      clear hp dx
      obtain ⟨dx, _, _, hp, _⟩ := c6.ob
      refine ⟨_, rfl, p, dx, _, rfl, hp, rfl, ts, n, p, s6, _, by rw [eSemi]; rfl, c6, q6.bnd fun _ s7 v7 H7 k7 c7 r7 q7 => ?_⟩
      clear hp dx
      obtain ⟨dx, _, _, hp, _⟩ := c7.ob
      refine ⟨_, rfl, _, rfl, p, X.CU, dx, _, _, rfl, hp, X.T.cl, X.T.nE, rfl, _, rfl, _, rfl, _, rfl, ?_⟩
      intro x dx2 nx ndx _
      refine mk_okR nx ndx (.cons trivial (.cons trivial (.cons trivial (.cons trivial (.cons trivial .nil))))) fun H' y1 y2 sm h => ⟨rfl, ?_⟩
      exact q7 _ H' (.same sm) (c7.same sm) trivial
end
end KB
namespace KB
open PySem PySem.Spec PyProof.Rows L2
section
variable {P : Program} {w : World} {K : PySem.W.Frag} {mg : Str → Option Value} {base : Heap}
theorem NdAt.updL {H : Hp} {v : V} {l : Addr} {xs : List V} {o : HO} (h : NdAt K H v) (hl : H l = some (.lst xs)) : NdAt K (upd H l o) v := by
  obtain ⟨b, C, d, fs, z1, z2, e, nd⟩ := h
  refine ⟨b, C, d, fs, z1, z2, e, ?_, nd.cl, nd.ns, nd.ne, nd.l1, nd.l2⟩
  rw [upd_ne fun e => by
    have z := nd.at_
    rw [e, hl] at z
    cases z]
  exact nd.at_
theorem eEq1 : Str.ofString "=" = S [61] := by decide +kernel
theorem two_signs : ([V.str (Str.ofString ","), V.str (Str.ofString "=")] : List V) = ([[44], [61]] : List (List Nat)).map fun s => .str (S s) := by
  rw [eComma, eEq1]
  rfl
theorem notIn_b (v : List Nat) (l : List (List Nat)) : (if true = true then !inV (.str (S v)) (l.map fun s => V.str (S s)) else inV (.str (S v)) (l.map fun s => V.str (S s))) = !decide (v ∈ l) := by
  rw [if_pos rfl, inV_words]
theorem scAE : FnScope ["cursor", "first", "targets"] ["cursor"] (defScope sAE) := ⟨rfl, rfl, rfl, by decide +kernel, rfl, by decide +kernel, by decide +kernel⟩
theorem ok_AE (X : XT P w K mg base) {d : Nat} (GE : FnOk P w K mg base (L2.CX P w) (5 + 7 * d) X.fE X.fdE ["cursor", "mode"] (spE X d)) (GIT : FnOk P w K mg base CX0 1 X.fIT X.fdIT ["found"] (spIT X))
    (GRT : FnOk P w K mg base (L2.CX P w) (10 + 7 * d) X.fRT X.fdRT ["cursor"] (sp1 X (fun ts n => targetS ts n (par ts n d)) anyV)) (GRS : FnOk P w K mg base (L2.CX P w) (6 + 7 * d) X.fRS X.fdRS ["cursor", "targets", "mode"] (spRS X d)) :
    FnOk P w K mg base (L2.CX P w) (11 + 7 * d) X.fAE X.fdAE ["cursor"] (sp1 X (fun ts n => assignS ts n (par ts n d)) anyV) := by
  rw [show 11 + 7 * d = (10 + 7 * d) + 1 by omega]
  refine X.FAE.okX scAE (fun vs H Q E h => ?_) (fun cdv A outer s H vs Q E hr h => ?_)
  · obtain ⟨ts, n, p, s, rfl, _⟩ := h
    rfl
  · obtain ⟨ts, n, p, s, rfl, c, q⟩ := h
    obtain ⟨tF, gFREE⟩ := X.gFREE
    refine ⟨_,
(pss_cons (ps_set (i := 1) scAE.nd rfl (.inl rfl) (pe_call GE (hr.mono (by omega)) (by rfl) X.gE X.kE X.bE .nil (passes_call (takes_of rfl rfl rfl rfl) (fun _ _ _ _ h => h)) (pa_cons (pv 0) (pa_cons (pe_glob (v := .int 2) rfl gFREE ⟨_, rfl⟩) pa_nil))))
 (pss_cons (ps_if (PW.pt (pw_or (pt_not (pt_val (pe_call GIT (hr.mono (by omega)) (by rfl) X.gIT X.kIT X.bIT .nil pass0 (pa_cons (pv 1) pa_nil)))) (pw_or1 (pt_cmpR op_notIn_seq (pe_meth0 (pv 0) X.T.cl X.T.mNT X.GNT (hr.mono (by omega)) X.bNT0 X.dNT0 pass0) (pe_tup (pa_cons pe_str (pa_cons pe_str pa_nil))) (by rfl)))))
 (pss_cons (ps_expr (pe_meth (pv 0) X.T.cl X.T.mEX X.GEX (hr.mono (by omega)) X.bEX .nil (passes_call (takes_of rfl rfl rfl rfl) (fun _ _ _ _ h => h)) (pa_cons pe_str pa_nil)))
 (pss_one (ps_ret (pe_make X.mEvaluation.M0 X.mEvaluation.G (hr.mono (by omega)) (by rfl) X.mEvaluation.g X.mEvaluation.b .nil pass0 (pa_cons (pe_fld (pv 0) rfl) (pa_cons (pv 1) pa_nil))))))
 pss_nil)
 (pss_cons (ps_set (i := 2) scAE.nd rfl (.inl rfl) (pe_lst (pa_cons (pv 1) pa_nil)))
 (pss_cons (ps_while (passes_of rfl) (pt_val (pe_meth (pv 0) X.T.cl X.T.mTI X.GTI (hr.mono (by omega)) X.bTI .nil (passes_call (takes_of rfl rfl rfl rfl) (fun _ _ _ _ h => h)) (pa_cons pe_str pa_nil)))
 (pss_one (ps_expr (pe_bm PySem.F.plainAttrs_list PySem.F.slot_list_append PySem.F.type_list_append mt_append (pv 2) (pa_cons (pe_call GRT (hr.mono (by omega)) (by rfl) X.gRT X.kRT X.bRT .nil (passes_call (takes_of rfl rfl rfl rfl) (fun _ _ _ _ h => h)) (pa_cons (pv 0) pa_nil)) pa_nil)))))
 (pss_cons (ps_expr (pe_meth (pv 0) X.T.cl X.T.mEX X.GEX (hr.mono (by omega)) X.bEX .nil (passes_call (takes_of rfl rfl rfl rfl) (fun _ _ _ _ h => h)) (pa_cons pe_str pa_nil)))
 (pss_one (ps_ret (pe_call GRS (hr.mono (by omega)) (by rfl) X.gRS X.kRS X.bRS .nil (passes_call (takes_of rfl rfl rfl rfl) (fun _ _ _ _ h => h)) (pa_cons (pv 0) (pa_cons (pv 2) (pa_cons (pe_glob (v := .int 2) rfl gFREE ⟨_, rfl⟩) pa_nil))))))))))), ?_⟩
    unfold assignS at q
    refine ⟨_, rfl, ts, n, p, s, 2, rfl, c, q.bnd fun x s1 v1 H1 k1 c1 r1 q1 => ?_⟩
    refine ⟨_, rfl, v1, x, rfl, r1, fun H2 sm2 => ⟨_, rfl, ?_⟩⟩
    have c2 := c1.same sm2
    have q2 := q1.keep (.same sm2)
    have r2 := r1.same sm2
    obtain ⟨dx, _, _, hp, _⟩ := c2.ob
    cases hx : x.target with
    | false =>
      refine iteT' rfl ?_
      have q3 : Ps X.CU X.CS ts n p H2 (((expect ts n [59]).bnd fun _ => M.ret ()) s1) anyV Q E := q2.eq (if_pos (.inl hx))
      refine iteT' rfl ?_
      refine ⟨_, rfl, p, dx, _, rfl, hp, rfl, ts, n, p, s1, _, by rw [eSemi]; rfl, c2, q3.bnd fun _ s4 v4 H4 k4 c4 r4 q4 => ?_⟩
      have r4' := r2.keep c2 k4
      clear hp dx
      obtain ⟨dx, _, _, hp, _⟩ := c4.ob
      refine ⟨_, rfl, p, X.CU, dx, _, _, rfl, hp, X.T.cl, X.T.nE, rfl, _, rfl, ?_⟩
      intro u dx2 nx ndx _
      refine mk_okR nx ndx (.cons trivial (.cons r4'.nd .nil)) fun H' y1 y2 sm h => ⟨rfl, ?_⟩
      exact q4 _ H' (.same sm) (c4.same sm) trivial
    | true =>
      refine iteF' rfl ?_
      refine ⟨_, rfl, p, dx, _, rfl, hp, rfl, ts, n, p, s1, 0, rfl, c2, (by show 2 ≤ sizeLine; decide), fun t ht => ?_⟩
      have st := same_new (o := .tup [V.str (Str.ofString ","), V.str (Str.ofString "=")]) ht
      refine ⟨t, _, rfl, .inr (.inl (.inl upd_same)), rfl, rfl, ?_⟩
      rw [two_signs, notIn_b]
      rw [two_signs] at st
      have c3 := c2.same st
      have q3 := q2.keep (.same st)
      have r3 := r2.same st
      clear hp dx
      obtain ⟨dx, _, _, hp, _⟩ := c3.ob
      refine ⟨_, rfl, ?_⟩
      by_cases hin : tx ts 0 s1 ∈ ([[44], [61]] : List (List Nat))
      · refine iteF' (by rw [decide_eq_true hin]; rfl) ?_
        have q4 : Ps X.CU X.CS ts n p _ (((targetsL ts n (par ts n d) (ts.length + 1)).bnd fun _ => (expect ts n [61]).bnd fun _ => rightS ts n (par ts n d) 2) s1) anyV Q E := q3.eq (if_neg fun z => by
          rcases z with z | z
          · rw [hx] at z; cases z
          · exact z (by simpa using hin))
        refine ⟨_, rfl, (by show 1 ≤ sizeLine; decide), fun l hl => ?_⟩
        generalize hHb : upd H2 t (.tup (([[44], [61]] : List (List Nat)).map fun s => .str (S s))) = H3 at *
        have sl := same_new (o := .lst [v1]) hl
        have c3' := c3.same sl
        have h3p := c3.some
        have lp : l ≠ p := fun e => h3p (by rw [← e]; exact hl)
        refine ⟨fun mm σ H' => ∃ s6 xs, σ = [some (.ref p), some v1, some (.ref l)] ∧ H' l = some (.lst (v1 :: xs)) ∧ NdAt K H' v1 ∧ xs.length + mm ≤ 5002 ∧ Kc p H3 H' ∧ CuAt X.CU ts n H' p s6 ∧ Ps X.CU X.CS ts n p H3 ((targetsL ts n (par ts n d) mm).bnd (fun _ => (expect ts n [61]).bnd fun _ => rightS ts n (par ts n d) 2) s6) anyV Q E,
          ⟨_, s1, [], rfl, upd_same, (r3.same sl).nd, (by have := c3.lt; show 0 + (ts.length + 1) ≤ 5002; omega), .same sl, c3', q4⟩, ?_⟩
        rintro mm σ H6 ⟨s6, xs, rfl, h6, n6, hxs, k6, c6, q6⟩
        clear hp dx
        obtain ⟨dx, _, _, hp, _⟩ := c6.ob
        cases mm with
        | zero => exact absurd q6 id
        | succ mm =>
          unfold targetsL at q6
          rw [M.assoc] at q6
          refine ⟨_, rfl, p, dx, _, rfl, hp, rfl, ts, n, p, s6, _, by rw [eComma]; rfl, c6, q6.bnd0 k6 fun b s7 v7 H7 k7 c7 r7 q7 => ?_⟩
          have r7' : v7 = .bl b := r7
          subst r7'
          refine ⟨_, rfl, ?_⟩
          have h7 : H7 l = some (.lst (v1 :: xs)) := k7.1 _ _ lp h6
          have n7 := n6.keep c6 k7
          clear hp dx
          obtain ⟨dx, _, _, hp, _⟩ := c7.ob
          cases b with
          | true =>
            rw [if_pos rfl, M.assoc] at q7
            refine iteT ?_
            refine ⟨fun σ H' => ∃ s6 xs, σ = [some (.ref p), some v1, some (.ref l)] ∧ H' l = some (.lst (v1 :: xs)) ∧ NdAt K H' v1 ∧ xs.length + mm ≤ 5002 ∧ Kc p H3 H' ∧ CuAt X.CU ts n H' p s6 ∧ Ps X.CU X.CS ts n p H3 ((targetsL ts n (par ts n d) mm).bnd (fun _ => (expect ts n [61]).bnd fun _ => rightS ts n (par ts n d) 2) s6) anyV Q E, fun σ' H' z => ⟨mm, Nat.lt_succ_self _, z⟩, ?_⟩
            refine ⟨_, rfl, .inl ⟨rfl, _, .inl (.inl h7)⟩, _, rfl, ts, n, p, s7, rfl, c7, q7.bnd0 (k6.trans k7) fun _ s8 v8 H8 k8 c8 r8 q8 => ?_⟩
            have h8 : H8 l = some (.lst (v1 :: xs)) := k8.1 _ _ lp h7
            have n8 := n7.keep c7 k8
            have k38 := (k6.trans k7).trans k8
            refine ⟨l, v1 :: xs, v8, rfl, rfl, h8, Nat.lt_of_le_of_lt (show xs.length + 1 ≤ 5003 by omega) (by decide), ?_⟩
            exact ⟨s8, xs ++ [v8], rfl, upd_same, n8.updL h8, (by rw [List.length_append]; show xs.length + 1 + mm ≤ 5002; omega), k38.updL hl h3p, c3.updL hl k38 c8, q8⟩
          | false =>
            rw [if_neg (by decide), M.retb] at q7
            refine iteF ?_
            refine ⟨_, rfl, p, dx, _, rfl, hp, rfl, ts, n, p, s7, _, by first | rfl | (rw [eEq1]; rfl), c7, q7.bnd0 (k6.trans k7) fun _ s8 v8 H8 k8 c8 r8 q8 => ?_⟩
            have h8 : H8 l = some (.lst (v1 :: xs)) := k8.1 _ _ lp h7
            have n8 := n7.keep c7 k8
            exact ⟨_, rfl, _, rfl, ts, n, p, s8, 2, l, v1, xs, rfl, h8, n8, c8, q8.keep ((k6.trans k7).trans k8)⟩
      · refine iteT' (by rw [decide_eq_false hin]; rfl) ?_
        have q4 : Ps X.CU X.CS ts n p _ (((expect ts n [59]).bnd fun _ => M.ret ()) s1) anyV Q E := q3.eq (if_pos (.inr fun z => hin (by simpa using z)))
        refine ⟨_, rfl, p, dx, _, rfl, hp, rfl, ts, n, p, s1, _, by rw [eSemi]; rfl, c3, q4.bnd fun _ s4 v4 H4 k4 c4 r4 q5 => ?_⟩
        have r4' := r3.keep c3 k4
        clear hp dx
        obtain ⟨dx, _, _, hp, _⟩ := c4.ob
        refine ⟨_, rfl, p, X.CU, dx, _, _, rfl, hp, X.T.cl, X.T.nE, rfl, _, rfl, ?_⟩
        intro u dx2 nx ndx _
        refine mk_okR nx ndx (.cons trivial (.cons r4'.nd .nil)) fun H' y1 y2 sm h => ⟨rfl, ?_⟩
        exact q5 _ H' (.same sm) (c4.same sm) trivial
end
end KB
namespace KB
open PySem PySem.Spec PyProof.Rows L2
section
variable {P : Program} {w : World} {K : PySem.W.Frag} {mg : Str → Option Value} {base : Heap}
def spB (X : XT P w K mg base) (d e : Nat) : Sp := fun vs H Q E => ∃ (ts : List Tk) (n : Nat) (p : Addr) (s : PS) (b : Bool), vs = [.ref p, .bl b] ∧ CuAt X.CU ts n H p s ∧ Ps X.CU X.CS ts n p H ((par2 ts n (par ts n d) e).block b s) anyV Q E
def spIf (X : XT P w K mg base) (d e : Nat) : Sp := fun vs H Q E => ∃ (ts : List Tk) (n : Nat) (p : Addr) (s : PS) (b : Bool), vs = [.ref p, .bl b] ∧ CuAt X.CU ts n H p s ∧ Ps X.CU X.CS ts n p H ((par2 ts n (par ts n d) e).ifs b s) anyV Q E
def spDe (X : XT P w K mg base) (d e : Nat) : Sp := sp1 X (fun ts n => (par2 ts n (par ts n d) e).defs) anyV
def spSS (X : XT P w K mg base) (d e : Nat) : Sp := fun vs H Q E => ∃ (ts : List Tk) (n : Nat) (p : Addr) (s : PS) (b : Bool), vs = [.ref p, .bl b] ∧ CuAt X.CU ts n H p s ∧ Ps X.CU X.CS ts n p H (stmtS ts n (par ts n d) (par2 ts n (par ts n d) e) b s) anyV Q E
theorem Ps.last {CU CS : Addr} {ts : List Tk} {n : Nat} {p : Addr} {H : Hp} {α : Type} {x : M α} {s : PS} {R : Hp → V → α → Prop} {Q : VK} {E : XK} (h : Ps CU CS ts n p H (x s) R Q E) : Ps CU CS ts n p H (x.bnd (fun u => M.ret u) s) R Q E := by
  refine h.eq ?_
  unfold M.bnd
  cases x s with
  | none => rfl
  | some r => cases r <;> rfl
theorem scWH : FnScope ["cursor", "start", "test", "body"] ["cursor"] (defScope sWH) := ⟨rfl, rfl, rfl, by decide +kernel, rfl, by decide +kernel, by decide +kernel⟩
theorem ok_WH (X : XT P w K mg base) {d e : Nat} (GE : FnOk P w K mg base (L2.CX P w) (5 + 7 * d) X.fE X.fdE ["cursor", "mode"] (spE X d)) (GBL : FnOk P w K mg base (L2.CX P w) (12 + 7 * d + 3 * e) X.fBL X.fdBL ["cursor", "looped"] (spB X d e)) :
    FnOk P w K mg base (L2.CX P w) (13 + 7 * d + 3 * e) X.fWH X.fdWH ["cursor"] (sp1 X (fun ts n => whileS ts n (par ts n d) (par2 ts n (par ts n d) e)) anyV) := by
  rw [show 13 + 7 * d + 3 * e = (12 + 7 * d + 3 * e) + 1 by omega]
  refine X.FWH.okX scWH (fun vs H Q E h => ?_) (fun cdv A outer s H vs Q E hr h => ?_)
  · obtain ⟨ts, n, p, s, rfl, _⟩ := h
    rfl
  · obtain ⟨ts, n, p, s, rfl, c, q⟩ := h
    obtain ⟨tF, gFREE⟩ := X.gFREE
    refine ⟨_,
(pss_cons (ps_set (i := 1) scWH.nd rfl (.inl rfl) (pe_meth (pv 0) X.T.cl X.T.mEX X.GEX (hr.mono (by omega)) X.bEX .nil (passes_call (takes_of rfl rfl rfl rfl) (fun _ _ _ _ h => h)) (pa_cons pe_str pa_nil)))
 (pss_cons (ps_set (i := 2) scWH.nd rfl (.inl rfl) (pe_call GE (hr.mono (by omega)) (by rfl) X.gE X.kE X.bE .nil (passes_call (takes_of rfl rfl rfl rfl) (fun _ _ _ _ h => h)) (pa_cons (pv 0) (pa_cons (pe_glob (v := .int 2) rfl gFREE ⟨_, rfl⟩) pa_nil))))
 (pss_cons (ps_set (i := 3) scWH.nd rfl (.inl rfl) (pe_call GBL (hr.mono (by omega)) (by rfl) X.gBL X.kBL X.bBL .nil (passes_call (takes_of rfl rfl rfl rfl) (fun _ _ _ _ h => h)) (pa_cons (pv 0) (pa_cons pe_bl pa_nil))))
 (pss_one (ps_ret (pe_make X.mWhile.M0 X.mWhile.G (hr.mono (by omega)) (by rfl) X.mWhile.g X.mWhile.b .nil pass0 (pa_cons (pv 1) (pa_cons (pe_fld (pv 0) rfl) (pa_cons (pv 2) (pa_cons (pv 3) pa_nil)))))))))), ?_⟩
    unfold whileS at q
    have eW : Str.ofString "while" = S [119, 104, 105, 108, 101] := by decide +kernel
    obtain ⟨dx, _, _, hp, _⟩ := c.ob
    refine ⟨_, rfl, p, dx, _, rfl, hp, rfl, ts, n, p, s, _, by rw [eW]; rfl, c, q.bnd fun _ s1 v1 H1 k1 c1 r1 q1 => ?_⟩
    refine ⟨_, rfl, ts, n, p, s1, 2, rfl, c1, q1.bnd fun _ s2 v2 H2 k2 c2 r2 q2 => ?_⟩
    refine ⟨_, rfl, ts, n, p, s2, true, rfl, c2, q2.last.bnd fun _ s3 v3 H3 k3 c3 r3 q3 => ?_⟩
    clear hp dx
    obtain ⟨dx, _, _, hp, _⟩ := c3.ob
    refine ⟨_, rfl, _, rfl, p, X.CU, dx, _, _, rfl, hp, X.T.cl, X.T.nE, rfl, _, rfl, _, rfl, ?_⟩
    intro x dx2 nx ndx _
    refine mk_okR nx ndx (.cons trivial (.cons trivial (.cons trivial (.cons trivial .nil)))) fun H' y1 y2 sm h => ⟨rfl, ?_⟩
    exact q3 _ H' (.same sm) (c3.same sm) trivial
theorem scFO : FnScope ["cursor", "start", "name", "word_in", "source", "body"] ["cursor"] (defScope sFO) := ⟨rfl, rfl, rfl, by decide +kernel, rfl, by decide +kernel, by decide +kernel⟩
theorem ok_FO (X : XT P w K mg base) {d e : Nat} (GE : FnOk P w K mg base (L2.CX P w) (5 + 7 * d) X.fE X.fdE ["cursor", "mode"] (spE X d)) (GBL : FnOk P w K mg base (L2.CX P w) (12 + 7 * d + 3 * e) X.fBL X.fdBL ["cursor", "looped"] (spB X d e)) :
    FnOk P w K mg base (L2.CX P w) (13 + 7 * d + 3 * e) X.fFO X.fdFO ["cursor"] (sp1 X (fun ts n => forS ts n (par ts n d) (par2 ts n (par ts n d) e)) anyV) := by
  rw [show 13 + 7 * d + 3 * e = (12 + 7 * d + 3 * e) + 1 by omega]
  refine X.FFO.okX scFO (fun vs H Q E h => ?_) (fun cdv A outer s H vs Q E hr h => ?_)
  · obtain ⟨ts, n, p, s, rfl, _⟩ := h
    rfl
  · obtain ⟨ts, n, p, s, rfl, c, q⟩ := h
    obtain ⟨tF, gFREE⟩ := X.gFREE
    refine ⟨_,
(pss_cons (ps_set (i := 1) scFO.nd rfl (.inl rfl) (pe_meth (pv 0) X.T.cl X.T.mEX X.GEX (hr.mono (by omega)) X.bEX .nil (passes_call (takes_of rfl rfl rfl rfl) (fun _ _ _ _ h => h)) (pa_cons pe_str pa_nil)))
 (pss_cons (ps_set (i := 2) scFO.nd rfl (.inl rfl) (pe_meth0 (pv 0) X.T.cl X.T.mTN X.GTN (hr.mono (by omega)) X.bTN0 X.dTN0 (passes_call (takes_of rfl rfl rfl rfl) (fun _ _ _ _ h => h))))
 (pss_cons (ps_set (i := 3) scFO.nd rfl (.inl rfl) (pe_meth (pv 0) X.T.cl X.T.mEX X.GEX (hr.mono (by omega)) X.bEX .nil (passes_call (takes_of rfl rfl rfl rfl) (fun _ _ _ _ h => h)) (pa_cons pe_str pa_nil)))
 (pss_cons (ps_set (i := 4) scFO.nd rfl (.inl rfl) (pe_call GE (hr.mono (by omega)) (by rfl) X.gE X.kE X.bE .nil (passes_call (takes_of rfl rfl rfl rfl) (fun _ _ _ _ h => h)) (pa_cons (pv 0) (pa_cons (pe_glob (v := .int 2) rfl gFREE ⟨_, rfl⟩) pa_nil))))
 (pss_cons (ps_set (i := 5) scFO.nd rfl (.inl rfl) (pe_call GBL (hr.mono (by omega)) (by rfl) X.gBL X.kBL X.bBL .nil (passes_call (takes_of rfl rfl rfl rfl) (fun _ _ _ _ h => h)) (pa_cons (pv 0) (pa_cons pe_bl pa_nil))))
 (pss_one (ps_ret (pe_make X.mFor.M0 X.mFor.G (hr.mono (by omega)) (by rfl) X.mFor.g X.mFor.b .nil pass0 (pa_cons (pv 1) (pa_cons (pe_fld (pv 0) rfl) (pa_cons (pv 2) (pa_cons (pv 3) (pa_cons (pv 4) (pa_cons (pv 5) pa_nil)))))))))))))), ?_⟩
    unfold forS at q
    have eW : Str.ofString "for" = S [102, 111, 114] := by decide +kernel
    have eI : Str.ofString "in" = S [105, 110] := by decide +kernel
    obtain ⟨dx, _, _, hp, _⟩ := c.ob
    refine ⟨_, rfl, p, dx, _, rfl, hp, rfl, ts, n, p, s, _, by rw [eW]; rfl, c, q.bnd fun _ s1 v1 H1 k1 c1 r1 q1 => ?_⟩
    clear hp dx
    obtain ⟨dx, _, _, hp, _⟩ := c1.ob
    refine ⟨_, rfl, p, dx, _, rfl, hp, rfl, ts, n, p, s1, X.aE, [], rfl, .inr (X.sE0 _), c1, q1.bnd fun _ s2 v2 H2 k2 c2 r2 q2 => ?_⟩
    clear hp dx
    obtain ⟨dx, _, _, hp, _⟩ := c2.ob
    refine ⟨_, rfl, p, dx, _, rfl, hp, rfl, ts, n, p, s2, _, by rw [eI]; rfl, c2, q2.bnd fun _ s3 v3 H3 k3 c3 r3 q3 => ?_⟩
    refine ⟨_, rfl, ts, n, p, s3, 2, rfl, c3, q3.bnd fun _ s4 v4 H4 k4 c4 r4 q4 => ?_⟩
    refine ⟨_, rfl, ts, n, p, s4, true, rfl, c4, q4.last.bnd fun _ s5 v5 H5 k5 c5 r5 q5 => ?_⟩
    clear hp dx
    obtain ⟨dx, _, _, hp, _⟩ := c5.ob
    refine ⟨_, rfl, _, rfl, p, X.CU, dx, _, _, rfl, hp, X.T.cl, X.T.nE, rfl, _, rfl, _, rfl, _, rfl, _, rfl, ?_⟩
    intro x dx2 nx ndx _
    refine mk_okR nx ndx (.cons trivial (.cons trivial (.cons trivial (.cons trivial (.cons trivial (.cons trivial .nil)))))) fun H' y1 y2 sm h => ⟨rfl, ?_⟩
    exact q5 _ H' (.same sm) (c5.same sm) trivial
theorem scDE : FnScope ["cursor", "start", "name", "parameters", "body"] ["cursor"] (defScope sDE) := ⟨rfl, rfl, rfl, by decide +kernel, rfl, by decide +kernel, by decide +kernel⟩
theorem ok_DE (X : XT P w K mg base) {d e : Nat} (GPS : FnOk P w K mg base (L2.CX P w) (7 + 7 * d) X.fPS X.fdPS ["cursor", "closer"] (spW X (fun ts n => paramsS ts n (par ts n d)) anyV)) (GBL : FnOk P w K mg base (L2.CX P w) (12 + 7 * d + 3 * e) X.fBL X.fdBL ["cursor", "looped"] (spB X d e)) :
    FnOk P w K mg base (L2.CX P w) (13 + 7 * d + 3 * e) X.fDE X.fdDE ["cursor"] (spDe X d (e + 1)) := by
  rw [show 13 + 7 * d + 3 * e = (12 + 7 * d + 3 * e) + 1 by omega]
  refine X.FDE.okX scDE (fun vs H Q E h => ?_) (fun cdv A outer s H vs Q E hr h => ?_)
  · obtain ⟨ts, n, p, s, rfl, _⟩ := h
    rfl
  · obtain ⟨ts, n, p, s, rfl, c, q0⟩ := h
    have q : Ps X.CU X.CS ts n p H (defS ts n (par ts n d) (par2 ts n (par ts n d) e) s) anyV Q E := q0
    refine ⟨_,
(pss_cons (ps_set (i := 1) scDE.nd rfl (.inl rfl) (pe_meth (pv 0) X.T.cl X.T.mEX X.GEX (hr.mono (by omega)) X.bEX .nil (passes_call (takes_of rfl rfl rfl rfl) (fun _ _ _ _ h => h)) (pa_cons pe_str pa_nil)))
 (pss_cons (ps_set (i := 2) scDE.nd rfl (.inl rfl) (pe_meth0 (pv 0) X.T.cl X.T.mTN X.GTN (hr.mono (by omega)) X.bTN0 X.dTN0 (passes_call (takes_of rfl rfl rfl rfl) (fun _ _ _ _ h => h))))
 (pss_cons (ps_expr (pe_meth (pv 0) X.T.cl X.T.mEX X.GEX (hr.mono (by omega)) X.bEX .nil (passes_call (takes_of rfl rfl rfl rfl) (fun _ _ _ _ h => h)) (pa_cons pe_str pa_nil)))
 (pss_cons (ps_set (i := 3) scDE.nd rfl (.inl rfl) (pe_call GPS (hr.mono (by omega)) (by rfl) X.gPS X.kPS X.bPS .nil (passes_call (takes_of rfl rfl rfl rfl) (fun _ _ _ _ h => h)) (pa_cons (pv 0) (pa_cons pe_str pa_nil))))
 (pss_cons (ps_set (i := 4) scDE.nd rfl (.inl rfl) (pe_call GBL (hr.mono (by omega)) (by rfl) X.gBL X.kBL X.bBL .nil (passes_call (takes_of rfl rfl rfl rfl) (fun _ _ _ _ h => h)) (pa_cons (pv 0) (pa_cons pe_bl pa_nil))))
 (pss_one (ps_ret (pe_make X.mDef.M0 X.mDef.G (hr.mono (by omega)) (by rfl) X.mDef.g X.mDef.b .nil pass0 (pa_cons (pv 1) (pa_cons (pe_fld (pv 0) rfl) (pa_cons (pv 2) (pa_cons (pv 3) (pa_cons (pv 4) pa_nil))))))))))))), ?_⟩
    unfold defS at q
    have eW : Str.ofString "def" = S [100, 101, 102] := by decide +kernel
    have eP : Str.ofString "(" = S [40] := by decide +kernel
    have eQ : Str.ofString ")" = S [41] := by decide +kernel
    obtain ⟨dx, _, _, hp, _⟩ := c.ob
    refine ⟨_, rfl, p, dx, _, rfl, hp, rfl, ts, n, p, s, _, by rw [eW]; rfl, c, q.bnd fun _ s1 v1 H1 k1 c1 r1 q1 => ?_⟩
    clear hp dx
    obtain ⟨dx, _, _, hp, _⟩ := c1.ob
    refine ⟨_, rfl, p, dx, _, rfl, hp, rfl, ts, n, p, s1, X.aE, [], rfl, .inr (X.sE0 _), c1, q1.bnd fun _ s2 v2 H2 k2 c2 r2 q2 => ?_⟩
    clear hp dx
    obtain ⟨dx, _, _, hp, _⟩ := c2.ob
    refine ⟨_, rfl, p, dx, _, rfl, hp, rfl, ts, n, p, s2, _, by rw [eP]; rfl, c2, q2.bnd fun _ s3 v3 H3 k3 c3 r3 q3 => ?_⟩
    refine ⟨_, rfl, ts, n, p, s3, _, by rw [eQ]; rfl, c3, q3.bnd fun _ s4 v4 H4 k4 c4 r4 q4 => ?_⟩
    refine ⟨_, rfl, ts, n, p, s4, false, rfl, c4, q4.last.bnd fun _ s5 v5 H5 k5 c5 r5 q5 => ?_⟩
    clear hp dx
    obtain ⟨dx, _, _, hp, _⟩ := c5.ob
    refine ⟨_, rfl, _, rfl, p, X.CU, dx, _, _, rfl, hp, X.T.cl, X.T.nE, rfl, _, rfl, _, rfl, _, rfl, ?_⟩
    intro x dx2 nx ndx _
    refine mk_okR nx ndx (.cons trivial (.cons trivial (.cons trivial (.cons trivial (.cons trivial .nil))))) fun H' y1 y2 sm h => ⟨rfl, ?_⟩
    exact q5 _ H' (.same sm) (c5.same sm) trivial
theorem scIF : FnScope ["cursor", "looped", "start", "test", "body", "other", "else_if"] ["cursor", "looped"] (defScope sIF) := ⟨rfl, rfl, rfl, by decide +kernel, rfl, by decide +kernel, by decide +kernel⟩
theorem ok_IF (X : XT P w K mg base) {d e : Nat} (GE : FnOk P w K mg base (L2.CX P w) (5 + 7 * d) X.fE X.fdE ["cursor", "mode"] (spE X d)) (GBL : FnOk P w K mg base (L2.CX P w) (12 + 7 * d + 3 * e) X.fBL X.fdBL ["cursor", "looped"] (spB X d e)) (GIF : FnOk P w K mg base (L2.CX P w) (12 + 7 * d + 3 * e) X.fIF X.fdIF ["cursor", "looped"] (spIf X d e)) :
    FnOk P w K mg base (L2.CX P w) (13 + 7 * d + 3 * e) X.fIF X.fdIF ["cursor", "looped"] (spIf X d (e + 1)) := by
  rw [show 13 + 7 * d + 3 * e = (12 + 7 * d + 3 * e) + 1 by omega]
  refine X.FIF.okX scIF (fun vs H Q E h => ?_) (fun cdv A outer s H vs Q E hr h => ?_)
  · obtain ⟨ts, n, p, s, b, rfl, _⟩ := h
    rfl
  · obtain ⟨ts, n, p, s, lo, rfl, c, q0⟩ := h
    obtain ⟨tF, gFREE⟩ := X.gFREE
    have q : Ps X.CU X.CS ts n p H (ifS ts n (par ts n d) (par2 ts n (par ts n d) e) lo s) anyV Q E := q0
    refine ⟨_,
(pss_cons (ps_set (i := 2) scIF.nd rfl (.inl rfl) (pe_meth (pv 0) X.T.cl X.T.mEX X.GEX (hr.mono (by omega)) X.bEX .nil (passes_call (takes_of rfl rfl rfl rfl) (fun _ _ _ _ h => h)) (pa_cons pe_str pa_nil)))
 (pss_cons (ps_set (i := 3) scIF.nd rfl (.inl rfl) (pe_call GE (hr.mono (by omega)) (by rfl) X.gE X.kE X.bE .nil (passes_call (takes_of rfl rfl rfl rfl) (fun _ _ _ _ h => h)) (pa_cons (pv 0) (pa_cons (pe_glob (v := .int 2) rfl gFREE ⟨_, rfl⟩) pa_nil))))
 (pss_cons (ps_set (i := 4) scIF.nd rfl (.inl rfl) (pe_call GBL (hr.mono (by omega)) (by rfl) X.gBL X.kBL X.bBL .nil (passes_call (takes_of rfl rfl rfl rfl) (fun _ _ _ _ h => h)) (pa_cons (pv 0) (pa_cons (pv 1) pa_nil))))
 (pss_cons (ps_set (i := 5) scIF.nd rfl (.inl rfl) pe_non)
 (pss_cons (ps_set (i := 6) scIF.nd rfl (.inl rfl) pe_non)
 (Evl.pss_cut (ps_if (pt_val (pe_meth (pv 0) X.T.cl X.T.mTI X.GTI (hr.mono (by omega)) X.bTI .nil (passes_call (takes_of rfl rfl rfl rfl) (fun _ _ _ _ h => h)) (pa_cons pe_str pa_nil)))
 (pss_one (ps_if (pt_cmpR op_eq (pe_meth0 (pv 0) X.T.cl X.T.mNT X.GNT (hr.mono (by omega)) X.bNT0 X.dNT0 pass0) pe_str (nomark _))
 (pss_cons (ps_expr (pe_meth0 (pv 0) X.T.cl X.T.mBI X.GBI (hr.mono (by omega)) X.bBI .nil pass0))
 (pss_cons (ps_set (i := 6) scIF.nd rfl (.inl rfl) (pe_call GIF (hr.mono (by omega)) (by rfl) X.gIF X.kIF X.bIF .nil (passes_call (takes_of rfl rfl rfl rfl) (fun _ _ _ _ h => h)) (pa_cons (pv 0) (pa_cons (pv 1) pa_nil))))
 (pss_one (ps_expr (pe_meth0 (pv 0) X.T.cl X.T.mEI X.GEI (hr.mono (by omega)) X.bEI .nil pass0)))))
 (pss_one (ps_set (i := 5) scIF.nd rfl (.inl rfl) (pe_call GBL (hr.mono (by omega)) (by rfl) X.gBL X.kBL X.bBL .nil (passes_call (takes_of rfl rfl rfl rfl) (fun _ _ _ _ h => h)) (pa_cons (pv 0) (pa_cons (pv 1) pa_nil)))))))
 pss_nil)
 (pss_one (ps_ret (pe_make X.mIf.M0 X.mIf.G (hr.mono (by omega)) (by rfl) X.mIf.g X.mIf.b .nil pass0 (pa_cons (pv 2) (pa_cons (pe_fld (pv 0) rfl) (pa_cons (pv 3) (pa_cons (pv 4) (pa_cons (pv 5) (pa_cons (pv 6) pa_nil))))))))))))))), ?_⟩
    unfold ifS at q
    have eI : Str.ofString "if" = S [105, 102] := by decide +kernel
    have eE : Str.ofString "else" = S [101, 108, 115, 101] := by decide +kernel
    obtain ⟨dx, _, _, hp, _⟩ := c.ob
    refine ⟨_, rfl, p, dx, _, rfl, hp, rfl, ts, n, p, s, _, by rw [eI]; rfl, c, q.bnd fun _ s1 v1 H1 k1 c1 r1 q1 => ?_⟩
    refine ⟨_, rfl, ts, n, p, s1, 2, rfl, c1, q1.bnd fun _ s2 v2 H2 k2 c2 r2 q2 => ?_⟩
    refine ⟨_, rfl, _, rfl, ts, n, p, s2, lo, rfl, c2, q2.bnd fun _ s3 v3 H3 k3 c3 r3 q3 => ?_⟩
    clear hp dx
    obtain ⟨dx, _, _, hp, _⟩ := c3.ob
    refine ⟨fun σ H' => ∃ s6 y5 y6, σ = [some (.ref p), some (.bl lo), some v1, some v2, some v3, some y5, some y6] ∧ CuAt X.CU ts n H' p s6 ∧ Ps X.CU X.CS ts n p H' (M.ret () s6) anyV Q E, ?_, ?_⟩
    · refine ⟨_, rfl, p, dx, _, rfl, hp, rfl, ts, n, p, s3, _, by rw [eE]; rfl, c3, q3.bnd fun b s4 v4 H4 k4 c4 r4 q4 => ?_⟩
      have r4' : v4 = .bl b := r4
      subst r4'
      clear hp dx
      obtain ⟨dx, _, _, hp, _⟩ := c4.ob
      cases b with
      | false =>
        rw [if_neg (by decide)] at q4
        exact ⟨_, rfl, iteF ⟨s4, .non, .non, rfl, c4, q4⟩⟩
      | true =>
        rw [if_pos rfl] at q4
        refine ⟨_, rfl, iteT ?_⟩
        refine ⟨_, rfl, p, dx, _, rfl, hp, rfl, ts, n, p, s4, 0, rfl, c4, rfl, _, rfl, ?_⟩
        rw [eI, S_eq]
        by_cases h1 : tx ts 0 s4 = [105, 102]
        · refine iteT' (decide_eq_true h1) ?_
          have q5 : Ps X.CU X.CS ts n p H4 (((addO 1).bnd fun _ => ((par2 ts n (par ts n d) e).ifs lo).bnd fun _ => addO (-1)) s4) anyV Q E := q4.eq (if_pos h1)
          refine ⟨_, rfl, p, dx, _, rfl, hp, rfl, ts, n, p, s4, rfl, c4, Ps.anyE (q5.bnd fun _ s5 v5 H5 k5 c5 r5 q6 => ?_) (addO_ne _ s4)⟩
          refine ⟨_, rfl, _, rfl, ts, n, p, s5, lo, rfl, c5, q6.bnd fun _ s6 v6 H6 k6 c6 r6 q7 => ?_⟩
          clear hp dx
          obtain ⟨dx, _, _, hp, _⟩ := c6.ob
          exact ⟨_, rfl, p, dx, _, rfl, hp, rfl, ts, n, p, s6, rfl, c6, Ps.anyE (q7.last.bnd fun _ s8 v8 H8 k8 c8 r8 q8 => ⟨s8, .non, v6, rfl, c8, q8⟩) (addO_ne _ s6)⟩
        · refine iteF' (decide_eq_false h1) ?_
          have q5 : Ps X.CU X.CS ts n p H4 ((par2 ts n (par ts n d) e).block lo s4) anyV Q E := q4.eq (if_neg h1)
          exact ⟨_, rfl, _, rfl, ts, n, p, s4, lo, rfl, c4, q5.last.bnd fun _ s8 v8 H8 k8 c8 r8 q8 => ⟨s8, v8, .non, rfl, c8, q8⟩⟩
    · rintro σ H6 ⟨s6, y5, y6, rfl, c6, q6⟩
      clear hp dx
      obtain ⟨dx, _, _, hp, _⟩ := c6.ob
      refine ⟨_, rfl, _, rfl, p, X.CU, dx, _, _, rfl, hp, X.T.cl, X.T.nE, rfl, _, rfl, _, rfl, _, rfl, _, rfl, ?_⟩
      intro x dx2 nx ndx _
      refine mk_okR nx ndx (.cons trivial (.cons trivial (.cons trivial (.cons trivial (.cons trivial (.cons trivial .nil)))))) fun H' y1 y2 sm h => ⟨rfl, ?_⟩
      exact q6 _ H' (.same sm) (c6.same sm) trivial
end
end KB
namespace KB
open PySem PySem.Spec PyProof.Rows L2
section
variable {P : Program} {w : World} {K : PySem.W.Frag} {mg : Str → Option Value} {base : Heap}
theorem w_def : Str.ofString "def" = S [100, 101, 102] := by decide +kernel
theorem w_if : Str.ofString "if" = S [105, 102] := by decide +kernel
theorem w_while : Str.ofString "while" = S [119, 104, 105, 108, 101] := by decide +kernel
theorem w_for : Str.ofString "for" = S [102, 111, 114] := by decide +kernel
theorem w_return : Str.ofString "return" = S [114, 101, 116, 117, 114, 110] := by decide +kernel
theorem w_global : Str.ofString "global" = S [103, 108, 111, 98, 97, 108] := by decide +kernel
theorem w_nonlocal : Str.ofString "nonlocal" = S [110, 111, 110, 108, 111, 99, 97, 108] := by decide +kernel
theorem w_pass : Str.ofString "pass" = S [112, 97, 115, 115] := by decide +kernel
theorem w_break : Str.ofString "break" = S [98, 114, 101, 97, 107] := by decide +kernel
theorem w_continue : Str.ofString "continue" = S [99, 111, 110, 116, 105, 110, 117, 101] := by decide +kernel
theorem two_global : ([V.str (Str.ofString "global"), V.str (Str.ofString "nonlocal")] : List V) = ([[103, 108, 111, 98, 97, 108], [110, 111, 110, 108, 111, 99, 97, 108]] : List (List Nat)).map fun s => .str (S s) := by
  rw [w_global, w_nonlocal]
  rfl
theorem two_break : ([V.str (Str.ofString "break"), V.str (Str.ofString "continue")] : List V) = ([[98, 114, 101, 97, 107], [99, 111, 110, 116, 105, 110, 117, 101]] : List (List Nat)).map fun s => .str (S s) := by
  rw [w_break, w_continue]
  rfl
theorem scSS : FnScope ["cursor", "looped", "word", "start"] ["cursor", "looped"] (defScope sSS) := ⟨rfl, rfl, rfl, by decide +kernel, rfl, by decide +kernel, by decide +kernel⟩
theorem ok_SS (X : XT P w K mg base) {d e : Nat} (GDE : FnOk P w K mg base (L2.CX P w) (12 + 7 * d + 3 * e) X.fDE X.fdDE ["cursor"] (spDe X d e)) (GIF : FnOk P w K mg base (L2.CX P w) (12 + 7 * d + 3 * e) X.fIF X.fdIF ["cursor", "looped"] (spIf X d e))
    (GWH : FnOk P w K mg base (L2.CX P w) (13 + 7 * d + 3 * e) X.fWH X.fdWH ["cursor"] (sp1 X (fun ts n => whileS ts n (par ts n d) (par2 ts n (par ts n d) e)) anyV)) (GFO : FnOk P w K mg base (L2.CX P w) (13 + 7 * d + 3 * e) X.fFO X.fdFO ["cursor"] (sp1 X (fun ts n => forS ts n (par ts n d) (par2 ts n (par ts n d) e)) anyV))
    (GRE1 : FnOk P w K mg base (L2.CX P w) (6 + 7 * d) X.fRE1 X.fdRE1 ["cursor"] (sp1 X (fun ts n => returnS ts n (par ts n d)) anyV)) (GON : FnOk P w K mg base (L2.CX P w) 6 X.fON X.fdON ["cursor"] (sp1 X outerS anyV)) (GAE : FnOk P w K mg base (L2.CX P w) (11 + 7 * d) X.fAE X.fdAE ["cursor"] (sp1 X (fun ts n => assignS ts n (par ts n d)) anyV)) :
    FnOk P w K mg base (L2.CX P w) (14 + 7 * d + 3 * e) X.fSS X.fdSS ["cursor", "looped"] (spSS X d e) := by
  rw [show 14 + 7 * d + 3 * e = (13 + 7 * d + 3 * e) + 1 by omega]
  refine X.FSS.okX scSS (fun vs H Q E h => ?_) (fun cdv A outer s H vs Q E hr h => ?_)
  · obtain ⟨ts, n, p, s, b, rfl, _⟩ := h
    rfl
  · obtain ⟨ts, n, p, s, lo, rfl, c, q⟩ := h
    refine ⟨_,
(pss_cons (ps_set (i := 2) scSS.nd rfl (.inl rfl) (pe_meth0 (pv 0) X.T.cl X.T.mNT X.GNT (hr.mono (by omega)) X.bNT0 X.dNT0 pass0))
 (pss_cons (ps_if (pt_cmpR op_eq (pv 2) pe_str (nomark _))
 (pss_one (ps_ret (pe_call GDE (hr.mono (by omega)) (by rfl) X.gDE X.kDE X.bDE .nil (passes_call (takes_of rfl rfl rfl rfl) (fun _ _ _ _ h => h)) (pa_cons (pv 0) pa_nil))))
 pss_nil)
 (pss_cons (ps_if (pt_cmpR op_eq (pv 2) pe_str (nomark _))
 (pss_one (ps_ret (pe_call GIF (hr.mono (by omega)) (by rfl) X.gIF X.kIF X.bIF .nil (passes_call (takes_of rfl rfl rfl rfl) (fun _ _ _ _ h => h)) (pa_cons (pv 0) (pa_cons (pv 1) pa_nil)))))
 pss_nil)
 (pss_cons (ps_if (pt_cmpR op_eq (pv 2) pe_str (nomark _))
 (pss_one (ps_ret (pe_call GWH (hr.mono (by omega)) (by rfl) X.gWH X.kWH X.bWH .nil (passes_call (takes_of rfl rfl rfl rfl) (fun _ _ _ _ h => h)) (pa_cons (pv 0) pa_nil))))
 pss_nil)
 (pss_cons (ps_if (pt_cmpR op_eq (pv 2) pe_str (nomark _))
 (pss_one (ps_ret (pe_call GFO (hr.mono (by omega)) (by rfl) X.gFO X.kFO X.bFO .nil (passes_call (takes_of rfl rfl rfl rfl) (fun _ _ _ _ h => h)) (pa_cons (pv 0) pa_nil))))
 pss_nil)
 (pss_cons (ps_if (pt_cmpR op_eq (pv 2) pe_str (nomark _))
 (pss_one (ps_ret (pe_call GRE1 (hr.mono (by omega)) (by rfl) X.gRE1 X.kRE1 X.bRE1 .nil (passes_call (takes_of rfl rfl rfl rfl) (fun _ _ _ _ h => h)) (pa_cons (pv 0) pa_nil))))
 pss_nil)
 (pss_cons (ps_if (pt_cmpR op_in_seq (pv 2) (pe_tup (pa_cons pe_str (pa_cons pe_str pa_nil))) (by rfl))
 (pss_one (ps_ret (pe_call GON (hr.mono (by omega)) (by rfl) X.gON X.kON X.bON .nil (passes_call (takes_of rfl rfl rfl rfl) (fun _ _ _ _ h => h)) (pa_cons (pv 0) pa_nil))))
 pss_nil)
 (pss_cons (ps_if (PW.pt (pw_or (pt_cmpR op_eq (pv 2) pe_str (nomark _)) (pw_or1 (PW.pt (pw_and (pt_val (pv 1)) (pw_and1 (pt_cmpR op_in_seq (pv 2) (pe_tup (pa_cons pe_str (pa_cons pe_str pa_nil))) (by rfl))))))))
 (pss_cons (ps_set (i := 3) scSS.nd rfl (.inl rfl) (pe_meth0 (pv 0) X.T.cl X.T.mTA X.GTA (hr.mono (by omega)) X.bTA .nil (passes_call (takes_of rfl rfl rfl rfl) (fun _ _ _ _ h => h))))
 (pss_cons (ps_expr (pe_meth (pv 0) X.T.cl X.T.mEX X.GEX (hr.mono (by omega)) X.bEX .nil (passes_call (takes_of rfl rfl rfl rfl) (fun _ _ _ _ h => h)) (pa_cons pe_str pa_nil)))
 (pss_one (ps_ret (pe_make X.mWordAlone.M0 X.mWordAlone.G (hr.mono (by omega)) (by rfl) X.mWordAlone.g X.mWordAlone.b .nil pass0 (pa_cons (pv 3) (pa_cons (pe_fld (pv 0) rfl) (pa_cons (pv 2) pa_nil))))))))
 pss_nil)
 (pss_one (ps_ret (pe_call GAE (hr.mono (by omega)) (by rfl) X.gAE X.kAE X.bAE .nil (passes_call (takes_of rfl rfl rfl rfl) (fun _ _ _ _ h => h)) (pa_cons (pv 0) pa_nil)))))))))))), ?_⟩
    have q0 := q
    unfold stmtS at q
    obtain ⟨dx, _, _, hp, _⟩ := c.ob
    refine ⟨_, rfl, p, dx, _, rfl, hp, rfl, ts, n, p, s, 0, rfl, c, ?_⟩
    refine ⟨_, rfl, rfl, _, rfl, ?_⟩
    rw [w_def, S_eq]
    by_cases h0 : tx ts 0 s = [100, 101, 102]
    · refine iteT' (decide_eq_true h0) ?_
      exact ⟨_, rfl, ts, n, p, s, rfl, c, q.eq (if_pos h0)⟩
    refine iteF' (decide_eq_false h0) ?_
    have q_0 := q.eq (if_neg h0)
    refine ⟨_, rfl, rfl, _, rfl, ?_⟩
    rw [w_if, S_eq]
    by_cases h1 : tx ts 0 s = [105, 102]
    · refine iteT' (decide_eq_true h1) ?_
      exact ⟨_, rfl, _, rfl, ts, n, p, s, lo, rfl, c, q_0.eq (if_pos h1)⟩
    refine iteF' (decide_eq_false h1) ?_
    have q_1 := q_0.eq (if_neg h1)
    refine ⟨_, rfl, rfl, _, rfl, ?_⟩
    rw [w_while, S_eq]
    by_cases h2 : tx ts 0 s = [119, 104, 105, 108, 101]
    · refine iteT' (decide_eq_true h2) ?_
      exact ⟨_, rfl, ts, n, p, s, rfl, c, q_1.eq (if_pos h2)⟩
    refine iteF' (decide_eq_false h2) ?_
    have q_2 := q_1.eq (if_neg h2)
    refine ⟨_, rfl, rfl, _, rfl, ?_⟩
    rw [w_for, S_eq]
    by_cases h3 : tx ts 0 s = [102, 111, 114]
    · refine iteT' (decide_eq_true h3) ?_
      exact ⟨_, rfl, ts, n, p, s, rfl, c, q_2.eq (if_pos h3)⟩
    refine iteF' (decide_eq_false h3) ?_
    have q_3 := q_2.eq (if_neg h3)
    refine ⟨_, rfl, rfl, _, rfl, ?_⟩
    rw [w_return, S_eq]
    by_cases h4 : tx ts 0 s = [114, 101, 116, 117, 114, 110]
    · refine iteT' (decide_eq_true h4) ?_
      exact ⟨_, rfl, ts, n, p, s, rfl, c, q_3.eq (if_pos h4)⟩
    refine iteF' (decide_eq_false h4) ?_
    have q_4 := q_3.eq (if_neg h4)
    refine ⟨_, rfl, (by show 2 ≤ sizeLine; decide), fun t ht => ?_⟩
    have st := same_new (o := .tup [V.str (Str.ofString "global"), V.str (Str.ofString "nonlocal")]) ht
    refine ⟨t, _, rfl, .inr (.inl (.inl upd_same)), rfl, rfl, ?_⟩
    rw [two_global, in_b]
    rw [two_global] at st
    have c3 := c.same st
    have q5 := q_4.keep (.same st)
    clear hp dx
    obtain ⟨dx, _, _, hp, _⟩ := c3.ob
    refine ⟨_, rfl, ?_⟩
    by_cases h5 : tx ts 0 s ∈ ([[103, 108, 111, 98, 97, 108], [110, 111, 110, 108, 111, 99, 97, 108]] : List (List Nat))
    · refine iteT' (decide_eq_true h5) ?_
      exact ⟨_, rfl, ts, n, p, s, rfl, c3, q5.eq (if_pos (by simpa using h5))⟩
    refine iteF' (decide_eq_false h5) ?_
    have q6 := q5.eq (if_neg fun z => h5 (by simpa using z))
    refine ⟨_, rfl, rfl, _, rfl, ?_⟩
    rw [w_pass, S_eq]
    by_cases h6 : tx ts 0 s = [112, 97, 115, 115]
    · refine iteT' (decide_eq_true h6) (iteT ?_)
      have q7 : Ps X.CU X.CS ts n p _ (((take ts n).bnd fun _ => (expect ts n [59]).bnd fun _ => M.ret ()) s) anyV Q E := q6.eq (if_pos (.inl h6))
      refine ⟨_, rfl, p, dx, _, rfl, hp, rfl, ts, n, p, s, rfl, c3, q7.bnd fun _ s1 v1 H1 k1 c1 r1 q1 => ?_⟩
      clear hp dx
      obtain ⟨dx, _, _, hp, _⟩ := c1.ob
      refine ⟨_, rfl, p, dx, _, rfl, hp, rfl, ts, n, p, s1, _, by rw [eSemi]; rfl, c1, q1.bnd fun _ s2 v2 H2 k2 c2 r2 q2 => ?_⟩
      clear hp dx
      obtain ⟨dx, _, _, hp, _⟩ := c2.ob
      refine ⟨_, rfl, _, rfl, p, X.CU, dx, _, _, rfl, hp, X.T.cl, X.T.nE, rfl, _, rfl, ?_⟩
      intro x dx2 nx ndx _
      refine mk_okR nx ndx (.cons trivial (.cons trivial (.cons trivial .nil))) fun H' y1 y2 sm h => ⟨rfl, ?_⟩
      exact q2 _ H' (.same sm) (c2.same sm) trivial
    refine iteF' (decide_eq_false h6) ?_
    refine ⟨_, rfl, _, rfl, ?_⟩
    cases lo with
    | false =>
      refine iteF (iteF ?_)
      exact ⟨_, rfl, ts, n, p, s, rfl, c3, q6.eq (if_neg fun z => z.elim h6 fun z => Bool.noConfusion z.1)⟩
    | true =>
      refine iteT ?_
      refine ⟨_, rfl, (by show 2 ≤ sizeLine; decide), fun t2 ht2 => ?_⟩
      have st2 := same_new (o := .tup [V.str (Str.ofString "break"), V.str (Str.ofString "continue")]) ht2
      refine ⟨t2, _, rfl, .inr (.inl (.inl upd_same)), rfl, rfl, ?_⟩
      rw [two_break, in_b]
      rw [two_break] at st2
      have c4 := c3.same st2
      have q7 := q6.keep (.same st2)
      clear hp dx
      obtain ⟨dx, _, _, hp, _⟩ := c4.ob
      refine ⟨_, rfl, ?_⟩
      by_cases h7 : tx ts 0 s ∈ ([[98, 114, 101, 97, 107], [99, 111, 110, 116, 105, 110, 117, 101]] : List (List Nat))
      · refine iteT' (decide_eq_true h7) ?_
        have q8 : Ps X.CU X.CS ts n p _ (((take ts n).bnd fun _ => (expect ts n [59]).bnd fun _ => M.ret ()) s) anyV Q E := q7.eq (if_pos (.inr ⟨rfl, by simpa using h7⟩))
        refine ⟨_, rfl, p, dx, _, rfl, hp, rfl, ts, n, p, s, rfl, c4, q8.bnd fun _ s1 v1 H1 k1 c1 r1 q1 => ?_⟩
        clear hp dx
        obtain ⟨dx, _, _, hp, _⟩ := c1.ob
        refine ⟨_, rfl, p, dx, _, rfl, hp, rfl, ts, n, p, s1, _, by rw [eSemi]; rfl, c1, q1.bnd fun _ s2 v2 H2 k2 c2 r2 q2 => ?_⟩
        clear hp dx
        obtain ⟨dx, _, _, hp, _⟩ := c2.ob
        refine ⟨_, rfl, _, rfl, p, X.CU, dx, _, _, rfl, hp, X.T.cl, X.T.nE, rfl, _, rfl, ?_⟩
        intro x dx2 nx ndx _
        refine mk_okR nx ndx (.cons trivial (.cons trivial (.cons trivial .nil))) fun H' y1 y2 sm h => ⟨rfl, ?_⟩
        exact q2 _ H' (.same sm) (c2.same sm) trivial
      · refine iteF' (decide_eq_false h7) ?_
        exact ⟨_, rfl, ts, n, p, s, rfl, c4, q7.eq (if_neg fun z => z.elim h6 fun z => h7 (by simpa using z.2))⟩
theorem scBL : FnScope ["cursor", "looped", "found"] ["cursor", "looped"] (defScope sBL) := ⟨rfl, rfl, rfl, by decide +kernel, rfl, by decide +kernel, by decide +kernel⟩
theorem ok_BL (X : XT P w K mg base) {d e : Nat} (GSS : FnOk P w K mg base (L2.CX P w) (14 + 7 * d + 3 * e) X.fSS X.fdSS ["cursor", "looped"] (spSS X d e)) :
    FnOk P w K mg base (L2.CX P w) (15 + 7 * d + 3 * e) X.fBL X.fdBL ["cursor", "looped"] (spB X d (e + 1)) := by
  rw [show 15 + 7 * d + 3 * e = (14 + 7 * d + 3 * e) + 1 by omega]
  refine X.FBL.okX scBL (fun vs H Q E h => ?_) (fun cdv A outer s H vs Q E hr h => ?_)
  · obtain ⟨ts, n, p, s, b, rfl, _⟩ := h
    rfl
  · obtain ⟨ts, n, p, s, lo, rfl, c, q0⟩ := h
    have q : Ps X.CU X.CS ts n p H (blockS ts n (par ts n d) (par2 ts n (par ts n d) e) lo s) anyV Q E := q0
    refine ⟨_,
(pss_cons (ps_expr (pe_meth (pv 0) X.T.cl X.T.mEX X.GEX (hr.mono (by omega)) X.bEX .nil (passes_call (takes_of rfl rfl rfl rfl) (fun _ _ _ _ h => h)) (pa_cons pe_str pa_nil)))
 (pss_cons (ps_set (i := 2) scBL.nd rfl (.inl rfl) (pe_lst pa_nil))
 (pss_cons (ps_while (passes_of rfl) (pt_not (pt_val (pe_meth (pv 0) X.T.cl X.T.mTI X.GTI (hr.mono (by omega)) X.bTI .nil (passes_call (takes_of rfl rfl rfl rfl) (fun _ _ _ _ h => h)) (pa_cons pe_str pa_nil))))
 (pss_one (ps_expr (pe_bm PySem.F.plainAttrs_list PySem.F.slot_list_append PySem.F.type_list_append mt_append (pv 2) (pa_cons (pe_call GSS (hr.mono (by omega)) (by rfl) X.gSS X.kSS X.bSS .nil (passes_call (takes_of rfl rfl rfl rfl) (fun _ _ _ _ h => h)) (pa_cons (pv 0) (pa_cons (pv 1) pa_nil))) pa_nil)))))
 (pss_one (ps_ret (pv 2)))))), ?_⟩
    unfold blockS at q
    have eO : Str.ofString "{" = S [123] := by decide +kernel
    have eC : Str.ofString "}" = S [125] := by decide +kernel
    obtain ⟨dx, _, _, hp, _⟩ := c.ob
    refine ⟨_, rfl, p, dx, _, rfl, hp, rfl, ts, n, p, s, _, by rw [eO]; rfl, c, q.bnd fun _ s3 v3 H3 k3 c3 r3 q3 => ?_⟩
    refine ⟨(by show 0 ≤ sizeLine; decide), fun l hl => ?_⟩
    have sl := same_new (o := .lst []) hl
    have c3' := c3.same sl
    have h3p := c3.some
    have lp : l ≠ p := fun e => h3p (by rw [← e]; exact hl)
    refine ⟨fun mm σ H' => ∃ s6 xs, σ = [some (.ref p), some (.bl lo), some (.ref l)] ∧ H' l = some (.lst xs) ∧ xs.length + mm ≤ 5002 ∧ Kc p H3 H' ∧ CuAt X.CU ts n H' p s6 ∧ Ps X.CU X.CS ts n p H3 (blockL ts n (par ts n d) (par2 ts n (par ts n d) e) lo mm s6) anyV Q E,
      ⟨_, s3, [], rfl, upd_same, (by have := c3.lt; show 0 + (ts.length + 1) ≤ 5002; omega), .same sl, c3', q3⟩, ?_⟩
    rintro mm σ H6 ⟨s6, xs, rfl, h6, hxs, k6, c6, q6⟩
    clear hp dx
    obtain ⟨dx, _, _, hp, _⟩ := c6.ob
    cases mm with
    | zero => exact absurd q6 id
    | succ mm =>
      unfold blockL at q6
      refine ⟨_, rfl, p, dx, _, rfl, hp, rfl, ts, n, p, s6, _, by rw [eC]; rfl, c6, q6.bnd0 k6 fun b s7 v7 H7 k7 c7 r7 q7 => ?_⟩
      have r7' : v7 = .bl b := r7
      subst r7'
      refine ⟨_, rfl, ?_⟩
      have h7 : H7 l = some (.lst xs) := k7.1 _ _ lp h6
      cases b with
      | false =>
        rw [if_neg (by decide)] at q7
        refine iteT' rfl ?_
        refine ⟨fun σ H' => ∃ s6 xs, σ = [some (.ref p), some (.bl lo), some (.ref l)] ∧ H' l = some (.lst xs) ∧ xs.length + mm ≤ 5002 ∧ Kc p H3 H' ∧ CuAt X.CU ts n H' p s6 ∧ Ps X.CU X.CS ts n p H3 (blockL ts n (par ts n d) (par2 ts n (par ts n d) e) lo mm s6) anyV Q E, fun σ' H' z => ⟨mm, Nat.lt_succ_self _, z⟩, ?_⟩
        refine ⟨_, rfl, .inl ⟨rfl, _, .inl (.inl h7)⟩, _, rfl, _, rfl, ts, n, p, s7, lo, rfl, c7, q7.bnd0 (k6.trans k7) fun _ s8 v8 H8 k8 c8 r8 q8 => ?_⟩
        have h8 : H8 l = some (.lst xs) := k8.1 _ _ lp h7
        have k38 := (k6.trans k7).trans k8
        refine ⟨l, xs, v8, rfl, rfl, h8, Nat.lt_of_le_of_lt (show xs.length ≤ 5002 by omega) (by decide), ?_⟩
        exact ⟨s8, _, rfl, upd_same, (by rw [List.length_append]; show xs.length + 1 + mm ≤ 5002; omega), k38.updL hl h3p, c3.updL hl k38 c8, q8⟩
      | true =>
        rw [if_pos rfl] at q7
        exact iteF' rfl ⟨_, rfl, q7 _ _ (k6.trans k7) c7 trivial⟩
structure Lb (X : XT P w K mg base) (d e : Nat) : Prop where
  B : FnOk P w K mg base (L2.CX P w) (12 + 7 * d + 3 * e) X.fBL X.fdBL ["cursor", "looped"] (spB X d e)
  I : FnOk P w K mg base (L2.CX P w) (12 + 7 * d + 3 * e) X.fIF X.fdIF ["cursor", "looped"] (spIf X d e)
  D : FnOk P w K mg base (L2.CX P w) (12 + 7 * d + 3 * e) X.fDE X.fdDE ["cursor"] (spDe X d e)
theorem lb (X : XT P w K mg base) (d : Nat) : ∀ e, Lb X d e
  | 0 => ⟨⟨fun vs H Q E h => by
        obtain ⟨ts, n, p, s, m, rfl, _, q⟩ := h
        exact absurd q id, fun A outer s H args us vs Q E hr he hb hv hs => by
        obtain ⟨ts, n, p, s, m, rfl, _, q⟩ := hs
        exact absurd q id⟩, ⟨fun vs H Q E h => by
        obtain ⟨ts, n, p, s, m, rfl, _, q⟩ := h
        exact absurd q id, fun A outer s H args us vs Q E hr he hb hv hs => by
        obtain ⟨ts, n, p, s, m, rfl, _, q⟩ := hs
        exact absurd q id⟩, ⟨fun vs H Q E h => by
        obtain ⟨ts, n, p, s, rfl, _, q⟩ := h
        exact absurd q id, fun A outer s H args us vs Q E hr he hb hv hs => by
        obtain ⟨ts, n, p, s, rfl, _, q⟩ := hs
        exact absurd q id⟩⟩
  | e + 1 => by
    have l := lb X d e
    have x := lv X d
    have ss := ok_SS X l.D l.I (ok_WH X x.E l.B) (ok_FO X x.E l.B) (ok_RE1 X x.E) (ok_ON X) (ok_AE X x.E (ok_IT X (k := 0)) (ok_RT X x.CL (ok_IT X (k := 0))) (ok_RS X x.E))
    have n : 12 + 7 * d + 3 * (e + 1) = 15 + 7 * d + 3 * e := by omega
    exact ⟨by rw [n]; exact ok_BL X ss, by rw [n]; exact (ok_IF X x.E l.B l.I).mono (by omega), by rw [n]; exact (ok_DE X x.PS l.B).mono (by omega)⟩
end
end KB
namespace KB
open PySem PySem.Spec PyProof.Rows L2
section
variable {P : Program} {w : World} {K : PySem.W.Frag} {mg : Str → Option Value} {base : Heap}
def spM (X : XT P w K mg base) (d e : Nat) {α : Type} (x : List Tk → Nat → Par → Par2 → M α) : Sp := sp1 X (fun ts n => x ts n (par ts n d) (par2 ts n (par ts n d) e)) anyV
theorem scDA : FnScope ["cursor", "target"] ["cursor"] (defScope sDA) := ⟨rfl, rfl, rfl, by decide +kernel, rfl, by decide +kernel, by decide +kernel⟩
theorem ok_DA (X : XT P w K mg base) {d e : Nat} (GDE : FnOk P w K mg base (L2.CX P w) (12 + 7 * d + 3 * e) X.fDE X.fdDE ["cursor"] (spDe X d e)) (GRS : FnOk P w K mg base (L2.CX P w) (6 + 7 * d) X.fRS X.fdRS ["cursor", "targets", "mode"] (spRS X d)) :
    FnOk P w K mg base (L2.CX P w) (13 + 7 * d + 3 * e) X.fDA X.fdDA ["cursor"] (spM X d e doaS) := by
  rw [show 13 + 7 * d + 3 * e = (12 + 7 * d + 3 * e) + 1 by omega]
  refine X.FDA.okX scDA (fun vs H Q E h => ?_) (fun cdv A outer s H vs Q E hr h => ?_)
  · obtain ⟨ts, n, p, s, rfl, _⟩ := h
    rfl
  · obtain ⟨ts, n, p, s, rfl, c, q⟩ := h
    obtain ⟨tF, gSTILL⟩ := X.gSTILL
    refine ⟨_,
(pss_cons (ps_if (pt_cmpR op_eq (pe_meth0 (pv 0) X.T.cl X.T.mNT X.GNT (hr.mono (by omega)) X.bNT0 X.dNT0 pass0) pe_str (nomark _))
 (pss_one (ps_ret (pe_call GDE (hr.mono (by omega)) (by rfl) X.gDE X.kDE X.bDE .nil (passes_call (takes_of rfl rfl rfl rfl) (fun _ _ _ _ h => h)) (pa_cons (pv 0) pa_nil))))
 pss_nil)
 (pss_cons (ps_set (i := 1) scDA.nd rfl (.inl rfl) (pe_meth0 (pv 0) X.T.cl X.T.mTN X.GTN (hr.mono (by omega)) X.bTN0 X.dTN0 (passes_call (takes_of rfl rfl rfl rfl) (fun _ _ _ _ h => h))))
 (pss_cons (ps_expr (pe_meth (pv 0) X.T.cl X.T.mEX X.GEX (hr.mono (by omega)) X.bEX .nil (passes_call (takes_of rfl rfl rfl rfl) (fun _ _ _ _ h => h)) (pa_cons pe_str pa_nil)))
 (pss_one (ps_ret (pe_call GRS (hr.mono (by omega)) (by rfl) X.gRS X.kRS X.bRS .nil (passes_call (takes_of rfl rfl rfl rfl) (fun _ _ _ _ h => h)) (pa_cons (pv 0) (pa_cons (pe_lst (pa_cons (pv 1) pa_nil)) (pa_cons (pe_glob (v := .int 1) rfl gSTILL ⟨_, rfl⟩) pa_nil))))))))), ?_⟩
    unfold doaS at q
    obtain ⟨dx, _, _, hp, _⟩ := c.ob
    refine ⟨_, rfl, p, dx, _, rfl, hp, rfl, ts, n, p, s, 0, rfl, c, rfl, _, rfl, ?_⟩
    rw [w_def, S_eq]
    by_cases h1 : tx ts 0 s = [100, 101, 102]
    · refine iteT' (decide_eq_true h1) ?_
      exact ⟨_, rfl, ts, n, p, s, rfl, c, q.eq (if_pos h1)⟩
    · refine iteF' (decide_eq_false h1) ?_
      have q1 : Ps X.CU X.CS ts n p H (((takeName ts n []).bnd fun _ => (expect ts n [61]).bnd fun _ => rightS ts n (par ts n d) 1) s) anyV Q E := q.eq (if_neg h1)
      refine ⟨_, rfl, p, dx, _, rfl, hp, rfl, ts, n, p, s, X.aE, [], rfl, .inr (X.sE0 _), c, q1.bnd fun a s2 v2 H2 k2 c2 r2 q2 => ?_⟩
      have n2 := (r2.nd (X := X)).nd
      clear hp dx
      obtain ⟨dx, _, _, hp, _⟩ := c2.ob
      refine ⟨_, rfl, p, dx, _, rfl, hp, rfl, ts, n, p, s2, _, by rw [eEq1]; rfl, c2, q2.bnd fun _ s3 v3 H3 k3 c3 r3 q3 => ?_⟩
      have n3 := n2.keep c2 k3
      refine ⟨_, rfl, _, rfl, (by show 1 ≤ sizeLine; decide), fun l hl => ?_⟩
      have sl := same_new (o := .lst [v2]) hl
      have n4 : NdAt K (upd H3 l (.lst [v2])) v2 := by
        obtain ⟨b, C, d', fs, z1, z2, e', nd⟩ := n3
        exact ⟨b, C, d', fs, z1, z2, e', nd.same sl⟩
      exact ⟨ts, n, p, s3, 1, l, v2, [], rfl, upd_same, n4, c3.same sl, q3.keep (.same sl)⟩
theorem scTO1 : FnScope ["cursor", "word"] ["cursor"] (defScope sTO1) := ⟨rfl, rfl, rfl, by decide +kernel, rfl, by decide +kernel, by decide +kernel⟩
theorem ok_TO1 (X : XT P w K mg base) {d e : Nat} (GIM : FnOk P w K mg base (L2.CX P w) 7 X.fIM X.fdIM ["cursor"] (sp1 X importS anyV)) (GFR : FnOk P w K mg base (L2.CX P w) 9 X.fFR X.fdFR ["cursor"] (sp1 X fromS anyV))
    (GCC : FnOk P w K mg base (L2.CX P w) (14 + 7 * d + 3 * e) X.fCC X.fdCC ["cursor"] (spM X d e classS)) (GDA : FnOk P w K mg base (L2.CX P w) (13 + 7 * d + 3 * e) X.fDA X.fdDA ["cursor"] (spM X d e doaS)) :
    FnOk P w K mg base (L2.CX P w) (15 + 7 * d + 3 * e) X.fTO1 X.fdTO1 ["cursor"] (spM X d e topS1) := by
  rw [show 15 + 7 * d + 3 * e = (14 + 7 * d + 3 * e) + 1 by omega]
  refine X.FTO1.okX scTO1 (fun vs H Q E h => ?_) (fun cdv A outer s H vs Q E hr h => ?_)
  · obtain ⟨ts, n, p, s, rfl, _⟩ := h
    rfl
  · obtain ⟨ts, n, p, s, rfl, c, q⟩ := h
    refine ⟨_,
(pss_cons (ps_set (i := 1) scTO1.nd rfl (.inl rfl) (pe_meth0 (pv 0) X.T.cl X.T.mNT X.GNT (hr.mono (by omega)) X.bNT0 X.dNT0 pass0))
 (pss_cons (ps_if (pt_cmpR op_eq (pv 1) pe_str (nomark _))
 (pss_one (ps_ret (pe_call GIM (hr.mono (by omega)) (by rfl) X.gIM X.kIM X.bIM .nil (passes_call (takes_of rfl rfl rfl rfl) (fun _ _ _ _ h => h)) (pa_cons (pv 0) pa_nil))))
 pss_nil)
 (pss_cons (ps_if (pt_cmpR op_eq (pv 1) pe_str (nomark _))
 (pss_one (ps_ret (pe_call GFR (hr.mono (by omega)) (by rfl) X.gFR X.kFR X.bFR .nil (passes_call (takes_of rfl rfl rfl rfl) (fun _ _ _ _ h => h)) (pa_cons (pv 0) pa_nil))))
 pss_nil)
 (pss_cons (ps_if (pt_cmpR op_eq (pv 1) pe_str (nomark _))
 (pss_one (ps_ret (pe_call GCC (hr.mono (by omega)) (by rfl) X.gCC X.kCC X.bCC .nil (passes_call (takes_of rfl rfl rfl rfl) (fun _ _ _ _ h => h)) (pa_cons (pv 0) pa_nil))))
 pss_nil)
 (pss_one (ps_ret (pe_call GDA (hr.mono (by omega)) (by rfl) X.gDA X.kDA X.bDA .nil (passes_call (takes_of rfl rfl rfl rfl) (fun _ _ _ _ h => h)) (pa_cons (pv 0) pa_nil)))))))), ?_⟩
    unfold topS1 at q
    have eI : Str.ofString "import" = S [105, 109, 112, 111, 114, 116] := by decide +kernel
    have eF : Str.ofString "from" = S [102, 114, 111, 109] := by decide +kernel
    have eC : Str.ofString "class" = S [99, 108, 97, 115, 115] := by decide +kernel
    obtain ⟨dx, _, _, hp, _⟩ := c.ob
    refine ⟨_, rfl, p, dx, _, rfl, hp, rfl, ts, n, p, s, 0, rfl, c, ?_⟩
    refine ⟨_, rfl, rfl, _, rfl, ?_⟩
    rw [eI, S_eq]
    by_cases h0 : tx ts 0 s = [105, 109, 112, 111, 114, 116]
    · refine iteT' (decide_eq_true h0) ?_
      exact ⟨_, rfl, ts, n, p, s, rfl, c, q.eq (if_pos h0)⟩
    refine iteF' (decide_eq_false h0) ?_
    have q0 := q.eq (if_neg h0)
    refine ⟨_, rfl, rfl, _, rfl, ?_⟩
    rw [eF, S_eq]
    by_cases h1 : tx ts 0 s = [102, 114, 111, 109]
    · refine iteT' (decide_eq_true h1) ?_
      exact ⟨_, rfl, ts, n, p, s, rfl, c, q0.eq (if_pos h1)⟩
    refine iteF' (decide_eq_false h1) ?_
    have q1 := q0.eq (if_neg h1)
    refine ⟨_, rfl, rfl, _, rfl, ?_⟩
    rw [eC, S_eq]
    by_cases h2 : tx ts 0 s = [99, 108, 97, 115, 115]
    · refine iteT' (decide_eq_true h2) ?_
      exact ⟨_, rfl, ts, n, p, s, rfl, c, q1.eq (if_pos h2)⟩
    refine iteF' (decide_eq_false h2) ?_
    exact ⟨_, rfl, ts, n, p, s, rfl, c, q1.eq (if_neg h2)⟩
end
end KB
namespace KB
open PySem PySem.Spec PyProof.Rows L2
section
variable {P : Program} {w : World} {K : PySem.W.Frag} {mg : Str → Option Value} {base : Heap}
theorem scCC : FnScope ["cursor", "start", "name", "base", "body"] ["cursor"] (defScope sCC) := ⟨rfl, rfl, rfl, by decide +kernel, rfl, by decide +kernel, by decide +kernel⟩
theorem ok_CC (X : XT P w K mg base) {d e : Nat} (GDA : FnOk P w K mg base (L2.CX P w) (13 + 7 * d + 3 * e) X.fDA X.fdDA ["cursor"] (spM X d e doaS)) :
    FnOk P w K mg base (L2.CX P w) (14 + 7 * d + 3 * e) X.fCC X.fdCC ["cursor"] (spM X d e classS) := by
  rw [show 14 + 7 * d + 3 * e = (13 + 7 * d + 3 * e) + 1 by omega]
  refine X.FCC.okX scCC (fun vs H Q E h => ?_) (fun cdv A outer s H vs Q E hr h => ?_)
  · obtain ⟨ts, n, p, s, rfl, _⟩ := h
    rfl
  · obtain ⟨ts, n, p, s, rfl, c, q⟩ := h
    refine ⟨_,
(pss_cons (ps_set (i := 1) scCC.nd rfl (.inl rfl) (pe_meth (pv 0) X.T.cl X.T.mEX X.GEX (hr.mono (by omega)) X.bEX .nil (passes_call (takes_of rfl rfl rfl rfl) (fun _ _ _ _ h => h)) (pa_cons pe_str pa_nil)))
 (pss_cons (ps_set (i := 2) scCC.nd rfl (.inl rfl) (pe_meth0 (pv 0) X.T.cl X.T.mTN X.GTN (hr.mono (by omega)) X.bTN0 X.dTN0 (passes_call (takes_of rfl rfl rfl rfl) (fun _ _ _ _ h => h))))
 (pss_cons (ps_set (i := 3) scCC.nd rfl (.inl rfl) pe_non)
 (Evl.pss_cut (ps_if (pt_val (pe_meth (pv 0) X.T.cl X.T.mTI X.GTI (hr.mono (by omega)) X.bTI .nil (passes_call (takes_of rfl rfl rfl rfl) (fun _ _ _ _ h => h)) (pa_cons pe_str pa_nil)))
 (pss_cons (ps_set (i := 3) scCC.nd rfl (.inl rfl) (pe_meth0 (pv 0) X.T.cl X.T.mTN X.GTN (hr.mono (by omega)) X.bTN0 X.dTN0 (passes_call (takes_of rfl rfl rfl rfl) (fun _ _ _ _ h => h))))
 (Evl.pss_cut (ps_if (pt_val (pe_meth (pv 0) X.T.cl X.T.mTI X.GTI (hr.mono (by omega)) X.bTI .nil (passes_call (takes_of rfl rfl rfl rfl) (fun _ _ _ _ h => h)) (pa_cons pe_str pa_nil)))
 (pss_one (ps_set (i := 3) scCC.nd rfl (.inl rfl) (pe_make X.mMember.M0 X.mMember.G (hr.mono (by omega)) (by rfl) X.mMember.g X.mMember.b .nil pass0 (pa_cons (pv 3) (pa_cons (pe_meth0 (pv 0) X.T.cl X.T.mTN X.GTN (hr.mono (by omega)) X.bTN0 X.dTN0 (passes_call (takes_of rfl rfl rfl rfl) (fun _ _ _ _ h => h))) pa_nil)))))
 pss_nil)
 (pss_one (ps_expr (pe_meth (pv 0) X.T.cl X.T.mEX X.GEX (hr.mono (by omega)) X.bEX .nil (passes_call (takes_of rfl rfl rfl rfl) (fun _ _ _ _ h => h)) (pa_cons pe_str pa_nil))))))
 pss_nil)
 (pss_cons (ps_expr (pe_meth (pv 0) X.T.cl X.T.mEX X.GEX (hr.mono (by omega)) X.bEX .nil (passes_call (takes_of rfl rfl rfl rfl) (fun _ _ _ _ h => h)) (pa_cons pe_str pa_nil)))
 (pss_cons (ps_set (i := 4) scCC.nd rfl (.inl rfl) (pe_lst pa_nil))
 (pss_cons (ps_while (passes_of rfl) (pt_not (pt_val (pe_meth (pv 0) X.T.cl X.T.mTI X.GTI (hr.mono (by omega)) X.bTI .nil (passes_call (takes_of rfl rfl rfl rfl) (fun _ _ _ _ h => h)) (pa_cons pe_str pa_nil))))
 (pss_one (ps_expr (pe_bm PySem.F.plainAttrs_list PySem.F.slot_list_append PySem.F.type_list_append mt_append (pv 4) (pa_cons (pe_call GDA (hr.mono (by omega)) (by rfl) X.gDA X.kDA X.bDA .nil (passes_call (takes_of rfl rfl rfl rfl) (fun _ _ _ _ h => h)) (pa_cons (pv 0) pa_nil)) pa_nil)))))
 (pss_one (ps_ret (pe_make X.mClassBlock.M0 X.mClassBlock.G (hr.mono (by omega)) (by rfl) X.mClassBlock.g X.mClassBlock.b .nil pass0 (pa_cons (pv 1) (pa_cons (pe_fld (pv 0) rfl) (pa_cons (pv 2) (pa_cons (pv 3) (pa_cons (pv 4) pa_nil))))))))))))))), ?_⟩
    have eC : Str.ofString "class" = S [99, 108, 97, 115, 115] := by decide +kernel
    have eP : Str.ofString "(" = S [40] := by decide +kernel
    have eQ : Str.ofString ")" = S [41] := by decide +kernel
    have eD : Str.ofString "." = S [46] := by decide +kernel
    have eO : Str.ofString "{" = S [123] := by decide +kernel
    have eE : Str.ofString "}" = S [125] := by decide +kernel
    unfold classS at q
    obtain ⟨dx, _, _, hp, _⟩ := c.ob
    refine ⟨_, rfl, p, dx, _, rfl, hp, rfl, ts, n, p, s, _, by rw [eC]; rfl, c, q.bnd fun _ s1 v1 H1 k1 c1 r1 q1 => ?_⟩
    clear hp dx
    obtain ⟨dx, _, _, hp, _⟩ := c1.ob
    refine ⟨_, rfl, p, dx, _, rfl, hp, rfl, ts, n, p, s1, X.aE, [], rfl, .inr (X.sE0 _), c1, q1.bnd fun _ s2 v2 H2 k2 c2 r2 q2 => ?_⟩
    clear hp dx
    obtain ⟨dx, _, _, hp, _⟩ := c2.ob
    let tl : M Unit := (expect ts n [123]).bnd fun _ => classL ts n (par ts n d) (par2 ts n (par ts n d) e) (ts.length + 1)
    refine ⟨fun σ H' => ∃ s6 y3, σ = [some (.ref p), some v1, some v2, some y3, none] ∧ CuAt X.CU ts n H' p s6 ∧ Ps X.CU X.CS ts n p H' (tl s6) anyV Q E, ?_, ?_⟩
    · refine ⟨_, rfl, p, dx, _, rfl, hp, rfl, ts, n, p, s2, _, by rw [eP]; rfl, c2, q2.bnd fun b s3 v3 H3 k3 c3 r3 q3 => ?_⟩
      have r3' : v3 = .bl b := r3
      subst r3'
      clear hp dx
      obtain ⟨dx, _, _, hp, _⟩ := c3.ob
      cases b with
      | false =>
        rw [if_neg (by decide), M.retb] at q3
        exact ⟨_, rfl, iteF ⟨s3, .non, rfl, c3, q3⟩⟩
      | true =>
        rw [if_pos rfl, M.assoc] at q3
        refine ⟨_, rfl, iteT ?_⟩
        refine ⟨_, rfl, p, dx, _, rfl, hp, rfl, ts, n, p, s3, X.aE, [], rfl, .inr (X.sE0 _), c3, q3.bnd fun _ s4 v4 H4 k4 c4 r4 q4 => ?_⟩
        rw [M.assoc] at q4
        clear hp dx
        obtain ⟨dx, _, _, hp, _⟩ := c4.ob
        refine ⟨fun σ H' => ∃ s6 y3, σ = [some (.ref p), some v1, some v2, some y3, none] ∧ CuAt X.CU ts n H' p s6 ∧ Ps X.CU X.CS ts n p H' ((expect ts n [41]).bnd (fun _ => tl) s6) anyV Q E, ?_, ?_⟩
        · refine ⟨_, rfl, p, dx, _, rfl, hp, rfl, ts, n, p, s4, _, by rw [eD]; rfl, c4, q4.bnd fun b s5 v5 H5 k5 c5 r5 q5 => ?_⟩
          have r5' : v5 = .bl b := r5
          subst r5'
          have r4' := (r4.nd (X := X)).keep c4 k5
          clear hp dx
          obtain ⟨dx, _, _, hp, _⟩ := c5.ob
          rw [M.assoc] at q5
          cases b with
          | false =>
            rw [if_neg (by decide), M.retb, M.assoc] at q5
            exact ⟨_, rfl, iteF ⟨s5, v4, rfl, c5, q5⟩⟩
          | true =>
            rw [if_pos rfl, M.assoc] at q5
            refine ⟨_, rfl, iteT ?_⟩
            refine ⟨_, rfl, _, rfl, p, dx, _, rfl, hp, rfl, ts, n, p, s5, X.aE, [], rfl, .inr (X.sE0 _), c5, q5.bnd fun _ s6 v6 H6 k6 c6 r6 q6 => ?_⟩
            rw [M.retb, M.assoc] at q6
            have r4'' := r4'.keep c5 k6
            intro x dx2 nx ndx _
            refine mk_okR nx ndx (.cons r4''.nd (.cons (r6.nd (X := X)).nd .nil)) fun H' y1 y2 sm h => ⟨rfl, ?_⟩
            exact ⟨s6, _, rfl, c6.same sm, q6.keep (.same sm)⟩
        · rintro σ H6 ⟨s6, y3, rfl, c6, q6⟩
          clear hp dx
          obtain ⟨dx, _, _, hp, _⟩ := c6.ob
          exact ⟨_, rfl, p, dx, _, rfl, hp, rfl, ts, n, p, s6, _, by rw [eQ]; rfl, c6, q6.bnd fun _ s7 v7 H7 k7 c7 r7 q7 => ⟨s7, y3, rfl, c7, q7⟩⟩
    · rintro σ H6 ⟨s6, y3, rfl, c6, q6⟩
      clear hp dx
      obtain ⟨dx, _, _, hp, _⟩ := c6.ob
      refine ⟨_, rfl, p, dx, _, rfl, hp, rfl, ts, n, p, s6, _, by rw [eO]; rfl, c6, q6.bnd fun _ s3 v3 H3 k3 c3 r3 q3 => ?_⟩
      refine ⟨(by show 0 ≤ sizeLine; decide), fun l hl => ?_⟩
      have sl := same_new (o := .lst []) hl
      have c3' := c3.same sl
      have h3p := c3.some
      have lp : l ≠ p := fun e => h3p (by rw [← e]; exact hl)
      refine ⟨fun mm σ H' => ∃ s6 xs, σ = [some (.ref p), some v1, some v2, some y3, some (.ref l)] ∧ H' l = some (.lst xs) ∧ xs.length + mm ≤ 5002 ∧ Kc p H3 H' ∧ CuAt X.CU ts n H' p s6 ∧ Ps X.CU X.CS ts n p H3 (classL ts n (par ts n d) (par2 ts n (par ts n d) e) mm s6) anyV Q E,
        ⟨_, s3, [], rfl, upd_same, (by have := c3.lt; show 0 + (ts.length + 1) ≤ 5002; omega), .same sl, c3', q3⟩, ?_⟩
      rintro mm σ H7 ⟨s7, xs, rfl, h7, hxs, k7, c7, q7⟩
      clear hp dx
      obtain ⟨dx, _, _, hp, _⟩ := c7.ob
      cases mm with
      | zero => exact absurd q7 id
      | succ mm =>
        unfold classL at q7
        refine ⟨_, rfl, p, dx, _, rfl, hp, rfl, ts, n, p, s7, _, by rw [eE]; rfl, c7, q7.bnd0 k7 fun b s8 v8 H8 k8 c8 r8 q8 => ?_⟩
        have r8' : v8 = .bl b := r8
        subst r8'
        refine ⟨_, rfl, ?_⟩
        have h8 : H8 l = some (.lst xs) := k8.1 _ _ lp h7
        cases b with
        | false =>
          rw [if_neg (by decide)] at q8
          refine iteT' rfl ?_
          refine ⟨fun σ H' => ∃ s6 xs, σ = [some (.ref p), some v1, some v2, some y3, some (.ref l)] ∧ H' l = some (.lst xs) ∧ xs.length + mm ≤ 5002 ∧ Kc p H3 H' ∧ CuAt X.CU ts n H' p s6 ∧ Ps X.CU X.CS ts n p H3 (classL ts n (par ts n d) (par2 ts n (par ts n d) e) mm s6) anyV Q E, fun σ' H' z => ⟨mm, Nat.lt_succ_self _, z⟩, ?_⟩
          refine ⟨_, rfl, .inl ⟨rfl, _, .inl (.inl h8)⟩, _, rfl, ts, n, p, s8, rfl, c8, q8.bnd0 (k7.trans k8) fun _ s9 v9 H9 k9 c9 r9 q9 => ?_⟩
          have h9 : H9 l = some (.lst xs) := k9.1 _ _ lp h8
          have k39 := (k7.trans k8).trans k9
          refine ⟨l, xs, v9, rfl, rfl, h9, Nat.lt_of_le_of_lt (show xs.length ≤ 5002 by omega) (by decide), ?_⟩
          exact ⟨s9, _, rfl, upd_same, (by rw [List.length_append]; show xs.length + 1 + mm ≤ 5002; omega), k39.updL hl h3p, c3.updL hl k39 c9, q9⟩
        | true =>
          rw [if_pos rfl] at q8
          refine iteF' rfl ?_
          clear hp dx
          obtain ⟨dx, _, _, hp, _⟩ := c8.ob
          refine ⟨_, rfl, _, rfl, p, X.CU, dx, _, _, rfl, hp, X.T.cl, X.T.nE, rfl, _, rfl, _, rfl, _, rfl, ?_⟩
          intro x dx2 nx ndx _
          refine mk_okR nx ndx (.cons trivial (.cons trivial (.cons trivial (.cons trivial (.cons trivial .nil))))) fun H' y1 y2 sm h => ⟨rfl, ?_⟩
          exact q8 _ H' ((k7.trans k8).trans (.same sm)) (c8.same sm) trivial
end
end KB
namespace KB
/-- no token is longer than its text, and there are no more of them than signs -/
theorem scan_len : ∀ (n : Nat) (l : List Nat) (a : Nat) (ts : List Tk), scan n l a = .ok ts → ts.length ≤ n ∧ ∀ t ∈ ts, t.text.length ≤ l.length
  | 0, _, _, ts, h => by
    have e : ts = [] := (Except.ok.inj h).symm
    subst e
    exact ⟨Nat.le_refl _, fun t h => absurd h List.not_mem_nil⟩
  | n + 1, [], _, ts, h => by
    have e : ts = [] := (Except.ok.inj h).symm
    subst e
    exact ⟨Nat.zero_le _, fun t h => absurd h List.not_mem_nil⟩
  | n + 1, c :: r, a, ts, h => by
    rw [scan] at h
    split at h
    · obtain ⟨h1, h2⟩ := scan_len n r _ ts h
      exact ⟨Nat.le_succ_of_le h1, fun t ht => Nat.le_succ_of_le (h2 t ht)⟩
    · split at h
      · obtain ⟨h1, h2⟩ := scan_len n _ _ ts h
        refine ⟨Nat.le_succ_of_le h1, fun t ht => Nat.le_trans (h2 t ht) ?_⟩
        rw [List.length_drop]
        omega
      · split at h
        · cases h
        · rename_i k m hk
          cases hs : scan n ((c :: r).drop m) (a + m) with
          | error e =>
            rw [hs] at h
            cases h
          | ok l2 =>
            rw [hs] at h
            have e : ts = ⟨k, (c :: r).take m, a⟩ :: l2 := (Except.ok.inj h).symm
            subst e
            obtain ⟨h1, h2⟩ := scan_len n _ _ l2 hs
            refine ⟨Nat.succ_le_succ h1, fun t ht => ?_⟩
            rcases List.mem_cons.mp ht with rfl | ht
            · rw [List.length_take]
              exact Nat.min_le_right _ _
            · refine Nat.le_trans (h2 t ht) ?_
              rw [List.length_drop]
              omega
theorem sc_len {l : List Nat} {ts : List Tk} (h : sc l 0 = .ok ts) : ts.length ≤ l.length ∧ ∀ t ∈ ts, t.text.length ≤ l.length := scan_len _ _ _ _ h
end KB
namespace KB
open PySem PySem.Spec PyProof.Rows L2
section
variable {P : Program} {w : World} {K : PySem.W.Frag} {mg : Str → Option Value} {base : Heap} {CB fB aS aW fIN fTK fLE fTO fTE fRE fRK fNU : Addr}
abbrev sCI : Stmt := sCu 0
/-- Cursor(text): at the first token, or BadText -/
def spCI (CU CB : Addr) : Sp := fun vs H Q E => ∃ (p dx : Addr) (x : List Nat), vs = [.ref p, .str (S x)] ∧ x.length ≤ 5000 ∧ H p = some (.ins CU dx []) ∧
  (∀ ts, sc x 0 = .ok ts → ∀ H', KeepBut p H H' → CuAt CU ts x.length H' p ⟨0, 0, none, 0⟩ → Q .non H') ∧ (∀ e, sc x 0 = .error e → ∀ d H', KeepBut p H H' → H' d = some (.xd [("at", .int (e : Nat))]) → E (.ref CB) (some d) H')
theorem scCI : FnScope ["self", "text"] ["self", "text"] (defScope sCI) := ⟨rfl, rfl, rfl, by decide +kernel, rfl, by decide +kernel, by decide +kernel⟩
theorem ok_CI {CU CS fS aO aC fNT fNK fNS fRF fTA fIB fEX fTI fTN fBE fEE fBI fEI fCI : Addr} {fd fdTK : FuncData} (F : Fun K "__init__" "Cursor.__init__" sCI fCI fd) (T : CuT K mg CU CS fS aO aC fNT fNK fNS fRF fTA fIB fEX fTI fTN fBE fEE fBI fEI)
    (TT : TK K mg CB fB aS aW fIN fTK fLE fTO fTE fRE fRK fNU) (GTK : FnOk P w K mg base (L2.CX P w) 5 fTK fdTK ["text"] (spTK K CB)) (bTK : Binds K fdTK ["text"] []) : FnOk P w K mg base (L2.CX P w) 6 fCI fd ["self", "text"] (spCI CU CB) := by
  refine F.okX scCI (fun vs H Q E h => ?_) (fun cdv A outer s H vs Q E hr h => ?_)
  · obtain ⟨p, dx, x, rfl, _⟩ := h
    rfl
  · obtain ⟨p, dx, x, rfl, hx, hp, q1, q2⟩ := h
    refine ⟨_,
(pss_cons (ps_fld (pv 0) pe_int rfl)
 (pss_cons (ps_fld (pv 0) (pe_call GTK (hr.mono (by omega)) (by rfl) TT.gTK TT.kTK bTK .nil (passes_call (takes_of rfl rfl rfl rfl) (fun _ _ _ _ h => h)) (pa_cons (pv 1) pa_nil)) rfl)
 (pss_cons (ps_fld (pv 0) (pe_callB call_len_str (by rfl) T.len (by decide +kernel) (pa_cons (pv 1) pa_nil)) rfl)
 (pss_cons (ps_fld (pv 0) pe_int rfl)
 (pss_cons (ps_fld (pv 0) pe_int rfl)
 (pss_one (ps_fld (pv 0) pe_non rfl))))))), ?_⟩
    refine ⟨_, rfl, p, CU, dx, _, rfl, hp, T.cl, T.nE, (by show 0 < 1000; decide), ?_⟩
    have k1 : KeepBut p H (upd H p (.ins CU dx (putF "end" (.int 0) []))) := .upd
    refine ⟨_, rfl, .str (S x), rfl, .inl ⟨x, rfl, hx, fun ts hts H2 l qs sm nl hl pq => ?_, fun e he d H' sm nd hd => q2 e he d H' (k1.trans (.same sm)) hd⟩⟩
    have h2 : H2 p = some (.ins CU dx (putF "end" (.int 0) [])) := sm _ _ upd_same
    obtain ⟨b1, b2⟩ := sc_len hts
    refine ⟨_, rfl, p, CU, dx, _, rfl, h2, T.cl, T.nT, (by show 1 < 1000; decide), _, rfl, S x, rfl, (by rw [S_len]; exact small (by omega)), _, rfl, p, CU, dx, _, rfl, upd_same, T.cl, T.nL, (by show 2 < 1000; decide),
      _, rfl, p, CU, dx, _, rfl, upd_same, T.cl, T.nA, (by show 3 < 1000; decide), _, rfl, p, CU, dx, _, rfl, upd_same, T.cl, T.nO, (by show 4 < 1000; decide), _, rfl, p, CU, dx, _, rfl, upd_same, T.cl, T.nF, (by show 5 < 1000; decide), ?_⟩
    have el : ((S x).length : Nat) = x.length := S_len _
    rw [el]
    have kk : ∀ o1 o2 o3 o4 o5, KeepBut p H2 (upd (upd (upd (upd (upd H2 p o1) p o2) p o3) p o4) p o5) := fun _ _ _ _ _ => (((KeepBut.upd.trans .upd).trans .upd).trans .upd).trans .upd
    refine q1 ts hts _ ((k1.trans (.same sm)).trans (kk _ _ _ _ _)) ⟨⟨dx, l, qs, upd_same, kk _ _ _ _ _ l _ (fun e => ?_) hl, paired_imp pq fun b t z => kk _ _ _ _ _ b _ (fun e => ?_) z⟩, by omega, fun t ht => Nat.le_trans (b2 t ht) hx⟩
    · rw [e, h2] at hl
      cases hl
    · have z' : H2 b = _ := z
      rw [e, h2] at z'
      cases z'
end
end KB
namespace KB
open PySem PySem.Spec PyProof.Rows L2
section
variable {P : Program} {w : World} {K : PySem.W.Frag} {mg : Str → Option Value} {base : Heap}
/-- what the reading of a whole text does -/
def spMO (X : XT P w K mg base) (CB : Addr) (d e : Nat) : Sp := fun vs H Q E => ∃ x : List Nat, vs = [.str (S x)] ∧ x.length ≤ 5000 ∧
  (∀ er, sc x 0 = .error er → ∀ dd H', Same H H' → H' dd = some (.xd [("at", .int (er : Nat))]) → E (.ref CB) (some dd) H') ∧
  ∀ ts, sc x 0 = .ok ts → match topL ts x.length (par ts x.length d) (par2 ts x.length (par ts x.length d) e) (ts.length + 1) ⟨0, 0, none, 0⟩ with
    | none => False
    | some (.error er) => ∀ dd H', Same H H' → H' dd = some (.xd [("at", .int (er : Nat))]) → E (.ref X.CS) (some dd) H'
    | some (.ok _) => ∀ v H', Same H H' → Q v H'
theorem scMO : FnScope ["text", "cursor", "found"] ["text"] (defScope sMO) := ⟨rfl, rfl, rfl, by decide +kernel, rfl, by decide +kernel, by decide +kernel⟩
theorem ok_MO (X : XT P w K mg base) {CB fCI : Addr} {fdCU : FuncData} {d e : Nat} (MCU : Mk K X.CU fCI) (gCU : mg "Cursor" = some (.ref X.CU)) (GCU : FnOk P w K mg base (L2.CX P w) 6 fCI fdCU ["self", "text"] (spCI X.CU CB)) (bCU : Binds K fdCU ["self", "text"] [])
    (GTO1 : FnOk P w K mg base (L2.CX P w) (15 + 7 * d + 3 * e) X.fTO1 X.fdTO1 ["cursor"] (spM X d e topS1)) :
    FnOk P w K mg base (L2.CX P w) (16 + 7 * d + 3 * e) X.fMO X.fdMO ["text"] (spMO X CB d e) := by
  rw [show 16 + 7 * d + 3 * e = (15 + 7 * d + 3 * e) + 1 by omega]
  refine X.FMO.okX scMO (fun vs H Q E h => ?_) (fun cdv A outer s H vs Q E hr h => ?_)
  · obtain ⟨x, rfl, _⟩ := h
    rfl
  · obtain ⟨x, rfl, hx, qE, qT⟩ := h
    refine ⟨_,
(pss_cons (ps_set (i := 1) scMO.nd rfl (.inl rfl) (pe_make MCU GCU (hr.mono (by omega)) (by rfl) gCU bCU .nil (passes_call (takes_of rfl rfl rfl rfl) (fun _ _ _ _ h => h)) (pa_cons (pv 0) pa_nil)))
 (pss_cons (ps_set (i := 2) scMO.nd rfl (.inl rfl) (pe_lst pa_nil))
 (pss_cons (ps_while (passes_of rfl) (pt_cmpR op_ne (pe_meth0 (pv 1) X.T.cl X.T.mNT X.GNT (hr.mono (by omega)) X.bNT0 X.dNT0 pass0) pe_str (nomark _))
 (pss_one (ps_expr (pe_bm PySem.F.plainAttrs_list PySem.F.slot_list_append PySem.F.type_list_append mt_append (pv 2) (pa_cons (pe_call GTO1 (hr.mono (by omega)) (by rfl) X.gTO1 X.kTO1 X.bTO1 .nil (passes_call (takes_of rfl rfl rfl rfl) (fun _ _ _ _ h => h)) (pa_cons (pv 1) pa_nil)) pa_nil)))))
 (pss_one (ps_ret (pv 2)))))), ?_⟩
    refine ⟨_, rfl, ?_⟩
    intro p dx np ndx _
    have back : ∀ H', KeepBut p (upd (upd H dx (.own p)) p (.ins X.CU dx [])) H' → Same H H' := fun H' k => made np ndx k
    refine ⟨p, dx, x, rfl, hx, upd_same, fun ts hts H2 k2 c2 => ⟨rfl, ?_⟩, fun er her dd H' k' hd => qE er her dd H' (back H' k') hd⟩
    have q0 : Ps X.CU X.CS ts x.length p H2 (topL ts x.length (par ts x.length d) (par2 ts x.length (par ts x.length d) e) (ts.length + 1) ⟨0, 0, none, 0⟩) anyV (fun v H' => Q v H') E := by
      have z := qT ts hts
      unfold Ps
      cases ht : topL ts x.length (par ts x.length d) (par2 ts x.length (par ts x.length d) e) (ts.length + 1) ⟨0, 0, none, 0⟩ with
      | none => rw [ht] at z; exact z
      | some r =>
        rw [ht] at z
        cases r with
        | error er => exact fun dd H' k hd => z dd H' (back H' (k2.trans k.1)) hd
        | ok a => exact fun v H' k _ _ => z v H' (back H' (k2.trans k.1))
    refine ⟨(by show 0 ≤ sizeLine; decide), fun l hl => ?_⟩
    have sl := same_new (o := .lst []) hl
    have c3' := c2.same sl
    have h3p := c2.some
    have lp : l ≠ p := fun e => h3p (by rw [← e]; exact hl)
    refine ⟨fun mm σ H' => ∃ s6 xs, σ = [some (.str (S x)), some (.ref p), some (.ref l)] ∧ H' l = some (.lst xs) ∧ xs.length + mm ≤ 5002 ∧ Kc p H2 H' ∧ CuAt X.CU ts x.length H' p s6 ∧ Ps X.CU X.CS ts x.length p H2 (topL ts x.length (par ts x.length d) (par2 ts x.length (par ts x.length d) e) mm s6) anyV Q E,
      ⟨_, _, [], rfl, upd_same, (by have := c2.lt; show 0 + (ts.length + 1) ≤ 5002; omega), .same sl, c3', q0⟩, ?_⟩
    rintro mm σ H6 ⟨s6, xs, rfl, h6, hxs, k6, c6, q6⟩
    obtain ⟨dx6, _, _, hp, _⟩ := c6.ob
    refine ⟨_, rfl, p, dx6, _, rfl, hp, rfl, ts, x.length, p, s6, 0, rfl, c6, rfl, _, rfl, ?_⟩
    have e0 : Str.ofString "" = S [] := by decide +kernel
    rw [e0, S_eq]
    cases mm with
    | zero => exact absurd q6 id
    | succ mm =>
      by_cases h1 : tx ts 0 s6 = []
      · refine iteF' (by rw [decide_eq_true h1]; rfl) ?_
        exact ⟨_, rfl, (q6.eq (if_pos h1)) _ _ k6 c6 trivial⟩
      · refine iteT' (by rw [decide_eq_false h1]; rfl) ?_
        have q7 : Ps X.CU X.CS ts x.length p H2 (((topS1 ts x.length (par ts x.length d) (par2 ts x.length (par ts x.length d) e)).bnd fun _ => topL ts x.length (par ts x.length d) (par2 ts x.length (par ts x.length d) e) mm) s6) anyV Q E := q6.eq (if_neg h1)
        refine ⟨fun σ H' => ∃ s6 xs, σ = [some (.str (S x)), some (.ref p), some (.ref l)] ∧ H' l = some (.lst xs) ∧ xs.length + mm ≤ 5002 ∧ Kc p H2 H' ∧ CuAt X.CU ts x.length H' p s6 ∧ Ps X.CU X.CS ts x.length p H2 (topL ts x.length (par ts x.length d) (par2 ts x.length (par ts x.length d) e) mm s6) anyV Q E, fun σ' H' z => ⟨mm, Nat.lt_succ_self _, z⟩, ?_⟩
        refine ⟨_, rfl, .inl ⟨rfl, _, .inl (.inl h6)⟩, _, rfl, ts, x.length, p, s6, rfl, c6, q7.bnd0 k6 fun _ s9 v9 H9 k9 c9 r9 q9 => ?_⟩
        have h9 : H9 l = some (.lst xs) := k9.1 _ _ lp h6
        have k39 := k6.trans k9
        refine ⟨l, xs, v9, rfl, rfl, h9, Nat.lt_of_le_of_lt (show xs.length ≤ 5002 by omega) (by decide), ?_⟩
        exact ⟨s9, _, rfl, upd_same, (by rw [List.length_append]; show xs.length + 1 + mm ≤ 5002; omega), k39.updL hl h3p, c2.updL hl k39 c9, q9⟩
/-- check_syntax: None, or the error -/
def spCS1 (X : XT P w K mg base) (CB : Addr) (d e : Nat) : Sp := fun vs H Q E => spMO X CB d e vs H (fun _ H' => Q .non H') E
theorem scCS1 : FnScope ["text"] ["text"] (defScope sCS1) := ⟨rfl, rfl, rfl, by decide +kernel, rfl, by decide +kernel, by decide +kernel⟩
theorem ok_CS1 (X : XT P w K mg base) {CB : Addr} {d e : Nat} (GMO : FnOk P w K mg base (L2.CX P w) (16 + 7 * d + 3 * e) X.fMO X.fdMO ["text"] (spMO X CB d e)) :
    FnOk P w K mg base (L2.CX P w) (17 + 7 * d + 3 * e) X.fCS1 X.fdCS1 ["text"] (spCS1 X CB d e) := by
  rw [show 17 + 7 * d + 3 * e = (16 + 7 * d + 3 * e) + 1 by omega]
  refine X.FCS1.okX scCS1 (fun vs H Q E h => ?_) (fun cdv A outer s H vs Q E hr h => ?_)
  · obtain ⟨x, rfl, _⟩ := h
    rfl
  · have h0 := h
    obtain ⟨x, rfl, _⟩ := h
    exact ⟨_,
(pss_one (ps_expr (pe_call GMO (hr.mono (by omega)) (by rfl) X.gMO X.kMO X.bMO .nil (passes_call (takes_of rfl rfl rfl rfl) (fun _ _ _ _ h => h)) (pa_cons (pv 0) pa_nil)))), _, rfl, h0⟩
end
end KB
namespace KB
open PySem PySem.Spec PyProof.Rows L2
abbrev sAt : Stmt := topS 105
section
variable {P : Program} {w : World} {K : PySem.W.Frag} {mg : Str → Option Value} {base : Heap}
theorem scAt : FnScope ["_law_text", "e"] ["_law_text"] (defScope sAt) := ⟨rfl, rfl, rfl, by decide +kernel, rfl, by decide +kernel, by decide +kernel⟩
/-- repr of a number or of a truth -/
def rRep : List V → Hp → VK → Prop := fun xs H Q => ∃ v r, xs = [v] ∧ ((∃ i : Int, v = .int i ∧ i.natAbs.log2 < 1920 ∧ r = toString i) ∨ ∃ b : Bool, v = .bl b ∧ r = if b then "True" else "False") ∧ Q (.str r) H
theorem call_rep {X : Cx} : CallR X (.builtin "repr") rRep := by
  intro pins s σ H xs us Q I r want
  obtain ⟨v, t, rfl, want, q⟩ := want
  obtain ⟨u, rfl, ru⟩ := vals1 r
  rcases want with ⟨i, rfl, small, rfl⟩ | ⟨b, rfl, rfl⟩
  · obtain ⟨k, rfl⟩ : ∃ k, u = Value.int i k := ru
    exact PySem.P.repr_of_int small ⟨.str _, H, I.tok _, ⟨_, rfl⟩, q⟩
  · obtain rfl : u = Value.bool b := ru
    exact PySem.P.repr_of_bool ⟨.str _, H, I.tok _, ⟨_, rfl⟩, by cases b <;> exact q⟩
/-- what _law_at tells of a text that is refused -/
def toldV (b : Bool) (n : Nat) : List V := [.str (if b = true then "text" else "syntax"), .str (toString (n : Int))]
def spAt : Sp := fun vs H Q _ => ∃ (x : List Nat) (b : Bool) (n : Nat), vs = [.str (S x)] ∧ x.length ≤ 5000 ∧ n ≤ 6000 ∧ check 12 x = some (some (b, n)) ∧ ∀ (H' : Hp) (p : Addr), Same H H' → H' p = some (.lst (toldV b n)) → Q (.ref p) H'
theorem check_text {d : Nat} {x : List Nat} {n : Nat} {b : Bool} {e : Nat} (h : check d x = some (some (b, n))) (z : sc x 0 = .error e) : b = true ∧ n = e := by
  unfold check at h
  rw [z] at h
  cases h
  exact ⟨rfl, rfl⟩
theorem ok_At (X : XT P w K mg base) {CB fB fAt aS aW fIN fTK fLE fTO fTE fRE fRK fNU : Addr} {fd : FuncData} (F : Fun K "_law_at" "_law_at" sAt fAt fd) (T : TK K mg CB fB aS aW fIN fTK fLE fTO fTE fRE fRK fNU) (repr : mg "repr" = none)
    (apart : PySem.W.exmOne K (.ref X.CS) (.ref CB) = some false) (G : FnOk P w K mg base (L2.CX P w) 137 X.fCS1 X.fdCS1 ["text"] (spCS1 X CB 12 12)) : FnOk P w K mg base CX0 138 fAt fd ["_law_text"] spAt := by
  refine F.ok scAt (fun vs H Q E h => ?_) (fun cdv A outer s H vs Q E hr h => ?_)
  · obtain ⟨x, _, _, rfl, _⟩ := h
    rfl
  · obtain ⟨x, b, n, rfl, hx, hn, hc, q⟩ := h
    refine ⟨_,
(pss_cons (ps_clauses (tb := fun W => tDrop (tCallS (spCS1 X CB 12 12) (WE W) (tCons (tVar 0) tNil))) (Wout := fun _ _ _ _ => False) rfl rfl scAt.nd takes0 (fun W pn xe tk _ => pss_one (ps_expr (by exact (pe_callS G hr rfl X.gCS1 X.kCS1 X.bCS1 (fun σ => passAt tk σ) (by exact (pa_cons (pv 0) pa_nil))))))
   (ClsOk.as (i := 1) (c := .ref CB) (ts := fun a cls d => tRet (tLst (tCons (tC (.str "text")) (tCons (tCB rRep (tCons (tXf a cls d CB "at" (tVar 1)) tNil)) tNil)))) ⟨rfl, by decide, .inl T.err.g⟩ rfl rfl (fun a oe cls d pn hz hf => pss_one (ps_ret (pe_lst (pa_cons pe_str (pa_cons (pe_callB call_rep (by rfl) repr (by decide +kernel) (pa_cons (pe_xf T.err.X (T.err.no _ (by simp)) hz hf (pv 1)) pa_nil)) pa_nil)))))
   (ClsOk.as (i := 1) (c := .ref X.CS) (ts := fun a cls d => tRet (tLst (tCons (tC (.str "syntax")) (tCons (tCB rRep (tCons (tXf a cls d X.CS "at" (tVar 1)) tNil)) tNil)))) ⟨rfl, by decide, .inl X.T.err.g⟩ rfl rfl (fun a oe cls d pn hz hf => pss_one (ps_ret (pe_lst (pa_cons pe_str (pa_cons (pe_callB call_rep (by rfl) repr (by decide +kernel) (pa_cons (pe_xf X.T.err.X (X.T.err.no _ (by simp)) hz hf (pv 1)) pa_nil)) pa_nil)))))
   .nil)))
 (pss_one (ps_ret pe_non))), ?_⟩
    have small : ((n : Nat) : Int).natAbs.log2 < 1920 := by
      have z : ((n : Nat) : Int).natAbs < 2 ^ 13 := by omega
      exact Nat.lt_of_lt_of_le (PySem.Flt.log2_lt_of (by decide) z) (by decide)
    refine ⟨_, rfl, x, rfl, hx, fun er he dd H' sm hd => ?_, fun ts hts => ?_⟩
    · obtain ⟨rfl, rfl⟩ := check_text hc he
      refine ⟨true, T.err.te, fun _ a0 _ => ?_, fun z => Bool.noConfusion z⟩
      refine ⟨_, rfl, rfl, rfl, dd, _, _, rfl, hd, rfl, _, _, rfl, .inl ⟨_, rfl, small, rfl⟩, (by show 2 ≤ sizeLine; decide), fun p np => q _ p (sm.trans (same_new np)) upd_same⟩
    · unfold check at hc
      rw [hts] at hc
      simp only at hc
      cases ht : topL ts x.length (par ts x.length 12) (par2 ts x.length (par ts x.length 12) 12) (ts.length + 1) ⟨0, 0, none, 0⟩ with
      | none => rw [ht] at hc; cases hc
      | some r =>
        rw [ht] at hc
        cases r with
        | ok u => cases hc
        | error er =>
          cases hc
          intro dd H' sm hd
          refine ⟨false, apart, fun z => Bool.noConfusion z, fun _ => ⟨true, X.T.err.te, fun _ a0 _ => ?_, fun z => Bool.noConfusion z⟩⟩
          refine ⟨_, rfl, rfl, rfl, dd, _, _, rfl, hd, rfl, _, _, rfl, .inl ⟨_, rfl, small, rfl⟩, (by show 2 ≤ sizeLine; decide), fun p np => q _ p (sm.trans (same_new np)) upd_same⟩
end
end KB
namespace KB
open PySem PySem.Spec PyProof.Rows L2
abbrev sTails : Stmt := topS 106
abbrev sBodies : Stmt := topS 107
/-- a pair of a text and a place -/
def RowS (H : Hp) (q : Addr) (r : Str × Int) : Prop := H q = some (.tup [.str r.1, .int r.2])
def tRow (r : Str × Int) : TE := tTup (tCons (tC (.str r.1)) (tCons (tC (.int r.2)) tNil))
def tRows : List (Str × Int) → TA
  | [] => tNil
  | r :: l => tCons (tRow r) (tRows l)
theorem RowS.same {H H' : Hp} {q : Addr} {r : Str × Int} (h : RowS H q r) (s : Same H H') : RowS H' q r := s _ _ h
theorem rows_ok : ∀ (l : List (Str × Int)) {σ : L2.St} {H : Hp} {Q : List V → Hp → Prop}, (∀ H' qs, Same H H' → Paired (RowS H') qs l → Q (qs.map V.ref) H') → tRows l σ H Q
  | [], σ, H, Q, k => k H [] (Same.refl H) .nil
  | r :: l, σ, H, Q, k => ⟨by show 2 ≤ sizeLine; decide, fun t ht => rows_ok l fun H' qs sm pq => k H' (t :: qs) ((same_new ht).trans sm) (.cons (sm _ _ upd_same) pq)⟩
theorem paired_len {α β : Type} {R : α → β → Prop} {xs : List α} {ys : List β} (h : Paired R xs ys) : xs.length = ys.length := by
  induction h with
  | nil => rfl
  | cons _ _ ih => simp [ih]
theorem paired_app {α β : Type} {R : α → β → Prop} {xs xs' : List α} {ys ys' : List β} (h : Paired R xs ys) (h' : Paired R xs' ys') : Paired R (xs ++ xs') (ys ++ ys') := by
  induction h with
  | nil => exact h'
  | cons h1 _ ih => exact .cons h1 ih
/-- a list of pairs at p -/
def RowsAt (H : Hp) (p : Addr) (l : List (Str × Int)) : Prop := ∃ qs : List Addr, H p = some (.lst (qs.map V.ref)) ∧ Paired (RowS H) qs l
theorem RowsAt.same {H H' : Hp} {p : Addr} {l : List (Str × Int)} (h : RowsAt H p l) (s : Same H H') : RowsAt H' p l := by
  obtain ⟨qs, e, pq⟩ := h
  exact ⟨qs, s _ _ e, paired_imp pq fun _ _ z => z.same s⟩
theorem begin_rows (l : List (Str × Int)) {σ : L2.St} {H : Hp} {Q : VK} (hl : l.length ≤ 1000) (k : ∀ H' p, Same H H' → RowsAt H' p l → Q (.ref p) H') : tLst (tRows l) σ H Q :=
  rows_ok l fun H1 qs sm pq => ⟨by rw [List.length_map, paired_len pq]; exact Nat.le_trans hl (by decide), fun p np => k _ p (sm.trans (same_new np)) ⟨qs, upd_same, paired_imp pq fun _ _ z => z.same (same_new np)⟩⟩
theorem grow_rows {l : List (Str × Int)} (l' : List (Str × Int)) {σ : L2.St} {H : Hp} {Q : VK} {p : Addr} (hσ : σ[0]? = some (some (.ref p))) (hp : RowsAt H p l) (h1 : l.length ≤ 1000) (h2 : l'.length ≤ 1000)
    (k : ∀ H' p', Same H H' → RowsAt H' p' (l ++ l') → Q (.ref p') H') : tOp rCat (tVar 0) (tLst (tRows l')) σ H Q := by
  refine ⟨_, hσ, begin_rows l' h2 fun H1 b s1 hb => ?_⟩
  obtain ⟨qs, e, pq⟩ := hp.same s1
  obtain ⟨rs, e', pr⟩ := hb
  refine ⟨p, b, _, _, rfl, rfl, e, e', ?_, fun c nc => k _ c (s1.trans (same_new nc)) ⟨qs ++ rs, by rw [upd_same, List.map_append], paired_imp (paired_app pq pr) fun _ _ z => z.same (same_new nc)⟩⟩
  rw [List.length_map, List.length_map, paired_len pq, paired_len pr]
  exact Nat.le_trans (Nat.add_le_add h1 h2) (by decide)
theorem seq_begin (l : List (Str × Int)) {rest : TS} {D : Ends} {σ : L2.St} {H : Hp} (hl : l.length ≤ 1000) (k : ∀ H' p, Same H H' → RowsAt H' p l → rest D (σ.set 0 (some (.ref p))) H') : tSeq (tAsg (tLst (tRows l)) (gName 0)) rest D σ H :=
  show tLst (tRows l) σ H (fun v H1 => rest D (σ.set 0 (some v)) H1) from begin_rows l hl k
theorem seq_grow {l : List (Str × Int)} (l' : List (Str × Int)) {rest : TS} {D : Ends} {σ : L2.St} {H : Hp} {p : Addr} (hσ : σ[0]? = some (some (.ref p))) (hp : RowsAt H p l) (h1 : l.length ≤ 1000) (h2 : l'.length ≤ 1000)
    (k : ∀ H' p', Same H H' → RowsAt H' p' (l ++ l') → rest D (σ.set 0 (some (.ref p'))) H') : tSeq (tAsg (tOp rCat (tVar 0) (tLst (tRows l'))) (gName 0)) rest D σ H :=
  show tOp rCat (tVar 0) (tLst (tRows l')) σ H (fun v H1 => rest D (σ.set 0 (some v)) H1) from grow_rows l' hσ hp h1 h2 k
theorem ret_grow {l : List (Str × Int)} (l' : List (Str × Int)) {D : Ends} {σ : L2.St} {H : Hp} {p : Addr} (hσ : σ[0]? = some (some (.ref p))) (hp : RowsAt H p l) (h1 : l.length ≤ 1000) (h2 : l'.length ≤ 1000)
    (k : ∀ H' p', Same H H' → RowsAt H' p' (l ++ l') → D.rt (.ref p') H') : tRet (tOp rCat (tVar 0) (tLst (tRows l'))) D σ H :=
  grow_rows l' hσ hp h1 h2 k
def spRows (l : List (Str × Int)) : Sp := fun vs H Q _ => vs = [] ∧ ∀ H' p, Same H H' → RowsAt H' p l → Q (.ref p) H'
section
variable {P : Program} {w : World} {K : PySem.W.Frag} {mg : Str → Option Value} {base : Heap}
def rowsTails0 : List (Str × Int) := [("import ;", 7), ("import a b;", 9), ("import a as if;", 12), ("import a.b;", 8), ("import a, b;", 8)]
def rowsTails1 : List (Str × Int) := [("from a import;", 13), ("from a import b as c, *;", 22), ("from a import *, b;", 15), ("from a b;", 7)]
def rowsTails2 : List (Str × Int) := [("a == 1;", 2), ("a, b = 1;", 1), ("a.b = 1;", 1), ("a = f(1);", 5), ("a = [f(b) for b in c];", 6)]
def rowsTails3 : List (Str × Int) := [("5 = a;", 0), ("if a { }", 0), ("return 1;", 0), ("global a;", 0), ("pass;", 0), ("a;", 1), ("a = ;", 4)]
def rowsTails4 : List (Str × Int) := [("a = 1", 5), ("def f(a, a) { }", 9), ("def f(a = 1, b) { }", 14), ("def f(a = g()) { }", 11)]
def rowsTails5 : List (Str × Int) := [("def f(a = fn b: b) { }", 10), ("def f(a,) { }", 8), ("def f { }", 6), ("def f() a;", 8)]
def rowsTails6 : List (Str × Int) := [("def f() {", 9), ("def f() { break; }", 10), ("class c { pass; }", 10), ("class c(a.b.c) { }", 11)]
def rowsTails7 : List (Str × Int) := [("class c() { }", 8), ("class c { class d { } }", 10), ("class c { a, b = 1; }", 11)]
def rowsTails8 : List (Str × Int) := [("class c { a = f(); }", 15), ("class c(f()) { }", 9), ("def f() { import a; }", 10)]
def rowsTails9 : List (Str × Int) := [("def f() { class c { } }", 10)]
def rowsTails : List (Str × Int) := rowsTails0 ++ rowsTails1 ++ rowsTails2 ++ rowsTails3 ++ rowsTails4 ++ rowsTails5 ++ rowsTails6 ++ rowsTails7 ++ rowsTails8 ++ rowsTails9
theorem rowsTails_eq : rowsTails = tailsL.map fun r => (S r.1, (r.2 : Int)) := by decide +kernel
theorem scTails : FnScope ["_law_found"] [] (defScope sTails) := ⟨rfl, rfl, rfl, by decide +kernel, rfl, by decide +kernel, by decide +kernel⟩
theorem ok_Tails {f : Addr} {fd : FuncData} {k : Nat} (F : Fun K "_law_tails" "_law_tails" sTails f fd) : FnOk P w K mg base CX0 (k + 1) f fd [] (spRows rowsTails) := by
  refine F.ok scTails (fun vs H Q E h => ?_) (fun cdv A outer s H vs Q E hr h => ?_)
  · obtain ⟨rfl, _⟩ := h
    rfl
  · obtain ⟨rfl, q⟩ := h
    refine ⟨_,
(pss_cons (ps_set (i := 0) scTails.nd rfl (.inl rfl) (pe_lst (pa_cons (pe_tup (pa_cons pe_str (pa_cons pe_int pa_nil))) (pa_cons (pe_tup (pa_cons pe_str (pa_cons pe_int pa_nil))) (pa_cons (pe_tup (pa_cons pe_str (pa_cons pe_int pa_nil))) (pa_cons (pe_tup (pa_cons pe_str (pa_cons pe_int pa_nil))) (pa_cons (pe_tup (pa_cons pe_str (pa_cons pe_int pa_nil))) pa_nil)))))))
 (pss_cons (ps_set (i := 0) scTails.nd rfl (.inl rfl) (pe_op op_cat (pv 0) (pe_lst (pa_cons (pe_tup (pa_cons pe_str (pa_cons pe_int pa_nil))) (pa_cons (pe_tup (pa_cons pe_str (pa_cons pe_int pa_nil))) (pa_cons (pe_tup (pa_cons pe_str (pa_cons pe_int pa_nil))) (pa_cons (pe_tup (pa_cons pe_str (pa_cons pe_int pa_nil))) pa_nil)))))))
 (pss_cons (ps_set (i := 0) scTails.nd rfl (.inl rfl) (pe_op op_cat (pv 0) (pe_lst (pa_cons (pe_tup (pa_cons pe_str (pa_cons pe_int pa_nil))) (pa_cons (pe_tup (pa_cons pe_str (pa_cons pe_int pa_nil))) (pa_cons (pe_tup (pa_cons pe_str (pa_cons pe_int pa_nil))) (pa_cons (pe_tup (pa_cons pe_str (pa_cons pe_int pa_nil))) (pa_cons (pe_tup (pa_cons pe_str (pa_cons pe_int pa_nil))) pa_nil))))))))
 (pss_cons (ps_set (i := 0) scTails.nd rfl (.inl rfl) (pe_op op_cat (pv 0) (pe_lst (pa_cons (pe_tup (pa_cons pe_str (pa_cons pe_int pa_nil))) (pa_cons (pe_tup (pa_cons pe_str (pa_cons pe_int pa_nil))) (pa_cons (pe_tup (pa_cons pe_str (pa_cons pe_int pa_nil))) (pa_cons (pe_tup (pa_cons pe_str (pa_cons pe_int pa_nil))) (pa_cons (pe_tup (pa_cons pe_str (pa_cons pe_int pa_nil))) (pa_cons (pe_tup (pa_cons pe_str (pa_cons pe_int pa_nil))) (pa_cons (pe_tup (pa_cons pe_str (pa_cons pe_int pa_nil))) pa_nil))))))))))
 (pss_cons (ps_set (i := 0) scTails.nd rfl (.inl rfl) (pe_op op_cat (pv 0) (pe_lst (pa_cons (pe_tup (pa_cons pe_str (pa_cons pe_int pa_nil))) (pa_cons (pe_tup (pa_cons pe_str (pa_cons pe_int pa_nil))) (pa_cons (pe_tup (pa_cons pe_str (pa_cons pe_int pa_nil))) (pa_cons (pe_tup (pa_cons pe_str (pa_cons pe_int pa_nil))) pa_nil)))))))
 (pss_cons (ps_set (i := 0) scTails.nd rfl (.inl rfl) (pe_op op_cat (pv 0) (pe_lst (pa_cons (pe_tup (pa_cons pe_str (pa_cons pe_int pa_nil))) (pa_cons (pe_tup (pa_cons pe_str (pa_cons pe_int pa_nil))) (pa_cons (pe_tup (pa_cons pe_str (pa_cons pe_int pa_nil))) (pa_cons (pe_tup (pa_cons pe_str (pa_cons pe_int pa_nil))) pa_nil)))))))
 (pss_cons (ps_set (i := 0) scTails.nd rfl (.inl rfl) (pe_op op_cat (pv 0) (pe_lst (pa_cons (pe_tup (pa_cons pe_str (pa_cons pe_int pa_nil))) (pa_cons (pe_tup (pa_cons pe_str (pa_cons pe_int pa_nil))) (pa_cons (pe_tup (pa_cons pe_str (pa_cons pe_int pa_nil))) (pa_cons (pe_tup (pa_cons pe_str (pa_cons pe_int pa_nil))) pa_nil)))))))
 (pss_cons (ps_set (i := 0) scTails.nd rfl (.inl rfl) (pe_op op_cat (pv 0) (pe_lst (pa_cons (pe_tup (pa_cons pe_str (pa_cons pe_int pa_nil))) (pa_cons (pe_tup (pa_cons pe_str (pa_cons pe_int pa_nil))) (pa_cons (pe_tup (pa_cons pe_str (pa_cons pe_int pa_nil))) pa_nil))))))
 (pss_cons (ps_set (i := 0) scTails.nd rfl (.inl rfl) (pe_op op_cat (pv 0) (pe_lst (pa_cons (pe_tup (pa_cons pe_str (pa_cons pe_int pa_nil))) (pa_cons (pe_tup (pa_cons pe_str (pa_cons pe_int pa_nil))) (pa_cons (pe_tup (pa_cons pe_str (pa_cons pe_int pa_nil))) pa_nil))))))
 (pss_one (ps_ret (pe_op op_cat (pv 0) (pe_lst (pa_cons (pe_tup (pa_cons pe_str (pa_cons pe_int pa_nil))) pa_nil)))))))))))))), ?_⟩
    refine seq_begin rowsTails0 (by decide) fun H0 p0 s0 h0 => ?_
    refine seq_grow rowsTails1 rfl h0 (by decide) (by decide) fun H1 p1 s1 h1 => ?_
    refine seq_grow rowsTails2 rfl h1 (by decide) (by decide) fun H2 p2 s2 h2 => ?_
    refine seq_grow rowsTails3 rfl h2 (by decide) (by decide) fun H3 p3 s3 h3 => ?_
    refine seq_grow rowsTails4 rfl h3 (by decide) (by decide) fun H4 p4 s4 h4 => ?_
    refine seq_grow rowsTails5 rfl h4 (by decide) (by decide) fun H5 p5 s5 h5 => ?_
    refine seq_grow rowsTails6 rfl h5 (by decide) (by decide) fun H6 p6 s6 h6 => ?_
    refine seq_grow rowsTails7 rfl h6 (by decide) (by decide) fun H7 p7 s7 h7 => ?_
    refine seq_grow rowsTails8 rfl h7 (by decide) (by decide) fun H8 p8 s8 h8 => ?_
    refine ret_grow rowsTails9 rfl h8 (by decide) (by decide) fun H9 p9 s9 h9 => ?_
    exact q _ _ (((((((((s0.trans s1).trans s2).trans s3).trans s4).trans s5).trans s6).trans s7).trans s8).trans s9) h9
def rowsBodies0 : List (Str × Int) := [("while a { def g() { continue; } }", 20), ("a = b = c;", 6), ("a, = b;", 3), ("f() = 1;", 4), ("a, f() = 1;", 7)]
def rowsBodies1 : List (Str × Int) := [("a + b = 1;", 6), ("a < b < c;", 6), ("a == b < c;", 7), ("not = 1;", 4), ("f(a = 1, 2);", 9)]
def rowsBodies2 : List (Str × Int) := [("f(a = 1, a = 2);", 9), ("f(a = 1, b);", 10), ("f(a,);", 4), ("f(, a);", 2), ("[a for];", 6)]
def rowsBodies3 : List (Str × Int) := [("[a for b];", 8), ("[a for b in];", 11), ("[a, for b in c];", 4), ("[a, b for c in d];", 6)]
def rowsBodies4 : List (Str × Int) := [("[a for b in c if];", 16), ("else { }", 0), ("if a b;", 5), ("if a { } else b;", 14), ("for a, b in c { }", 5)]
def rowsBodies5 : List (Str × Int) := [("for a.b in c { }", 5), ("return return;", 7), ("return a b;", 9), ("global a b;", 9), ("nonlocal;", 8)]
def rowsBodies6 : List (Str × Int) := [("a.5;", 2), ("a.if;", 2), ("a[;", 2), ("a[1, 2];", 3), ("(a;", 2), ("(b)()", 5), ("fn a b: c;", 5)]
def rowsBodies7 : List (Str × Int) := [("fn a, a: b;", 6), ("- ;", 2), ("a and;", 5), ("break;", 0), ("'a' 'b';", 4), ("none none;", 5)]
def rowsBodies8 : List (Str × Int) := [("fn a = g(): a;", 8), ("fn a = fn: b: a;", 7), ("while a { } else { }", 12)]
def rowsBodies : List (Str × Int) := rowsBodies0 ++ rowsBodies1 ++ rowsBodies2 ++ rowsBodies3 ++ rowsBodies4 ++ rowsBodies5 ++ rowsBodies6 ++ rowsBodies7 ++ rowsBodies8
theorem rowsBodies_eq : rowsBodies = bodiesL.map fun r => (S r.1, (r.2 : Int)) := by decide +kernel
theorem scBodies : FnScope ["_law_found"] [] (defScope sBodies) := ⟨rfl, rfl, rfl, by decide +kernel, rfl, by decide +kernel, by decide +kernel⟩
theorem ok_Bodies {f : Addr} {fd : FuncData} {k : Nat} (F : Fun K "_law_bodies" "_law_bodies" sBodies f fd) : FnOk P w K mg base CX0 (k + 1) f fd [] (spRows rowsBodies) := by
  refine F.ok scBodies (fun vs H Q E h => ?_) (fun cdv A outer s H vs Q E hr h => ?_)
  · obtain ⟨rfl, _⟩ := h
    rfl
  · obtain ⟨rfl, q⟩ := h
    refine ⟨_,
(pss_cons (ps_set (i := 0) scBodies.nd rfl (.inl rfl) (pe_lst (pa_cons (pe_tup (pa_cons pe_str (pa_cons pe_int pa_nil))) (pa_cons (pe_tup (pa_cons pe_str (pa_cons pe_int pa_nil))) (pa_cons (pe_tup (pa_cons pe_str (pa_cons pe_int pa_nil))) (pa_cons (pe_tup (pa_cons pe_str (pa_cons pe_int pa_nil))) (pa_cons (pe_tup (pa_cons pe_str (pa_cons pe_int pa_nil))) pa_nil)))))))
 (pss_cons (ps_set (i := 0) scBodies.nd rfl (.inl rfl) (pe_op op_cat (pv 0) (pe_lst (pa_cons (pe_tup (pa_cons pe_str (pa_cons pe_int pa_nil))) (pa_cons (pe_tup (pa_cons pe_str (pa_cons pe_int pa_nil))) (pa_cons (pe_tup (pa_cons pe_str (pa_cons pe_int pa_nil))) (pa_cons (pe_tup (pa_cons pe_str (pa_cons pe_int pa_nil))) (pa_cons (pe_tup (pa_cons pe_str (pa_cons pe_int pa_nil))) pa_nil))))))))
 (pss_cons (ps_set (i := 0) scBodies.nd rfl (.inl rfl) (pe_op op_cat (pv 0) (pe_lst (pa_cons (pe_tup (pa_cons pe_str (pa_cons pe_int pa_nil))) (pa_cons (pe_tup (pa_cons pe_str (pa_cons pe_int pa_nil))) (pa_cons (pe_tup (pa_cons pe_str (pa_cons pe_int pa_nil))) (pa_cons (pe_tup (pa_cons pe_str (pa_cons pe_int pa_nil))) (pa_cons (pe_tup (pa_cons pe_str (pa_cons pe_int pa_nil))) pa_nil))))))))
 (pss_cons (ps_set (i := 0) scBodies.nd rfl (.inl rfl) (pe_op op_cat (pv 0) (pe_lst (pa_cons (pe_tup (pa_cons pe_str (pa_cons pe_int pa_nil))) (pa_cons (pe_tup (pa_cons pe_str (pa_cons pe_int pa_nil))) (pa_cons (pe_tup (pa_cons pe_str (pa_cons pe_int pa_nil))) (pa_cons (pe_tup (pa_cons pe_str (pa_cons pe_int pa_nil))) pa_nil)))))))
 (pss_cons (ps_set (i := 0) scBodies.nd rfl (.inl rfl) (pe_op op_cat (pv 0) (pe_lst (pa_cons (pe_tup (pa_cons pe_str (pa_cons pe_int pa_nil))) (pa_cons (pe_tup (pa_cons pe_str (pa_cons pe_int pa_nil))) (pa_cons (pe_tup (pa_cons pe_str (pa_cons pe_int pa_nil))) (pa_cons (pe_tup (pa_cons pe_str (pa_cons pe_int pa_nil))) (pa_cons (pe_tup (pa_cons pe_str (pa_cons pe_int pa_nil))) pa_nil))))))))
 (pss_cons (ps_set (i := 0) scBodies.nd rfl (.inl rfl) (pe_op op_cat (pv 0) (pe_lst (pa_cons (pe_tup (pa_cons pe_str (pa_cons pe_int pa_nil))) (pa_cons (pe_tup (pa_cons pe_str (pa_cons pe_int pa_nil))) (pa_cons (pe_tup (pa_cons pe_str (pa_cons pe_int pa_nil))) (pa_cons (pe_tup (pa_cons pe_str (pa_cons pe_int pa_nil))) (pa_cons (pe_tup (pa_cons pe_str (pa_cons pe_int pa_nil))) pa_nil))))))))
 (pss_cons (ps_set (i := 0) scBodies.nd rfl (.inl rfl) (pe_op op_cat (pv 0) (pe_lst (pa_cons (pe_tup (pa_cons pe_str (pa_cons pe_int pa_nil))) (pa_cons (pe_tup (pa_cons pe_str (pa_cons pe_int pa_nil))) (pa_cons (pe_tup (pa_cons pe_str (pa_cons pe_int pa_nil))) (pa_cons (pe_tup (pa_cons pe_str (pa_cons pe_int pa_nil))) (pa_cons (pe_tup (pa_cons pe_str (pa_cons pe_int pa_nil))) (pa_cons (pe_tup (pa_cons pe_str (pa_cons pe_int pa_nil))) (pa_cons (pe_tup (pa_cons pe_str (pa_cons pe_int pa_nil))) pa_nil))))))))))
 (pss_cons (ps_set (i := 0) scBodies.nd rfl (.inl rfl) (pe_op op_cat (pv 0) (pe_lst (pa_cons (pe_tup (pa_cons pe_str (pa_cons pe_int pa_nil))) (pa_cons (pe_tup (pa_cons pe_str (pa_cons pe_int pa_nil))) (pa_cons (pe_tup (pa_cons pe_str (pa_cons pe_int pa_nil))) (pa_cons (pe_tup (pa_cons pe_str (pa_cons pe_int pa_nil))) (pa_cons (pe_tup (pa_cons pe_str (pa_cons pe_int pa_nil))) (pa_cons (pe_tup (pa_cons pe_str (pa_cons pe_int pa_nil))) pa_nil)))))))))
 (pss_one (ps_ret (pe_op op_cat (pv 0) (pe_lst (pa_cons (pe_tup (pa_cons pe_str (pa_cons pe_int pa_nil))) (pa_cons (pe_tup (pa_cons pe_str (pa_cons pe_int pa_nil))) (pa_cons (pe_tup (pa_cons pe_str (pa_cons pe_int pa_nil))) pa_nil))))))))))))))), ?_⟩
    refine seq_begin rowsBodies0 (by decide) fun H0 p0 s0 h0 => ?_
    refine seq_grow rowsBodies1 rfl h0 (by decide) (by decide) fun H1 p1 s1 h1 => ?_
    refine seq_grow rowsBodies2 rfl h1 (by decide) (by decide) fun H2 p2 s2 h2 => ?_
    refine seq_grow rowsBodies3 rfl h2 (by decide) (by decide) fun H3 p3 s3 h3 => ?_
    refine seq_grow rowsBodies4 rfl h3 (by decide) (by decide) fun H4 p4 s4 h4 => ?_
    refine seq_grow rowsBodies5 rfl h4 (by decide) (by decide) fun H5 p5 s5 h5 => ?_
    refine seq_grow rowsBodies6 rfl h5 (by decide) (by decide) fun H6 p6 s6 h6 => ?_
    refine seq_grow rowsBodies7 rfl h6 (by decide) (by decide) fun H7 p7 s7 h7 => ?_
    refine ret_grow rowsBodies8 rfl h7 (by decide) (by decide) fun H8 p8 s8 h8 => ?_
    exact q _ _ ((((((((s0.trans s1).trans s2).trans s3).trans s4).trans s5).trans s6).trans s7).trans s8) h8
end
end KB
namespace KB
open PySem PySem.Spec PyProof.Rows L2
abbrev sLaw : Stmt := topS 108
/-- some signs, many times -/
theorem fold_repL (c : Array Nat) : ∀ (k : Nat) (acc : Array Nat), (List.replicate k c).foldl (· ++ ·) acc = acc ++ (List.replicate k c.toList).flatten.toArray
  | 0, acc => by simp
  | k + 1, acc => by
    rw [List.replicate_succ, List.foldl_cons, fold_repL c k]
    apply Array.toList_inj.mp
    simp [List.replicate_succ]
theorem op_repL {X : Cx} : OpR X (binaryOp .Mult) (fun x y H Q => ∃ (l : List Nat) (k : Nat), x = .str (S l) ∧ y = .int (k : Int) ∧ 2 ≤ l.length ∧ l.length ≤ 100 ∧ k ≤ 100 ∧ Q (.str (S (List.replicate k l).flatten)) H) := by
  intro pins s σ H x y v u Q I rx ry want
  obtain ⟨l, k, rfl, rfl, l2, l1, k1, q⟩ := want
  obtain ⟨t, rfl⟩ := rx
  obtain ⟨t', rfl⟩ := ry
  have le : (S l).length = l.length := S_len l
  have all : k * l.length ≤ 10000 := by
    have := Nat.mul_le_mul k1 l1
    omega
  refine PySem.P.mul_str (x := S l) (n := (k : Int)) ?_ ?_ ?_ ?_
  · rw [decide_eq_false (by omega), decide_eq_false (by omega)]
    rfl
  · intro n1 n2 z
    rw [le] at z
    have kp : 0 < (k : Int) := by omega
    have h : (100 : Int) ≤ (2 ^ 63 - 1) / (k : Int) := by
      rw [Int.le_ediv_iff_mul_le kp]
      omega
    omega
  · intro _ _
    rw [le, Int.toNat_natCast]
    have hh : l.length * k ≤ sizeLine := by
      rw [Nat.mul_comm]
      exact Nat.le_trans all (by decide)
    exact decide_eq_false (Nat.not_lt.mpr hh)
  · rcases (by omega : k = 0 ∨ k = 1 ∨ 2 ≤ k) with rfl | rfl | k2
    · rw [if_pos (by decide)]
      exact ⟨by decide, .str _, H, I.tok _, ⟨_, rfl⟩, q⟩
    · rw [if_neg (by decide), if_pos (by rfl)]
      have e : (List.replicate 1 l).flatten = l := by simp
      rw [e] at q
      exact ⟨.str _, H, I, ⟨_, rfl⟩, q⟩
    · have n2 : ((k : Int) == 1 || (S l).length == 0) = false := by
        have ne : l ≠ [] := fun z => by
          rw [z] at l2
          simp at l2
        rw [le]
        simp [ne]
        omega
      rw [if_neg (by omega), n2, if_neg Bool.false_ne_true, Int.toNat_natCast]
      have e : (⟨(List.replicate k (S l).cps).foldl (· ++ ·) #[]⟩ : Str) = S (List.replicate k l).flatten := by
        rw [fold_repL]
        simp [S]
      rw [e]
      refine ⟨?_, .str _, H, I.tok _, ⟨_, rfl⟩, q⟩
      rw [S_len, List.length_flatten, List.map_replicate, List.sum_replicate_nat]
      exact Nat.le_trans all (by decide)
def spIN2 (K : PySem.W.Frag) : Sp := fun vs H Q E => spIN vs H Q E ∨ ∃ (v : V) (t : Value), vs = [v] ∧ TyX K H v t ∧ PySem.W.kitOne K t (.type "str") = some false ∧ Q (.bl false) H
section
variable {P : Program} {w : World} {K : PySem.W.Frag} {mg : Str → Option Value} {base : Heap} {CB fB aS aW fIN fTK fLE fTO fTE fRE fRK fNU : Addr}
theorem FnOk.either {CX : CXT} {k : Nat} {f : Addr} {fd : FuncData} {ps : List Str} {sp sp' : Sp} (a : FnOk P w K mg base CX k f fd ps sp) (b : FnOk P w K mg base CX k f fd ps sp') : FnOk P w K mg base CX k f fd ps fun vs H Q E => sp vs H Q E ∨ sp' vs H Q E  :=
  ⟨fun vs H Q E z => z.elim (a.len vs H Q E) (b.len vs H Q E), fun A outer s H args us vs Q E hr he hb hv z => z.elim (a.run A outer s H args us vs Q E hr he hb hv) (b.run A outer s H args us vs Q E hr he hb hv)⟩
def spOdd (K : PySem.W.Frag) : Sp := fun vs H Q E => ∃ (v : V) (t : Value), vs = [v] ∧ TyX K H v t ∧ PySem.W.kitOne K t (.type "str") = some false ∧ Q (.bl false) H
theorem ok_odd {fd : FuncData} {k : Nat} (F : Fun K "is_name" "is_name" sIN fIN fd) (T : TK K mg CB fB aS aW fIN fTK fLE fTO fTE fRE fRK fNU) : FnOk P w K mg base CX0 (k + 1) fIN fd ["value"] (spOdd K) := by
  refine F.ok scIN (fun vs H Q E h => ?_) (fun cdv A outer s H vs Q E hr h => ?_)
  · obtain ⟨v, _, rfl, _⟩ := h
    rfl
  · obtain ⟨v, t, rfl, ty, kt, q⟩ := h
    obtain ⟨t1, gLET⟩ := T.LET
    obtain ⟨t2, gRUN⟩ := T.RUN
    obtain ⟨t3, gLN⟩ := T.LN
    refine ⟨_,
(pss_cons (ps_if (PW.pt (pw_or (pt_not (pt_val (pe_callB call_isi (by rfl) T.isinstance (by decide +kernel) (pa_cons (pv 0) (pa_cons (pe_bltn (v := .ty "str") (by rfl) T.str (by decide +kernel) rfl) pa_nil))))) (pw_or (pt_cmpR op_eq (pv 0) pe_str (nomark _)) (pw_or1 (pt_cmpR op_gt (pe_callB call_len_str (by rfl) T.len (by decide +kernel) (pa_cons (pv 0) pa_nil)) (pe_glob (v := .int 20) rfl gLN ⟨_, rfl⟩) (nomark _))))))
 (pss_one (ps_ret pe_bl))
 pss_nil)
 (pss_one (ps_ret (pe_and (pe_cmpR op_in_sign (pe_ix ix_str (pv 0) pe_int (fun _ _ => rfl)) (pe_glob (v := .str (S letL)) rfl gLET ⟨_, rfl⟩) (by rfl)) (pe_and (pe_callB (cr_all rfl) (by rfl) T.all (by decide +kernel) (pa_cons (pe_lc (own := [("char", 1)]) (g := gName 1) (tt := tYes) rfl scIN.nd (pi_str (pv 0)) (blkOk_by (own := [("char", 1)]) (N := ["value", "char"]) (sc := defScope sIN) (by decide +kernel)) (fun _ _ _ _ _ => pg_name (i := 1) scIN.nd rfl (Or.inl rfl)) (fun _ _ _ _ _ => pts_nil) (fun _ _ _ _ _ => (pe_cmpR op_in_sign (pv 1) (pe_glob (v := .str (S runL)) rfl gRUN ⟨_, rfl⟩) (by rfl)))) pa_nil)) (pe_one (pe_cmpR op_notIn_seq (pv 0) (pe_glob (v := .ref aW) rfl T.gWRD rfl) (by rfl)))))))), ?_⟩
    exact ⟨_, rfl, v, .ty "str", _, _, false, rfl, .ty _, ty, kt, false, rfl, iteT q⟩
end
end KB
set_option maxHeartbeats 8000000
namespace KB
open PySem PySem.Spec PyProof.Rows L2
/-- what the written part says of the law's own defs -/
structure LwT (K : PySem.W.Frag) (mg : Str → Option Value) (CB fB aS aW fIN fTK fLE fTO fTE fRE fRK fNU fP fT fAt fTl fBo : Addr) : Prop where
  k : TK K mg CB fB aS aW fIN fTK fLE fTO fTE fRE fRK fNU
  gPool : mg "_law_pool" = some (.ref fP)
  kPool : PySem.W.keepIn K (.ref fP) = true
  gTake : mg "_law_take" = some (.ref fT)
  kTake : PySem.W.keepIn K (.ref fT) = true
  gAt : mg "_law_at" = some (.ref fAt)
  kAt : PySem.W.keepIn K (.ref fAt) = true
  gTails : mg "_law_tails" = some (.ref fTl)
  kTails : PySem.W.keepIn K (.ref fTl) = true
  gBodies : mg "_law_bodies" = some (.ref fBo)
  kBodies : PySem.W.keepIn K (.ref fBo) = true
  range : mg "range" = none
  max : mg "max" = none
  min : mg "min" = none
  len : mg "len" = none
  repr : mg "repr" = none
theorem word_ok : ∀ c ∈ [97, 98, 57, 95], ∀ k ∈ [0, 1, 2, 3, 4, 5], isName (c :: (List.replicate k [120, 121, 48, 95]).flatten) = (decide (c ∈ [97, 98]) && decide ((c :: (List.replicate k [120, 121, 48, 95]).flatten).length < 21)) := by decide +kernel
theorem sign_at : ∀ r, r < 4 → ∃ c ∈ ([97, 98, 57, 95] : List Nat), ([97, 98, 57, 95] : List Nat)[r]? = some c
  | 0, _ => ⟨97, by decide, rfl⟩
  | 1, _ => ⟨98, by decide, rfl⟩
  | 2, _ => ⟨57, by decide, rfl⟩
  | 3, _ => ⟨95, by decide, rfl⟩
  | n + 4, h => absurd h (by omega)
theorem nil1 {σ : L2.St} {H : Hp} {Q : List V → Hp → Prop} (h : Q [] H) : tNil σ H Q := h
theorem take_ok {σ : L2.St} {H : Hp} {Q : VK} {p : Addr} {j m : Nat} (hσ : σ[j]? = some (some (.ref p))) (hp : PoolAt H p) (m0 : 0 < m) (m1 : m < 1000)
    (k : ∀ (r : Nat) (H' : Hp), r < m → KeepBut p H H' → PoolAt H' p → Q (.int (r : Int)) H') : tCall spTake [] E0 (tCons (tVar j) (tCons (tC (.int (m : Int))) tNil)) σ H Q := by
  obtain ⟨a, b, ok, e⟩ := hp
  refine ⟨_, hσ, p, a, b, m, rfl, e, ok, by omega, by omega, fun r a' b' r0 r1 ok' => ?_⟩
  obtain ⟨n, rfl⟩ : ∃ n : Nat, r = (n : Int) := ⟨r.toNat, by omega⟩
  exact k n _ (by omega) (fun c o nb h => by rw [upd_ne nb]; exact h) ⟨a', b', ok', upd_same⟩
theorem strs_ahead : (["", "a = 1;\n", "# if\nimport q; def f(a, b = 'x') { }\n", "class c(d.e) { x = [1]; def m() { return; } }\n"] : List Str) = aheadL.map S := by decide +kernel
theorem ahead_len : ∀ t ∈ aheadL, t.length ≤ 100 := by decide
theorem tail_len : ∀ u ∈ tailsL, u.1.length ≤ 100 ∧ u.2 ≤ 100 := by decide
theorem body_len : ∀ u ∈ bodiesL, u.1.length ≤ 100 ∧ u.2 ≤ 100 := by decide
def deepR : List (List Nat) := [[], [105, 102, 32, 97, 32, 123, 32], [119, 104, 105, 108, 101, 32, 97, 32, 123, 32, 112, 97, 115, 115, 59, 32, 125, 32]]
theorem strs_deep : (["", "if a { ", "while a { pass; } "] : List Str) = deepR.map S := by decide +kernel
theorem deep_len : ∀ u ∈ deepR, u.length ≤ 100 := by decide
theorem deep_mem : ∀ u ∈ deepR, ([100, 101, 102, 32, 102, 40, 41, 32, 123, 32] : List Nat) ++ u ∈ deepL := by decide
theorem pick {l : List (List Nat)} {i : Nat} (h : i < l.length) : ∃ t ∈ l, ((l.map S).map V.str)[i]? = some (.str (S t)) := by
  refine ⟨l[i], List.getElem_mem h, ?_⟩
  rw [List.getElem?_map, List.getElem?_map, List.getElem?_eq_getElem h]
  rfl
theorem PoolAt.same {p : Addr} {H H' : Hp} (h : PoolAt H p) (s : Same H H') : PoolAt H' p := by
  obtain ⟨a, b, ok, e⟩ := h
  exact ⟨a, b, ok, s _ _ e⟩
theorem PoolAt.ne {p q : Addr} {H : Hp} (h : PoolAt H p) (hq : H q = none) : p ≠ q := by
  obtain ⟨a, b, ok, e⟩ := h
  exact ne_of_none e hq
theorem Same.keep {p : Addr} {H H1 H2 : Hp} (a : Same H H1) (n : H p = none) (b : KeepBut p H1 H2) : Same H H2 := fun c o h => b c o (ne_of_none h n) (a c o h)
theorem paired_at {α β : Type} {R : α → β → Prop} {xs : List α} {ys : List β} (h : Paired R xs ys) {j : Nat} {x : α} (hx : xs[j]? = some x) : ∃ y, y ∈ ys ∧ R x y := by
  induction h generalizing j with
  | nil => cases hx
  | cons h1 _ ih =>
    cases j with
    | zero =>
      cases hx
      exact ⟨_, List.mem_cons_self, h1⟩
    | succ j =>
      obtain ⟨y, hy, r⟩ := ih hx
      exact ⟨y, List.mem_cons_of_mem _ hy, r⟩
theorem row_get {H : Hp} {qs : List Addr} {rows : List (Str × Int)} {L : List (List Nat × Nat)} (e : rows = L.map fun r => (S r.1, (r.2 : Int))) (pq : Paired (RowS H) qs rows) {j : Nat} {x : V} (hx : (qs.map V.ref)[j]? = some x) :
    ∃ (q : Addr) (u : List Nat × Nat), x = .ref q ∧ u ∈ L ∧ H q = some (.tup [.str (S u.1), .int (u.2 : Int)]) := by
  rw [List.getElem?_map] at hx
  cases hq : qs[j]? with
  | none => rw [hq] at hx; cases hx
  | some q =>
    rw [hq] at hx
    cases hx
    obtain ⟨r, hr, z⟩ := paired_at pq hq
    rw [e] at hr
    obtain ⟨u, hu, rfl⟩ := List.mem_map.mp hr
    exact ⟨q, u, rfl, hu, z⟩
theorem strOk_of (x : String) : PyData.strOk (Str.ofString x) = true := by
  unfold PyData.strOk
  rw [← Array.all_toList, List.all_eq_true, Str.ofString_eq_toList]
  intro c hc
  have h : ∃ d : Char, c = d.toNat := by
    have hc' : c ∈ x.toList.map Char.toNat := by simpa using hc
    obtain ⟨d, _, e⟩ := List.mem_map.mp hc'
    exact ⟨d, e.symm⟩
  obtain ⟨d, rfl⟩ := h
  have v := d.valid
  refine decide_eq_true ?_
  have v' : d.toNat.isValidChar := v
  unfold Nat.isValidChar at v'
  omega
theorem two_shaped (x y : String) : SeqAt.shaped (.list [.str (Str.ofString x), .str (Str.ofString y)]) = true := by
  unfold SeqAt.shaped
  have c : (PyData.list [.str (Str.ofString x), .str (Str.ofString y)]).canLay0 = true := by
    show (PyData.strOk (Str.ofString x) && (PyData.strOk (Str.ofString y) && true)) = true
    rw [strOk_of, strOk_of]
    rfl
  rw [c]
  rfl
theorem told_same {K : PySem.W.Frag} {H : Hp} {p1 p2 : Addr} {x y : String} {Q : VK} (h1 : H p1 = some (.lst [.str (Str.ofString x), .str (Str.ofString y)])) (h2 : H p2 = some (.lst [.str (Str.ofString x), .str (Str.ofString y)])) (q : Q (.bl false) H) : rNeD K (.ref p1) (.ref p2) H Q := by
  have sh := two_shaped x y
  refine ⟨_, _, .lst (.inl (.inl h1)) (.cons (.str _) (.cons (.str _) .nil)), .lst (.inl (.inl h2)) (.cons (.str _) (.cons (.str _) .nil)), sh, sh, ?_⟩
  rw [SeqAt.eqv_refl _ (SeqAt.canLay_of_shaped sh)]
  exact q
section
variable {P : Program} {w : World} {K : PySem.W.Frag} {mg : Str → Option Value} {base : Heap} {CB fB aS aW fIN fTK fLE fTO fTE fRE fRK fNU fP fT fAt fTl fBo fL : Addr}
abbrev nLaw : List Str := ["_law_script", "_law_k", "_law_pool_here", "_law_ahead", "_law_text", "_law_at_here", "_law_deep", "_law_word", "_law_odd"]
theorem scLaw : FnScope nLaw ["_law_script"] (defScope sLaw) := ⟨rfl, rfl, rfl, by decide +kernel, rfl, by decide +kernel, by decide +kernel⟩
def spLaw (K : PySem.W.Frag) : Sp := fun vs H Q _ => ∃ (a : Addr) (ns : List Int), vs = [.ref a] ∧ SqL K H a (ns.map V.int) ∧ ns.length ≤ 63 ∧ (∀ z ∈ ns, Builtin.Int.intBits z ≤ 1048576) ∧ ∀ H', Q (.bl true) H'
theorem ok_law {fd fdP fdT fdA fdTl fdBo fdIN : FuncData} (F : Fun K "law" "law" sLaw fL fd) (L : LwT K mg CB fB aS aW fIN fTK fLE fTO fTE fRE fRK fNU fP fT fAt fTl fBo)
    (GP : FnOk P w K mg base CX0 1 fP fdP ["_law_script", "_law_k"] (spPool K)) (bP : Binds K fdP ["_law_script", "_law_k"] []) (GT : FnOk P w K mg base CX0 1 fT fdT ["_law_pool_here", "_law_many"] spTake) (bT : Binds K fdT ["_law_pool_here", "_law_many"] [])
    (GTL : FnOk P w K mg base CX0 1 fTl fdTl [] (spRows rowsTails)) (bTL : Binds K fdTl [] []) (GBO : FnOk P w K mg base CX0 1 fBo fdBo [] (spRows rowsBodies)) (bBO : Binds K fdBo [] [])
    (GIN : FnOk P w K mg base CX0 1 fIN fdIN ["value"] (spIN2 K)) (bIN : Binds K fdIN ["value"] []) (GA : FnOk P w K mg base CX0 138 fAt fdA ["_law_text"] spAt) (bA : Binds K fdA ["_law_text"] []) :
    FnOk P w K mg base CX0 139 fL fd ["_law_script"] (spLaw K) := by
  refine F.ok scLaw (fun vs H Q E h => ?_) (fun cdv A outer s H vs Q E hr138 h => ?_)
  · obtain ⟨a, ns, rfl, _⟩ := h
    rfl
  · obtain ⟨a, ns, rfl, hS, hlen, hbits, q⟩ := h
    have hr1 := hr138.mono (show 1 ≤ 138 by decide)
    have hu := hr138.units
    refine ⟨_,
(pss_cons (ps_for PassesOwn.never rfl (pi_range1 rfl L.range (pa_cons (pe_callB (call_max2 rfl) (by rfl) L.max (by decide +kernel) (pa_cons pe_int (pa_cons (pe_callB (call_min2 rfl) (by rfl) L.min (by decide +kernel) (pa_cons (pe_callB call_len_seq (by rfl) L.len (by decide +kernel) (pa_cons (pv 0) pa_nil)) (pa_cons pe_int pa_nil))) pa_nil))) pa_nil)) (pg_name (i := 1) scLaw.nd rfl (.inl rfl))
 (pss_cons (ps_set (i := 2) scLaw.nd rfl (.inl rfl) (pe_call GP hr1 (by rfl) L.gPool L.kPool bP .nil pass0 (pa_cons (pv 0) (pa_cons (pv 1) pa_nil))))
 (pss_cons (ps_set (i := 3) scLaw.nd rfl (.inl rfl) (pe_ix ix_list (pe_lst (pa_cons pe_str (pa_cons pe_str (pa_cons pe_str (pa_cons pe_str pa_nil))))) (pe_call GT hr1 (by rfl) L.gTake L.kTake bT .nil pass0 (pa_cons (pv 2) (pa_cons pe_int pa_nil))) (fun _ _ => rfl)))
 (pss_cons (ps_for PassesOwn.never rfl (pi_list (pe_call0 GTL hr1 (by rfl) L.gTails L.kTails bTL .nil pass0)) (pg_tup rfl (pgs_cons (pg_name (i := 4) scLaw.nd rfl (.inl rfl)) (pgs_cons (pg_name (i := 5) scLaw.nd rfl (.inl rfl)) pgs_nil)))
 (pss_cons (ps_if (pt_cmpR (op_neD hu) (pe_call GA hr138 (by rfl) L.gAt L.kAt bA .nil pass0 (pa_cons (pe_op op_add_str (pv 3) (pv 4)) pa_nil)) (pe_lst (pa_cons pe_str (pa_cons (pe_callB call_rep (by rfl) L.repr (by decide +kernel) (pa_cons (pe_op op_add (pe_callB call_len_str (by rfl) L.len (by decide +kernel) (pa_cons (pv 3) pa_nil)) (pv 5)) pa_nil)) pa_nil))) (nomark _))
 (pss_one (ps_ret pe_bl))
 pss_nil)
 (pss_one (ps_if (pt_cmpR (op_neD hu) (pe_call GA hr138 (by rfl) L.gAt L.kAt bA .nil pass0 (pa_cons (pe_op op_add_str (pe_op op_add_str (pv 3) (pv 4)) pe_str) pa_nil)) (pe_lst (pa_cons pe_str (pa_cons (pe_callB call_rep (by rfl) L.repr (by decide +kernel) (pa_cons (pe_op op_add (pe_callB call_len_str (by rfl) L.len (by decide +kernel) (pa_cons (pe_op op_add_str (pv 3) (pv 4)) pa_nil)) pe_int) pa_nil)) pa_nil))) (nomark _))
 (pss_one (ps_ret pe_bl))
 pss_nil))))
 (pss_cons (ps_set (i := 6) scLaw.nd rfl (.inl rfl) (pe_op op_add_str pe_str (pe_ix ix_list (pe_lst (pa_cons pe_str (pa_cons pe_str (pa_cons pe_str pa_nil)))) (pe_call GT hr1 (by rfl) L.gTake L.kTake bT .nil pass0 (pa_cons (pv 2) (pa_cons pe_int pa_nil))) (fun _ _ => rfl))))
 (pss_cons (ps_for PassesOwn.never rfl (pi_list (pe_call0 GBO hr1 (by rfl) L.gBodies L.kBodies bBO .nil pass0)) (pg_tup rfl (pgs_cons (pg_name (i := 4) scLaw.nd rfl (.inl rfl)) (pgs_cons (pg_name (i := 5) scLaw.nd rfl (.inl rfl)) pgs_nil)))
 (pss_one (ps_if (pt_cmpR (op_neD hu) (pe_call GA hr138 (by rfl) L.gAt L.kAt bA .nil pass0 (pa_cons (pe_op op_add_str (pe_op op_add_str (pv 3) (pv 6)) (pv 4)) pa_nil)) (pe_lst (pa_cons pe_str (pa_cons (pe_callB call_rep (by rfl) L.repr (by decide +kernel) (pa_cons (pe_op op_add (pe_callB call_len_str (by rfl) L.len (by decide +kernel) (pa_cons (pe_op op_add_str (pv 3) (pv 6)) pa_nil)) (pv 5)) pa_nil)) pa_nil))) (nomark _))
 (pss_one (ps_ret pe_bl))
 pss_nil)))
 (pss_cons (ps_set (i := 7) scLaw.nd rfl (.inl rfl) (pe_op op_add_str (pe_ix ix_str pe_str (pe_call GT hr1 (by rfl) L.gTake L.kTake bT .nil pass0 (pa_cons (pv 2) (pa_cons pe_int pa_nil))) (fun _ _ => rfl)) (pe_op op_repL pe_str (pe_call GT hr1 (by rfl) L.gTake L.kTake bT .nil pass0 (pa_cons (pv 2) (pa_cons pe_int pa_nil))))))
 (pss_one (ps_if (pt_cmpR op_ne (pe_callB call_rep (by rfl) L.repr (by decide +kernel) (pa_cons (pe_call GIN hr1 (by rfl) L.k.gIN L.k.kIN bIN .nil pass0 (pa_cons (pv 7) pa_nil)) pa_nil)) (pe_callB call_rep (by rfl) L.repr (by decide +kernel) (pa_cons (pe_and (pe_cmpR op_in_sign (pe_ix ix_str (pv 7) pe_int (fun _ _ => rfl)) pe_str (by rfl)) (pe_one (pe_cmpR op_lt (pe_callB call_len_str (by rfl) L.len (by decide +kernel) (pa_cons (pv 7) pa_nil)) pe_int (nomark _)))) pa_nil)) (nomark _))
 (pss_one (ps_ret pe_bl))
 pss_nil)))))))))
 (pss_cons (ps_for PassesOwn.never rfl (pi_list (pe_lst (pa_cons pe_non (pa_cons pe_int (pa_cons pe_str (pa_cons pe_str (pa_cons pe_str (pa_cons pe_str (pa_cons pe_str (pa_cons pe_str (pa_cons pe_str (pa_cons (pe_op op_repS pe_str pe_int) (pa_cons (pe_lst (pa_cons pe_str pa_nil)) (pa_cons (pe_tup (pa_cons pe_str pa_nil)) (pa_cons pe_dnewK (pa_cons pe_bl (pa_cons pe_str (pa_cons pe_str pa_nil)))))))))))))))))) (pg_name (i := 8) scLaw.nd rfl (.inl rfl))
 (pss_one (ps_if (pt_cmpR op_isnot_bl (pe_call GIN hr1 (by rfl) L.k.gIN L.k.kIN bIN .nil pass0 (pa_cons (pv 8) pa_nil)) pe_bl (nomark _))
 (pss_one (ps_ret pe_bl))
 pss_nil)))
 (pss_one (ps_ret (pe_and (pe_cmpR op_is_bl (pe_call GIN hr1 (by rfl) L.k.gIN L.k.kIN bIN .nil pass0 (pa_cons (pe_op op_repS pe_str pe_int) pa_nil)) pe_bl (nomark _)) (pe_and (pe_cmpR op_is_bl (pe_call GIN hr1 (by rfl) L.k.gIN L.k.kIN bIN .nil pass0 (pa_cons pe_str pa_nil)) pe_bl (nomark _)) (pe_one (pe_cmpR op_is_bl (pe_call GIN hr1 (by rfl) L.k.gIN L.k.kIN bIN .nil pass0 (pa_cons pe_str pa_nil)) pe_bl (nomark _))))))))), ?_⟩
    let S0 : L2.St → Hp → Prop := fun σ H' => ∃ y1 y2 y3 y4 y5 y6 y7 y8, σ = [some (.ref a), y1, y2, y3, y4, y5, y6, y7, y8] ∧ Same H H'
    refine ⟨_, rfl, a, _, rfl, .inl hS, _, _, rfl, _, _, rfl, _, rfl, ?_, ?_, for_range (lo := 0) (fun _ => S0) ⟨_, _, _, _, _, _, _, _, rfl, Same.refl H⟩ ?_ ?_⟩
    · split <;> split <;> omega
    · split <;> split <;> omega
    · intro i σ H0 hi h0
      obtain ⟨y1, y2, y3, y4, y5, y6, y7, y8, rfl, sm0⟩ := h0
      have hi3 : i < 4 := by
        revert hi
        split <;> split <;> omega
      refine ⟨_, rfl, _, rfl, a, ns, (0 + (i : Int)), rfl, sm0.seq hS, hlen, hbits, by omega, by omega, fun p A B hp okP => ?_⟩
      have s1 := same_new (o := .lst [.int A, .int B]) hp
      have p1 : PoolAt (upd H0 p (.lst [.int A, .int B])) p := ⟨A, B, okP, upd_same⟩
      generalize upd H0 p (.lst [.int A, .int B]) = H1 at s1 p1 ⊢
      -- the text ahead
      refine ⟨(by show 4 ≤ sizeLine; decide), fun l hl => ?_⟩
      have sl := same_new (o := .lst ((aheadL.map S).map V.str)) hl
      have el : ([V.str "", V.str "a = 1;\n", V.str "# if\nimport q; def f(a, b = 'x') { }\n", V.str "class c(d.e) { x = [1]; def m() { return; } }\n"] : List V) = (aheadL.map S).map V.str := congrArg (List.map V.str) strs_ahead
      show tCall spTake [] E0 _ _ (upd H1 l (.lst [V.str "", V.str "a = 1;\n", V.str "# if\nimport q; def f(a, b = 'x') { }\n", V.str "class c(d.e) { x = [1]; def m() { return; } }\n"])) _
      rw [el]
      refine take_ok (m := 4) rfl (p1.same sl) (by decide) (by decide) fun i1 H2 hi1 k2 p2 => ?_
      obtain ⟨t, ht, et⟩ := pick (l := aheadL) hi1
      have lp : l ≠ p := (p1.ne hl).symm
      refine ⟨l, _, (i1 : Int), _, rfl, rfl, .inl (.inl (k2 l _ lp upd_same)), atI_nat et, ?_⟩
      have lt := ahead_len t ht
      -- the tails
      refine ⟨rfl, fun H3 b s3 h3 => ?_⟩
      obtain ⟨qs, hb, pq⟩ := h3
      refine ⟨b, rfl, ⟨qs.map V.ref, .inl (.inl hb)⟩, ?_⟩
      refine for_it (walk_list (xs := qs.map V.ref)) (fun _ σ H' => ∃ y4 y5 y6 y7 y8, σ = [some (.ref a), some (.int (0 + (i : Int))), some (.ref p), some (.str (S t)), y4, y5, y6, y7, y8] ∧ Same H3 H') ⟨_, _, _, _, _, rfl, Same.refl _⟩ ?_ ?_ ?_
      · rintro j σ H4 _ ⟨_, _, _, _, _, _, sm⟩
        exact .inl (.inl (sm _ _ hb))
      · rintro j x σ H4 H5 hj ⟨y4, y5, y6, y7, y8, rfl, sm⟩ ⟨e45, hx⟩
        subst e45
        obtain ⟨qj, u, rfl, hu1, hq⟩ := row_get rowsTails_eq pq hx
        have ok := List.all_eq_true.mp (List.all_eq_true.mp tails_ok t ht) u hu1
        unfold okTail at ok
        rw [Bool.and_eq_true] at ok
        obtain ⟨c1, c2⟩ := ok
        have c1 := of_decide_eq_true c1
        have c2 := of_decide_eq_true c2
        have lu := tail_len u hu1
        refine ⟨qj, _, rfl, .inl (.inl (sm _ _ hq)), rfl, _, _, rfl, _, _, rfl, rfl, ?_⟩
        have lg : ∀ z : List Nat, z.length ≤ 5000 → (S z).length ≤ sizeLine := fun z h => by
          rw [S_len]
          exact small (by omega)
        have add : ∀ y z : List Nat, y.length ≤ 1000 → z.length ≤ 1000 → (S y).length + (S z).length ≤ sizeLine := fun y z h1 h2 => by
          rw [S_len, S_len]
          exact small (by omega)
        have few : ∀ n : Nat, n ≤ 6000 → ((n : Nat) : Int).natAbs.log2 < 1920 := fun n h => by
          have z : ((n : Nat) : Int).natAbs < 2 ^ 13 := by omega
          exact Nat.lt_of_lt_of_le (PySem.Flt.log2_lt_of (by decide) z) (by decide)
        refine ⟨_, rfl, _, rfl, S t, S u.1, rfl, rfl, add _ _ (by omega) (by omega), ?_⟩
        rw [S_add]
        refine nil1 ⟨_, false, _, rfl, by rw [List.length_append]; omega, by omega, c1, fun H6 p6 s6 h6 => ?_⟩
        refine ⟨_, rfl, S t, rfl, lg _ (by omega), _, rfl, _, _, rfl, rfl, ?_⟩
        have en : (((S t).length : Nat) : Int) + (u.2 : Int) = ((t.length + u.2 : Nat) : Int) := by
          rw [S_len]
          rfl
        refine ⟨_, _, rfl, .inl ⟨((S t).length : Int) + (u.2 : Int), rfl, by rw [en]; exact few _ (by omega), rfl⟩, ?_⟩
        rw [en]
        refine ⟨(by show 2 ≤ sizeLine; decide), fun l7 hl7 => ?_⟩
        have s7 := same_new (o := .lst [V.str "syntax", V.str (toString ((t.length + u.2 : Nat) : Int))]) hl7
        refine told_same (s7 _ _ h6) upd_same ⟨_, rfl, iteF ?_⟩
        -- with a wrong sign behind
        have ed : Str.ofString " $" = S [32, 36] := by decide +kernel
        refine ⟨_, rfl, _, rfl, S t, S u.1, rfl, rfl, add _ _ (by omega) (by omega), ?_⟩
        rw [S_add]
        refine ⟨S (t ++ u.1), S [32, 36], rfl, by rw [ed], add _ _ (by rw [List.length_append]; omega) (by decide), ?_⟩
        rw [S_add]
        refine nil1 ⟨_, true, _, rfl, by rw [List.length_append, List.length_append]; show _ + 2 ≤ _; omega, by rw [List.length_append]; omega, c2, fun H8 p8 s8 h8 => ?_⟩
        refine ⟨_, rfl, _, rfl, S t, S u.1, rfl, rfl, add _ _ (by omega) (by omega), ?_⟩
        rw [S_add]
        refine ⟨S (t ++ u.1), rfl, lg _ (by rw [List.length_append]; omega), _, _, rfl, rfl, ?_⟩
        have en2 : (((S (t ++ u.1)).length : Nat) : Int) + 1 = (((t ++ u.1).length + 1 : Nat) : Int) := by
          rw [S_len]
          rfl
        refine ⟨_, _, rfl, .inl ⟨((S (t ++ u.1)).length : Int) + 1, rfl, by rw [en2]; exact few _ (by rw [List.length_append]; omega), rfl⟩, ?_⟩
        rw [en2]
        refine ⟨(by show 2 ≤ sizeLine; decide), fun l9 hl9 => ?_⟩
        have s9 := same_new (o := .lst [V.str "text", V.str (toString (((t ++ u.1).length + 1 : Nat) : Int))]) hl9
        refine told_same (s9 _ _ h8) upd_same ⟨_, rfl, iteF ?_⟩
        exact ⟨_, _, _, _, _, rfl, ((sm.trans s6).trans s7).trans (s8.trans s9)⟩
      · rintro σ H4 ⟨y4, y5, y6, y7, y8, rfl, sm4⟩
        -- how deep
        have edf : Str.ofString "def f() { " = S [100, 101, 102, 32, 102, 40, 41, 32, 123, 32] := by decide +kernel
        refine ⟨(by show 3 ≤ sizeLine; decide), fun l5 hl5 => ?_⟩
        have sl5 := same_new (o := .lst ((deepR.map S).map V.str)) hl5
        have el5 : ([V.str "", V.str "if a { ", V.str "while a { pass; } "] : List V) = (deepR.map S).map V.str := congrArg (List.map V.str) strs_deep
        have p4 : PoolAt H4 p := (p2.same s3).same sm4
        show tCall spTake [] E0 _ _ (upd H4 l5 (.lst [V.str "", V.str "if a { ", V.str "while a { pass; } "])) _
        rw [el5]
        refine take_ok (m := 3) rfl (p4.same sl5) (by decide) (by decide) fun i5 H5 hi5 k5 p5 => ?_
        obtain ⟨dr, hdr, edr⟩ := pick (l := deepR) hi5
        have lp5 : l5 ≠ p := (p4.ne hl5).symm
        refine ⟨l5, _, (i5 : Int), _, rfl, rfl, .inl (.inl (k5 l5 _ lp5 upd_same)), atI_nat edr, ?_⟩
        have ldr := deep_len dr hdr
        refine ⟨S [100, 101, 102, 32, 102, 40, 41, 32, 123, 32], S dr, by rw [edf], rfl, by rw [S_len, S_len]; exact small (by show 10 + _ ≤ _; omega), ?_⟩
        rw [S_add]
        have hd := deep_mem dr hdr
        have ld : ([100, 101, 102, 32, 102, 40, 41, 32, 123, 32] ++ dr).length ≤ 200 := by
          rw [List.length_append]
          show 10 + _ ≤ _
          omega
        generalize ([100, 101, 102, 32, 102, 40, 41, 32, 123, 32] : List Nat) ++ dr = dp at hd ld ⊢
        have lg : ∀ z : List Nat, z.length ≤ 5000 → (S z).length ≤ sizeLine := fun z h => by
          rw [S_len]
          exact small (by omega)
        have add : ∀ y z : List Nat, y.length ≤ 1000 → z.length ≤ 1000 → (S y).length + (S z).length ≤ sizeLine := fun y z h1 h2 => by
          rw [S_len, S_len]
          exact small (by omega)
        have few : ∀ n : Nat, n ≤ 6000 → ((n : Nat) : Int).natAbs.log2 < 1920 := fun n h => by
          have z : ((n : Nat) : Int).natAbs < 2 ^ 13 := by omega
          exact Nat.lt_of_lt_of_le (PySem.Flt.log2_lt_of (by decide) z) (by decide)
        -- the bodies
        refine ⟨rfl, fun H6 b6 s6 h6 => ?_⟩
        obtain ⟨qs6, hb6, pq6⟩ := h6
        refine ⟨b6, rfl, ⟨qs6.map V.ref, .inl (.inl hb6)⟩, ?_⟩
        refine for_it (walk_list (xs := qs6.map V.ref)) (fun _ σ H' => ∃ y4 y5 y7 y8, σ = [some (.ref a), some (.int (0 + (i : Int))), some (.ref p), some (.str (S t)), y4, y5, some (.str (S dp)), y7, y8] ∧ Same H6 H') ⟨_, _, _, _, rfl, Same.refl _⟩ ?_ ?_ ?_
        · rintro j σ H7 _ ⟨_, _, _, _, _, sm⟩
          exact .inl (.inl (sm _ _ hb6))
        · rintro j x σ H7 H8 hj ⟨y4, y5, y7, y8, rfl, sm⟩ ⟨e78, hx⟩
          subst e78
          obtain ⟨qj, u, rfl, hu1, hq⟩ := row_get rowsBodies_eq pq6 hx
          have c1 : check 12 (t ++ dp ++ u.1) = some (some (false, (t ++ dp).length + u.2)) := of_decide_eq_true (List.all_eq_true.mp (List.all_eq_true.mp (List.all_eq_true.mp bodies_ok t ht) dp hd) u hu1)
          have lu := body_len u hu1
          have ltd : (t ++ dp).length ≤ 300 := by
            rw [List.length_append]
            omega
          refine ⟨qj, _, rfl, .inl (.inl (sm _ _ hq)), rfl, _, _, rfl, _, _, rfl, rfl, ?_⟩
          refine ⟨_, rfl, _, rfl, S t, S dp, rfl, rfl, add _ _ (by omega) (by omega), ?_⟩
          rw [S_add]
          refine ⟨_, rfl, S (t ++ dp), S u.1, rfl, rfl, add _ _ (by omega) (by omega), ?_⟩
          rw [S_add]
          refine nil1 ⟨_, false, _, rfl, by rw [List.length_append]; omega, by omega, c1, fun H9 p9 s9 h9 => ?_⟩
          refine ⟨_, rfl, _, rfl, S t, S dp, rfl, rfl, add _ _ (by omega) (by omega), ?_⟩
          rw [S_add]
          refine ⟨S (t ++ dp), rfl, lg _ (by omega), _, rfl, _, _, rfl, rfl, ?_⟩
          have en : (((S (t ++ dp)).length : Nat) : Int) + (u.2 : Int) = (((t ++ dp).length + u.2 : Nat) : Int) := by
            rw [S_len]
            rfl
          refine ⟨_, _, rfl, .inl ⟨((S (t ++ dp)).length : Int) + (u.2 : Int), rfl, by rw [en]; exact few _ (by omega), rfl⟩, ?_⟩
          rw [en]
          refine ⟨(by show 2 ≤ sizeLine; decide), fun lA hlA => ?_⟩
          have sA := same_new (o := .lst [V.str "syntax", V.str (toString (((t ++ dp).length + u.2 : Nat) : Int))]) hlA
          refine told_same (sA _ _ h9) upd_same ⟨_, rfl, iteF ?_⟩
          exact ⟨_, _, _, _, rfl, (sm.trans s9).trans sA⟩
        · rintro σ H7 ⟨y4, y5, y7, y8, rfl, sm7⟩
          have p7 : PoolAt H7 p := (p5.same s6).same sm7
          -- a word
          have ew : Str.ofString "ab9_" = S [97, 98, 57, 95] := by decide +kernel
          have ex : Str.ofString "xy0_" = S [120, 121, 48, 95] := by decide +kernel
          have eab : Str.ofString "ab" = S [97, 98] := by decide +kernel
          obtain ⟨A7, B7, ok7, e7⟩ := p7
          refine ⟨_, rfl, p, A7, B7, 4, rfl, e7, ok7, by decide, by decide, fun z4 A8 B8 z40 z41 ok8 => ?_⟩
          obtain ⟨r4, rfl⟩ : ∃ n : Nat, z4 = (n : Int) := ⟨z4.toNat, by omega⟩
          have hr4 : r4 < 4 := by omega
          have k8 : KeepBut p H7 (upd H7 p (.lst [.int A8, .int B8])) := .upd
          have e8 : upd H7 p (.lst [.int A8, .int B8]) p = some (.lst [.int A8, .int B8]) := upd_same
          generalize upd H7 p (.lst [.int A8, .int B8]) = H8 at k8 e8 ⊢
          obtain ⟨c, hc, ec⟩ : ∃ c ∈ ([97, 98, 57, 95] : List Nat), ([97, 98, 57, 95] : List Nat)[r4]? = some c := sign_at r4 hr4
          refine ⟨S [97, 98, 57, 95], (r4 : Int), c, by rw [ew], rfl, by decide, atI_nat ec, ?_⟩
          refine ⟨_, rfl, p, A8, B8, 6, rfl, e8, ok8, by decide, by decide, fun z6 A9 B9 z60 z61 ok9 => ?_⟩
          obtain ⟨r6, rfl⟩ : ∃ n : Nat, z6 = (n : Int) := ⟨z6.toNat, by omega⟩
          have hr6 : r6 < 6 := by omega
          have k9 : KeepBut p H8 (upd H8 p (.lst [.int A9, .int B9])) := .upd
          generalize upd H8 p (.lst [.int A9, .int B9]) = H9 at k9 ⊢
          refine ⟨[120, 121, 48, 95], r6, by rw [ex], rfl, by decide, by decide, by omega, ?_⟩
          have wk := word_ok c hc r6 (by simp only [List.mem_cons, List.not_mem_nil, or_false]; omega)
          have wl : (List.replicate r6 ([120, 121, 48, 95] : List Nat)).flatten.length ≤ 20 := by
            rw [List.length_flatten, List.map_replicate, List.sum_replicate_nat]
            show r6 * 4 ≤ 20
            omega
          generalize (List.replicate r6 ([120, 121, 48, 95] : List Nat)).flatten = wd at wk wl ⊢
          refine ⟨S [c], S wd, rfl, rfl, add _ _ (by rw [List.length_singleton]; decide) (by omega), ?_⟩
          rw [S_add]
          have wl2 : (c :: wd).length ≤ 21 := by
            rw [List.length_cons]
            omega
          have ln : (S (c :: wd)).length = (c :: wd).length := S_len _
          have back : KeepBut p H1 H9 := ((((((KeepBut.same sl).trans k2).trans (KeepBut.same (s3.trans sm4))).trans ((KeepBut.same sl5).trans k5)).trans (KeepBut.same (s6.trans sm7))).trans k8).trans k9
          have done_ : ∀ HZ, Same H9 HZ → Same H HZ := fun HZ z => Same.keep (sm0.trans s1) (sm0.free hp) (back.trans (KeepBut.same z))
          refine ⟨_, rfl, Or.inl ⟨c :: wd, rfl, by omega, fun HA sA => ?_⟩⟩
          refine ⟨_, _, rfl, .inr ⟨_, rfl, rfl⟩, ?_⟩
          refine ⟨_, rfl, S (c :: wd), 0, c, rfl, rfl, lg _ (by omega), atI_nat (j := 0) rfl, c, S [97, 98], rfl, by rw [eab], _, rfl, bool_if (fun h1 => ?_) (fun h1 => ?_)⟩
          · have h1' : decide (c ∈ [97, 98]) = true := h1
            rw [h1', Bool.true_and] at wk
            refine ⟨_, rfl, S (c :: wd), rfl, lg _ (by omega), _, _, rfl, rfl, ?_⟩
            rw [ln]
            have wk2 : isName (c :: wd) = decide ((((c :: wd).length : Nat) : Int) < 21) := wk.trans (decide_eq_decide.mpr (by omega))
            refine ⟨_, _, rfl, .inr ⟨_, rfl, rfl⟩, ?_⟩
            rw [wk2]
            refine ⟨rfl, false, by simp, iteF ?_⟩
            exact ⟨_, _, _, _, _, _, _, _, rfl, done_ _ sA⟩
          · have h1' : decide (c ∈ [97, 98]) = false := h1
            rw [h1', Bool.false_and] at wk
            refine ⟨_, _, rfl, .inr ⟨_, rfl, rfl⟩, ?_⟩
            rw [wk]
            refine ⟨rfl, false, by simp, iteF ?_⟩
            exact ⟨_, _, _, _, _, _, _, _, rfl, done_ _ sA⟩
    · rintro σ H0 ⟨y1, y2, y3, y4, y5, y6, y7, y8, rfl, sm0⟩
      have ea : Str.ofString "a" = S [97] := by decide +kernel
      refine ⟨97, 21, by rw [ea], rfl, by decide, by decide, ?_⟩
      refine ⟨(by show 1 ≤ sizeLine; decide), fun p1 hp1 => ?_⟩
      refine ⟨(by show 1 ≤ sizeLine; decide), fun p2 hp2 => ?_⟩
      refine fun p3 hp3 => ?_
      refine ⟨(by show 16 ≤ sizeLine; decide), fun l hl => ?_⟩
      let xs : List V := [.non, .int 5, .str "", .str "A", .str "aB", .str "a b", .str "def", .str "fn", .str "none", .str (S (List.replicate 21 97)), .ref p1, .ref p2, .ref p3, .bl true, .str "a\n", .str "9a"]
      let HL : Hp := upd (upd (upd (upd H0 p1 (.lst [.str (Str.ofString "a")])) p2 (.tup [.str (Str.ofString "a")])) p3 (.dK [])) l (.lst xs)
      have q1 : HL p1 = some (.lst [.str (Str.ofString "a")]) := same_new hl _ _ (same_new hp3 _ _ (same_new hp2 _ _ upd_same))
      have q2 : HL p2 = some (.tup [.str (Str.ofString "a")]) := same_new hl _ _ (same_new hp3 _ _ upd_same)
      have q3 : HL p3 = some (.dK []) := same_new hl _ _ upd_same
      have q4 : HL l = some (.lst xs) := upd_same
      refine ⟨l, rfl, ⟨xs, .inl (.inl q4)⟩, ?_⟩
      refine for_it (walk_list (xs := xs)) (fun _ σ H' => ∃ y1 y2 y3 y4 y5 y6 y7 y8, σ = [some (.ref a), y1, y2, y3, y4, y5, y6, y7, y8] ∧ Same HL H') ⟨_, _, _, _, _, _, _, _, rfl, Same.refl _⟩ ?_ ?_ ?_
      · rintro i σ H1 _ ⟨_, _, _, _, _, _, _, _, _, sm⟩
        exact .inl (.inl (sm _ _ q4))
      · rintro i x σ H1 H2 hi ⟨y1, y2, y3, y4, y5, y6, y7, y8, rfl, sm⟩ ⟨e12, hx⟩
        subst e12
        have at_ : ∀ (Q : VK) (E : XK), (∀ H3, Same H2 H3 → Q (.bl false) H3) → spIN2 K [x] H2 Q E := by
          intro Q E q
          have txt : ∀ (z : Str) (y : List Nat), z = S y → y.length ≤ 5000 → isName y = false → spIN2 K [.str z] H2 Q E := fun z y e le no => Or.inl ⟨y, by rw [e], le, fun H3 s3 => by rw [no]; exact q H3 s3⟩
          have q0 : Q (.bl false) H2 := q H2 (Same.refl _)
          have hi8 : i < 16 := hi
          obtain rfl | rfl | rfl | rfl | rfl | rfl | rfl | rfl | rfl | rfl | rfl | rfl | rfl | rfl | rfl | rfl : i = 0 ∨ i = 1 ∨ i = 2 ∨ i = 3 ∨ i = 4 ∨ i = 5 ∨ i = 6 ∨ i = 7 ∨ i = 8 ∨ i = 9 ∨ i = 10 ∨ i = 11 ∨ i = 12 ∨ i = 13 ∨ i = 14 ∨ i = 15 := by omega
          · cases hx
            exact Or.inr ⟨_, _, rfl, .base .non, kit_ty (by decide +kernel), q0⟩
          · cases hx
            exact Or.inr ⟨_, _, rfl, .base (.int _), kit_ty (by decide +kernel), q0⟩
          · cases hx
            exact txt _ [] (by decide +kernel) (by decide) (by decide +kernel)
          · cases hx
            exact txt _ [65] (by decide +kernel) (by decide) (by decide +kernel)
          · cases hx
            exact txt _ [97, 66] (by decide +kernel) (by decide) (by decide +kernel)
          · cases hx
            exact txt _ [97, 32, 98] (by decide +kernel) (by decide) (by decide +kernel)
          · cases hx
            exact txt _ [100, 101, 102] (by decide +kernel) (by decide) (by decide +kernel)
          · cases hx
            exact txt _ [102, 110] (by decide +kernel) (by decide) (by decide +kernel)
          · cases hx
            exact txt _ [110, 111, 110, 101] (by decide +kernel) (by decide) (by decide +kernel)
          · cases hx
            exact txt _ (List.replicate 21 97) rfl (by decide) (by decide +kernel)
          · cases hx
            exact Or.inr ⟨_, _, rfl, .base (.lst (sm _ _ q1)), kit_ty (by decide +kernel), q0⟩
          · cases hx
            exact Or.inr ⟨_, _, rfl, .base (.tup (sm _ _ q2)), kit_ty (by decide +kernel), q0⟩
          · cases hx
            exact Or.inr ⟨_, _, rfl, .base (.dK (sm _ _ q3)), kit_ty (by decide +kernel), q0⟩
          · cases hx
            exact Or.inr ⟨_, _, rfl, .base (.bl _), kit_ty (by decide +kernel), q0⟩
          · cases hx
            exact txt _ [97, 10] (by decide +kernel) (by decide) (by decide +kernel)
          · cases hx
            exact txt _ [57, 97] (by decide +kernel) (by decide) (by decide +kernel)
        refine ⟨_, rfl, nil1 (at_ _ _ fun H3 sm3 => ?_)⟩
        refine ⟨false, false, rfl, rfl, _, rfl, iteF ?_⟩
        exact ⟨_, _, _, _, _, _, _, _, rfl, sm.trans sm3⟩
      · rintro σ H1 ⟨y1, y2, y3, y4, y5, y6, y7, y8, rfl, sm⟩
        have el : Str.ofString "len" = S [108, 101, 110] := by decide +kernel
        have es : Str.ofString "start" = S [115, 116, 97, 114, 116] := by decide +kernel
        have n1 : isName (List.replicate 20 97) = true := by decide +kernel
        have n2 : isName [108, 101, 110] = true := by decide +kernel
        have n3 : isName [115, 116, 97, 114, 116] = true := by decide +kernel
        refine ⟨97, 20, by rw [ea], rfl, by decide, by decide, Or.inl ⟨_, rfl, by decide, fun H2 s2 => ?_⟩⟩
        rw [n1]
        refine ⟨true, true, rfl, rfl, _, rfl, iteT ?_⟩
        refine Or.inl ⟨[108, 101, 110], by rw [el]; rfl, by decide, fun H3 s3 => ?_⟩
        rw [n2]
        refine ⟨true, true, rfl, rfl, _, rfl, iteT ?_⟩
        refine Or.inl ⟨[115, 116, 97, 114, 116], by rw [es]; rfl, by decide, fun H4 s4 => ?_⟩
        rw [n3]
        exact ⟨true, true, rfl, rfl, q _⟩
end
end KB
namespace HdF
open PySem PySem.Spec PyProof.Rows L2
section
variable {α : Type}
def fV (v : Value) (k : Value → α) : α := match v with
  | .ref a => HandSHeadRun.frNat a fun a => k (.ref a)
  | v => k v
theorem fV_eq (v : Value) (k : Value → α) : fV v k = k v := by
  cases v with
  | ref a => exact HandSHeadRun.frNat_eq a fun a => k (.ref a)
  | _ => rfl
def fVs : List Value → (List Value → α) → α
  | [], k => k []
  | v :: r, k => fV v fun v => fVs r fun r => k (v :: r)
theorem fVs_eq : ∀ (l : List Value) (k : List Value → α), fVs l k = k l
  | [], _ => rfl
  | v :: r, k => by
    show fV v (fun v => fVs r fun r => k (v :: r)) = _
    rw [fV_eq, fVs_eq r]
def fE : List DictEntry → (List DictEntry → α) → α
  | [], k => k []
  | ⟨h, key, v⟩ :: r, k => fV key fun key => fV v fun v => fE r fun r => k (⟨h, key, v⟩ :: r)
theorem fE_eq : ∀ (l : List DictEntry) (k : List DictEntry → α), fE l k = k l
  | [], _ => rfl
  | ⟨h, key, v⟩ :: r, k => by
    show fV key (fun key => fV v fun v => fE r fun r => k (⟨h, key, v⟩ :: r)) = _
    rw [fV_eq, fV_eq, fE_eq r]
def fD (dt : Data) (k : Data → α) : α := match dt with
  | .dict ⟨es⟩ n => fE es fun es => k (.dict ⟨es⟩ n)
  | .seq ⟨its⟩ n => fVs its fun its => k (.seq ⟨its⟩ n)
  | .fields ⟨vs⟩ => fVs vs fun vs => k (.fields ⟨vs⟩)
  | .cls ⟨nm, bs, mro, ns, qn, hd, sn, sub, ab, col, del⟩ => fVs mro fun mro => HandSHeadRun.frNat ns fun ns => k (.cls ⟨nm, bs, mro, ns, qn, hd, sn, sub, ab, col, del⟩)
  | .func ⟨a1, a2, a3, a4, a5, a6, a7, a8, a9, a10, a11, a12, a13, a14, a15⟩ => HandSHeadRun.frNat a6 fun a6 => fV a8 fun a8 => fV a13 fun a13 => HandSHeadRun.frNat a15 fun a15 => k (.func ⟨a1, a2, a3, a4, a5, a6, a7, a8, a9, a10, a11, a12, a13, a14, a15⟩)
  | dt => k dt
theorem fD_eq (dt : Data) (k : Data → α) : fD dt k = k dt := by
  cases dt with
  | dict es n =>
    obtain ⟨es⟩ := es
    exact fE_eq _ _
  | seq its n =>
    obtain ⟨its⟩ := its
    exact fVs_eq _ _
  | fields vs =>
    obtain ⟨vs⟩ := vs
    exact fVs_eq _ _
  | cls cd =>
    obtain ⟨nm, bs, mro, ns, qn, hd, sn, sub, ab, col, del⟩ := cd
    show fVs mro (fun mro => HandSHeadRun.frNat ns fun ns => k (.cls ⟨nm, bs, mro, ns, qn, hd, sn, sub, ab, col, del⟩)) = _
    rw [fVs_eq, HandSHeadRun.frNat_eq]
  | func fd =>
    obtain ⟨a1, a2, a3, a4, a5, a6, a7, a8, a9, a10, a11, a12, a13, a14, a15⟩ := fd
    show HandSHeadRun.frNat a6 (fun a6 => fV a8 fun a8 => fV a13 fun a13 => HandSHeadRun.frNat a15 fun a15 => k (.func ⟨a1, a2, a3, a4, a5, a6, a7, a8, a9, a10, a11, a12, a13, a14, a15⟩)) = _
    rw [HandSHeadRun.frNat_eq, fV_eq, fV_eq, HandSHeadRun.frNat_eq]
  | _ => rfl
def fO (o : Obj) (k : Obj → α) : α := match o with
  | ⟨c, d, dt, sl⟩ => fV c fun c => fD dt fun dt => k ⟨c, d, dt, sl⟩
theorem fO_eq (o : Obj) (k : Obj → α) : fO o k = k o := by
  obtain ⟨c, d, dt, sl⟩ := o
  show fV c (fun c => fD dt fun dt => k ⟨c, d, dt, sl⟩) = _
  rw [fV_eq, fD_eq]
def fK : List (Addr × Obj) → (List (Addr × Obj) → α) → α
  | [], k => k []
  | (a, o) :: r, k => HandSHeadRun.frNat a fun a => fO o fun o => fK r fun r => k ((a, o) :: r)
theorem fK_eq : ∀ (l : List (Addr × Obj)) (k : List (Addr × Obj) → α), fK l k = k l
  | [], _ => rfl
  | (a, o) :: r, k => by
    show HandSHeadRun.frNat a (fun a => fO o fun o => fK r fun r => k ((a, o) :: r)) = _
    rw [HandSHeadRun.frNat_eq, fO_eq, fK_eq r]
/-- the addresses among values -/
def fR : List Value → (List Addr → α) → α
  | [], k => k []
  | v :: r, k => (match v with
    | .ref a => HandSHeadRun.frNat a fun a => fR r fun l => k (a :: l)
    | _ => fR r k)
end
/-- what an object names: a def its code and defaults, a class its table, a table and a tuple their values -/
def nx (g : Addr → Option Obj) (a : Addr) : List Value := match g a with
  | some ⟨_, _, .func fd, _⟩ => [fd.code, fd.defaults]
  | some ⟨_, _, .cls cd, _⟩ => [.ref cd.ns]
  | some ⟨_, _, .dict es _, _⟩ => es.toList.map (·.val)
  | some ⟨_, _, .seq its _, _⟩ => its.toList
  | _ => []
/-- five steps from the module's names -/
def asY (g : Addr → Option Obj) : List Addr :=
  fR (nx g mainGlobals) fun l1 => fR (l1.flatMap (nx g)) fun l2 => fR (l2.flatMap (nx g)) fun l3 => fR (l3.flatMap (nx g)) fun l4 => fR (l4.flatMap (nx g)) fun l5 =>
    mainGlobals :: (l1 ++ (l2 ++ (l3 ++ (l4 ++ l5))))
abbrev AlY : Type := He.AlT × Bool
def obsY (fa : List He.Fa) (fn : List He.DefD) (ts : List He.Tab) (ex : PySem.W.Frag → Bool) (g : Addr → Option Obj) : AlY := fK (He.frG g (asY g)) fun K => (He.obsT fa fn ts K, ex K)
structure SaysY (fa : List He.Fa) (fn : List He.DefD) (ts : List He.Tab) (ex : PySem.W.Frag → Bool) (w : World) (K : PySem.W.Frag) : Prop where
  t : He.SaysT fa fn ts w K
  more : ex K = true
def hookY (fa : List He.Fa) (fn : List He.DefD) (ts : List He.Tab) (ex : PySem.W.Frag → Bool) : PySem.W.Hook where
  α := AlY
  obs := fun s => obsY fa fn ts ex s.heap.get?
  val := fun w => (He.valT fn ts w, true)
  says := fun w h => ∃ K : PySem.W.Frag, K.In h ∧ SaysY fa fn ts ex w K
  of := fun w s e => by
    have e1 : obsY fa fn ts ex s.heap.get? = (He.valT fn ts w, true) := e
    unfold obsY at e1
    rw [fK_eq] at e1
    exact ⟨He.frG s.heap.get? (asY s.heap.get?), He.frG_in, congrArg (fun z : AlY => z.1) e1, congrArg (fun z : AlY => z.2) e1⟩
  keeps := fun _ _ _ ⟨K, hK, c⟩ k => ⟨K, PySem.W.Frag.In.keeps hK k, c⟩
theorem obsY_eq {fa : List He.Fa} {fn : List He.DefD} {ts : List He.Tab} {ex : PySem.W.Frag → Bool} {g : Addr → Option Obj} {s : Shared} (h : ∀ a, g a = s.heap.get? a) : obsY fa fn ts ex g = (hookY fa fn ts ex).obs s := by
  have e : g = s.heap.get? := funext h
  rw [e] <;> rfl
end HdF
namespace KB
open PySem PySem.Spec PyProof.Rows L2
theorem strs_sigs : (["==", "<=", "(", ")", "[", "]", "{", "}", ",", ";", ":", ".", "=", "<", "+", "-", "*"] : List Str) = signsL.map S := by decide +kernel
theorem strs_wrds : (["import", "from", "as", "def", "class", "global", "nonlocal", "if", "else", "while", "for", "in", "return", "break", "continue", "pass", "and", "or", "not", "fn", "none", "true", "false"] : List Str) = wordsL.map S := by decide +kernel
theorem strs_opn : (["(", "[", "{"] : List Str) = openB.map S := by decide +kernel
theorem strs_clo : ([")", "]", "}"] : List Str) = closeB.map S := by decide +kernel
theorem strs_con : (["none", "true", "false"] : List Str) = constB.map S := by decide +kernel
theorem two_map (l : List (List Nat)) : (l.map fun s => V.str (S s)) = (l.map S).map V.str := by
  rw [List.map_map]
  rfl
abbrev sI1 : Stmt := inClass (topS 3) 0
theorem scI1 : FnScope ["self", "at"] ["self", "at"] (defScope sI1) := ⟨rfl, rfl, rfl, by decide +kernel, rfl, by decide +kernel, by decide +kernel⟩
section
variable {P : Program} {w : World} {K : PySem.W.Frag} {mg : Str → Option Value} {base : Heap}
theorem ok_i1 {C fI : Addr} {fd : FuncData} {k : Nat} (F : Fun K "__init__" "BadSyntax.__init__" sI1 fI fd) (X : ErT K mg "BadSyntax" ["at"] C fI) : FnOk P w K mg base CX0 (k + 1) fI fd ["self", "at"] (spI C 1 (look1 "at")) := by
  refine F.ok scI1 (fun vs H Q E h => ?_) (fun cdv A outer s H vs Q E hr h => ⟨_, pss_one (ps_ost (pv 0) (pv 1)), ?_⟩)
  · obtain ⟨a, xs, rfl, len, _⟩ := h
    simp [len]
  · obtain ⟨a, xs, rfl, len, ha, k⟩ := h
    obtain ⟨v, rfl⟩ := List.length_eq_one_iff.mp len
    exact ⟨_, rfl, _, rfl, a, C, rfl, X.T, X.no _ (by simp), .inl ⟨ha, fun dx n ne => fin1 k n ne⟩⟩
end
def levK : List Str := ["or", "and", "==", "<", "<=", "+", "-", "*"]
def levV : List (Str × He.Dv) := [("or", .int 1), ("and", .int 2), ("==", .int 4), ("<", .int 4), ("<=", .int 4), ("+", .int 5), ("-", .int 5), ("*", .int 6)]
theorem nsIn_no {K : PySem.W.Frag} {a : Addr} {es : Array DictEntry} {n : Nat} (l : K.lookup a = some ⟨.type "dict", none, .dict es n, #[]⟩) {P : Params} {ks : List Str} (e : es.toList.map He.keyOf = He.keysIn P ks) {k : Str} (hk : k ∉ ks) : PySem.W.nsIn K a k = some none := by
  have key : ∀ x ∈ es.toList, ∃ (y : Str) (t : Tok), x.key = .str y t ∧ y ∈ ks := fun x hx => by
    have h1 : He.keyOf x ∈ He.keysIn P ks := e ▸ List.mem_map_of_mem hx
    obtain ⟨y, hy, h2⟩ := List.mem_map.mp h1
    have h3 : He.keyOf x = some (y, PyData.keyHash P y) := h2.symm
    unfold He.keyOf at h3
    split at h3
    · rename_i z t q
      obtain ⟨h5, h6⟩ := Prod.mk.inj (Option.some.inj h3)
      exact ⟨z, t, q, h5 ▸ hy⟩
    · cases h3
  unfold PySem.W.nsIn
  rw [l]
  have f1 : es.toList.find? (·.key.isStr k) = none := List.find?_eq_none.mpr fun x hx z => by
    obtain ⟨y, t, h1, h2⟩ := key x hx
    rw [h1] at z
    have z2 : (y == k) = true := z
    rw [beq_iff_eq] at z2
    exact hk (z2 ▸ h2)
  have f2 : (es.toList.any fun x => x.refKey) = false := List.any_eq_false.mpr fun x hx z => by
    obtain ⟨y, t, h1, h2⟩ := key x hx
    unfold DictEntry.refKey at z
    rw [h1] at z
    cases z
  show (match es.toList.find? (·.key.isStr k) with
      | some e => some (some e.val)
      | none => if es.toList.any (·.refKey) then none else some none) = some none
  rw [f1]
  show (if (es.toList.any fun x => x.refKey) = true then none else some none) = some none
  rw [f2]
  rfl
theorem dicW_raw {K : PySem.W.Frag} {w : World} {a : Addr} {ks : List Str} (h : He.dicW K a = some (He.keysIn w.params ks)) : ∃ (es : Array DictEntry) (n : Nat), KDict K w a es n ∧ es.toList.map He.keyOf = He.keysIn w.params ks := by
  obtain ⟨es, n, D⟩ := He.dicW_ok h
  refine ⟨es, n, D, ?_⟩
  unfold He.dicW at h
  rw [D.at_] at h
  have h1 : (match decide (("dict" : String) = "dict") && ((#[] : Array (Option Value)).isEmpty && !(a == sysModules)) with
    | true => some (es.toList.map He.keyOf)
    | false => none) = some (He.keysIn w.params ks) := h
  rw [D.low] at h1
  exact Option.some.inj h1
theorem int_k {K : PySem.W.Frag} {x : Str} {i : Int} (c : (He.Fa.int x i).ok K = true) : ∃ t, PySem.W.nsIn K mainGlobals x = some (some (.int i t)) := by
  have c2 : (match PySem.W.nsIn K mainGlobals x with
    | some (some (.int j _)) => decide (j = i)
    | _ => false) = true := c
  cases e : PySem.W.nsIn K mainGlobals x with
  | none =>
    rw [e] at c2
    cases c2
  | some o =>
    rw [e] at c2
    cases o with
    | none => cases c2
    | some v =>
      cases v with
      | int j t =>
        have ej : j = i := of_decide_eq_true c2
        rw [ej]
        exact ⟨t, rfl⟩
      | _ => cases c2
theorem str_k {K : PySem.W.Frag} {x z : Str} (c : (He.Fa.str x z).ok K = true) : ∃ t, PySem.W.nsIn K mainGlobals x = some (some (.str z t)) := by
  have c2 : (match PySem.W.nsIn K mainGlobals x with
    | some (some (.str y _)) => decide (y = z)
    | _ => false) = true := c
  cases e : PySem.W.nsIn K mainGlobals x with
  | none =>
    rw [e] at c2
    cases c2
  | some o =>
    rw [e] at c2
    cases o with
    | none => cases c2
    | some v =>
      cases v with
      | str y t =>
        have ej : y = z := of_decide_eq_true c2
        rw [ej]
        exact ⟨t, rfl⟩
      | _ => cases c2
theorem fun_k {K : PySem.W.Frag} {d : He.DefD} (hd : d.dfl = []) (e : ∃ fd, FunD K d.name d.qual d.params d.body d.scope (d.dvs K) (d.kws K) (He.fAd K d.at_) fd) :
    ∃ (oc : Value) (od : Option Addr) (kV dc pm : Value) (an : Option Addr) (cd ct : Value) (sl : Array (Option Value)), K.lookup (He.fAd K d.at_) = some ⟨oc, od, .func (PySem.W.fnOf d.name d.qual d.params d.body d.scope .none kV dc pm an cd ct), sl⟩ ∧ PySem.W.codeIn K cd d.qual = true ∧ PySem.W.keepIn K (.ref (He.fAd K d.at_)) = true := by
  obtain ⟨fd, F⟩ := e
  obtain ⟨oc, od, dV, kV, doc, pm, an, cdv, ct, osl, efd, lk, hcd, hD, hK⟩ := F.ex
  have hz : d.dvs K = [] := by
    unfold He.DefD.dvs
    rw [hd]
    rfl
  rcases hD with ⟨_, rfl⟩ | ⟨ne, _⟩
  · subst efd
    exact ⟨oc, od, kV, doc, pm, an, cdv, ct, osl, lk, hcd, F.kp⟩
  · exact absurd hz ne
def oexB (K : PySem.W.Frag) (C : Addr) : Bool := match K.lookup C with
  | some ⟨.type t, _, .cls cd, sl⟩ => decide (t = "type") && (match cd.mro, sl.toList with
    | .ref C' :: bm, [_, _, _, _, some (.builtin n), _] => decide (C' = C) && (decide (n = "ValueError.__new__") && (cd.hasDict && (!cd.hasDel && PySem.HandSPX.refsVE bm)))
    | _, _ => false)
  | _ => false
theorem oexB_ok {K : PySem.W.Frag} {C : Addr} (q : oexB K C = true) : ∃ nm q N bs bm sn sub ab col dd k0 k1 k2 k3 k5, K.lookup C = some (excClassObj nm q C N bs bm true sn sub ab col dd k0 k1 k2 k3 k5 "ValueError.__new__") ∧ PySem.HandSPX.refsVE bm = true := by
  unfold oexB at q
  split at q
  · rename_i t dd cd sl ho
    obtain ⟨ht, q⟩ := He.ba q
    split at q
    · rename_i C' bm k0 k1 k2 k3 n k5 hm hs
      obtain ⟨q1, q⟩ := He.ba q
      obtain ⟨q2, q⟩ := He.ba q
      obtain ⟨q3, q⟩ := He.ba q
      obtain ⟨q4, q5⟩ := He.ba q
      have e1 := of_decide_eq_true q1
      have e2 := of_decide_eq_true q2
      have e0 := of_decide_eq_true ht
      subst e1 e2 e0
      obtain ⟨nm, bs, mro, ns, qn, hd, sn, sub, ab, col, del⟩ := cd
      dsimp only at hm q3 q4
      subst hm
      have e4 : del = false := by
        cases del with
        | false => rfl
        | true => cases q4
      subst q3 e4
      have hsl : sl = #[k0, k1, k2, k3, some (.builtin "ValueError.__new__"), k5] := by
        obtain ⟨l⟩ := sl
        simp only at hs
        rw [hs]
      subst hsl
      exact ⟨nm, qn, ns, bs, bm, sn, sub, ab, col, dd, k0, k1, k2, k3, k5, ho, q5⟩
    · cases q
  · cases q
def exB (K : PySem.W.Frag) (x : Str) : Bool := oexB K (He.ga K x) && (decide (PySem.W.findIn K (.ref (He.ga K x)) "__setattr__" = some (some (.builtin "object.__setattr__"))) && (decide (PySem.W.subIn K (.ref (He.ga K x)) (.type "BaseException") = some true) && (decide (PySem.W.typeIn K (.ref (He.ga K x)) = some (.type "type")) && (PySem.W.keepIn K (.ref (He.ga K x)) && (xfB K (He.ga K x) && (decide (PySem.W.findIn K (.ref (He.ga K x)) "at" = some none) && (decide (PySem.W.findIn K (.ref (He.ga K x)) "__init__" = some (some (.ref (He.ma K (He.ga K x) "__init__")))) && (decide (PySem.W.typeIn K (.ref (He.ma K (He.ga K x) "__init__")) = some (.type "function")) && decide (PySem.W.exmOne K (.ref (He.ga K x)) (.ref (He.ga K x)) = some true)))))))))
theorem exB_ok {K : PySem.W.Frag} {h : Heap} {mg : Str → Option Value} {x : Str} (X : K.In h) (G : h.Ns mainGlobals mg) (g : (He.Fa.glo x).ok K = true) (c : exB K x = true) : ErT K mg x ["at"] (He.ga K x) (He.ma K (He.ga K x) "__init__") := by
  obtain ⟨c1, c⟩ := He.ba c
  obtain ⟨c2, c⟩ := He.ba c
  obtain ⟨c3, c⟩ := He.ba c
  obtain ⟨c4, c⟩ := He.ba c
  obtain ⟨c5, c⟩ := He.ba c
  obtain ⟨c6, c⟩ := He.ba c
  obtain ⟨c7, c⟩ := He.ba c
  obtain ⟨c8, c⟩ := He.ba c
  obtain ⟨c9, c⟩ := He.ba c
  refine ⟨⟨oexB_ok c1, of_decide_eq_true c2, of_decide_eq_true c3, of_decide_eq_true c4, c5⟩, xfB_ok c6, He.glo_ok X G g, of_decide_eq_true c8, of_decide_eq_true c9, fun f hf => ?_, of_decide_eq_true c⟩
  simp only [List.mem_cons, List.not_mem_nil, or_false] at hf
  rw [hf]
  exact of_decide_eq_true c7
def emptyB (K : PySem.W.Frag) (a : Addr) : Bool := match K.lookup a with
  | some ⟨.type c, _, .seq its _, _⟩ => decide (c = "tuple") && its.isEmpty
  | _ => false
theorem emptyB_ok {K : PySem.W.Frag} {a : Addr} (h : emptyB K a = true) (H : Hp) : SqT K H a [] := by
  unfold emptyB at h
  split at h
  · rename_i c od its n sl q
    obtain ⟨h1, h2⟩ := He.ba h
    have e1 := of_decide_eq_true h1
    have e2 := Array.isEmpty_iff.mp h2
    subst e1 e2
    exact .inr ⟨_, _, _, q, rfl, rfl, (by show 0 ≤ sizeLine; decide), .nil⟩
  · cases h
def nodeB (K : PySem.W.Frag) (x : Str) (b : Bool) : Bool := decide (PySem.W.findIn K (.ref (He.ga K x)) "__class__" = some (some (.builtin "object.__class__"))) && (decide (PySem.W.mroIn K (He.ga K x) (.type "object") = some true) && decide (PySem.W.kitAny K (.ref (He.ga K x)) [.ref (He.ga K "Name"), .ref (He.ga K "Member")] = some b))
theorem nodeB_ok {K : PySem.W.Frag} {x : Str} {b : Bool} (h : nodeB K x b = true) : PySem.W.findIn K (.ref (He.ga K x)) "__class__" = some (some (.builtin "object.__class__")) ∧ PySem.W.mroIn K (He.ga K x) (.type "object") = some true ∧ PySem.W.kitAny K (.ref (He.ga K x)) [.ref (He.ga K "Name"), .ref (He.ga K "Member")] = some b := by
  obtain ⟨h1, h⟩ := He.ba h
  obtain ⟨h2, h3⟩ := He.ba h
  exact ⟨of_decide_eq_true h1, of_decide_eq_true h2, of_decide_eq_true h3⟩
theorem levD_of {K : PySem.W.Frag} {w : World} {a : Addr} (h : He.dicW K a = some (He.keysIn w.params levK)) (v : He.valsB K a levV = true) : LevD K w a := by
  obtain ⟨es, n, D, e⟩ := dicW_raw h
  refine ⟨es, n, D.at_, D.lit, D.low, fun k => ?_⟩
  have c0 : (Str.ofString "or" : Str) = S [111, 114] := by decide +kernel
  have c1 : (Str.ofString "and" : Str) = S [97, 110, 100] := by decide +kernel
  have c2 : (Str.ofString "==" : Str) = S [61, 61] := by decide +kernel
  have c3 : (Str.ofString "<" : Str) = S [60] := by decide +kernel
  have c4 : (Str.ofString "<=" : Str) = S [60, 61] := by decide +kernel
  have c5 : (Str.ofString "+" : Str) = S [43] := by decide +kernel
  have c6 : (Str.ofString "-" : Str) = S [45] := by decide +kernel
  have c7 : (Str.ofString "*" : Str) = S [42] := by decide +kernel
  by_cases h0 : [111, 114] = k
  · subst h0
    obtain ⟨u, e1, t, e2⟩ := He.valsB_ok v (q := ("or", .int 1)) (.head _)
    rw [e2] at e1
    refine .inr ⟨t, ?_⟩
    rw [← c0]
    exact e1
  by_cases h1 : [97, 110, 100] = k
  · subst h1
    obtain ⟨u, e1, t, e2⟩ := He.valsB_ok v (q := ("and", .int 2)) (.tail _ (.head _))
    rw [e2] at e1
    refine .inr ⟨t, ?_⟩
    rw [← c1]
    exact e1
  by_cases h2 : [61, 61] = k
  · subst h2
    obtain ⟨u, e1, t, e2⟩ := He.valsB_ok v (q := ("==", .int 4)) (.tail _ (.tail _ (.head _)))
    rw [e2] at e1
    refine .inr ⟨t, ?_⟩
    rw [← c2]
    exact e1
  by_cases h3 : [60] = k
  · subst h3
    obtain ⟨u, e1, t, e2⟩ := He.valsB_ok v (q := ("<", .int 4)) (.tail _ (.tail _ (.tail _ (.head _))))
    rw [e2] at e1
    refine .inr ⟨t, ?_⟩
    rw [← c3]
    exact e1
  by_cases h4 : [60, 61] = k
  · subst h4
    obtain ⟨u, e1, t, e2⟩ := He.valsB_ok v (q := ("<=", .int 4)) (.tail _ (.tail _ (.tail _ (.tail _ (.head _)))))
    rw [e2] at e1
    refine .inr ⟨t, ?_⟩
    rw [← c4]
    exact e1
  by_cases h5 : [43] = k
  · subst h5
    obtain ⟨u, e1, t, e2⟩ := He.valsB_ok v (q := ("+", .int 5)) (.tail _ (.tail _ (.tail _ (.tail _ (.tail _ (.head _))))))
    rw [e2] at e1
    refine .inr ⟨t, ?_⟩
    rw [← c5]
    exact e1
  by_cases h6 : [45] = k
  · subst h6
    obtain ⟨u, e1, t, e2⟩ := He.valsB_ok v (q := ("-", .int 5)) (.tail _ (.tail _ (.tail _ (.tail _ (.tail _ (.tail _ (.head _)))))))
    rw [e2] at e1
    refine .inr ⟨t, ?_⟩
    rw [← c6]
    exact e1
  by_cases h7 : [42] = k
  · subst h7
    obtain ⟨u, e1, t, e2⟩ := He.valsB_ok v (q := ("*", .int 6)) (.tail _ (.tail _ (.tail _ (.tail _ (.tail _ (.tail _ (.tail _ (.head _))))))))
    rw [e2] at e1
    refine .inr ⟨t, ?_⟩
    rw [← c7]
    exact e1
  refine .inl ⟨?_, ?_⟩
  · unfold level
    rw [if_neg (fun z => h0 z.symm), if_neg (fun z => h1 z.symm), if_neg (fun z => h2 z.symm), if_neg (fun z => h3 z.symm), if_neg (fun z => h4 z.symm), if_neg (fun z => h5 z.symm), if_neg (fun z => h6 z.symm), if_neg (fun z => h7 z.symm)]
  · refine nsIn_no D.at_ e fun m => ?_
    simp only [levK, List.mem_cons, List.not_mem_nil, or_false] at m
    rcases m with m | m | m | m | m | m | m | m
    · exact h0 (S_inj (m.trans c0)).symm
    · exact h1 (S_inj (m.trans c1)).symm
    · exact h2 (S_inj (m.trans c2)).symm
    · exact h3 (S_inj (m.trans c3)).symm
    · exact h4 (S_inj (m.trans c4)).symm
    · exact h5 (S_inj (m.trans c5)).symm
    · exact h6 (S_inj (m.trans c6)).symm
    · exact h7 (S_inj (m.trans c7)).symm
set_option maxHeartbeats 8000000 in
theorem all_mk {P : Program} {w : World} {K : PySem.W.Frag} {mg : Str → Option Value} {h : Heap} {fa : Addr}
    {CB : Addr}
    {fEB : Addr}
    {odEB anEB : Option Addr}
    {slEB : Array (Option Value)}
    {ocEB kVEB dcEB pmEB cdEB ctEB : Value}
    {CS : Addr}
    {fES : Addr}
    {odES anES : Option Addr}
    {slES : Array (Option Value)}
    {ocES kVES dcES pmES cdES ctES : Value}
    {fIN : Addr}
    {odIN anIN : Option Addr}
    {slIN : Array (Option Value)}
    {ocIN kVIN dcIN pmIN cdIN ctIN : Value}
    {fNU : Addr}
    {odNU anNU : Option Addr}
    {slNU : Array (Option Value)}
    {ocNU kVNU dcNU pmNU cdNU ctNU : Value}
    {fRE : Addr}
    {odRE anRE : Option Addr}
    {slRE : Array (Option Value)}
    {ocRE kVRE dcRE pmRE cdRE ctRE : Value}
    {fLE : Addr}
    {odLE anLE : Option Addr}
    {slLE : Array (Option Value)}
    {ocLE kVLE dcLE pmLE cdLE ctLE : Value}
    {fTE : Addr}
    {odTE anTE : Option Addr}
    {slTE : Array (Option Value)}
    {ocTE kVTE dcTE pmTE cdTE ctTE : Value}
    {fRK : Addr}
    {odRK anRK : Option Addr}
    {slRK : Array (Option Value)}
    {ocRK kVRK dcRK pmRK cdRK ctRK : Value}
    {fTO : Addr}
    {odTO anTO : Option Addr}
    {slTO : Array (Option Value)}
    {ocTO kVTO dcTO pmTO cdTO ctTO : Value}
    {fTK : Addr}
    {odTK anTK : Option Addr}
    {slTK : Array (Option Value)}
    {ocTK kVTK dcTK pmTK cdTK ctTK : Value}
    {fPool : Addr}
    {odPool anPool : Option Addr}
    {slPool : Array (Option Value)}
    {ocPool kVPool dcPool pmPool cdPool ctPool : Value}
    {fTake : Addr}
    {odTake anTake : Option Addr}
    {slTake : Array (Option Value)}
    {ocTake kVTake dcTake pmTake cdTake ctTake : Value}
    {fAt : Addr}
    {odAt anAt : Option Addr}
    {slAt : Array (Option Value)}
    {ocAt kVAt dcAt pmAt cdAt ctAt : Value}
    {fTl : Addr}
    {odTl anTl : Option Addr}
    {slTl : Array (Option Value)}
    {ocTl kVTl dcTl pmTl cdTl ctTl : Value}
    {fBo : Addr}
    {odBo anBo : Option Addr}
    {slBo : Array (Option Value)}
    {ocBo kVBo dcBo pmBo cdBo ctBo : Value}
    {fL : Addr}
    {odL anL : Option Addr}
    {slL : Array (Option Value)}
    {ocL kVL dcL pmL cdL ctL : Value}
    {frE : Addr}
    {odrE anrE : Option Addr}
    {slrE : Array (Option Value)}
    {ocrE kVrE dcrE pmrE cdrE ctrE : Value}
    {frRT : Addr}
    {odrRT anrRT : Option Addr}
    {slrRT : Array (Option Value)}
    {ocrRT kVrRT dcrRT pmrRT cdrRT ctrRT : Value}
    {frIT : Addr}
    {odrIT anrIT : Option Addr}
    {slrIT : Array (Option Value)}
    {ocrIT kVrIT dcrIT pmrIT cdrIT ctrIT : Value}
    {frPS : Addr}
    {odrPS anrPS : Option Addr}
    {slrPS : Array (Option Value)}
    {ocrPS kVrPS dcrPS pmrPS cdrPS ctrPS : Value}
    {frPM : Addr}
    {odrPM anrPM : Option Addr}
    {slrPM : Array (Option Value)}
    {ocrPM kVrPM dcrPM pmrPM cdrPM ctrPM : Value}
    {frFN : Addr}
    {odrFN anrFN : Option Addr}
    {slrFN : Array (Option Value)}
    {ocrFN kVrFN dcrFN pmrFN cdrFN ctrFN : Value}
    {frSG : Addr}
    {odrSG anrSG : Option Addr}
    {slrSG : Array (Option Value)}
    {ocrSG kVrSG dcrSG pmrSG cdrSG ctrSG : Value}
    {frAH : Addr}
    {odrAH anrAH : Option Addr}
    {slrAH : Array (Option Value)}
    {ocrAH kVrAH dcrAH pmrAH cdrAH ctrAH : Value}
    {frCL : Addr}
    {odrCL anrCL : Option Addr}
    {slrCL : Array (Option Value)}
    {ocrCL kVrCL dcrCL pmrCL cdrCL ctrCL : Value}
    {frAS : Addr}
    {odrAS anrAS : Option Addr}
    {slrAS : Array (Option Value)}
    {ocrAS kVrAS dcrAS pmrAS cdrAS ctrAS : Value}
    {frAR : Addr}
    {odrAR anrAR : Option Addr}
    {slrAR : Array (Option Value)}
    {ocrAR kVrAR dcrAR pmrAR cdrAR ctrAR : Value}
    {frSI : Addr}
    {odrSI anrSI : Option Addr}
    {slrSI : Array (Option Value)}
    {ocrSI kVrSI dcrSI pmrSI cdrSI ctrSI : Value}
    {frLI : Addr}
    {odrLI anrLI : Option Addr}
    {slrLI : Array (Option Value)}
    {ocrLI kVrLI dcrLI pmrLI cdrLI ctrLI : Value}
    {frCO : Addr}
    {odrCO anrCO : Option Addr}
    {slrCO : Array (Option Value)}
    {ocrCO kVrCO dcrCO pmrCO cdrCO ctrCO : Value}
    {frMO : Addr}
    {odrMO anrMO : Option Addr}
    {slrMO : Array (Option Value)}
    {ocrMO kVrMO dcrMO pmrMO cdrMO ctrMO : Value}
    {frTO1 : Addr}
    {odrTO1 anrTO1 : Option Addr}
    {slrTO1 : Array (Option Value)}
    {ocrTO1 kVrTO1 dcrTO1 pmrTO1 cdrTO1 ctrTO1 : Value}
    {frDA : Addr}
    {odrDA anrDA : Option Addr}
    {slrDA : Array (Option Value)}
    {ocrDA kVrDA dcrDA pmrDA cdrDA ctrDA : Value}
    {frRS : Addr}
    {odrRS anrRS : Option Addr}
    {slrRS : Array (Option Value)}
    {ocrRS kVrRS dcrRS pmrRS cdrRS ctrRS : Value}
    {frIM : Addr}
    {odrIM anrIM : Option Addr}
    {slrIM : Array (Option Value)}
    {ocrIM kVrIM dcrIM pmrIM cdrIM ctrIM : Value}
    {frAL : Addr}
    {odrAL anrAL : Option Addr}
    {slrAL : Array (Option Value)}
    {ocrAL kVrAL dcrAL pmrAL cdrAL ctrAL : Value}
    {frFR : Addr}
    {odrFR anrFR : Option Addr}
    {slrFR : Array (Option Value)}
    {ocrFR kVrFR dcrFR pmrFR cdrFR ctrFR : Value}
    {frIS : Addr}
    {odrIS anrIS : Option Addr}
    {slrIS : Array (Option Value)}
    {ocrIS kVrIS dcrIS pmrIS cdrIS ctrIS : Value}
    {frII : Addr}
    {odrII anrII : Option Addr}
    {slrII : Array (Option Value)}
    {ocrII kVrII dcrII pmrII cdrII ctrII : Value}
    {frCC : Addr}
    {odrCC anrCC : Option Addr}
    {slrCC : Array (Option Value)}
    {ocrCC kVrCC dcrCC pmrCC cdrCC ctrCC : Value}
    {frDE : Addr}
    {odrDE anrDE : Option Addr}
    {slrDE : Array (Option Value)}
    {ocrDE kVrDE dcrDE pmrDE cdrDE ctrDE : Value}
    {frBL : Addr}
    {odrBL anrBL : Option Addr}
    {slrBL : Array (Option Value)}
    {ocrBL kVrBL dcrBL pmrBL cdrBL ctrBL : Value}
    {frSS : Addr}
    {odrSS anrSS : Option Addr}
    {slrSS : Array (Option Value)}
    {ocrSS kVrSS dcrSS pmrSS cdrSS ctrSS : Value}
    {frIF : Addr}
    {odrIF anrIF : Option Addr}
    {slrIF : Array (Option Value)}
    {ocrIF kVrIF dcrIF pmrIF cdrIF ctrIF : Value}
    {frWH : Addr}
    {odrWH anrWH : Option Addr}
    {slrWH : Array (Option Value)}
    {ocrWH kVrWH dcrWH pmrWH cdrWH ctrWH : Value}
    {frFO : Addr}
    {odrFO anrFO : Option Addr}
    {slrFO : Array (Option Value)}
    {ocrFO kVrFO dcrFO pmrFO cdrFO ctrFO : Value}
    {frRE1 : Addr}
    {odrRE1 anrRE1 : Option Addr}
    {slrRE1 : Array (Option Value)}
    {ocrRE1 kVrRE1 dcrRE1 pmrRE1 cdrRE1 ctrRE1 : Value}
    {frON : Addr}
    {odrON anrON : Option Addr}
    {slrON : Array (Option Value)}
    {ocrON kVrON dcrON pmrON cdrON ctrON : Value}
    {frAE : Addr}
    {odrAE anrAE : Option Addr}
    {slrAE : Array (Option Value)}
    {ocrAE kVrAE dcrAE pmrAE cdrAE ctrAE : Value}
    {frCS1 : Addr}
    {odrCS1 anrCS1 : Option Addr}
    {slrCS1 : Array (Option Value)}
    {ocrCS1 kVrCS1 dcrCS1 pmrCS1 cdrCS1 ctrCS1 : Value}
    {aS aW aO aC aK aL aE : Addr}
    {tkLETTERS : Tok}
    {tkDIGITS : Tok}
    {tkRUN : Tok}
    {tkBLANKS : Tok}
    {tkLONGEST_NAME : Tok}
    {tkLONGEST_NUMBER : Tok}
    {tkLONGEST_TEXT : Tok}
    {tkLONGEST_PROGRAM : Tok}
    {tkMOST_OPEN : Tok}
    {tkMOST_TOKENS : Tok}
    {tkPLAIN : Tok}
    {tkSTILL : Tok}
    {tkFREE : Tok}
    {tkLOOSEST : Tok}
    {tkNOT_LEVEL : Tok}
    {tkCOMPARISON : Tok}
    {tkCLOSEST : Tok}
    {cCursor : Addr}
    {fmCI : Addr}
    {odmCI anmCI : Option Addr}
    {slmCI : Array (Option Value)}
    {ocmCI kVmCI dcmCI pmmCI cdmCI ctmCI : Value}
    {fmNT : Addr}
    {fdmNT : FuncData}
    {fmNK : Addr}
    {odmNK anmNK : Option Addr}
    {slmNK : Array (Option Value)}
    {ocmNK kVmNK dcmNK pmmNK cdmNK ctmNK : Value}
    {fmNS : Addr}
    {odmNS anmNS : Option Addr}
    {slmNS : Array (Option Value)}
    {ocmNS kVmNS dcmNS pmmNS cdmNS ctmNS : Value}
    {fmRF : Addr}
    {odmRF anmRF : Option Addr}
    {slmRF : Array (Option Value)}
    {ocmRF kVmRF dcmRF pmmRF cdmRF ctmRF : Value}
    {fmTA : Addr}
    {odmTA anmTA : Option Addr}
    {slmTA : Array (Option Value)}
    {ocmTA kVmTA dcmTA pmmTA cdmTA ctmTA : Value}
    {fmIB : Addr}
    {odmIB anmIB : Option Addr}
    {slmIB : Array (Option Value)}
    {ocmIB kVmIB dcmIB pmmIB cdmIB ctmIB : Value}
    {fmEX : Addr}
    {odmEX anmEX : Option Addr}
    {slmEX : Array (Option Value)}
    {ocmEX kVmEX dcmEX pmmEX cdmEX ctmEX : Value}
    {fmTI : Addr}
    {odmTI anmTI : Option Addr}
    {slmTI : Array (Option Value)}
    {ocmTI kVmTI dcmTI pmmTI cdmTI ctmTI : Value}
    {fmTN : Addr}
    {fdmTN : FuncData}
    {fmBE : Addr}
    {odmBE anmBE : Option Addr}
    {slmBE : Array (Option Value)}
    {ocmBE kVmBE dcmBE pmmBE cdmBE ctmBE : Value}
    {fmEE : Addr}
    {odmEE anmEE : Option Addr}
    {slmEE : Array (Option Value)}
    {ocmEE kVmEE dcmEE pmmEE cdmEE ctmEE : Value}
    {fmBI : Addr}
    {odmBI anmBI : Option Addr}
    {slmBI : Array (Option Value)}
    {ocmBI kVmBI dcmBI pmmBI cdmBI ctmBI : Value}
    {fmEI : Addr}
    {odmEI anmEI : Option Addr}
    {slmEI : Array (Option Value)}
    {ocmEI kVmEI dcmEI pmmEI cdmEI ctmEI : Value}
    {cName : Addr}
    {fiName : Addr}
    {odiName aniName : Option Addr}
    {sliName : Array (Option Value)}
    {ociName kViName dciName pmiName cdiName ctiName : Value}
    {cLiteral : Addr}
    {fiLiteral : Addr}
    {odiLiteral aniLiteral : Option Addr}
    {sliLiteral : Array (Option Value)}
    {ociLiteral kViLiteral dciLiteral pmiLiteral cdiLiteral ctiLiteral : Value}
    {cGroup : Addr}
    {fiGroup : Addr}
    {odiGroup aniGroup : Option Addr}
    {sliGroup : Array (Option Value)}
    {ociGroup kViGroup dciGroup pmiGroup cdiGroup ctiGroup : Value}
    {cListing : Addr}
    {fiListing : Addr}
    {odiListing aniListing : Option Addr}
    {sliListing : Array (Option Value)}
    {ociListing kViListing dciListing pmiListing cdiListing ctiListing : Value}
    {cComprehension : Addr}
    {fiComprehension : Addr}
    {odiComprehension aniComprehension : Option Addr}
    {sliComprehension : Array (Option Value)}
    {ociComprehension kViComprehension dciComprehension pmiComprehension cdiComprehension ctiComprehension : Value}
    {cMember : Addr}
    {fiMember : Addr}
    {odiMember aniMember : Option Addr}
    {sliMember : Array (Option Value)}
    {ociMember kViMember dciMember pmiMember cdiMember ctiMember : Value}
    {cIndex : Addr}
    {fiIndex : Addr}
    {odiIndex aniIndex : Option Addr}
    {sliIndex : Array (Option Value)}
    {ociIndex kViIndex dciIndex pmiIndex cdiIndex ctiIndex : Value}
    {cArgument : Addr}
    {fiArgument : Addr}
    {odiArgument aniArgument : Option Addr}
    {sliArgument : Array (Option Value)}
    {ociArgument kViArgument dciArgument pmiArgument cdiArgument ctiArgument : Value}
    {cCall : Addr}
    {fiCall : Addr}
    {odiCall aniCall : Option Addr}
    {sliCall : Array (Option Value)}
    {ociCall kViCall dciCall pmiCall cdiCall ctiCall : Value}
    {cUnary : Addr}
    {fiUnary : Addr}
    {odiUnary aniUnary : Option Addr}
    {sliUnary : Array (Option Value)}
    {ociUnary kViUnary dciUnary pmiUnary cdiUnary ctiUnary : Value}
    {cBinary : Addr}
    {fiBinary : Addr}
    {odiBinary aniBinary : Option Addr}
    {sliBinary : Array (Option Value)}
    {ociBinary kViBinary dciBinary pmiBinary cdiBinary ctiBinary : Value}
    {cParameter : Addr}
    {fiParameter : Addr}
    {odiParameter aniParameter : Option Addr}
    {sliParameter : Array (Option Value)}
    {ociParameter kViParameter dciParameter pmiParameter cdiParameter ctiParameter : Value}
    {cFn : Addr}
    {fiFn : Addr}
    {odiFn aniFn : Option Addr}
    {sliFn : Array (Option Value)}
    {ociFn kViFn dciFn pmiFn cdiFn ctiFn : Value}
    {cImport : Addr}
    {fiImport : Addr}
    {odiImport aniImport : Option Addr}
    {sliImport : Array (Option Value)}
    {ociImport kViImport dciImport pmiImport cdiImport ctiImport : Value}
    {cImportItem : Addr}
    {fiImportItem : Addr}
    {odiImportItem aniImportItem : Option Addr}
    {sliImportItem : Array (Option Value)}
    {ociImportItem kViImportItem dciImportItem pmiImportItem cdiImportItem ctiImportItem : Value}
    {cFromImport : Addr}
    {fiFromImport : Addr}
    {odiFromImport aniFromImport : Option Addr}
    {sliFromImport : Array (Option Value)}
    {ociFromImport kViFromImport dciFromImport pmiFromImport cdiFromImport ctiFromImport : Value}
    {cAssignment : Addr}
    {fiAssignment : Addr}
    {odiAssignment aniAssignment : Option Addr}
    {sliAssignment : Array (Option Value)}
    {ociAssignment kViAssignment dciAssignment pmiAssignment cdiAssignment ctiAssignment : Value}
    {cDef : Addr}
    {fiDef : Addr}
    {odiDef aniDef : Option Addr}
    {sliDef : Array (Option Value)}
    {ociDef kViDef dciDef pmiDef cdiDef ctiDef : Value}
    {cClassBlock : Addr}
    {fiClassBlock : Addr}
    {odiClassBlock aniClassBlock : Option Addr}
    {sliClassBlock : Array (Option Value)}
    {ociClassBlock kViClassBlock dciClassBlock pmiClassBlock cdiClassBlock ctiClassBlock : Value}
    {cOuterNames : Addr}
    {fiOuterNames : Addr}
    {odiOuterNames aniOuterNames : Option Addr}
    {sliOuterNames : Array (Option Value)}
    {ociOuterNames kViOuterNames dciOuterNames pmiOuterNames cdiOuterNames ctiOuterNames : Value}
    {cIf : Addr}
    {fiIf : Addr}
    {odiIf aniIf : Option Addr}
    {sliIf : Array (Option Value)}
    {ociIf kViIf dciIf pmiIf cdiIf ctiIf : Value}
    {cWhile : Addr}
    {fiWhile : Addr}
    {odiWhile aniWhile : Option Addr}
    {sliWhile : Array (Option Value)}
    {ociWhile kViWhile dciWhile pmiWhile cdiWhile ctiWhile : Value}
    {cFor : Addr}
    {fiFor : Addr}
    {odiFor aniFor : Option Addr}
    {sliFor : Array (Option Value)}
    {ociFor kViFor dciFor pmiFor cdiFor ctiFor : Value}
    {cReturn : Addr}
    {fiReturn : Addr}
    {odiReturn aniReturn : Option Addr}
    {sliReturn : Array (Option Value)}
    {ociReturn kViReturn dciReturn pmiReturn cdiReturn ctiReturn : Value}
    {cWordAlone : Addr}
    {fiWordAlone : Addr}
    {odiWordAlone aniWordAlone : Option Addr}
    {sliWordAlone : Array (Option Value)}
    {ociWordAlone kViWordAlone dciWordAlone pmiWordAlone cdiWordAlone ctiWordAlone : Value}
    {cEvaluation : Addr}
    {fiEvaluation : Addr}
    {odiEvaluation aniEvaluation : Option Addr}
    {sliEvaluation : Array (Option Value)}
    {ociEvaluation kViEvaluation dciEvaluation pmiEvaluation cdiEvaluation ctiEvaluation : Value}
    (X : K.In h) (G : h.Ns mainGlobals mg) (hfa : mg "law" = some (.ref fa)) (aL_ : PySem.W.nsIn K mainGlobals "law" = some (some (.ref fL)))
    (lEB_ : K.lookup fEB = some ⟨ocEB, odEB, .func (PySem.W.fnOf "__init__" "BadText.__init__" (defArgs sI0) (defBody sI0) (defScope sI0) .none kVEB dcEB pmEB anEB cdEB ctEB), slEB⟩)
    (cEB_ : PySem.W.codeIn K cdEB "BadText.__init__" = true)
    (kEB_ : PySem.W.keepIn K (.ref fEB) = true)
    (EB : ErT K mg "BadText" ["at"] CB fEB)
    (lES_ : K.lookup fES = some ⟨ocES, odES, .func (PySem.W.fnOf "__init__" "BadSyntax.__init__" (defArgs sI1) (defBody sI1) (defScope sI1) .none kVES dcES pmES anES cdES ctES), slES⟩)
    (cES_ : PySem.W.codeIn K cdES "BadSyntax.__init__" = true)
    (kES_ : PySem.W.keepIn K (.ref fES) = true)
    (ES : ErT K mg "BadSyntax" ["at"] CS fES)
    (apart : PySem.W.exmOne K (.ref CS) (.ref CB) = some false)
    (aIN_ : PySem.W.nsIn K mainGlobals "is_name" = some (some (.ref fIN)))
    (lIN_ : K.lookup fIN = some ⟨ocIN, odIN, .func (PySem.W.fnOf "is_name" "is_name" (defArgs sIN) (defBody sIN) (defScope sIN) .none kVIN dcIN pmIN anIN cdIN ctIN), slIN⟩)
    (cIN_ : PySem.W.codeIn K cdIN "is_name" = true)
    (kIN_ : PySem.W.keepIn K (.ref fIN) = true)
    (aNU_ : PySem.W.nsIn K mainGlobals "_is_number" = some (some (.ref fNU)))
    (lNU_ : K.lookup fNU = some ⟨ocNU, odNU, .func (PySem.W.fnOf "_is_number" "_is_number" (defArgs sNU) (defBody sNU) (defScope sNU) .none kVNU dcNU pmNU anNU cdNU ctNU), slNU⟩)
    (cNU_ : PySem.W.codeIn K cdNU "_is_number" = true)
    (kNU_ : PySem.W.keepIn K (.ref fNU) = true)
    (aRE_ : PySem.W.nsIn K mainGlobals "_run_end" = some (some (.ref fRE)))
    (lRE_ : K.lookup fRE = some ⟨ocRE, odRE, .func (PySem.W.fnOf "_run_end" "_run_end" (defArgs sRE) (defBody sRE) (defScope sRE) .none kVRE dcRE pmRE anRE cdRE ctRE), slRE⟩)
    (cRE_ : PySem.W.codeIn K cdRE "_run_end" = true)
    (kRE_ : PySem.W.keepIn K (.ref fRE) = true)
    (aLE_ : PySem.W.nsIn K mainGlobals "_line_end" = some (some (.ref fLE)))
    (lLE_ : K.lookup fLE = some ⟨ocLE, odLE, .func (PySem.W.fnOf "_line_end" "_line_end" (defArgs sLE) (defBody sLE) (defScope sLE) .none kVLE dcLE pmLE anLE cdLE ctLE), slLE⟩)
    (cLE_ : PySem.W.codeIn K cdLE "_line_end" = true)
    (kLE_ : PySem.W.keepIn K (.ref fLE) = true)
    (aTE_ : PySem.W.nsIn K mainGlobals "_text_end" = some (some (.ref fTE)))
    (lTE_ : K.lookup fTE = some ⟨ocTE, odTE, .func (PySem.W.fnOf "_text_end" "_text_end" (defArgs sTE) (defBody sTE) (defScope sTE) .none kVTE dcTE pmTE anTE cdTE ctTE), slTE⟩)
    (cTE_ : PySem.W.codeIn K cdTE "_text_end" = true)
    (kTE_ : PySem.W.keepIn K (.ref fTE) = true)
    (aRK_ : PySem.W.nsIn K mainGlobals "_run_kind" = some (some (.ref fRK)))
    (lRK_ : K.lookup fRK = some ⟨ocRK, odRK, .func (PySem.W.fnOf "_run_kind" "_run_kind" (defArgs sRK) (defBody sRK) (defScope sRK) .none kVRK dcRK pmRK anRK cdRK ctRK), slRK⟩)
    (cRK_ : PySem.W.codeIn K cdRK "_run_kind" = true)
    (kRK_ : PySem.W.keepIn K (.ref fRK) = true)
    (aTO_ : PySem.W.nsIn K mainGlobals "_token" = some (some (.ref fTO)))
    (lTO_ : K.lookup fTO = some ⟨ocTO, odTO, .func (PySem.W.fnOf "_token" "_token" (defArgs sTO) (defBody sTO) (defScope sTO) .none kVTO dcTO pmTO anTO cdTO ctTO), slTO⟩)
    (cTO_ : PySem.W.codeIn K cdTO "_token" = true)
    (kTO_ : PySem.W.keepIn K (.ref fTO) = true)
    (aTK_ : PySem.W.nsIn K mainGlobals "tokens" = some (some (.ref fTK)))
    (lTK_ : K.lookup fTK = some ⟨ocTK, odTK, .func (PySem.W.fnOf "tokens" "tokens" (defArgs sTK) (defBody sTK) (defScope sTK) .none kVTK dcTK pmTK anTK cdTK ctTK), slTK⟩)
    (cTK_ : PySem.W.codeIn K cdTK "tokens" = true)
    (kTK_ : PySem.W.keepIn K (.ref fTK) = true)
    (aPool_ : PySem.W.nsIn K mainGlobals "_law_pool" = some (some (.ref fPool)))
    (lPool_ : K.lookup fPool = some ⟨ocPool, odPool, .func (PySem.W.fnOf "_law_pool" "_law_pool" (defArgs sPool) (defBody sPool) (defScope sPool) .none kVPool dcPool pmPool anPool cdPool ctPool), slPool⟩)
    (cPool_ : PySem.W.codeIn K cdPool "_law_pool" = true)
    (kPool_ : PySem.W.keepIn K (.ref fPool) = true)
    (aTake_ : PySem.W.nsIn K mainGlobals "_law_take" = some (some (.ref fTake)))
    (lTake_ : K.lookup fTake = some ⟨ocTake, odTake, .func (PySem.W.fnOf "_law_take" "_law_take" (defArgs sTake) (defBody sTake) (defScope sTake) .none kVTake dcTake pmTake anTake cdTake ctTake), slTake⟩)
    (cTake_ : PySem.W.codeIn K cdTake "_law_take" = true)
    (kTake_ : PySem.W.keepIn K (.ref fTake) = true)
    (aAt_ : PySem.W.nsIn K mainGlobals "_law_at" = some (some (.ref fAt)))
    (lAt_ : K.lookup fAt = some ⟨ocAt, odAt, .func (PySem.W.fnOf "_law_at" "_law_at" (defArgs sAt) (defBody sAt) (defScope sAt) .none kVAt dcAt pmAt anAt cdAt ctAt), slAt⟩)
    (cAt_ : PySem.W.codeIn K cdAt "_law_at" = true)
    (kAt_ : PySem.W.keepIn K (.ref fAt) = true)
    (aTl_ : PySem.W.nsIn K mainGlobals "_law_tails" = some (some (.ref fTl)))
    (lTl_ : K.lookup fTl = some ⟨ocTl, odTl, .func (PySem.W.fnOf "_law_tails" "_law_tails" (defArgs sTails) (defBody sTails) (defScope sTails) .none kVTl dcTl pmTl anTl cdTl ctTl), slTl⟩)
    (cTl_ : PySem.W.codeIn K cdTl "_law_tails" = true)
    (kTl_ : PySem.W.keepIn K (.ref fTl) = true)
    (aBo_ : PySem.W.nsIn K mainGlobals "_law_bodies" = some (some (.ref fBo)))
    (lBo_ : K.lookup fBo = some ⟨ocBo, odBo, .func (PySem.W.fnOf "_law_bodies" "_law_bodies" (defArgs sBodies) (defBody sBodies) (defScope sBodies) .none kVBo dcBo pmBo anBo cdBo ctBo), slBo⟩)
    (cBo_ : PySem.W.codeIn K cdBo "_law_bodies" = true)
    (kBo_ : PySem.W.keepIn K (.ref fBo) = true)
    (lL_ : K.lookup fL = some ⟨ocL, odL, .func (PySem.W.fnOf "law" "law" (defArgs sLaw) (defBody sLaw) (defScope sLaw) .none kVL dcL pmL anL cdL ctL), slL⟩)
    (cL_ : PySem.W.codeIn K cdL "law" = true)
    (kL_ : PySem.W.keepIn K (.ref fL) = true)
    (arE_ : PySem.W.nsIn K mainGlobals "read_expression" = some (some (.ref frE)))
    (lrE_ : K.lookup frE = some ⟨ocrE, odrE, .func (PySem.W.fnOf "read_expression" "read_expression" (defArgs sE_) (defBody sE_) (defScope sE_) .none kVrE dcrE pmrE anrE cdrE ctrE), slrE⟩)
    (crE_ : PySem.W.codeIn K cdrE "read_expression" = true)
    (krE_ : PySem.W.keepIn K (.ref frE) = true)
    (arRT_ : PySem.W.nsIn K mainGlobals "read_target" = some (some (.ref frRT)))
    (lrRT_ : K.lookup frRT = some ⟨ocrRT, odrRT, .func (PySem.W.fnOf "read_target" "read_target" (defArgs sRT) (defBody sRT) (defScope sRT) .none kVrRT dcrRT pmrRT anrRT cdrRT ctrRT), slrRT⟩)
    (crRT_ : PySem.W.codeIn K cdrRT "read_target" = true)
    (krRT_ : PySem.W.keepIn K (.ref frRT) = true)
    (arIT_ : PySem.W.nsIn K mainGlobals "is_target" = some (some (.ref frIT)))
    (lrIT_ : K.lookup frIT = some ⟨ocrIT, odrIT, .func (PySem.W.fnOf "is_target" "is_target" (defArgs sIT) (defBody sIT) (defScope sIT) .none kVrIT dcrIT pmrIT anrIT cdrIT ctrIT), slrIT⟩)
    (crIT_ : PySem.W.codeIn K cdrIT "is_target" = true)
    (krIT_ : PySem.W.keepIn K (.ref frIT) = true)
    (arPS_ : PySem.W.nsIn K mainGlobals "read_parameters" = some (some (.ref frPS)))
    (lrPS_ : K.lookup frPS = some ⟨ocrPS, odrPS, .func (PySem.W.fnOf "read_parameters" "read_parameters" (defArgs sPS) (defBody sPS) (defScope sPS) .none kVrPS dcrPS pmrPS anrPS cdrPS ctrPS), slrPS⟩)
    (crPS_ : PySem.W.codeIn K cdrPS "read_parameters" = true)
    (krPS_ : PySem.W.keepIn K (.ref frPS) = true)
    (arPM_ : PySem.W.nsIn K mainGlobals "_read_parameter" = some (some (.ref frPM)))
    (lrPM_ : K.lookup frPM = some ⟨ocrPM, odrPM, .func (PySem.W.fnOf "_read_parameter" "_read_parameter" (defArgs sPM) (defBody sPM) (defScope sPM) .none kVrPM dcrPM pmrPM anrPM cdrPM ctrPM), slrPM⟩)
    (crPM_ : PySem.W.codeIn K cdrPM "_read_parameter" = true)
    (krPM_ : PySem.W.keepIn K (.ref frPM) = true)
    (arFN_ : PySem.W.nsIn K mainGlobals "_read_fn" = some (some (.ref frFN)))
    (lrFN_ : K.lookup frFN = some ⟨ocrFN, odrFN, .func (PySem.W.fnOf "_read_fn" "_read_fn" (defArgs sFN) (defBody sFN) (defScope sFN) .none kVrFN dcrFN pmrFN anrFN cdrFN ctrFN), slrFN⟩)
    (crFN_ : PySem.W.codeIn K cdrFN "_read_fn" = true)
    (krFN_ : PySem.W.keepIn K (.ref frFN) = true)
    (arSG_ : PySem.W.nsIn K mainGlobals "_read_signs" = some (some (.ref frSG)))
    (lrSG_ : K.lookup frSG = some ⟨ocrSG, odrSG, .func (PySem.W.fnOf "_read_signs" "_read_signs" (defArgs sSG) (defBody sSG) (defScope sSG) .none kVrSG dcrSG pmrSG anrSG cdrSG ctrSG), slrSG⟩)
    (crSG_ : PySem.W.codeIn K cdrSG "_read_signs" = true)
    (krSG_ : PySem.W.keepIn K (.ref frSG) = true)
    (arAH_ : PySem.W.nsIn K mainGlobals "_read_ahead" = some (some (.ref frAH)))
    (lrAH_ : K.lookup frAH = some ⟨ocrAH, odrAH, .func (PySem.W.fnOf "_read_ahead" "_read_ahead" (defArgs sAH) (defBody sAH) (defScope sAH) .none kVrAH dcrAH pmrAH anrAH cdrAH ctrAH), slrAH⟩)
    (crAH_ : PySem.W.codeIn K cdrAH "_read_ahead" = true)
    (krAH_ : PySem.W.keepIn K (.ref frAH) = true)
    (arCL_ : PySem.W.nsIn K mainGlobals "_read_call" = some (some (.ref frCL)))
    (lrCL_ : K.lookup frCL = some ⟨ocrCL, odrCL, .func (PySem.W.fnOf "_read_call" "_read_call" (defArgs sCL) (defBody sCL) (defScope sCL) .none kVrCL dcrCL pmrCL anrCL cdrCL ctrCL), slrCL⟩)
    (crCL_ : PySem.W.codeIn K cdrCL "_read_call" = true)
    (krCL_ : PySem.W.keepIn K (.ref frCL) = true)
    (arAS_ : PySem.W.nsIn K mainGlobals "_read_arguments" = some (some (.ref frAS)))
    (lrAS_ : K.lookup frAS = some ⟨ocrAS, odrAS, .func (PySem.W.fnOf "_read_arguments" "_read_arguments" (defArgs sAS) (defBody sAS) (defScope sAS) .none kVrAS dcrAS pmrAS anrAS cdrAS ctrAS), slrAS⟩)
    (crAS_ : PySem.W.codeIn K cdrAS "_read_arguments" = true)
    (krAS_ : PySem.W.keepIn K (.ref frAS) = true)
    (arAR_ : PySem.W.nsIn K mainGlobals "_read_argument" = some (some (.ref frAR)))
    (lrAR_ : K.lookup frAR = some ⟨ocrAR, odrAR, .func (PySem.W.fnOf "_read_argument" "_read_argument" (defArgs sAR) (defBody sAR) (defScope sAR) .none kVrAR dcrAR pmrAR anrAR cdrAR ctrAR), slrAR⟩)
    (crAR_ : PySem.W.codeIn K cdrAR "_read_argument" = true)
    (krAR_ : PySem.W.keepIn K (.ref frAR) = true)
    (arSI_ : PySem.W.nsIn K mainGlobals "_read_single" = some (some (.ref frSI)))
    (lrSI_ : K.lookup frSI = some ⟨ocrSI, odrSI, .func (PySem.W.fnOf "_read_single" "_read_single" (defArgs sSI) (defBody sSI) (defScope sSI) .none kVrSI dcrSI pmrSI anrSI cdrSI ctrSI), slrSI⟩)
    (crSI_ : PySem.W.codeIn K cdrSI "_read_single" = true)
    (krSI_ : PySem.W.keepIn K (.ref frSI) = true)
    (arLI_ : PySem.W.nsIn K mainGlobals "_read_list" = some (some (.ref frLI)))
    (lrLI_ : K.lookup frLI = some ⟨ocrLI, odrLI, .func (PySem.W.fnOf "_read_list" "_read_list" (defArgs sLI) (defBody sLI) (defScope sLI) .none kVrLI dcrLI pmrLI anrLI cdrLI ctrLI), slrLI⟩)
    (crLI_ : PySem.W.codeIn K cdrLI "_read_list" = true)
    (krLI_ : PySem.W.keepIn K (.ref frLI) = true)
    (arCO_ : PySem.W.nsIn K mainGlobals "_read_comprehension" = some (some (.ref frCO)))
    (lrCO_ : K.lookup frCO = some ⟨ocrCO, odrCO, .func (PySem.W.fnOf "_read_comprehension" "_read_comprehension" (defArgs sCO) (defBody sCO) (defScope sCO) .none kVrCO dcrCO pmrCO anrCO cdrCO ctrCO), slrCO⟩)
    (crCO_ : PySem.W.codeIn K cdrCO "_read_comprehension" = true)
    (krCO_ : PySem.W.keepIn K (.ref frCO) = true)
    (arMO_ : PySem.W.nsIn K mainGlobals "read_module" = some (some (.ref frMO)))
    (lrMO_ : K.lookup frMO = some ⟨ocrMO, odrMO, .func (PySem.W.fnOf "read_module" "read_module" (defArgs sMO) (defBody sMO) (defScope sMO) .none kVrMO dcrMO pmrMO anrMO cdrMO ctrMO), slrMO⟩)
    (crMO_ : PySem.W.codeIn K cdrMO "read_module" = true)
    (krMO_ : PySem.W.keepIn K (.ref frMO) = true)
    (arTO1_ : PySem.W.nsIn K mainGlobals "_read_top" = some (some (.ref frTO1)))
    (lrTO1_ : K.lookup frTO1 = some ⟨ocrTO1, odrTO1, .func (PySem.W.fnOf "_read_top" "_read_top" (defArgs sTO1) (defBody sTO1) (defScope sTO1) .none kVrTO1 dcrTO1 pmrTO1 anrTO1 cdrTO1 ctrTO1), slrTO1⟩)
    (crTO1_ : PySem.W.codeIn K cdrTO1 "_read_top" = true)
    (krTO1_ : PySem.W.keepIn K (.ref frTO1) = true)
    (arDA_ : PySem.W.nsIn K mainGlobals "_read_def_or_assignment" = some (some (.ref frDA)))
    (lrDA_ : K.lookup frDA = some ⟨ocrDA, odrDA, .func (PySem.W.fnOf "_read_def_or_assignment" "_read_def_or_assignment" (defArgs sDA) (defBody sDA) (defScope sDA) .none kVrDA dcrDA pmrDA anrDA cdrDA ctrDA), slrDA⟩)
    (crDA_ : PySem.W.codeIn K cdrDA "_read_def_or_assignment" = true)
    (krDA_ : PySem.W.keepIn K (.ref frDA) = true)
    (arRS_ : PySem.W.nsIn K mainGlobals "_read_right_side" = some (some (.ref frRS)))
    (lrRS_ : K.lookup frRS = some ⟨ocrRS, odrRS, .func (PySem.W.fnOf "_read_right_side" "_read_right_side" (defArgs sRS) (defBody sRS) (defScope sRS) .none kVrRS dcrRS pmrRS anrRS cdrRS ctrRS), slrRS⟩)
    (crRS_ : PySem.W.codeIn K cdrRS "_read_right_side" = true)
    (krRS_ : PySem.W.keepIn K (.ref frRS) = true)
    (arIM_ : PySem.W.nsIn K mainGlobals "_read_import" = some (some (.ref frIM)))
    (lrIM_ : K.lookup frIM = some ⟨ocrIM, odrIM, .func (PySem.W.fnOf "_read_import" "_read_import" (defArgs sIM) (defBody sIM) (defScope sIM) .none kVrIM dcrIM pmrIM anrIM cdrIM ctrIM), slrIM⟩)
    (crIM_ : PySem.W.codeIn K cdrIM "_read_import" = true)
    (krIM_ : PySem.W.keepIn K (.ref frIM) = true)
    (arAL_ : PySem.W.nsIn K mainGlobals "_read_alias" = some (some (.ref frAL)))
    (lrAL_ : K.lookup frAL = some ⟨ocrAL, odrAL, .func (PySem.W.fnOf "_read_alias" "_read_alias" (defArgs sAL) (defBody sAL) (defScope sAL) .none kVrAL dcrAL pmrAL anrAL cdrAL ctrAL), slrAL⟩)
    (crAL_ : PySem.W.codeIn K cdrAL "_read_alias" = true)
    (krAL_ : PySem.W.keepIn K (.ref frAL) = true)
    (arFR_ : PySem.W.nsIn K mainGlobals "_read_from" = some (some (.ref frFR)))
    (lrFR_ : K.lookup frFR = some ⟨ocrFR, odrFR, .func (PySem.W.fnOf "_read_from" "_read_from" (defArgs sFR) (defBody sFR) (defScope sFR) .none kVrFR dcrFR pmrFR anrFR cdrFR ctrFR), slrFR⟩)
    (crFR_ : PySem.W.codeIn K cdrFR "_read_from" = true)
    (krFR_ : PySem.W.keepIn K (.ref frFR) = true)
    (arIS_ : PySem.W.nsIn K mainGlobals "_read_items" = some (some (.ref frIS)))
    (lrIS_ : K.lookup frIS = some ⟨ocrIS, odrIS, .func (PySem.W.fnOf "_read_items" "_read_items" (defArgs sIS) (defBody sIS) (defScope sIS) .none kVrIS dcrIS pmrIS anrIS cdrIS ctrIS), slrIS⟩)
    (crIS_ : PySem.W.codeIn K cdrIS "_read_items" = true)
    (krIS_ : PySem.W.keepIn K (.ref frIS) = true)
    (arII_ : PySem.W.nsIn K mainGlobals "_read_item" = some (some (.ref frII)))
    (lrII_ : K.lookup frII = some ⟨ocrII, odrII, .func (PySem.W.fnOf "_read_item" "_read_item" (defArgs sII) (defBody sII) (defScope sII) .none kVrII dcrII pmrII anrII cdrII ctrII), slrII⟩)
    (crII_ : PySem.W.codeIn K cdrII "_read_item" = true)
    (krII_ : PySem.W.keepIn K (.ref frII) = true)
    (arCC_ : PySem.W.nsIn K mainGlobals "_read_class" = some (some (.ref frCC)))
    (lrCC_ : K.lookup frCC = some ⟨ocrCC, odrCC, .func (PySem.W.fnOf "_read_class" "_read_class" (defArgs sCC) (defBody sCC) (defScope sCC) .none kVrCC dcrCC pmrCC anrCC cdrCC ctrCC), slrCC⟩)
    (crCC_ : PySem.W.codeIn K cdrCC "_read_class" = true)
    (krCC_ : PySem.W.keepIn K (.ref frCC) = true)
    (arDE_ : PySem.W.nsIn K mainGlobals "_read_def" = some (some (.ref frDE)))
    (lrDE_ : K.lookup frDE = some ⟨ocrDE, odrDE, .func (PySem.W.fnOf "_read_def" "_read_def" (defArgs sDE) (defBody sDE) (defScope sDE) .none kVrDE dcrDE pmrDE anrDE cdrDE ctrDE), slrDE⟩)
    (crDE_ : PySem.W.codeIn K cdrDE "_read_def" = true)
    (krDE_ : PySem.W.keepIn K (.ref frDE) = true)
    (arBL_ : PySem.W.nsIn K mainGlobals "_read_block" = some (some (.ref frBL)))
    (lrBL_ : K.lookup frBL = some ⟨ocrBL, odrBL, .func (PySem.W.fnOf "_read_block" "_read_block" (defArgs sBL) (defBody sBL) (defScope sBL) .none kVrBL dcrBL pmrBL anrBL cdrBL ctrBL), slrBL⟩)
    (crBL_ : PySem.W.codeIn K cdrBL "_read_block" = true)
    (krBL_ : PySem.W.keepIn K (.ref frBL) = true)
    (arSS_ : PySem.W.nsIn K mainGlobals "_read_statement" = some (some (.ref frSS)))
    (lrSS_ : K.lookup frSS = some ⟨ocrSS, odrSS, .func (PySem.W.fnOf "_read_statement" "_read_statement" (defArgs sSS) (defBody sSS) (defScope sSS) .none kVrSS dcrSS pmrSS anrSS cdrSS ctrSS), slrSS⟩)
    (crSS_ : PySem.W.codeIn K cdrSS "_read_statement" = true)
    (krSS_ : PySem.W.keepIn K (.ref frSS) = true)
    (arIF_ : PySem.W.nsIn K mainGlobals "_read_if" = some (some (.ref frIF)))
    (lrIF_ : K.lookup frIF = some ⟨ocrIF, odrIF, .func (PySem.W.fnOf "_read_if" "_read_if" (defArgs sIF) (defBody sIF) (defScope sIF) .none kVrIF dcrIF pmrIF anrIF cdrIF ctrIF), slrIF⟩)
    (crIF_ : PySem.W.codeIn K cdrIF "_read_if" = true)
    (krIF_ : PySem.W.keepIn K (.ref frIF) = true)
    (arWH_ : PySem.W.nsIn K mainGlobals "_read_while" = some (some (.ref frWH)))
    (lrWH_ : K.lookup frWH = some ⟨ocrWH, odrWH, .func (PySem.W.fnOf "_read_while" "_read_while" (defArgs sWH) (defBody sWH) (defScope sWH) .none kVrWH dcrWH pmrWH anrWH cdrWH ctrWH), slrWH⟩)
    (crWH_ : PySem.W.codeIn K cdrWH "_read_while" = true)
    (krWH_ : PySem.W.keepIn K (.ref frWH) = true)
    (arFO_ : PySem.W.nsIn K mainGlobals "_read_for" = some (some (.ref frFO)))
    (lrFO_ : K.lookup frFO = some ⟨ocrFO, odrFO, .func (PySem.W.fnOf "_read_for" "_read_for" (defArgs sFO) (defBody sFO) (defScope sFO) .none kVrFO dcrFO pmrFO anrFO cdrFO ctrFO), slrFO⟩)
    (crFO_ : PySem.W.codeIn K cdrFO "_read_for" = true)
    (krFO_ : PySem.W.keepIn K (.ref frFO) = true)
    (arRE1_ : PySem.W.nsIn K mainGlobals "_read_return" = some (some (.ref frRE1)))
    (lrRE1_ : K.lookup frRE1 = some ⟨ocrRE1, odrRE1, .func (PySem.W.fnOf "_read_return" "_read_return" (defArgs sRE1) (defBody sRE1) (defScope sRE1) .none kVrRE1 dcrRE1 pmrRE1 anrRE1 cdrRE1 ctrRE1), slrRE1⟩)
    (crRE1_ : PySem.W.codeIn K cdrRE1 "_read_return" = true)
    (krRE1_ : PySem.W.keepIn K (.ref frRE1) = true)
    (arON_ : PySem.W.nsIn K mainGlobals "_read_outer_names" = some (some (.ref frON)))
    (lrON_ : K.lookup frON = some ⟨ocrON, odrON, .func (PySem.W.fnOf "_read_outer_names" "_read_outer_names" (defArgs sON) (defBody sON) (defScope sON) .none kVrON dcrON pmrON anrON cdrON ctrON), slrON⟩)
    (crON_ : PySem.W.codeIn K cdrON "_read_outer_names" = true)
    (krON_ : PySem.W.keepIn K (.ref frON) = true)
    (arAE_ : PySem.W.nsIn K mainGlobals "_read_assignment_or_evaluation" = some (some (.ref frAE)))
    (lrAE_ : K.lookup frAE = some ⟨ocrAE, odrAE, .func (PySem.W.fnOf "_read_assignment_or_evaluation" "_read_assignment_or_evaluation" (defArgs sAE) (defBody sAE) (defScope sAE) .none kVrAE dcrAE pmrAE anrAE cdrAE ctrAE), slrAE⟩)
    (crAE_ : PySem.W.codeIn K cdrAE "_read_assignment_or_evaluation" = true)
    (krAE_ : PySem.W.keepIn K (.ref frAE) = true)
    (arCS1_ : PySem.W.nsIn K mainGlobals "check_syntax" = some (some (.ref frCS1)))
    (lrCS1_ : K.lookup frCS1 = some ⟨ocrCS1, odrCS1, .func (PySem.W.fnOf "check_syntax" "check_syntax" (defArgs sCS1) (defBody sCS1) (defScope sCS1) .none kVrCS1 dcrCS1 pmrCS1 anrCS1 cdrCS1 ctrCS1), slrCS1⟩)
    (crCS1_ : PySem.W.codeIn K cdrCS1 "check_syntax" = true)
    (krCS1_ : PySem.W.keepIn K (.ref frCS1) = true)
    (g_LETTERS : PySem.W.nsIn K mainGlobals "LETTERS" = some (some (.str "abcdefghijklmnopqrstuvwxyz" tkLETTERS)))
    (g_DIGITS : PySem.W.nsIn K mainGlobals "DIGITS" = some (some (.str "0123456789" tkDIGITS)))
    (g_RUN : PySem.W.nsIn K mainGlobals "RUN" = some (some (.str "abcdefghijklmnopqrstuvwxyz0123456789_" tkRUN)))
    (g_BLANKS : PySem.W.nsIn K mainGlobals "BLANKS" = some (some (.str " \n" tkBLANKS)))
    (g_LONGEST_NAME : PySem.W.nsIn K mainGlobals "LONGEST_NAME" = some (some (.int 20 tkLONGEST_NAME)))
    (g_LONGEST_NUMBER : PySem.W.nsIn K mainGlobals "LONGEST_NUMBER" = some (some (.int 18 tkLONGEST_NUMBER)))
    (g_LONGEST_TEXT : PySem.W.nsIn K mainGlobals "LONGEST_TEXT" = some (some (.int 40 tkLONGEST_TEXT)))
    (g_LONGEST_PROGRAM : PySem.W.nsIn K mainGlobals "LONGEST_PROGRAM" = some (some (.int 5000 tkLONGEST_PROGRAM)))
    (g_MOST_OPEN : PySem.W.nsIn K mainGlobals "MOST_OPEN" = some (some (.int 30 tkMOST_OPEN)))
    (g_MOST_TOKENS : PySem.W.nsIn K mainGlobals "MOST_TOKENS" = some (some (.int 100 tkMOST_TOKENS)))
    (g_PLAIN : PySem.W.nsIn K mainGlobals "PLAIN" = some (some (.int 0 tkPLAIN)))
    (g_STILL : PySem.W.nsIn K mainGlobals "STILL" = some (some (.int 1 tkSTILL)))
    (g_FREE : PySem.W.nsIn K mainGlobals "FREE" = some (some (.int 2 tkFREE)))
    (g_LOOSEST : PySem.W.nsIn K mainGlobals "LOOSEST" = some (some (.int 1 tkLOOSEST)))
    (g_NOT_LEVEL : PySem.W.nsIn K mainGlobals "NOT_LEVEL" = some (some (.int 3 tkNOT_LEVEL)))
    (g_COMPARISON : PySem.W.nsIn K mainGlobals "COMPARISON" = some (some (.int 4 tkCOMPARISON)))
    (g_CLOSEST : PySem.W.nsIn K mainGlobals "CLOSEST" = some (some (.int 6 tkCLOSEST)))
    (g_SIGNS : PySem.W.nsIn K mainGlobals "SIGNS" = some (some (.ref aS)))
    (l_SIGNS : ∀ H, SqT K H aS [.str "==", .str "<=", .str "(", .str ")", .str "[", .str "]", .str "{", .str "}", .str ",", .str ";", .str ":", .str ".", .str "=", .str "<", .str "+", .str "-", .str "*"])
    (g_WORDS : PySem.W.nsIn K mainGlobals "WORDS" = some (some (.ref aW)))
    (l_WORDS : ∀ H, SqT K H aW [.str "import", .str "from", .str "as", .str "def", .str "class", .str "global", .str "nonlocal", .str "if", .str "else", .str "while", .str "for", .str "in", .str "return", .str "break", .str "continue", .str "pass", .str "and", .str "or", .str "not", .str "fn", .str "none", .str "true", .str "false"])
    (g_OPENING : PySem.W.nsIn K mainGlobals "OPENING" = some (some (.ref aO)))
    (l_OPENING : ∀ H, SqT K H aO [.str "(", .str "[", .str "{"])
    (g_CLOSING : PySem.W.nsIn K mainGlobals "CLOSING" = some (some (.ref aC)))
    (l_CLOSING : ∀ H, SqT K H aC [.str ")", .str "]", .str "}"])
    (g_CONSTANTS : PySem.W.nsIn K mainGlobals "CONSTANTS" = some (some (.ref aK)))
    (l_CONSTANTS : ∀ H, SqT K H aK [.str "none", .str "true", .str "false"])
    (g_LEVELS : PySem.W.nsIn K mainGlobals "LEVELS" = some (some (.ref aL)))
    (lev_ : LevD K w aL)
    (z_range : PySem.W.nsIn K mainGlobals "range" = some none)
    (z_max : PySem.W.nsIn K mainGlobals "max" = some none)
    (z_min : PySem.W.nsIn K mainGlobals "min" = some none)
    (z_len : PySem.W.nsIn K mainGlobals "len" = some none)
    (z_abs : PySem.W.nsIn K mainGlobals "abs" = some none)
    (z_int : PySem.W.nsIn K mainGlobals "int" = some none)
    (z_isinstance : PySem.W.nsIn K mainGlobals "isinstance" = some none)
    (z_repr : PySem.W.nsIn K mainGlobals "repr" = some none)
    (z_str : PySem.W.nsIn K mainGlobals "str" = some none)
    (z_all : PySem.W.nsIn K mainGlobals "all" = some none)
    (z_reversed : PySem.W.nsIn K mainGlobals "reversed" = some none)
    (gCursor : PySem.W.nsIn K mainGlobals "Cursor" = some (some (.ref cCursor)))
    (pgCursor : PySem.W.plainGet K cCursor Str.empty = true)
    (hdCursor : PySem.W.hasDictIn K cCursor = true)
    (poCursor : PySem.W.plainOver K cCursor = true)
    (saCursor : PySem.W.findIn K (.ref cCursor) "__setattr__" = some (some (.builtin "object.__setattr__")))
    (mkCursor : PySem.W.makesIn K cCursor = true)
    (kcCursor : PySem.W.keepIn K (.ref cCursor) = true)
    (noCursor_end : PySem.W.findIn K (.ref cCursor) "end" = some none)
    (noCursor__tokens : PySem.W.findIn K (.ref cCursor) "_tokens" = some none)
    (noCursor__length : PySem.W.findIn K (.ref cCursor) "_length" = some none)
    (noCursor__at : PySem.W.findIn K (.ref cCursor) "_at" = some none)
    (noCursor__opened : PySem.W.findIn K (.ref cCursor) "_opened" = some none)
    (noCursor__first : PySem.W.findIn K (.ref cCursor) "_first" = some none)
    (atCI : PySem.W.findIn K (.ref cCursor) "__init__" = some (some (.ref fmCI)))
    (lmCI_ : K.lookup fmCI = some ⟨ocmCI, odmCI, .func (PySem.W.fnOf "__init__" "Cursor.__init__" (defArgs sCI) (defBody sCI) (defScope sCI) .none kVmCI dcmCI pmmCI anmCI cdmCI ctmCI), slmCI⟩)
    (cmCI_ : PySem.W.codeIn K cdmCI "Cursor.__init__" = true)
    (kmCI_ : PySem.W.keepIn K (.ref fmCI) = true)
    (fnCI : PySem.W.isFn K (.ref fmCI) = true)
    (atNT : PySem.W.findIn K (.ref cCursor) "next_text" = some (some (.ref fmNT)))
    (FmNT : FunD K "next_text" "Cursor.next_text" (defArgs sNT) (defBody sNT) (defScope sNT) [.int 0] [] fmNT fdmNT)
    (fnNT : PySem.W.isFn K (.ref fmNT) = true)
    (atNK : PySem.W.findIn K (.ref cCursor) "next_kind" = some (some (.ref fmNK)))
    (lmNK_ : K.lookup fmNK = some ⟨ocmNK, odmNK, .func (PySem.W.fnOf "next_kind" "Cursor.next_kind" (defArgs sNK) (defBody sNK) (defScope sNK) .none kVmNK dcmNK pmmNK anmNK cdmNK ctmNK), slmNK⟩)
    (cmNK_ : PySem.W.codeIn K cdmNK "Cursor.next_kind" = true)
    (kmNK_ : PySem.W.keepIn K (.ref fmNK) = true)
    (fnNK : PySem.W.isFn K (.ref fmNK) = true)
    (atNS : PySem.W.findIn K (.ref cCursor) "next_start" = some (some (.ref fmNS)))
    (lmNS_ : K.lookup fmNS = some ⟨ocmNS, odmNS, .func (PySem.W.fnOf "next_start" "Cursor.next_start" (defArgs sNS) (defBody sNS) (defScope sNS) .none kVmNS dcmNS pmmNS anmNS cdmNS ctmNS), slmNS⟩)
    (cmNS_ : PySem.W.codeIn K cdmNS "Cursor.next_start" = true)
    (kmNS_ : PySem.W.keepIn K (.ref fmNS) = true)
    (fnNS : PySem.W.isFn K (.ref fmNS) = true)
    (atRF : PySem.W.findIn K (.ref cCursor) "refuse" = some (some (.ref fmRF)))
    (lmRF_ : K.lookup fmRF = some ⟨ocmRF, odmRF, .func (PySem.W.fnOf "refuse" "Cursor.refuse" (defArgs sRF) (defBody sRF) (defScope sRF) .none kVmRF dcmRF pmmRF anmRF cdmRF ctmRF), slmRF⟩)
    (cmRF_ : PySem.W.codeIn K cdmRF "Cursor.refuse" = true)
    (kmRF_ : PySem.W.keepIn K (.ref fmRF) = true)
    (fnRF : PySem.W.isFn K (.ref fmRF) = true)
    (atTA : PySem.W.findIn K (.ref cCursor) "take" = some (some (.ref fmTA)))
    (lmTA_ : K.lookup fmTA = some ⟨ocmTA, odmTA, .func (PySem.W.fnOf "take" "Cursor.take" (defArgs sTA) (defBody sTA) (defScope sTA) .none kVmTA dcmTA pmmTA anmTA cdmTA ctmTA), slmTA⟩)
    (cmTA_ : PySem.W.codeIn K cdmTA "Cursor.take" = true)
    (kmTA_ : PySem.W.keepIn K (.ref fmTA) = true)
    (fnTA : PySem.W.isFn K (.ref fmTA) = true)
    (atIB : PySem.W.findIn K (.ref cCursor) "_is_beyond" = some (some (.ref fmIB)))
    (lmIB_ : K.lookup fmIB = some ⟨ocmIB, odmIB, .func (PySem.W.fnOf "_is_beyond" "Cursor._is_beyond" (defArgs sIB) (defBody sIB) (defScope sIB) .none kVmIB dcmIB pmmIB anmIB cdmIB ctmIB), slmIB⟩)
    (cmIB_ : PySem.W.codeIn K cdmIB "Cursor._is_beyond" = true)
    (kmIB_ : PySem.W.keepIn K (.ref fmIB) = true)
    (fnIB : PySem.W.isFn K (.ref fmIB) = true)
    (atEX : PySem.W.findIn K (.ref cCursor) "expect" = some (some (.ref fmEX)))
    (lmEX_ : K.lookup fmEX = some ⟨ocmEX, odmEX, .func (PySem.W.fnOf "expect" "Cursor.expect" (defArgs sEX) (defBody sEX) (defScope sEX) .none kVmEX dcmEX pmmEX anmEX cdmEX ctmEX), slmEX⟩)
    (cmEX_ : PySem.W.codeIn K cdmEX "Cursor.expect" = true)
    (kmEX_ : PySem.W.keepIn K (.ref fmEX) = true)
    (fnEX : PySem.W.isFn K (.ref fmEX) = true)
    (atTI : PySem.W.findIn K (.ref cCursor) "take_if" = some (some (.ref fmTI)))
    (lmTI_ : K.lookup fmTI = some ⟨ocmTI, odmTI, .func (PySem.W.fnOf "take_if" "Cursor.take_if" (defArgs sTI) (defBody sTI) (defScope sTI) .none kVmTI dcmTI pmmTI anmTI cdmTI ctmTI), slmTI⟩)
    (cmTI_ : PySem.W.codeIn K cdmTI "Cursor.take_if" = true)
    (kmTI_ : PySem.W.keepIn K (.ref fmTI) = true)
    (fnTI : PySem.W.isFn K (.ref fmTI) = true)
    (atTN : PySem.W.findIn K (.ref cCursor) "take_name" = some (some (.ref fmTN)))
    (FmTN : FunD K "take_name" "Cursor.take_name" (defArgs sTN) (defBody sTN) (defScope sTN) [.ref aE] [] fmTN fdmTN)
    (fnTN : PySem.W.isFn K (.ref fmTN) = true)
    (atBE : PySem.W.findIn K (.ref cCursor) "begin_expression" = some (some (.ref fmBE)))
    (lmBE_ : K.lookup fmBE = some ⟨ocmBE, odmBE, .func (PySem.W.fnOf "begin_expression" "Cursor.begin_expression" (defArgs sBE) (defBody sBE) (defScope sBE) .none kVmBE dcmBE pmmBE anmBE cdmBE ctmBE), slmBE⟩)
    (cmBE_ : PySem.W.codeIn K cdmBE "Cursor.begin_expression" = true)
    (kmBE_ : PySem.W.keepIn K (.ref fmBE) = true)
    (fnBE : PySem.W.isFn K (.ref fmBE) = true)
    (atEE : PySem.W.findIn K (.ref cCursor) "end_expression" = some (some (.ref fmEE)))
    (lmEE_ : K.lookup fmEE = some ⟨ocmEE, odmEE, .func (PySem.W.fnOf "end_expression" "Cursor.end_expression" (defArgs sEE) (defBody sEE) (defScope sEE) .none kVmEE dcmEE pmmEE anmEE cdmEE ctmEE), slmEE⟩)
    (cmEE_ : PySem.W.codeIn K cdmEE "Cursor.end_expression" = true)
    (kmEE_ : PySem.W.keepIn K (.ref fmEE) = true)
    (fnEE : PySem.W.isFn K (.ref fmEE) = true)
    (atBI : PySem.W.findIn K (.ref cCursor) "begin_else_if" = some (some (.ref fmBI)))
    (lmBI_ : K.lookup fmBI = some ⟨ocmBI, odmBI, .func (PySem.W.fnOf "begin_else_if" "Cursor.begin_else_if" (defArgs sBI) (defBody sBI) (defScope sBI) .none kVmBI dcmBI pmmBI anmBI cdmBI ctmBI), slmBI⟩)
    (cmBI_ : PySem.W.codeIn K cdmBI "Cursor.begin_else_if" = true)
    (kmBI_ : PySem.W.keepIn K (.ref fmBI) = true)
    (fnBI : PySem.W.isFn K (.ref fmBI) = true)
    (atEI : PySem.W.findIn K (.ref cCursor) "end_else_if" = some (some (.ref fmEI)))
    (lmEI_ : K.lookup fmEI = some ⟨ocmEI, odmEI, .func (PySem.W.fnOf "end_else_if" "Cursor.end_else_if" (defArgs sEI) (defBody sEI) (defScope sEI) .none kVmEI dcmEI pmmEI anmEI cdmEI ctmEI), slmEI⟩)
    (cmEI_ : PySem.W.codeIn K cdmEI "Cursor.end_else_if" = true)
    (kmEI_ : PySem.W.keepIn K (.ref fmEI) = true)
    (fnEI : PySem.W.isFn K (.ref fmEI) = true)
    (sEm : ∀ H, SqT K H aE [])
    (gName : PySem.W.nsIn K mainGlobals "Name" = some (some (.ref cName)))
    (pgName : PySem.W.plainGet K cName Str.empty = true)
    (hdName : PySem.W.hasDictIn K cName = true)
    (poName : PySem.W.plainOver K cName = true)
    (saName : PySem.W.findIn K (.ref cName) "__setattr__" = some (some (.builtin "object.__setattr__")))
    (mkName : PySem.W.makesIn K cName = true)
    (kcName : PySem.W.keepIn K (.ref cName) = true)
    (noName_text : PySem.W.findIn K (.ref cName) "text" = some none)
    (noName_start : PySem.W.findIn K (.ref cName) "start" = some none)
    (noName_end : PySem.W.findIn K (.ref cName) "end" = some none)
    (inName : PySem.W.findIn K (.ref cName) "__init__" = some (some (.ref fiName)))
    (liName_ : K.lookup fiName = some ⟨ociName, odiName, .func (PySem.W.fnOf "__init__" "Name.__init__" (defArgs s_Name) (defBody s_Name) (defScope s_Name) .none kViName dciName pmiName aniName cdiName ctiName), sliName⟩)
    (ciName_ : PySem.W.codeIn K cdiName "Name.__init__" = true)
    (kiName_ : PySem.W.keepIn K (.ref fiName) = true)
    (fi_Name : PySem.W.isFn K (.ref fiName) = true)
    (gLiteral : PySem.W.nsIn K mainGlobals "Literal" = some (some (.ref cLiteral)))
    (pgLiteral : PySem.W.plainGet K cLiteral Str.empty = true)
    (hdLiteral : PySem.W.hasDictIn K cLiteral = true)
    (poLiteral : PySem.W.plainOver K cLiteral = true)
    (saLiteral : PySem.W.findIn K (.ref cLiteral) "__setattr__" = some (some (.builtin "object.__setattr__")))
    (mkLiteral : PySem.W.makesIn K cLiteral = true)
    (kcLiteral : PySem.W.keepIn K (.ref cLiteral) = true)
    (noLiteral_text : PySem.W.findIn K (.ref cLiteral) "text" = some none)
    (noLiteral_start : PySem.W.findIn K (.ref cLiteral) "start" = some none)
    (noLiteral_end : PySem.W.findIn K (.ref cLiteral) "end" = some none)
    (inLiteral : PySem.W.findIn K (.ref cLiteral) "__init__" = some (some (.ref fiLiteral)))
    (liLiteral_ : K.lookup fiLiteral = some ⟨ociLiteral, odiLiteral, .func (PySem.W.fnOf "__init__" "Literal.__init__" (defArgs s_Literal) (defBody s_Literal) (defScope s_Literal) .none kViLiteral dciLiteral pmiLiteral aniLiteral cdiLiteral ctiLiteral), sliLiteral⟩)
    (ciLiteral_ : PySem.W.codeIn K cdiLiteral "Literal.__init__" = true)
    (kiLiteral_ : PySem.W.keepIn K (.ref fiLiteral) = true)
    (fi_Literal : PySem.W.isFn K (.ref fiLiteral) = true)
    (gGroup : PySem.W.nsIn K mainGlobals "Group" = some (some (.ref cGroup)))
    (pgGroup : PySem.W.plainGet K cGroup Str.empty = true)
    (hdGroup : PySem.W.hasDictIn K cGroup = true)
    (poGroup : PySem.W.plainOver K cGroup = true)
    (saGroup : PySem.W.findIn K (.ref cGroup) "__setattr__" = some (some (.builtin "object.__setattr__")))
    (mkGroup : PySem.W.makesIn K cGroup = true)
    (kcGroup : PySem.W.keepIn K (.ref cGroup) = true)
    (noGroup_start : PySem.W.findIn K (.ref cGroup) "start" = some none)
    (noGroup_end : PySem.W.findIn K (.ref cGroup) "end" = some none)
    (noGroup_inner : PySem.W.findIn K (.ref cGroup) "inner" = some none)
    (inGroup : PySem.W.findIn K (.ref cGroup) "__init__" = some (some (.ref fiGroup)))
    (liGroup_ : K.lookup fiGroup = some ⟨ociGroup, odiGroup, .func (PySem.W.fnOf "__init__" "Group.__init__" (defArgs s_Group) (defBody s_Group) (defScope s_Group) .none kViGroup dciGroup pmiGroup aniGroup cdiGroup ctiGroup), sliGroup⟩)
    (ciGroup_ : PySem.W.codeIn K cdiGroup "Group.__init__" = true)
    (kiGroup_ : PySem.W.keepIn K (.ref fiGroup) = true)
    (fi_Group : PySem.W.isFn K (.ref fiGroup) = true)
    (gListing : PySem.W.nsIn K mainGlobals "Listing" = some (some (.ref cListing)))
    (pgListing : PySem.W.plainGet K cListing Str.empty = true)
    (hdListing : PySem.W.hasDictIn K cListing = true)
    (poListing : PySem.W.plainOver K cListing = true)
    (saListing : PySem.W.findIn K (.ref cListing) "__setattr__" = some (some (.builtin "object.__setattr__")))
    (mkListing : PySem.W.makesIn K cListing = true)
    (kcListing : PySem.W.keepIn K (.ref cListing) = true)
    (noListing_start : PySem.W.findIn K (.ref cListing) "start" = some none)
    (noListing_end : PySem.W.findIn K (.ref cListing) "end" = some none)
    (noListing_rows : PySem.W.findIn K (.ref cListing) "rows" = some none)
    (inListing : PySem.W.findIn K (.ref cListing) "__init__" = some (some (.ref fiListing)))
    (liListing_ : K.lookup fiListing = some ⟨ociListing, odiListing, .func (PySem.W.fnOf "__init__" "Listing.__init__" (defArgs s_Listing) (defBody s_Listing) (defScope s_Listing) .none kViListing dciListing pmiListing aniListing cdiListing ctiListing), sliListing⟩)
    (ciListing_ : PySem.W.codeIn K cdiListing "Listing.__init__" = true)
    (kiListing_ : PySem.W.keepIn K (.ref fiListing) = true)
    (fi_Listing : PySem.W.isFn K (.ref fiListing) = true)
    (gComprehension : PySem.W.nsIn K mainGlobals "Comprehension" = some (some (.ref cComprehension)))
    (pgComprehension : PySem.W.plainGet K cComprehension Str.empty = true)
    (hdComprehension : PySem.W.hasDictIn K cComprehension = true)
    (poComprehension : PySem.W.plainOver K cComprehension = true)
    (saComprehension : PySem.W.findIn K (.ref cComprehension) "__setattr__" = some (some (.builtin "object.__setattr__")))
    (mkComprehension : PySem.W.makesIn K cComprehension = true)
    (kcComprehension : PySem.W.keepIn K (.ref cComprehension) = true)
    (noComprehension_start : PySem.W.findIn K (.ref cComprehension) "start" = some none)
    (noComprehension_end : PySem.W.findIn K (.ref cComprehension) "end" = some none)
    (noComprehension_row : PySem.W.findIn K (.ref cComprehension) "row" = some none)
    (noComprehension_name : PySem.W.findIn K (.ref cComprehension) "name" = some none)
    (noComprehension_source : PySem.W.findIn K (.ref cComprehension) "source" = some none)
    (noComprehension_test : PySem.W.findIn K (.ref cComprehension) "test" = some none)
    (inComprehension : PySem.W.findIn K (.ref cComprehension) "__init__" = some (some (.ref fiComprehension)))
    (liComprehension_ : K.lookup fiComprehension = some ⟨ociComprehension, odiComprehension, .func (PySem.W.fnOf "__init__" "Comprehension.__init__" (defArgs s_Comprehension) (defBody s_Comprehension) (defScope s_Comprehension) .none kViComprehension dciComprehension pmiComprehension aniComprehension cdiComprehension ctiComprehension), sliComprehension⟩)
    (ciComprehension_ : PySem.W.codeIn K cdiComprehension "Comprehension.__init__" = true)
    (kiComprehension_ : PySem.W.keepIn K (.ref fiComprehension) = true)
    (fi_Comprehension : PySem.W.isFn K (.ref fiComprehension) = true)
    (gMember : PySem.W.nsIn K mainGlobals "Member" = some (some (.ref cMember)))
    (pgMember : PySem.W.plainGet K cMember Str.empty = true)
    (hdMember : PySem.W.hasDictIn K cMember = true)
    (poMember : PySem.W.plainOver K cMember = true)
    (saMember : PySem.W.findIn K (.ref cMember) "__setattr__" = some (some (.builtin "object.__setattr__")))
    (mkMember : PySem.W.makesIn K cMember = true)
    (kcMember : PySem.W.keepIn K (.ref cMember) = true)
    (noMember_start : PySem.W.findIn K (.ref cMember) "start" = some none)
    (noMember_end : PySem.W.findIn K (.ref cMember) "end" = some none)
    (noMember_left : PySem.W.findIn K (.ref cMember) "left" = some none)
    (noMember_name : PySem.W.findIn K (.ref cMember) "name" = some none)
    (inMember : PySem.W.findIn K (.ref cMember) "__init__" = some (some (.ref fiMember)))
    (liMember_ : K.lookup fiMember = some ⟨ociMember, odiMember, .func (PySem.W.fnOf "__init__" "Member.__init__" (defArgs s_Member) (defBody s_Member) (defScope s_Member) .none kViMember dciMember pmiMember aniMember cdiMember ctiMember), sliMember⟩)
    (ciMember_ : PySem.W.codeIn K cdiMember "Member.__init__" = true)
    (kiMember_ : PySem.W.keepIn K (.ref fiMember) = true)
    (fi_Member : PySem.W.isFn K (.ref fiMember) = true)
    (gIndex : PySem.W.nsIn K mainGlobals "Index" = some (some (.ref cIndex)))
    (pgIndex : PySem.W.plainGet K cIndex Str.empty = true)
    (hdIndex : PySem.W.hasDictIn K cIndex = true)
    (poIndex : PySem.W.plainOver K cIndex = true)
    (saIndex : PySem.W.findIn K (.ref cIndex) "__setattr__" = some (some (.builtin "object.__setattr__")))
    (mkIndex : PySem.W.makesIn K cIndex = true)
    (kcIndex : PySem.W.keepIn K (.ref cIndex) = true)
    (noIndex_start : PySem.W.findIn K (.ref cIndex) "start" = some none)
    (noIndex_end : PySem.W.findIn K (.ref cIndex) "end" = some none)
    (noIndex_left : PySem.W.findIn K (.ref cIndex) "left" = some none)
    (noIndex_at : PySem.W.findIn K (.ref cIndex) "at" = some none)
    (inIndex : PySem.W.findIn K (.ref cIndex) "__init__" = some (some (.ref fiIndex)))
    (liIndex_ : K.lookup fiIndex = some ⟨ociIndex, odiIndex, .func (PySem.W.fnOf "__init__" "Index.__init__" (defArgs s_Index) (defBody s_Index) (defScope s_Index) .none kViIndex dciIndex pmiIndex aniIndex cdiIndex ctiIndex), sliIndex⟩)
    (ciIndex_ : PySem.W.codeIn K cdiIndex "Index.__init__" = true)
    (kiIndex_ : PySem.W.keepIn K (.ref fiIndex) = true)
    (fi_Index : PySem.W.isFn K (.ref fiIndex) = true)
    (gArgument : PySem.W.nsIn K mainGlobals "Argument" = some (some (.ref cArgument)))
    (pgArgument : PySem.W.plainGet K cArgument Str.empty = true)
    (hdArgument : PySem.W.hasDictIn K cArgument = true)
    (poArgument : PySem.W.plainOver K cArgument = true)
    (saArgument : PySem.W.findIn K (.ref cArgument) "__setattr__" = some (some (.builtin "object.__setattr__")))
    (mkArgument : PySem.W.makesIn K cArgument = true)
    (kcArgument : PySem.W.keepIn K (.ref cArgument) = true)
    (noArgument_start : PySem.W.findIn K (.ref cArgument) "start" = some none)
    (noArgument_end : PySem.W.findIn K (.ref cArgument) "end" = some none)
    (noArgument_keyword : PySem.W.findIn K (.ref cArgument) "keyword" = some none)
    (noArgument_value : PySem.W.findIn K (.ref cArgument) "value" = some none)
    (inArgument : PySem.W.findIn K (.ref cArgument) "__init__" = some (some (.ref fiArgument)))
    (liArgument_ : K.lookup fiArgument = some ⟨ociArgument, odiArgument, .func (PySem.W.fnOf "__init__" "Argument.__init__" (defArgs s_Argument) (defBody s_Argument) (defScope s_Argument) .none kViArgument dciArgument pmiArgument aniArgument cdiArgument ctiArgument), sliArgument⟩)
    (ciArgument_ : PySem.W.codeIn K cdiArgument "Argument.__init__" = true)
    (kiArgument_ : PySem.W.keepIn K (.ref fiArgument) = true)
    (fi_Argument : PySem.W.isFn K (.ref fiArgument) = true)
    (gCall : PySem.W.nsIn K mainGlobals "Call" = some (some (.ref cCall)))
    (pgCall : PySem.W.plainGet K cCall Str.empty = true)
    (hdCall : PySem.W.hasDictIn K cCall = true)
    (poCall : PySem.W.plainOver K cCall = true)
    (saCall : PySem.W.findIn K (.ref cCall) "__setattr__" = some (some (.builtin "object.__setattr__")))
    (mkCall : PySem.W.makesIn K cCall = true)
    (kcCall : PySem.W.keepIn K (.ref cCall) = true)
    (noCall_start : PySem.W.findIn K (.ref cCall) "start" = some none)
    (noCall_end : PySem.W.findIn K (.ref cCall) "end" = some none)
    (noCall_called : PySem.W.findIn K (.ref cCall) "called" = some none)
    (noCall_arguments : PySem.W.findIn K (.ref cCall) "arguments" = some none)
    (inCall : PySem.W.findIn K (.ref cCall) "__init__" = some (some (.ref fiCall)))
    (liCall_ : K.lookup fiCall = some ⟨ociCall, odiCall, .func (PySem.W.fnOf "__init__" "Call.__init__" (defArgs s_Call) (defBody s_Call) (defScope s_Call) .none kViCall dciCall pmiCall aniCall cdiCall ctiCall), sliCall⟩)
    (ciCall_ : PySem.W.codeIn K cdiCall "Call.__init__" = true)
    (kiCall_ : PySem.W.keepIn K (.ref fiCall) = true)
    (fi_Call : PySem.W.isFn K (.ref fiCall) = true)
    (gUnary : PySem.W.nsIn K mainGlobals "Unary" = some (some (.ref cUnary)))
    (pgUnary : PySem.W.plainGet K cUnary Str.empty = true)
    (hdUnary : PySem.W.hasDictIn K cUnary = true)
    (poUnary : PySem.W.plainOver K cUnary = true)
    (saUnary : PySem.W.findIn K (.ref cUnary) "__setattr__" = some (some (.builtin "object.__setattr__")))
    (mkUnary : PySem.W.makesIn K cUnary = true)
    (kcUnary : PySem.W.keepIn K (.ref cUnary) = true)
    (noUnary_start : PySem.W.findIn K (.ref cUnary) "start" = some none)
    (noUnary_end : PySem.W.findIn K (.ref cUnary) "end" = some none)
    (noUnary_sign : PySem.W.findIn K (.ref cUnary) "sign" = some none)
    (noUnary_inner : PySem.W.findIn K (.ref cUnary) "inner" = some none)
    (inUnary : PySem.W.findIn K (.ref cUnary) "__init__" = some (some (.ref fiUnary)))
    (liUnary_ : K.lookup fiUnary = some ⟨ociUnary, odiUnary, .func (PySem.W.fnOf "__init__" "Unary.__init__" (defArgs s_Unary) (defBody s_Unary) (defScope s_Unary) .none kViUnary dciUnary pmiUnary aniUnary cdiUnary ctiUnary), sliUnary⟩)
    (ciUnary_ : PySem.W.codeIn K cdiUnary "Unary.__init__" = true)
    (kiUnary_ : PySem.W.keepIn K (.ref fiUnary) = true)
    (fi_Unary : PySem.W.isFn K (.ref fiUnary) = true)
    (gBinary : PySem.W.nsIn K mainGlobals "Binary" = some (some (.ref cBinary)))
    (pgBinary : PySem.W.plainGet K cBinary Str.empty = true)
    (hdBinary : PySem.W.hasDictIn K cBinary = true)
    (poBinary : PySem.W.plainOver K cBinary = true)
    (saBinary : PySem.W.findIn K (.ref cBinary) "__setattr__" = some (some (.builtin "object.__setattr__")))
    (mkBinary : PySem.W.makesIn K cBinary = true)
    (kcBinary : PySem.W.keepIn K (.ref cBinary) = true)
    (noBinary_start : PySem.W.findIn K (.ref cBinary) "start" = some none)
    (noBinary_end : PySem.W.findIn K (.ref cBinary) "end" = some none)
    (noBinary_sign : PySem.W.findIn K (.ref cBinary) "sign" = some none)
    (noBinary_left : PySem.W.findIn K (.ref cBinary) "left" = some none)
    (noBinary_right : PySem.W.findIn K (.ref cBinary) "right" = some none)
    (inBinary : PySem.W.findIn K (.ref cBinary) "__init__" = some (some (.ref fiBinary)))
    (liBinary_ : K.lookup fiBinary = some ⟨ociBinary, odiBinary, .func (PySem.W.fnOf "__init__" "Binary.__init__" (defArgs s_Binary) (defBody s_Binary) (defScope s_Binary) .none kViBinary dciBinary pmiBinary aniBinary cdiBinary ctiBinary), sliBinary⟩)
    (ciBinary_ : PySem.W.codeIn K cdiBinary "Binary.__init__" = true)
    (kiBinary_ : PySem.W.keepIn K (.ref fiBinary) = true)
    (fi_Binary : PySem.W.isFn K (.ref fiBinary) = true)
    (gParameter : PySem.W.nsIn K mainGlobals "Parameter" = some (some (.ref cParameter)))
    (pgParameter : PySem.W.plainGet K cParameter Str.empty = true)
    (hdParameter : PySem.W.hasDictIn K cParameter = true)
    (poParameter : PySem.W.plainOver K cParameter = true)
    (saParameter : PySem.W.findIn K (.ref cParameter) "__setattr__" = some (some (.builtin "object.__setattr__")))
    (mkParameter : PySem.W.makesIn K cParameter = true)
    (kcParameter : PySem.W.keepIn K (.ref cParameter) = true)
    (noParameter_start : PySem.W.findIn K (.ref cParameter) "start" = some none)
    (noParameter_end : PySem.W.findIn K (.ref cParameter) "end" = some none)
    (noParameter_name : PySem.W.findIn K (.ref cParameter) "name" = some none)
    (noParameter_default : PySem.W.findIn K (.ref cParameter) "default" = some none)
    (inParameter : PySem.W.findIn K (.ref cParameter) "__init__" = some (some (.ref fiParameter)))
    (liParameter_ : K.lookup fiParameter = some ⟨ociParameter, odiParameter, .func (PySem.W.fnOf "__init__" "Parameter.__init__" (defArgs s_Parameter) (defBody s_Parameter) (defScope s_Parameter) .none kViParameter dciParameter pmiParameter aniParameter cdiParameter ctiParameter), sliParameter⟩)
    (ciParameter_ : PySem.W.codeIn K cdiParameter "Parameter.__init__" = true)
    (kiParameter_ : PySem.W.keepIn K (.ref fiParameter) = true)
    (fi_Parameter : PySem.W.isFn K (.ref fiParameter) = true)
    (gFn : PySem.W.nsIn K mainGlobals "Fn" = some (some (.ref cFn)))
    (pgFn : PySem.W.plainGet K cFn Str.empty = true)
    (hdFn : PySem.W.hasDictIn K cFn = true)
    (poFn : PySem.W.plainOver K cFn = true)
    (saFn : PySem.W.findIn K (.ref cFn) "__setattr__" = some (some (.builtin "object.__setattr__")))
    (mkFn : PySem.W.makesIn K cFn = true)
    (kcFn : PySem.W.keepIn K (.ref cFn) = true)
    (noFn_start : PySem.W.findIn K (.ref cFn) "start" = some none)
    (noFn_end : PySem.W.findIn K (.ref cFn) "end" = some none)
    (noFn_parameters : PySem.W.findIn K (.ref cFn) "parameters" = some none)
    (noFn_body : PySem.W.findIn K (.ref cFn) "body" = some none)
    (inFn : PySem.W.findIn K (.ref cFn) "__init__" = some (some (.ref fiFn)))
    (liFn_ : K.lookup fiFn = some ⟨ociFn, odiFn, .func (PySem.W.fnOf "__init__" "Fn.__init__" (defArgs s_Fn) (defBody s_Fn) (defScope s_Fn) .none kViFn dciFn pmiFn aniFn cdiFn ctiFn), sliFn⟩)
    (ciFn_ : PySem.W.codeIn K cdiFn "Fn.__init__" = true)
    (kiFn_ : PySem.W.keepIn K (.ref fiFn) = true)
    (fi_Fn : PySem.W.isFn K (.ref fiFn) = true)
    (gImport : PySem.W.nsIn K mainGlobals "Import" = some (some (.ref cImport)))
    (pgImport : PySem.W.plainGet K cImport Str.empty = true)
    (hdImport : PySem.W.hasDictIn K cImport = true)
    (poImport : PySem.W.plainOver K cImport = true)
    (saImport : PySem.W.findIn K (.ref cImport) "__setattr__" = some (some (.builtin "object.__setattr__")))
    (mkImport : PySem.W.makesIn K cImport = true)
    (kcImport : PySem.W.keepIn K (.ref cImport) = true)
    (noImport_start : PySem.W.findIn K (.ref cImport) "start" = some none)
    (noImport_end : PySem.W.findIn K (.ref cImport) "end" = some none)
    (noImport_module : PySem.W.findIn K (.ref cImport) "module" = some none)
    (noImport_alias : PySem.W.findIn K (.ref cImport) "alias" = some none)
    (inImport : PySem.W.findIn K (.ref cImport) "__init__" = some (some (.ref fiImport)))
    (liImport_ : K.lookup fiImport = some ⟨ociImport, odiImport, .func (PySem.W.fnOf "__init__" "Import.__init__" (defArgs s_Import) (defBody s_Import) (defScope s_Import) .none kViImport dciImport pmiImport aniImport cdiImport ctiImport), sliImport⟩)
    (ciImport_ : PySem.W.codeIn K cdiImport "Import.__init__" = true)
    (kiImport_ : PySem.W.keepIn K (.ref fiImport) = true)
    (fi_Import : PySem.W.isFn K (.ref fiImport) = true)
    (gImportItem : PySem.W.nsIn K mainGlobals "ImportItem" = some (some (.ref cImportItem)))
    (pgImportItem : PySem.W.plainGet K cImportItem Str.empty = true)
    (hdImportItem : PySem.W.hasDictIn K cImportItem = true)
    (poImportItem : PySem.W.plainOver K cImportItem = true)
    (saImportItem : PySem.W.findIn K (.ref cImportItem) "__setattr__" = some (some (.builtin "object.__setattr__")))
    (mkImportItem : PySem.W.makesIn K cImportItem = true)
    (kcImportItem : PySem.W.keepIn K (.ref cImportItem) = true)
    (noImportItem_start : PySem.W.findIn K (.ref cImportItem) "start" = some none)
    (noImportItem_end : PySem.W.findIn K (.ref cImportItem) "end" = some none)
    (noImportItem_name : PySem.W.findIn K (.ref cImportItem) "name" = some none)
    (noImportItem_alias : PySem.W.findIn K (.ref cImportItem) "alias" = some none)
    (inImportItem : PySem.W.findIn K (.ref cImportItem) "__init__" = some (some (.ref fiImportItem)))
    (liImportItem_ : K.lookup fiImportItem = some ⟨ociImportItem, odiImportItem, .func (PySem.W.fnOf "__init__" "ImportItem.__init__" (defArgs s_ImportItem) (defBody s_ImportItem) (defScope s_ImportItem) .none kViImportItem dciImportItem pmiImportItem aniImportItem cdiImportItem ctiImportItem), sliImportItem⟩)
    (ciImportItem_ : PySem.W.codeIn K cdiImportItem "ImportItem.__init__" = true)
    (kiImportItem_ : PySem.W.keepIn K (.ref fiImportItem) = true)
    (fi_ImportItem : PySem.W.isFn K (.ref fiImportItem) = true)
    (gFromImport : PySem.W.nsIn K mainGlobals "FromImport" = some (some (.ref cFromImport)))
    (pgFromImport : PySem.W.plainGet K cFromImport Str.empty = true)
    (hdFromImport : PySem.W.hasDictIn K cFromImport = true)
    (poFromImport : PySem.W.plainOver K cFromImport = true)
    (saFromImport : PySem.W.findIn K (.ref cFromImport) "__setattr__" = some (some (.builtin "object.__setattr__")))
    (mkFromImport : PySem.W.makesIn K cFromImport = true)
    (kcFromImport : PySem.W.keepIn K (.ref cFromImport) = true)
    (noFromImport_start : PySem.W.findIn K (.ref cFromImport) "start" = some none)
    (noFromImport_end : PySem.W.findIn K (.ref cFromImport) "end" = some none)
    (noFromImport_module : PySem.W.findIn K (.ref cFromImport) "module" = some none)
    (noFromImport_star : PySem.W.findIn K (.ref cFromImport) "star" = some none)
    (noFromImport_rows : PySem.W.findIn K (.ref cFromImport) "rows" = some none)
    (inFromImport : PySem.W.findIn K (.ref cFromImport) "__init__" = some (some (.ref fiFromImport)))
    (liFromImport_ : K.lookup fiFromImport = some ⟨ociFromImport, odiFromImport, .func (PySem.W.fnOf "__init__" "FromImport.__init__" (defArgs s_FromImport) (defBody s_FromImport) (defScope s_FromImport) .none kViFromImport dciFromImport pmiFromImport aniFromImport cdiFromImport ctiFromImport), sliFromImport⟩)
    (ciFromImport_ : PySem.W.codeIn K cdiFromImport "FromImport.__init__" = true)
    (kiFromImport_ : PySem.W.keepIn K (.ref fiFromImport) = true)
    (fi_FromImport : PySem.W.isFn K (.ref fiFromImport) = true)
    (gAssignment : PySem.W.nsIn K mainGlobals "Assignment" = some (some (.ref cAssignment)))
    (pgAssignment : PySem.W.plainGet K cAssignment Str.empty = true)
    (hdAssignment : PySem.W.hasDictIn K cAssignment = true)
    (poAssignment : PySem.W.plainOver K cAssignment = true)
    (saAssignment : PySem.W.findIn K (.ref cAssignment) "__setattr__" = some (some (.builtin "object.__setattr__")))
    (mkAssignment : PySem.W.makesIn K cAssignment = true)
    (kcAssignment : PySem.W.keepIn K (.ref cAssignment) = true)
    (noAssignment_start : PySem.W.findIn K (.ref cAssignment) "start" = some none)
    (noAssignment_end : PySem.W.findIn K (.ref cAssignment) "end" = some none)
    (noAssignment_targets : PySem.W.findIn K (.ref cAssignment) "targets" = some none)
    (noAssignment_value : PySem.W.findIn K (.ref cAssignment) "value" = some none)
    (inAssignment : PySem.W.findIn K (.ref cAssignment) "__init__" = some (some (.ref fiAssignment)))
    (liAssignment_ : K.lookup fiAssignment = some ⟨ociAssignment, odiAssignment, .func (PySem.W.fnOf "__init__" "Assignment.__init__" (defArgs s_Assignment) (defBody s_Assignment) (defScope s_Assignment) .none kViAssignment dciAssignment pmiAssignment aniAssignment cdiAssignment ctiAssignment), sliAssignment⟩)
    (ciAssignment_ : PySem.W.codeIn K cdiAssignment "Assignment.__init__" = true)
    (kiAssignment_ : PySem.W.keepIn K (.ref fiAssignment) = true)
    (fi_Assignment : PySem.W.isFn K (.ref fiAssignment) = true)
    (gDef : PySem.W.nsIn K mainGlobals "Def" = some (some (.ref cDef)))
    (pgDef : PySem.W.plainGet K cDef Str.empty = true)
    (hdDef : PySem.W.hasDictIn K cDef = true)
    (poDef : PySem.W.plainOver K cDef = true)
    (saDef : PySem.W.findIn K (.ref cDef) "__setattr__" = some (some (.builtin "object.__setattr__")))
    (mkDef : PySem.W.makesIn K cDef = true)
    (kcDef : PySem.W.keepIn K (.ref cDef) = true)
    (noDef_start : PySem.W.findIn K (.ref cDef) "start" = some none)
    (noDef_end : PySem.W.findIn K (.ref cDef) "end" = some none)
    (noDef_name : PySem.W.findIn K (.ref cDef) "name" = some none)
    (noDef_parameters : PySem.W.findIn K (.ref cDef) "parameters" = some none)
    (noDef_body : PySem.W.findIn K (.ref cDef) "body" = some none)
    (inDef : PySem.W.findIn K (.ref cDef) "__init__" = some (some (.ref fiDef)))
    (liDef_ : K.lookup fiDef = some ⟨ociDef, odiDef, .func (PySem.W.fnOf "__init__" "Def.__init__" (defArgs s_Def) (defBody s_Def) (defScope s_Def) .none kViDef dciDef pmiDef aniDef cdiDef ctiDef), sliDef⟩)
    (ciDef_ : PySem.W.codeIn K cdiDef "Def.__init__" = true)
    (kiDef_ : PySem.W.keepIn K (.ref fiDef) = true)
    (fi_Def : PySem.W.isFn K (.ref fiDef) = true)
    (gClassBlock : PySem.W.nsIn K mainGlobals "ClassBlock" = some (some (.ref cClassBlock)))
    (pgClassBlock : PySem.W.plainGet K cClassBlock Str.empty = true)
    (hdClassBlock : PySem.W.hasDictIn K cClassBlock = true)
    (poClassBlock : PySem.W.plainOver K cClassBlock = true)
    (saClassBlock : PySem.W.findIn K (.ref cClassBlock) "__setattr__" = some (some (.builtin "object.__setattr__")))
    (mkClassBlock : PySem.W.makesIn K cClassBlock = true)
    (kcClassBlock : PySem.W.keepIn K (.ref cClassBlock) = true)
    (noClassBlock_start : PySem.W.findIn K (.ref cClassBlock) "start" = some none)
    (noClassBlock_end : PySem.W.findIn K (.ref cClassBlock) "end" = some none)
    (noClassBlock_name : PySem.W.findIn K (.ref cClassBlock) "name" = some none)
    (noClassBlock_base : PySem.W.findIn K (.ref cClassBlock) "base" = some none)
    (noClassBlock_body : PySem.W.findIn K (.ref cClassBlock) "body" = some none)
    (inClassBlock : PySem.W.findIn K (.ref cClassBlock) "__init__" = some (some (.ref fiClassBlock)))
    (liClassBlock_ : K.lookup fiClassBlock = some ⟨ociClassBlock, odiClassBlock, .func (PySem.W.fnOf "__init__" "ClassBlock.__init__" (defArgs s_ClassBlock) (defBody s_ClassBlock) (defScope s_ClassBlock) .none kViClassBlock dciClassBlock pmiClassBlock aniClassBlock cdiClassBlock ctiClassBlock), sliClassBlock⟩)
    (ciClassBlock_ : PySem.W.codeIn K cdiClassBlock "ClassBlock.__init__" = true)
    (kiClassBlock_ : PySem.W.keepIn K (.ref fiClassBlock) = true)
    (fi_ClassBlock : PySem.W.isFn K (.ref fiClassBlock) = true)
    (gOuterNames : PySem.W.nsIn K mainGlobals "OuterNames" = some (some (.ref cOuterNames)))
    (pgOuterNames : PySem.W.plainGet K cOuterNames Str.empty = true)
    (hdOuterNames : PySem.W.hasDictIn K cOuterNames = true)
    (poOuterNames : PySem.W.plainOver K cOuterNames = true)
    (saOuterNames : PySem.W.findIn K (.ref cOuterNames) "__setattr__" = some (some (.builtin "object.__setattr__")))
    (mkOuterNames : PySem.W.makesIn K cOuterNames = true)
    (kcOuterNames : PySem.W.keepIn K (.ref cOuterNames) = true)
    (noOuterNames_start : PySem.W.findIn K (.ref cOuterNames) "start" = some none)
    (noOuterNames_end : PySem.W.findIn K (.ref cOuterNames) "end" = some none)
    (noOuterNames_word : PySem.W.findIn K (.ref cOuterNames) "word" = some none)
    (noOuterNames_names : PySem.W.findIn K (.ref cOuterNames) "names" = some none)
    (inOuterNames : PySem.W.findIn K (.ref cOuterNames) "__init__" = some (some (.ref fiOuterNames)))
    (liOuterNames_ : K.lookup fiOuterNames = some ⟨ociOuterNames, odiOuterNames, .func (PySem.W.fnOf "__init__" "OuterNames.__init__" (defArgs s_OuterNames) (defBody s_OuterNames) (defScope s_OuterNames) .none kViOuterNames dciOuterNames pmiOuterNames aniOuterNames cdiOuterNames ctiOuterNames), sliOuterNames⟩)
    (ciOuterNames_ : PySem.W.codeIn K cdiOuterNames "OuterNames.__init__" = true)
    (kiOuterNames_ : PySem.W.keepIn K (.ref fiOuterNames) = true)
    (fi_OuterNames : PySem.W.isFn K (.ref fiOuterNames) = true)
    (gIf : PySem.W.nsIn K mainGlobals "If" = some (some (.ref cIf)))
    (pgIf : PySem.W.plainGet K cIf Str.empty = true)
    (hdIf : PySem.W.hasDictIn K cIf = true)
    (poIf : PySem.W.plainOver K cIf = true)
    (saIf : PySem.W.findIn K (.ref cIf) "__setattr__" = some (some (.builtin "object.__setattr__")))
    (mkIf : PySem.W.makesIn K cIf = true)
    (kcIf : PySem.W.keepIn K (.ref cIf) = true)
    (noIf_start : PySem.W.findIn K (.ref cIf) "start" = some none)
    (noIf_end : PySem.W.findIn K (.ref cIf) "end" = some none)
    (noIf_test : PySem.W.findIn K (.ref cIf) "test" = some none)
    (noIf_body : PySem.W.findIn K (.ref cIf) "body" = some none)
    (noIf_other : PySem.W.findIn K (.ref cIf) "other" = some none)
    (noIf_else_if : PySem.W.findIn K (.ref cIf) "else_if" = some none)
    (inIf : PySem.W.findIn K (.ref cIf) "__init__" = some (some (.ref fiIf)))
    (liIf_ : K.lookup fiIf = some ⟨ociIf, odiIf, .func (PySem.W.fnOf "__init__" "If.__init__" (defArgs s_If) (defBody s_If) (defScope s_If) .none kViIf dciIf pmiIf aniIf cdiIf ctiIf), sliIf⟩)
    (ciIf_ : PySem.W.codeIn K cdiIf "If.__init__" = true)
    (kiIf_ : PySem.W.keepIn K (.ref fiIf) = true)
    (fi_If : PySem.W.isFn K (.ref fiIf) = true)
    (gWhile : PySem.W.nsIn K mainGlobals "While" = some (some (.ref cWhile)))
    (pgWhile : PySem.W.plainGet K cWhile Str.empty = true)
    (hdWhile : PySem.W.hasDictIn K cWhile = true)
    (poWhile : PySem.W.plainOver K cWhile = true)
    (saWhile : PySem.W.findIn K (.ref cWhile) "__setattr__" = some (some (.builtin "object.__setattr__")))
    (mkWhile : PySem.W.makesIn K cWhile = true)
    (kcWhile : PySem.W.keepIn K (.ref cWhile) = true)
    (noWhile_start : PySem.W.findIn K (.ref cWhile) "start" = some none)
    (noWhile_end : PySem.W.findIn K (.ref cWhile) "end" = some none)
    (noWhile_test : PySem.W.findIn K (.ref cWhile) "test" = some none)
    (noWhile_body : PySem.W.findIn K (.ref cWhile) "body" = some none)
    (inWhile : PySem.W.findIn K (.ref cWhile) "__init__" = some (some (.ref fiWhile)))
    (liWhile_ : K.lookup fiWhile = some ⟨ociWhile, odiWhile, .func (PySem.W.fnOf "__init__" "While.__init__" (defArgs s_While) (defBody s_While) (defScope s_While) .none kViWhile dciWhile pmiWhile aniWhile cdiWhile ctiWhile), sliWhile⟩)
    (ciWhile_ : PySem.W.codeIn K cdiWhile "While.__init__" = true)
    (kiWhile_ : PySem.W.keepIn K (.ref fiWhile) = true)
    (fi_While : PySem.W.isFn K (.ref fiWhile) = true)
    (gFor : PySem.W.nsIn K mainGlobals "For" = some (some (.ref cFor)))
    (pgFor : PySem.W.plainGet K cFor Str.empty = true)
    (hdFor : PySem.W.hasDictIn K cFor = true)
    (poFor : PySem.W.plainOver K cFor = true)
    (saFor : PySem.W.findIn K (.ref cFor) "__setattr__" = some (some (.builtin "object.__setattr__")))
    (mkFor : PySem.W.makesIn K cFor = true)
    (kcFor : PySem.W.keepIn K (.ref cFor) = true)
    (noFor_start : PySem.W.findIn K (.ref cFor) "start" = some none)
    (noFor_end : PySem.W.findIn K (.ref cFor) "end" = some none)
    (noFor_name : PySem.W.findIn K (.ref cFor) "name" = some none)
    (noFor_word_in : PySem.W.findIn K (.ref cFor) "word_in" = some none)
    (noFor_source : PySem.W.findIn K (.ref cFor) "source" = some none)
    (noFor_body : PySem.W.findIn K (.ref cFor) "body" = some none)
    (inFor : PySem.W.findIn K (.ref cFor) "__init__" = some (some (.ref fiFor)))
    (liFor_ : K.lookup fiFor = some ⟨ociFor, odiFor, .func (PySem.W.fnOf "__init__" "For.__init__" (defArgs s_For) (defBody s_For) (defScope s_For) .none kViFor dciFor pmiFor aniFor cdiFor ctiFor), sliFor⟩)
    (ciFor_ : PySem.W.codeIn K cdiFor "For.__init__" = true)
    (kiFor_ : PySem.W.keepIn K (.ref fiFor) = true)
    (fi_For : PySem.W.isFn K (.ref fiFor) = true)
    (gReturn : PySem.W.nsIn K mainGlobals "Return" = some (some (.ref cReturn)))
    (pgReturn : PySem.W.plainGet K cReturn Str.empty = true)
    (hdReturn : PySem.W.hasDictIn K cReturn = true)
    (poReturn : PySem.W.plainOver K cReturn = true)
    (saReturn : PySem.W.findIn K (.ref cReturn) "__setattr__" = some (some (.builtin "object.__setattr__")))
    (mkReturn : PySem.W.makesIn K cReturn = true)
    (kcReturn : PySem.W.keepIn K (.ref cReturn) = true)
    (noReturn_start : PySem.W.findIn K (.ref cReturn) "start" = some none)
    (noReturn_end : PySem.W.findIn K (.ref cReturn) "end" = some none)
    (noReturn_value : PySem.W.findIn K (.ref cReturn) "value" = some none)
    (inReturn : PySem.W.findIn K (.ref cReturn) "__init__" = some (some (.ref fiReturn)))
    (liReturn_ : K.lookup fiReturn = some ⟨ociReturn, odiReturn, .func (PySem.W.fnOf "__init__" "Return.__init__" (defArgs s_Return) (defBody s_Return) (defScope s_Return) .none kViReturn dciReturn pmiReturn aniReturn cdiReturn ctiReturn), sliReturn⟩)
    (ciReturn_ : PySem.W.codeIn K cdiReturn "Return.__init__" = true)
    (kiReturn_ : PySem.W.keepIn K (.ref fiReturn) = true)
    (fi_Return : PySem.W.isFn K (.ref fiReturn) = true)
    (gWordAlone : PySem.W.nsIn K mainGlobals "WordAlone" = some (some (.ref cWordAlone)))
    (pgWordAlone : PySem.W.plainGet K cWordAlone Str.empty = true)
    (hdWordAlone : PySem.W.hasDictIn K cWordAlone = true)
    (poWordAlone : PySem.W.plainOver K cWordAlone = true)
    (saWordAlone : PySem.W.findIn K (.ref cWordAlone) "__setattr__" = some (some (.builtin "object.__setattr__")))
    (mkWordAlone : PySem.W.makesIn K cWordAlone = true)
    (kcWordAlone : PySem.W.keepIn K (.ref cWordAlone) = true)
    (noWordAlone_start : PySem.W.findIn K (.ref cWordAlone) "start" = some none)
    (noWordAlone_end : PySem.W.findIn K (.ref cWordAlone) "end" = some none)
    (noWordAlone_word : PySem.W.findIn K (.ref cWordAlone) "word" = some none)
    (inWordAlone : PySem.W.findIn K (.ref cWordAlone) "__init__" = some (some (.ref fiWordAlone)))
    (liWordAlone_ : K.lookup fiWordAlone = some ⟨ociWordAlone, odiWordAlone, .func (PySem.W.fnOf "__init__" "WordAlone.__init__" (defArgs s_WordAlone) (defBody s_WordAlone) (defScope s_WordAlone) .none kViWordAlone dciWordAlone pmiWordAlone aniWordAlone cdiWordAlone ctiWordAlone), sliWordAlone⟩)
    (ciWordAlone_ : PySem.W.codeIn K cdiWordAlone "WordAlone.__init__" = true)
    (kiWordAlone_ : PySem.W.keepIn K (.ref fiWordAlone) = true)
    (fi_WordAlone : PySem.W.isFn K (.ref fiWordAlone) = true)
    (gEvaluation : PySem.W.nsIn K mainGlobals "Evaluation" = some (some (.ref cEvaluation)))
    (pgEvaluation : PySem.W.plainGet K cEvaluation Str.empty = true)
    (hdEvaluation : PySem.W.hasDictIn K cEvaluation = true)
    (poEvaluation : PySem.W.plainOver K cEvaluation = true)
    (saEvaluation : PySem.W.findIn K (.ref cEvaluation) "__setattr__" = some (some (.builtin "object.__setattr__")))
    (mkEvaluation : PySem.W.makesIn K cEvaluation = true)
    (kcEvaluation : PySem.W.keepIn K (.ref cEvaluation) = true)
    (noEvaluation_start : PySem.W.findIn K (.ref cEvaluation) "start" = some none)
    (noEvaluation_end : PySem.W.findIn K (.ref cEvaluation) "end" = some none)
    (noEvaluation_value : PySem.W.findIn K (.ref cEvaluation) "value" = some none)
    (inEvaluation : PySem.W.findIn K (.ref cEvaluation) "__init__" = some (some (.ref fiEvaluation)))
    (liEvaluation_ : K.lookup fiEvaluation = some ⟨ociEvaluation, odiEvaluation, .func (PySem.W.fnOf "__init__" "Evaluation.__init__" (defArgs s_Evaluation) (defBody s_Evaluation) (defScope s_Evaluation) .none kViEvaluation dciEvaluation pmiEvaluation aniEvaluation cdiEvaluation ctiEvaluation), sliEvaluation⟩)
    (ciEvaluation_ : PySem.W.codeIn K cdiEvaluation "Evaluation.__init__" = true)
    (kiEvaluation_ : PySem.W.keepIn K (.ref fiEvaluation) = true)
    (fi_Evaluation : PySem.W.isFn K (.ref fiEvaluation) = true)
    (obn : PySem.W.specialIn K (.builtin "object.__class__") "__get__" = some (some (.builtin "getset_descriptor.__get__")))
    (obt : PySem.W.takesIn K (.builtin "object.__class__") = some true)
    (haName : PySem.W.findIn K (.ref cName) "__class__" = some (some (.builtin "object.__class__")))
    (hmName : PySem.W.mroIn K cName (.type "object") = some true)
    (kiName : PySem.W.kitAny K (.ref cName) [.ref cName, .ref cMember] = some true)
    (haMember : PySem.W.findIn K (.ref cMember) "__class__" = some (some (.builtin "object.__class__")))
    (hmMember : PySem.W.mroIn K cMember (.type "object") = some true)
    (kiMember : PySem.W.kitAny K (.ref cMember) [.ref cName, .ref cMember] = some true)
    (haLiteral : PySem.W.findIn K (.ref cLiteral) "__class__" = some (some (.builtin "object.__class__")))
    (hmLiteral : PySem.W.mroIn K cLiteral (.type "object") = some true)
    (kiLiteral : PySem.W.kitAny K (.ref cLiteral) [.ref cName, .ref cMember] = some false)
    (haGroup : PySem.W.findIn K (.ref cGroup) "__class__" = some (some (.builtin "object.__class__")))
    (hmGroup : PySem.W.mroIn K cGroup (.type "object") = some true)
    (kiGroup : PySem.W.kitAny K (.ref cGroup) [.ref cName, .ref cMember] = some false)
    (haListing : PySem.W.findIn K (.ref cListing) "__class__" = some (some (.builtin "object.__class__")))
    (hmListing : PySem.W.mroIn K cListing (.type "object") = some true)
    (kiListing : PySem.W.kitAny K (.ref cListing) [.ref cName, .ref cMember] = some false)
    (haComprehension : PySem.W.findIn K (.ref cComprehension) "__class__" = some (some (.builtin "object.__class__")))
    (hmComprehension : PySem.W.mroIn K cComprehension (.type "object") = some true)
    (kiComprehension : PySem.W.kitAny K (.ref cComprehension) [.ref cName, .ref cMember] = some false)
    (haIndex : PySem.W.findIn K (.ref cIndex) "__class__" = some (some (.builtin "object.__class__")))
    (hmIndex : PySem.W.mroIn K cIndex (.type "object") = some true)
    (kiIndex : PySem.W.kitAny K (.ref cIndex) [.ref cName, .ref cMember] = some false)
    (haCall : PySem.W.findIn K (.ref cCall) "__class__" = some (some (.builtin "object.__class__")))
    (hmCall : PySem.W.mroIn K cCall (.type "object") = some true)
    (kiCall : PySem.W.kitAny K (.ref cCall) [.ref cName, .ref cMember] = some false)
    (haUnary : PySem.W.findIn K (.ref cUnary) "__class__" = some (some (.builtin "object.__class__")))
    (hmUnary : PySem.W.mroIn K cUnary (.type "object") = some true)
    (kiUnary : PySem.W.kitAny K (.ref cUnary) [.ref cName, .ref cMember] = some false)
    (haBinary : PySem.W.findIn K (.ref cBinary) "__class__" = some (some (.builtin "object.__class__")))
    (hmBinary : PySem.W.mroIn K cBinary (.type "object") = some true)
    (kiBinary : PySem.W.kitAny K (.ref cBinary) [.ref cName, .ref cMember] = some false)
    (haFn : PySem.W.findIn K (.ref cFn) "__class__" = some (some (.builtin "object.__class__")))
    (hmFn : PySem.W.mroIn K cFn (.type "object") = some true)
    (kiFn : PySem.W.kitAny K (.ref cFn) [.ref cName, .ref cMember] = some false)
    : ∃ fd : FuncData, (∀ (s : Shared) (v : Value), BindsTo s fd ⟨[v], []⟩ [("_law_script", v)]) ∧ ∀ base : Heap, K.In base → base.Ns mainGlobals mg → FnOk P w K mg base CX0 139 fa fd ["_law_script"] (spLaw K) := by
  have e := hfa.symm.trans (PySem.W.mg_of X G aL_)
  cases e
  have m : ∀ {x : Str} {v : Value}, PySem.W.nsIn K mainGlobals x = some (some v) → mg x = some v := fun q => PySem.W.mg_of X G q
  have z : ∀ {x : Str}, PySem.W.nsIn K mainGlobals x = some none → mg x = none := fun q => PySem.W.mg_none_of X G q
  have sSIG : ∀ H, SqT K H aS (signsL.map fun s => .str (S s)) := fun H => by
    rw [two_map, ← strs_sigs]
    exact l_SIGNS H
  have sWRD : ∀ H, SqT K H aW (wordsL.map fun s => .str (S s)) := fun H => by
    rw [two_map, ← strs_wrds]
    exact l_WORDS H
  have sOPN : ∀ H, SqT K H aO (openB.map fun s => .str (S s)) := fun H => by
    rw [two_map, ← strs_opn]
    exact l_OPENING H
  have sCLO : ∀ H, SqT K H aC (closeB.map fun s => .str (S s)) := fun H => by
    rw [two_map, ← strs_clo]
    exact l_CLOSING H
  have sCON : ∀ H, SqT K H aK (constB.map fun s => .str (S s)) := fun H => by
    rw [two_map, ← strs_con]
    exact l_CONSTANTS H
  have T : TK K mg CB fEB aS aW fIN fTK fLE fTO fTE fRE fRK fNU := ⟨EB, z z_isinstance, z z_len, z z_all, z z_str, ⟨_, tLET ▸ m g_LETTERS⟩, ⟨_, tDIG ▸ m g_DIGITS⟩, ⟨_, tRUN ▸ m g_RUN⟩, ⟨_, tBLA ▸ m g_BLANKS⟩, ⟨_, m g_LONGEST_NAME⟩, ⟨_, m g_LONGEST_NUMBER⟩, ⟨_, m g_LONGEST_TEXT⟩, ⟨_, m g_LONGEST_PROGRAM⟩, m g_SIGNS, m g_WORDS, sSIG, sWRD, m aIN_, kIN_, m aTK_, kTK_, m aLE_, kLE_, m aTO_, kTO_, m aTE_, kTE_, m aRE_, kRE_, m aRK_, kRK_, m aNU_, kNU_⟩
  have TW : LwT K mg CB fEB aS aW fIN fTK fLE fTO fTE fRE fRK fNU fPool fTake fAt fTl fBo := ⟨T, m aPool_, kPool_, m aTake_, kTake_, m aAt_, kAt_, m aTl_, kTl_, m aBo_, kBo_, z z_range, z z_max, z z_min, z z_len, z z_repr⟩
  have TC : CuT K mg cCursor CS fES aO aC fmNT fmNK fmNS fmRF fmTA fmIB fmEX fmTI fmTN fmBE fmEE fmBI fmEI := ⟨ES, ⟨pgCursor, hdCursor, poCursor, saCursor⟩, noCursor_end, noCursor__tokens, noCursor__length, noCursor__at, noCursor__opened, noCursor__first, z z_len, m g_OPENING, m g_CLOSING, sOPN, sCLO, ⟨_, m g_MOST_OPEN⟩, ⟨_, m g_MOST_TOKENS⟩, ⟨atNT, fnNT, FmNT.kp⟩, ⟨atNK, fnNK, kmNK_⟩, ⟨atNS, fnNS, kmNS_⟩, ⟨atRF, fnRF, kmRF_⟩, ⟨atTA, fnTA, kmTA_⟩, ⟨atIB, fnIB, kmIB_⟩, ⟨atEX, fnEX, kmEX_⟩, ⟨atTI, fnTI, kmTI_⟩, ⟨atTN, fnTN, FmTN.kp⟩, ⟨atBE, fnBE, kmBE_⟩, ⟨atEE, fnEE, kmEE_⟩, ⟨atBI, fnBI, kmBI_⟩, ⟨atEI, fnEI, kmEI_⟩⟩
  have FIN := fun_mk (st := sIN) lIN_ cIN_ kIN_
  have bIN := FIN.binds (ps := ["value"]) fun _ _ _ _ _ _ us hl => match us, hl with | [_], _ => rfl
  have FNU := fun_mk (st := sNU) lNU_ cNU_ kNU_
  have bNU := FNU.binds (ps := ["run"]) fun _ _ _ _ _ _ us hl => match us, hl with | [_], _ => rfl
  have FRE := fun_mk (st := sRE) lRE_ cRE_ kRE_
  have bRE := FRE.binds (ps := ["text", "at"]) fun _ _ _ _ _ _ us hl => match us, hl with | [_, _], _ => rfl
  have FLE := fun_mk (st := sLE) lLE_ cLE_ kLE_
  have bLE := FLE.binds (ps := ["text", "at"]) fun _ _ _ _ _ _ us hl => match us, hl with | [_, _], _ => rfl
  have FTE := fun_mk (st := sTE) lTE_ cTE_ kTE_
  have bTE := FTE.binds (ps := ["text", "at"]) fun _ _ _ _ _ _ us hl => match us, hl with | [_, _], _ => rfl
  have FRK := fun_mk (st := sRK) lRK_ cRK_ kRK_
  have bRK := FRK.binds (ps := ["run", "at"]) fun _ _ _ _ _ _ us hl => match us, hl with | [_, _], _ => rfl
  have FTO := fun_mk (st := sTO) lTO_ cTO_ kTO_
  have bTO := FTO.binds (ps := ["text", "at"]) fun _ _ _ _ _ _ us hl => match us, hl with | [_, _], _ => rfl
  have FTK := fun_mk (st := sTK) lTK_ cTK_ kTK_
  have bTK := FTK.binds (ps := ["text"]) fun _ _ _ _ _ _ us hl => match us, hl with | [_], _ => rfl
  have FPool := fun_mk (st := sPool) lPool_ cPool_ kPool_
  have bPool := FPool.binds (ps := ["_law_script", "_law_k"]) fun _ _ _ _ _ _ us hl => match us, hl with | [_, _], _ => rfl
  have FTake := fun_mk (st := sTake) lTake_ cTake_ kTake_
  have bTake := FTake.binds (ps := ["_law_pool_here", "_law_many"]) fun _ _ _ _ _ _ us hl => match us, hl with | [_, _], _ => rfl
  have FAt := fun_mk (st := sAt) lAt_ cAt_ kAt_
  have bAt := FAt.binds (ps := ["_law_text"]) fun _ _ _ _ _ _ us hl => match us, hl with | [_], _ => rfl
  have FTl := fun_mk (st := sTails) lTl_ cTl_ kTl_
  have bTl := FTl.binds (ps := []) fun _ _ _ _ _ _ us hl => match us, hl with | [], _ => rfl
  have FBo := fun_mk (st := sBodies) lBo_ cBo_ kBo_
  have bBo := FBo.binds (ps := []) fun _ _ _ _ _ _ us hl => match us, hl with | [], _ => rfl
  have FL := fun_mk (st := sLaw) lL_ cL_ kL_
  have FEB := fun_mk (st := sI0) lEB_ cEB_ kEB_
  have bEB := FEB.binds (ps := ["self", "at"]) fun _ _ _ _ _ _ us hl => match us, hl with | [_, _], _ => rfl
  have FES := fun_mk (st := sI1) lES_ cES_ kES_
  have bES := FES.binds (ps := ["self", "at"]) fun _ _ _ _ _ _ us hl => match us, hl with | [_, _], _ => rfl
  have FrE := fun_mk (st := sE_) lrE_ crE_ krE_
  have brE := FrE.binds (ps := ["cursor", "mode"]) fun _ _ _ _ _ _ us hl => match us, hl with | [_, _], _ => rfl
  have FrRT := fun_mk (st := sRT) lrRT_ crRT_ krRT_
  have brRT := FrRT.binds (ps := ["cursor"]) fun _ _ _ _ _ _ us hl => match us, hl with | [_], _ => rfl
  have FrIT := fun_mk (st := sIT) lrIT_ crIT_ krIT_
  have brIT := FrIT.binds (ps := ["found"]) fun _ _ _ _ _ _ us hl => match us, hl with | [_], _ => rfl
  have FrPS := fun_mk (st := sPS) lrPS_ crPS_ krPS_
  have brPS := FrPS.binds (ps := ["cursor", "closer"]) fun _ _ _ _ _ _ us hl => match us, hl with | [_, _], _ => rfl
  have FrPM := fun_mk (st := sPM) lrPM_ crPM_ krPM_
  have brPM := FrPM.binds (ps := ["cursor", "ahead"]) fun _ _ _ _ _ _ us hl => match us, hl with | [_, _], _ => rfl
  have FrFN := fun_mk (st := sFN) lrFN_ crFN_ krFN_
  have brFN := FrFN.binds (ps := ["cursor"]) fun _ _ _ _ _ _ us hl => match us, hl with | [_], _ => rfl
  have FrSG := fun_mk (st := sSG) lrSG_ crSG_ krSG_
  have brSG := FrSG.binds (ps := ["cursor", "mode", "level"]) fun _ _ _ _ _ _ us hl => match us, hl with | [_, _, _], _ => rfl
  have FrAH := fun_mk (st := sAH) lrAH_ crAH_ krAH_
  have brAH := FrAH.binds (ps := ["cursor", "mode", "level"]) fun _ _ _ _ _ _ us hl => match us, hl with | [_, _, _], _ => rfl
  have FrCL := fun_mk (st := sCL) lrCL_ crCL_ krCL_
  have brCL := FrCL.binds (ps := ["cursor", "mode"]) fun _ _ _ _ _ _ us hl => match us, hl with | [_, _], _ => rfl
  have FrAS := fun_mk (st := sAS) lrAS_ crAS_ krAS_
  have brAS := FrAS.binds (ps := ["cursor"]) fun _ _ _ _ _ _ us hl => match us, hl with | [_], _ => rfl
  have FrAR := fun_mk (st := sAR) lrAR_ crAR_ krAR_
  have brAR := FrAR.binds (ps := ["cursor", "ahead"]) fun _ _ _ _ _ _ us hl => match us, hl with | [_, _], _ => rfl
  have FrSI := fun_mk (st := sSI) lrSI_ crSI_ krSI_
  have brSI := FrSI.binds (ps := ["cursor", "mode"]) fun _ _ _ _ _ _ us hl => match us, hl with | [_, _], _ => rfl
  have FrLI := fun_mk (st := sLI) lrLI_ crLI_ krLI_
  have brLI := FrLI.binds (ps := ["cursor", "mode"]) fun _ _ _ _ _ _ us hl => match us, hl with | [_, _], _ => rfl
  have FrCO := fun_mk (st := sCO) lrCO_ crCO_ krCO_
  have brCO := FrCO.binds (ps := ["cursor", "mode", "start", "row"]) fun _ _ _ _ _ _ us hl => match us, hl with | [_, _, _, _], _ => rfl
  have FrMO := fun_mk (st := sMO) lrMO_ crMO_ krMO_
  have brMO := FrMO.binds (ps := ["text"]) fun _ _ _ _ _ _ us hl => match us, hl with | [_], _ => rfl
  have FrTO1 := fun_mk (st := sTO1) lrTO1_ crTO1_ krTO1_
  have brTO1 := FrTO1.binds (ps := ["cursor"]) fun _ _ _ _ _ _ us hl => match us, hl with | [_], _ => rfl
  have FrDA := fun_mk (st := sDA) lrDA_ crDA_ krDA_
  have brDA := FrDA.binds (ps := ["cursor"]) fun _ _ _ _ _ _ us hl => match us, hl with | [_], _ => rfl
  have FrRS := fun_mk (st := sRS) lrRS_ crRS_ krRS_
  have brRS := FrRS.binds (ps := ["cursor", "targets", "mode"]) fun _ _ _ _ _ _ us hl => match us, hl with | [_, _, _], _ => rfl
  have FrIM := fun_mk (st := sIM) lrIM_ crIM_ krIM_
  have brIM := FrIM.binds (ps := ["cursor"]) fun _ _ _ _ _ _ us hl => match us, hl with | [_], _ => rfl
  have FrAL := fun_mk (st := sAL) lrAL_ crAL_ krAL_
  have brAL := FrAL.binds (ps := ["cursor"]) fun _ _ _ _ _ _ us hl => match us, hl with | [_], _ => rfl
  have FrFR := fun_mk (st := sFR) lrFR_ crFR_ krFR_
  have brFR := FrFR.binds (ps := ["cursor"]) fun _ _ _ _ _ _ us hl => match us, hl with | [_], _ => rfl
  have FrIS := fun_mk (st := sIS) lrIS_ crIS_ krIS_
  have brIS := FrIS.binds (ps := ["cursor"]) fun _ _ _ _ _ _ us hl => match us, hl with | [_], _ => rfl
  have FrII := fun_mk (st := sII) lrII_ crII_ krII_
  have brII := FrII.binds (ps := ["cursor"]) fun _ _ _ _ _ _ us hl => match us, hl with | [_], _ => rfl
  have FrCC := fun_mk (st := sCC) lrCC_ crCC_ krCC_
  have brCC := FrCC.binds (ps := ["cursor"]) fun _ _ _ _ _ _ us hl => match us, hl with | [_], _ => rfl
  have FrDE := fun_mk (st := sDE) lrDE_ crDE_ krDE_
  have brDE := FrDE.binds (ps := ["cursor"]) fun _ _ _ _ _ _ us hl => match us, hl with | [_], _ => rfl
  have FrBL := fun_mk (st := sBL) lrBL_ crBL_ krBL_
  have brBL := FrBL.binds (ps := ["cursor", "looped"]) fun _ _ _ _ _ _ us hl => match us, hl with | [_, _], _ => rfl
  have FrSS := fun_mk (st := sSS) lrSS_ crSS_ krSS_
  have brSS := FrSS.binds (ps := ["cursor", "looped"]) fun _ _ _ _ _ _ us hl => match us, hl with | [_, _], _ => rfl
  have FrIF := fun_mk (st := sIF) lrIF_ crIF_ krIF_
  have brIF := FrIF.binds (ps := ["cursor", "looped"]) fun _ _ _ _ _ _ us hl => match us, hl with | [_, _], _ => rfl
  have FrWH := fun_mk (st := sWH) lrWH_ crWH_ krWH_
  have brWH := FrWH.binds (ps := ["cursor"]) fun _ _ _ _ _ _ us hl => match us, hl with | [_], _ => rfl
  have FrFO := fun_mk (st := sFO) lrFO_ crFO_ krFO_
  have brFO := FrFO.binds (ps := ["cursor"]) fun _ _ _ _ _ _ us hl => match us, hl with | [_], _ => rfl
  have FrRE1 := fun_mk (st := sRE1) lrRE1_ crRE1_ krRE1_
  have brRE1 := FrRE1.binds (ps := ["cursor"]) fun _ _ _ _ _ _ us hl => match us, hl with | [_], _ => rfl
  have FrON := fun_mk (st := sON) lrON_ crON_ krON_
  have brON := FrON.binds (ps := ["cursor"]) fun _ _ _ _ _ _ us hl => match us, hl with | [_], _ => rfl
  have FrAE := fun_mk (st := sAE) lrAE_ crAE_ krAE_
  have brAE := FrAE.binds (ps := ["cursor"]) fun _ _ _ _ _ _ us hl => match us, hl with | [_], _ => rfl
  have FrCS1 := fun_mk (st := sCS1) lrCS1_ crCS1_ krCS1_
  have brCS1 := FrCS1.binds (ps := ["text"]) fun _ _ _ _ _ _ us hl => match us, hl with | [_], _ => rfl
  have FmCI := fun_mk (st := sCI) lmCI_ cmCI_ kmCI_
  have bmCI := FmCI.binds (ps := ["self", "text"]) fun _ _ _ _ _ _ us hl => match us, hl with | [_, _], _ => rfl
  obtain ⟨dsNT, vsNT, bdNT⟩ := FmNT.binds1 (ps := ["self", "further"]) 1 0 (by simp) rfl fun _ _ _ _ _ _ _ us its hl hi => match us, its, hl, hi with | [_], [_], _, _ => ⟨_, rfl, rfl⟩
  have bmNT : Binds K fdmNT ["self", "further"] [] := by
    obtain ⟨ds, vs, b⟩ := FmNT.binds1 (ps := ["self", "further"]) 2 1 (by simp) rfl fun _ _ _ _ _ _ _ us its hl hi => match us, its, hl, hi with | [_, _], [_], _, _ => ⟨_, rfl, rfl⟩
    cases vs
    exact b
  have FmNK := fun_mk (st := sNK) lmNK_ cmNK_ kmNK_
  have bmNK := FmNK.binds (ps := ["self"]) fun _ _ _ _ _ _ us hl => match us, hl with | [_], _ => rfl
  have FmNS := fun_mk (st := sNS) lmNS_ cmNS_ kmNS_
  have bmNS := FmNS.binds (ps := ["self"]) fun _ _ _ _ _ _ us hl => match us, hl with | [_], _ => rfl
  have FmRF := fun_mk (st := sRF) lmRF_ cmRF_ kmRF_
  have bmRF := FmRF.binds (ps := ["self"]) fun _ _ _ _ _ _ us hl => match us, hl with | [_], _ => rfl
  have FmTA := fun_mk (st := sTA) lmTA_ cmTA_ kmTA_
  have bmTA := FmTA.binds (ps := ["self"]) fun _ _ _ _ _ _ us hl => match us, hl with | [_], _ => rfl
  have FmIB := fun_mk (st := sIB) lmIB_ cmIB_ kmIB_
  have bmIB := FmIB.binds (ps := ["self", "text"]) fun _ _ _ _ _ _ us hl => match us, hl with | [_, _], _ => rfl
  have FmEX := fun_mk (st := sEX) lmEX_ cmEX_ kmEX_
  have bmEX := FmEX.binds (ps := ["self", "text"]) fun _ _ _ _ _ _ us hl => match us, hl with | [_, _], _ => rfl
  have FmTI := fun_mk (st := sTI) lmTI_ cmTI_ kmTI_
  have bmTI := FmTI.binds (ps := ["self", "text"]) fun _ _ _ _ _ _ us hl => match us, hl with | [_, _], _ => rfl
  obtain ⟨dsTN, vsTN, bdTN⟩ := FmTN.binds1 (ps := ["self", "taken"]) 1 0 (by simp) rfl fun _ _ _ _ _ _ _ us its hl hi => match us, its, hl, hi with | [_], [_], _, _ => ⟨_, rfl, rfl⟩
  have bmTN : Binds K fdmTN ["self", "taken"] [] := by
    obtain ⟨ds, vs, b⟩ := FmTN.binds1 (ps := ["self", "taken"]) 2 1 (by simp) rfl fun _ _ _ _ _ _ _ us its hl hi => match us, its, hl, hi with | [_, _], [_], _, _ => ⟨_, rfl, rfl⟩
    cases vs
    exact b
  have FmBE := fun_mk (st := sBE) lmBE_ cmBE_ kmBE_
  have bmBE := FmBE.binds (ps := ["self"]) fun _ _ _ _ _ _ us hl => match us, hl with | [_], _ => rfl
  have FmEE := fun_mk (st := sEE) lmEE_ cmEE_ kmEE_
  have bmEE := FmEE.binds (ps := ["self"]) fun _ _ _ _ _ _ us hl => match us, hl with | [_], _ => rfl
  have FmBI := fun_mk (st := sBI) lmBI_ cmBI_ kmBI_
  have bmBI := FmBI.binds (ps := ["self"]) fun _ _ _ _ _ _ us hl => match us, hl with | [_], _ => rfl
  have FmEI := fun_mk (st := sEI) lmEI_ cmEI_ kmEI_
  have bmEI := FmEI.binds (ps := ["self"]) fun _ _ _ _ _ _ us hl => match us, hl with | [_], _ => rfl
  refine ⟨PySem.W.fnOf "law" "law" (defArgs sLaw) (defBody sLaw) (defScope sLaw) .none kVL dcL pmL anL cdL ctL, fun s v => .of_eq rfl, fun base _ _ => ?_⟩
  have GI : FnOk P w K mg base CX0 1 fEB _ ["self", "at"] (spI CB 1 (look1 "at")) := ok_i0 (k := 0) FEB EB
  have GIS : FnOk P w K mg base CX0 1 fES _ ["self", "at"] (spI CS 1 (look1 "at")) := ok_i1 (k := 0) FES ES
  have GIN : FnOk P w K mg base CX0 1 fIN _ ["value"] (spIN) := ok_IN (k := 0) FIN T
  have GIN2 : FnOk P w K mg base CX0 1 fIN _ ["value"] (spIN2 K) := FnOk.either GIN (ok_odd (k := 0) FIN T)
  have GNU : FnOk P w K mg base CX0 1 fNU _ ["run"] (spNU) := ok_NU (k := 0) FNU T
  have GRE : FnOk P w K mg base CX0 3 fRE _ ["text", "at"] (spRE) := ok_RE (k := 2) FRE T
  have GLE : FnOk P w K mg base CX0 4 fLE _ ["text", "at"] (spLE) := ok_LE (k := 3) FLE T
  have GTE : FnOk P w K mg base (L2.CX P w) 3 fTE _ ["text", "at"] (spTE CB) := ok_TE FTE T GI bEB
  have GRK : FnOk P w K mg base (L2.CX P w) 3 fRK _ ["run", "at"] (spRK CB) := ok_RK FRK T GI bEB GIN bIN GNU bNU
  have GTO : FnOk P w K mg base (L2.CX P w) 4 fTO _ ["text", "at"] (spTO CB) := ok_TO FTO T GI bEB GTE bTE GRE bRE GRK bRK
  have GTK : FnOk P w K mg base (L2.CX P w) 5 fTK _ ["text"] (spTK K CB) := ok_TK FTK T GI bEB GLE bLE GTO bTO
  have GP : FnOk P w K mg base CX0 1 fPool _ ["_law_script", "_law_k"] (spPool K) := ok_pool (k := 0) FPool (z z_len) (z z_abs) (z z_int)
  have GT : FnOk P w K mg base CX0 1 fTake _ ["_law_pool_here", "_law_many"] (spTake) := ok_take (k := 0) FTake
  have GTl : FnOk P w K mg base CX0 1 fTl _ [] (spRows rowsTails) := ok_Tails (k := 0) FTl
  have GBo : FnOk P w K mg base CX0 1 fBo _ [] (spRows rowsBodies) := ok_Bodies (k := 0) FBo
  have mNT : FnOk P w K mg base CX0 1 fmNT _ ["self", "further"] (spNT cCursor) := ok_NT (k := 0) FmNT TC
  have mNK : FnOk P w K mg base CX0 1 fmNK _ ["self"] (spNK cCursor) := ok_NK (k := 0) FmNK TC
  have mNS : FnOk P w K mg base CX0 1 fmNS _ ["self"] (spNS cCursor) := ok_NS (k := 0) FmNS TC
  have mRF : FnOk P w K mg base (L2.CX P w) 3 fmRF _ ["self"] (spRF cCursor CS) := ok_RF FmRF TC GIS bES mNS bmNS
  have mIB : FnOk P w K mg base CX0 1 fmIB _ ["self", "text"] (spIB cCursor) := ok_IB (k := 0) FmIB TC
  have mTA : FnOk P w K mg base (L2.CX P w) 4 fmTA _ ["self"] (spTA cCursor CS) := ok_TA FmTA TC mNT bdNT vsNT mNS bmNS mIB bmIB mRF bmRF
  have mEX : FnOk P w K mg base (L2.CX P w) 5 fmEX _ ["self", "text"] (spEX cCursor CS) := ok_EX FmEX TC mNT bdNT vsNT mRF bmRF mTA bmTA
  have mTI : FnOk P w K mg base (L2.CX P w) 5 fmTI _ ["self", "text"] (spTI cCursor CS) := ok_TI FmTI TC mNT bdNT vsNT mTA bmTA
  have mBE : FnOk P w K mg base CX0 1 fmBE _ ["self"] (spBE cCursor CS) := ok_BE (k := 0) FmBE TC
  have mEE : FnOk P w K mg base CX0 1 fmEE _ ["self"] (spEE cCursor CS) := ok_EE (k := 0) FmEE TC
  have mBI : FnOk P w K mg base CX0 1 fmBI _ ["self"] (spBI cCursor CS 1) := ok_BI (k := 0) FmBI TC
  have mEI : FnOk P w K mg base CX0 1 fmEI _ ["self"] (spBI cCursor CS (-1)) := ok_EI (k := 0) FmEI TC
  have mCI : FnOk P w K mg base (L2.CX P w) 6 fmCI _ ["self", "text"] (spCI cCursor CB) := ok_CI FmCI TC T GTK bTK
  have FiName := fun_mk (st := s_Name) liName_ ciName_ kiName_
  have biName := FiName.binds (ps := ["self", "text", "start"]) fun _ _ _ _ _ _ us hl => match us, hl with | [_, _, _], _ => rfl
  have ncName : NcT K cName ["text", "start", "end"] := ⟨⟨pgName, hdName, poName, saName⟩, by
    intro f hf
    simp only [List.mem_cons, List.not_mem_nil, or_false] at hf
    rcases hf with rfl | rfl | rfl
    · exact noName_text
    · exact noName_start
    · exact noName_end⟩
  have giName : FnOk P w K mg base CX0 1 fiName _ ["self", "text", "start"] (spMk K cName [.str, .int] F_Name) := ok_Name (k := 0) FiName ncName (z z_len)
  have FiLiteral := fun_mk (st := s_Literal) liLiteral_ ciLiteral_ kiLiteral_
  have biLiteral := FiLiteral.binds (ps := ["self", "text", "start"]) fun _ _ _ _ _ _ us hl => match us, hl with | [_, _, _], _ => rfl
  have ncLiteral : NcT K cLiteral ["text", "start", "end"] := ⟨⟨pgLiteral, hdLiteral, poLiteral, saLiteral⟩, by
    intro f hf
    simp only [List.mem_cons, List.not_mem_nil, or_false] at hf
    rcases hf with rfl | rfl | rfl
    · exact noLiteral_text
    · exact noLiteral_start
    · exact noLiteral_end⟩
  have giLiteral : FnOk P w K mg base CX0 1 fiLiteral _ ["self", "text", "start"] (spMk K cLiteral [.str, .int] F_Literal) := ok_Literal (k := 0) FiLiteral ncLiteral (z z_len)
  have FiGroup := fun_mk (st := s_Group) liGroup_ ciGroup_ kiGroup_
  have biGroup := FiGroup.binds (ps := ["self", "start", "end", "inner"]) fun _ _ _ _ _ _ us hl => match us, hl with | [_, _, _, _], _ => rfl
  have ncGroup : NcT K cGroup ["start", "end", "inner"] := ⟨⟨pgGroup, hdGroup, poGroup, saGroup⟩, by
    intro f hf
    simp only [List.mem_cons, List.not_mem_nil, or_false] at hf
    rcases hf with rfl | rfl | rfl
    · exact noGroup_start
    · exact noGroup_end
    · exact noGroup_inner⟩
  have giGroup : FnOk P w K mg base CX0 1 fiGroup _ ["self", "start", "end", "inner"] (spMk K cGroup [.int, .int, .any] F_Group) := ok_Group (k := 0) FiGroup ncGroup
  have FiListing := fun_mk (st := s_Listing) liListing_ ciListing_ kiListing_
  have biListing := FiListing.binds (ps := ["self", "start", "end", "rows"]) fun _ _ _ _ _ _ us hl => match us, hl with | [_, _, _, _], _ => rfl
  have ncListing : NcT K cListing ["start", "end", "rows"] := ⟨⟨pgListing, hdListing, poListing, saListing⟩, by
    intro f hf
    simp only [List.mem_cons, List.not_mem_nil, or_false] at hf
    rcases hf with rfl | rfl | rfl
    · exact noListing_start
    · exact noListing_end
    · exact noListing_rows⟩
  have giListing : FnOk P w K mg base CX0 1 fiListing _ ["self", "start", "end", "rows"] (spMk K cListing [.int, .int, .any] F_Listing) := ok_Listing (k := 0) FiListing ncListing
  have FiComprehension := fun_mk (st := s_Comprehension) liComprehension_ ciComprehension_ kiComprehension_
  have biComprehension := FiComprehension.binds (ps := ["self", "start", "end", "row", "name", "source", "test"]) fun _ _ _ _ _ _ us hl => match us, hl with | [_, _, _, _, _, _, _], _ => rfl
  have ncComprehension : NcT K cComprehension ["start", "end", "row", "name", "source", "test"] := ⟨⟨pgComprehension, hdComprehension, poComprehension, saComprehension⟩, by
    intro f hf
    simp only [List.mem_cons, List.not_mem_nil, or_false] at hf
    rcases hf with rfl | rfl | rfl | rfl | rfl | rfl
    · exact noComprehension_start
    · exact noComprehension_end
    · exact noComprehension_row
    · exact noComprehension_name
    · exact noComprehension_source
    · exact noComprehension_test⟩
  have giComprehension : FnOk P w K mg base CX0 1 fiComprehension _ ["self", "start", "end", "row", "name", "source", "test"] (spMk K cComprehension [.int, .int, .any, .any, .any, .any] F_Comprehension) := ok_Comprehension (k := 0) FiComprehension ncComprehension
  have FiMember := fun_mk (st := s_Member) liMember_ ciMember_ kiMember_
  have biMember := FiMember.binds (ps := ["self", "left", "name"]) fun _ _ _ _ _ _ us hl => match us, hl with | [_, _, _], _ => rfl
  have ncMember : NcT K cMember ["start", "end", "left", "name"] := ⟨⟨pgMember, hdMember, poMember, saMember⟩, by
    intro f hf
    simp only [List.mem_cons, List.not_mem_nil, or_false] at hf
    rcases hf with rfl | rfl | rfl | rfl
    · exact noMember_start
    · exact noMember_end
    · exact noMember_left
    · exact noMember_name⟩
  have giMember : FnOk P w K mg base CX0 1 fiMember _ ["self", "left", "name"] (spMk K cMember [.node, .node] F_Member) := ok_Member (k := 0) FiMember ncMember
  have FiIndex := fun_mk (st := s_Index) liIndex_ ciIndex_ kiIndex_
  have biIndex := FiIndex.binds (ps := ["self", "left", "at", "end"]) fun _ _ _ _ _ _ us hl => match us, hl with | [_, _, _, _], _ => rfl
  have ncIndex : NcT K cIndex ["start", "end", "left", "at"] := ⟨⟨pgIndex, hdIndex, poIndex, saIndex⟩, by
    intro f hf
    simp only [List.mem_cons, List.not_mem_nil, or_false] at hf
    rcases hf with rfl | rfl | rfl | rfl
    · exact noIndex_start
    · exact noIndex_end
    · exact noIndex_left
    · exact noIndex_at⟩
  have giIndex : FnOk P w K mg base CX0 1 fiIndex _ ["self", "left", "at", "end"] (spMk K cIndex [.node, .any, .int] F_Index) := ok_Index (k := 0) FiIndex ncIndex
  have FiArgument := fun_mk (st := s_Argument) liArgument_ ciArgument_ kiArgument_
  have biArgument := FiArgument.binds (ps := ["self", "keyword", "value"]) fun _ _ _ _ _ _ us hl => match us, hl with | [_, _, _], _ => rfl
  have ncArgument : NcT K cArgument ["start", "end", "keyword", "value"] := ⟨⟨pgArgument, hdArgument, poArgument, saArgument⟩, by
    intro f hf
    simp only [List.mem_cons, List.not_mem_nil, or_false] at hf
    rcases hf with rfl | rfl | rfl | rfl
    · exact noArgument_start
    · exact noArgument_end
    · exact noArgument_keyword
    · exact noArgument_value⟩
  have giArgument : FnOk P w K mg base CX0 1 fiArgument _ ["self", "keyword", "value"] (spMk K cArgument [.onode, .node] F_Argument) := ok_Argument (k := 0) FiArgument ncArgument
  have FiCall := fun_mk (st := s_Call) liCall_ ciCall_ kiCall_
  have biCall := FiCall.binds (ps := ["self", "called", "arguments", "end"]) fun _ _ _ _ _ _ us hl => match us, hl with | [_, _, _, _], _ => rfl
  have ncCall : NcT K cCall ["start", "end", "called", "arguments"] := ⟨⟨pgCall, hdCall, poCall, saCall⟩, by
    intro f hf
    simp only [List.mem_cons, List.not_mem_nil, or_false] at hf
    rcases hf with rfl | rfl | rfl | rfl
    · exact noCall_start
    · exact noCall_end
    · exact noCall_called
    · exact noCall_arguments⟩
  have giCall : FnOk P w K mg base CX0 1 fiCall _ ["self", "called", "arguments", "end"] (spMk K cCall [.node, .any, .int] F_Call) := ok_Call (k := 0) FiCall ncCall
  have FiUnary := fun_mk (st := s_Unary) liUnary_ ciUnary_ kiUnary_
  have biUnary := FiUnary.binds (ps := ["self", "sign", "start", "inner"]) fun _ _ _ _ _ _ us hl => match us, hl with | [_, _, _, _], _ => rfl
  have ncUnary : NcT K cUnary ["start", "end", "sign", "inner"] := ⟨⟨pgUnary, hdUnary, poUnary, saUnary⟩, by
    intro f hf
    simp only [List.mem_cons, List.not_mem_nil, or_false] at hf
    rcases hf with rfl | rfl | rfl | rfl
    · exact noUnary_start
    · exact noUnary_end
    · exact noUnary_sign
    · exact noUnary_inner⟩
  have giUnary : FnOk P w K mg base CX0 1 fiUnary _ ["self", "sign", "start", "inner"] (spMk K cUnary [.any, .int, .node] F_Unary) := ok_Unary (k := 0) FiUnary ncUnary
  have FiBinary := fun_mk (st := s_Binary) liBinary_ ciBinary_ kiBinary_
  have biBinary := FiBinary.binds (ps := ["self", "sign", "left", "right"]) fun _ _ _ _ _ _ us hl => match us, hl with | [_, _, _, _], _ => rfl
  have ncBinary : NcT K cBinary ["start", "end", "sign", "left", "right"] := ⟨⟨pgBinary, hdBinary, poBinary, saBinary⟩, by
    intro f hf
    simp only [List.mem_cons, List.not_mem_nil, or_false] at hf
    rcases hf with rfl | rfl | rfl | rfl | rfl
    · exact noBinary_start
    · exact noBinary_end
    · exact noBinary_sign
    · exact noBinary_left
    · exact noBinary_right⟩
  have giBinary : FnOk P w K mg base CX0 1 fiBinary _ ["self", "sign", "left", "right"] (spMk K cBinary [.any, .node, .node] F_Binary) := ok_Binary (k := 0) FiBinary ncBinary
  have FiParameter := fun_mk (st := s_Parameter) liParameter_ ciParameter_ kiParameter_
  have biParameter := FiParameter.binds (ps := ["self", "name", "default"]) fun _ _ _ _ _ _ us hl => match us, hl with | [_, _, _], _ => rfl
  have ncParameter : NcT K cParameter ["start", "end", "name", "default"] := ⟨⟨pgParameter, hdParameter, poParameter, saParameter⟩, by
    intro f hf
    simp only [List.mem_cons, List.not_mem_nil, or_false] at hf
    rcases hf with rfl | rfl | rfl | rfl
    · exact noParameter_start
    · exact noParameter_end
    · exact noParameter_name
    · exact noParameter_default⟩
  have giParameter : FnOk P w K mg base CX0 1 fiParameter _ ["self", "name", "default"] (spMk K cParameter [.node, .onode] F_Parameter) := ok_Parameter (k := 0) FiParameter ncParameter
  have FiFn := fun_mk (st := s_Fn) liFn_ ciFn_ kiFn_
  have biFn := FiFn.binds (ps := ["self", "start", "parameters", "body"]) fun _ _ _ _ _ _ us hl => match us, hl with | [_, _, _, _], _ => rfl
  have ncFn : NcT K cFn ["start", "end", "parameters", "body"] := ⟨⟨pgFn, hdFn, poFn, saFn⟩, by
    intro f hf
    simp only [List.mem_cons, List.not_mem_nil, or_false] at hf
    rcases hf with rfl | rfl | rfl | rfl
    · exact noFn_start
    · exact noFn_end
    · exact noFn_parameters
    · exact noFn_body⟩
  have giFn : FnOk P w K mg base CX0 1 fiFn _ ["self", "start", "parameters", "body"] (spMk K cFn [.int, .any, .node] F_Fn) := ok_Fn (k := 0) FiFn ncFn
  have FiImport := fun_mk (st := s_Import) liImport_ ciImport_ kiImport_
  have biImport := FiImport.binds (ps := ["self", "start", "end", "module", "alias"]) fun _ _ _ _ _ _ us hl => match us, hl with | [_, _, _, _, _], _ => rfl
  have ncImport : NcT K cImport ["start", "end", "module", "alias"] := ⟨⟨pgImport, hdImport, poImport, saImport⟩, by
    intro f hf
    simp only [List.mem_cons, List.not_mem_nil, or_false] at hf
    rcases hf with rfl | rfl | rfl | rfl
    · exact noImport_start
    · exact noImport_end
    · exact noImport_module
    · exact noImport_alias⟩
  have giImport : FnOk P w K mg base CX0 1 fiImport _ ["self", "start", "end", "module", "alias"] (spMk K cImport [.any, .any, .any, .any] F_Import) := ok_Import (k := 0) FiImport ncImport
  have FiImportItem := fun_mk (st := s_ImportItem) liImportItem_ ciImportItem_ kiImportItem_
  have biImportItem := FiImportItem.binds (ps := ["self", "name", "alias"]) fun _ _ _ _ _ _ us hl => match us, hl with | [_, _, _], _ => rfl
  have ncImportItem : NcT K cImportItem ["start", "end", "name", "alias"] := ⟨⟨pgImportItem, hdImportItem, poImportItem, saImportItem⟩, by
    intro f hf
    simp only [List.mem_cons, List.not_mem_nil, or_false] at hf
    rcases hf with rfl | rfl | rfl | rfl
    · exact noImportItem_start
    · exact noImportItem_end
    · exact noImportItem_name
    · exact noImportItem_alias⟩
  have giImportItem : FnOk P w K mg base CX0 1 fiImportItem _ ["self", "name", "alias"] (spMk K cImportItem [.node, .onode] F_ImportItem) := ok_ImportItem (k := 0) FiImportItem ncImportItem
  have FiFromImport := fun_mk (st := s_FromImport) liFromImport_ ciFromImport_ kiFromImport_
  have biFromImport := FiFromImport.binds (ps := ["self", "start", "end", "module", "star", "rows"]) fun _ _ _ _ _ _ us hl => match us, hl with | [_, _, _, _, _, _], _ => rfl
  have ncFromImport : NcT K cFromImport ["start", "end", "module", "star", "rows"] := ⟨⟨pgFromImport, hdFromImport, poFromImport, saFromImport⟩, by
    intro f hf
    simp only [List.mem_cons, List.not_mem_nil, or_false] at hf
    rcases hf with rfl | rfl | rfl | rfl | rfl
    · exact noFromImport_start
    · exact noFromImport_end
    · exact noFromImport_module
    · exact noFromImport_star
    · exact noFromImport_rows⟩
  have giFromImport : FnOk P w K mg base CX0 1 fiFromImport _ ["self", "start", "end", "module", "star", "rows"] (spMk K cFromImport [.any, .any, .any, .any, .any] F_FromImport) := ok_FromImport (k := 0) FiFromImport ncFromImport
  have FiAssignment := fun_mk (st := s_Assignment) liAssignment_ ciAssignment_ kiAssignment_
  have biAssignment := FiAssignment.binds (ps := ["self", "end", "targets", "value"]) fun _ _ _ _ _ _ us hl => match us, hl with | [_, _, _, _], _ => rfl
  have ncAssignment : NcT K cAssignment ["start", "end", "targets", "value"] := ⟨⟨pgAssignment, hdAssignment, poAssignment, saAssignment⟩, by
    intro f hf
    simp only [List.mem_cons, List.not_mem_nil, or_false] at hf
    rcases hf with rfl | rfl | rfl | rfl
    · exact noAssignment_start
    · exact noAssignment_end
    · exact noAssignment_targets
    · exact noAssignment_value⟩
  have giAssignment : FnOk P w K mg base CX0 1 fiAssignment _ ["self", "end", "targets", "value"] (spMk K cAssignment [.any, .nodes, .any] F_Assignment) := ok_Assignment (k := 0) FiAssignment ncAssignment
  have FiDef := fun_mk (st := s_Def) liDef_ ciDef_ kiDef_
  have biDef := FiDef.binds (ps := ["self", "start", "end", "name", "parameters", "body"]) fun _ _ _ _ _ _ us hl => match us, hl with | [_, _, _, _, _, _], _ => rfl
  have ncDef : NcT K cDef ["start", "end", "name", "parameters", "body"] := ⟨⟨pgDef, hdDef, poDef, saDef⟩, by
    intro f hf
    simp only [List.mem_cons, List.not_mem_nil, or_false] at hf
    rcases hf with rfl | rfl | rfl | rfl | rfl
    · exact noDef_start
    · exact noDef_end
    · exact noDef_name
    · exact noDef_parameters
    · exact noDef_body⟩
  have giDef : FnOk P w K mg base CX0 1 fiDef _ ["self", "start", "end", "name", "parameters", "body"] (spMk K cDef [.any, .any, .any, .any, .any] F_Def) := ok_Def (k := 0) FiDef ncDef
  have FiClassBlock := fun_mk (st := s_ClassBlock) liClassBlock_ ciClassBlock_ kiClassBlock_
  have biClassBlock := FiClassBlock.binds (ps := ["self", "start", "end", "name", "base", "body"]) fun _ _ _ _ _ _ us hl => match us, hl with | [_, _, _, _, _, _], _ => rfl
  have ncClassBlock : NcT K cClassBlock ["start", "end", "name", "base", "body"] := ⟨⟨pgClassBlock, hdClassBlock, poClassBlock, saClassBlock⟩, by
    intro f hf
    simp only [List.mem_cons, List.not_mem_nil, or_false] at hf
    rcases hf with rfl | rfl | rfl | rfl | rfl
    · exact noClassBlock_start
    · exact noClassBlock_end
    · exact noClassBlock_name
    · exact noClassBlock_base
    · exact noClassBlock_body⟩
  have giClassBlock : FnOk P w K mg base CX0 1 fiClassBlock _ ["self", "start", "end", "name", "base", "body"] (spMk K cClassBlock [.any, .any, .any, .any, .any] F_ClassBlock) := ok_ClassBlock (k := 0) FiClassBlock ncClassBlock
  have FiOuterNames := fun_mk (st := s_OuterNames) liOuterNames_ ciOuterNames_ kiOuterNames_
  have biOuterNames := FiOuterNames.binds (ps := ["self", "start", "end", "word", "names"]) fun _ _ _ _ _ _ us hl => match us, hl with | [_, _, _, _, _], _ => rfl
  have ncOuterNames : NcT K cOuterNames ["start", "end", "word", "names"] := ⟨⟨pgOuterNames, hdOuterNames, poOuterNames, saOuterNames⟩, by
    intro f hf
    simp only [List.mem_cons, List.not_mem_nil, or_false] at hf
    rcases hf with rfl | rfl | rfl | rfl
    · exact noOuterNames_start
    · exact noOuterNames_end
    · exact noOuterNames_word
    · exact noOuterNames_names⟩
  have giOuterNames : FnOk P w K mg base CX0 1 fiOuterNames _ ["self", "start", "end", "word", "names"] (spMk K cOuterNames [.any, .any, .any, .any] F_OuterNames) := ok_OuterNames (k := 0) FiOuterNames ncOuterNames
  have FiIf := fun_mk (st := s_If) liIf_ ciIf_ kiIf_
  have biIf := FiIf.binds (ps := ["self", "start", "end", "test", "body", "other", "else_if"]) fun _ _ _ _ _ _ us hl => match us, hl with | [_, _, _, _, _, _, _], _ => rfl
  have ncIf : NcT K cIf ["start", "end", "test", "body", "other", "else_if"] := ⟨⟨pgIf, hdIf, poIf, saIf⟩, by
    intro f hf
    simp only [List.mem_cons, List.not_mem_nil, or_false] at hf
    rcases hf with rfl | rfl | rfl | rfl | rfl | rfl
    · exact noIf_start
    · exact noIf_end
    · exact noIf_test
    · exact noIf_body
    · exact noIf_other
    · exact noIf_else_if⟩
  have giIf : FnOk P w K mg base CX0 1 fiIf _ ["self", "start", "end", "test", "body", "other", "else_if"] (spMk K cIf [.any, .any, .any, .any, .any, .any] F_If) := ok_If (k := 0) FiIf ncIf
  have FiWhile := fun_mk (st := s_While) liWhile_ ciWhile_ kiWhile_
  have biWhile := FiWhile.binds (ps := ["self", "start", "end", "test", "body"]) fun _ _ _ _ _ _ us hl => match us, hl with | [_, _, _, _, _], _ => rfl
  have ncWhile : NcT K cWhile ["start", "end", "test", "body"] := ⟨⟨pgWhile, hdWhile, poWhile, saWhile⟩, by
    intro f hf
    simp only [List.mem_cons, List.not_mem_nil, or_false] at hf
    rcases hf with rfl | rfl | rfl | rfl
    · exact noWhile_start
    · exact noWhile_end
    · exact noWhile_test
    · exact noWhile_body⟩
  have giWhile : FnOk P w K mg base CX0 1 fiWhile _ ["self", "start", "end", "test", "body"] (spMk K cWhile [.any, .any, .any, .any] F_While) := ok_While (k := 0) FiWhile ncWhile
  have FiFor := fun_mk (st := s_For) liFor_ ciFor_ kiFor_
  have biFor := FiFor.binds (ps := ["self", "start", "end", "name", "word_in", "source", "body"]) fun _ _ _ _ _ _ us hl => match us, hl with | [_, _, _, _, _, _, _], _ => rfl
  have ncFor : NcT K cFor ["start", "end", "name", "word_in", "source", "body"] := ⟨⟨pgFor, hdFor, poFor, saFor⟩, by
    intro f hf
    simp only [List.mem_cons, List.not_mem_nil, or_false] at hf
    rcases hf with rfl | rfl | rfl | rfl | rfl | rfl
    · exact noFor_start
    · exact noFor_end
    · exact noFor_name
    · exact noFor_word_in
    · exact noFor_source
    · exact noFor_body⟩
  have giFor : FnOk P w K mg base CX0 1 fiFor _ ["self", "start", "end", "name", "word_in", "source", "body"] (spMk K cFor [.any, .any, .any, .any, .any, .any] F_For) := ok_For (k := 0) FiFor ncFor
  have FiReturn := fun_mk (st := s_Return) liReturn_ ciReturn_ kiReturn_
  have biReturn := FiReturn.binds (ps := ["self", "start", "end", "value"]) fun _ _ _ _ _ _ us hl => match us, hl with | [_, _, _, _], _ => rfl
  have ncReturn : NcT K cReturn ["start", "end", "value"] := ⟨⟨pgReturn, hdReturn, poReturn, saReturn⟩, by
    intro f hf
    simp only [List.mem_cons, List.not_mem_nil, or_false] at hf
    rcases hf with rfl | rfl | rfl
    · exact noReturn_start
    · exact noReturn_end
    · exact noReturn_value⟩
  have giReturn : FnOk P w K mg base CX0 1 fiReturn _ ["self", "start", "end", "value"] (spMk K cReturn [.any, .any, .any] F_Return) := ok_Return (k := 0) FiReturn ncReturn
  have FiWordAlone := fun_mk (st := s_WordAlone) liWordAlone_ ciWordAlone_ kiWordAlone_
  have biWordAlone := FiWordAlone.binds (ps := ["self", "start", "end", "word"]) fun _ _ _ _ _ _ us hl => match us, hl with | [_, _, _, _], _ => rfl
  have ncWordAlone : NcT K cWordAlone ["start", "end", "word"] := ⟨⟨pgWordAlone, hdWordAlone, poWordAlone, saWordAlone⟩, by
    intro f hf
    simp only [List.mem_cons, List.not_mem_nil, or_false] at hf
    rcases hf with rfl | rfl | rfl
    · exact noWordAlone_start
    · exact noWordAlone_end
    · exact noWordAlone_word⟩
  have giWordAlone : FnOk P w K mg base CX0 1 fiWordAlone _ ["self", "start", "end", "word"] (spMk K cWordAlone [.any, .any, .any] F_WordAlone) := ok_WordAlone (k := 0) FiWordAlone ncWordAlone
  have FiEvaluation := fun_mk (st := s_Evaluation) liEvaluation_ ciEvaluation_ kiEvaluation_
  have biEvaluation := FiEvaluation.binds (ps := ["self", "end", "value"]) fun _ _ _ _ _ _ us hl => match us, hl with | [_, _, _], _ => rfl
  have ncEvaluation : NcT K cEvaluation ["start", "end", "value"] := ⟨⟨pgEvaluation, hdEvaluation, poEvaluation, saEvaluation⟩, by
    intro f hf
    simp only [List.mem_cons, List.not_mem_nil, or_false] at hf
    rcases hf with rfl | rfl | rfl
    · exact noEvaluation_start
    · exact noEvaluation_end
    · exact noEvaluation_value⟩
  have giEvaluation : FnOk P w K mg base CX0 1 fiEvaluation _ ["self", "end", "value"] (spMk K cEvaluation [.any, .node] F_Evaluation) := ok_Evaluation (k := 0) FiEvaluation ncEvaluation
  have MN : MkT K mg P w base "Name" ["text", "start"] cName fiName [.str, .int] F_Name := ⟨⟨mkName, inName, fi_Name, kcName⟩, m gName, _, giName, biName⟩
  have mTN : FnOk P w K mg base (L2.CX P w) 5 fmTN _ ["self", "taken"] (spTN K cCursor CS cName) := ok_TN FmTN TC MN mNT bdNT vsNT mNK bmNK mRF bmRF mTA bmTA
  obtain ⟨X, eCU, eCS⟩ : ∃ X : XT P w K mg base, X.CU = cCursor ∧ X.CS = CS := ⟨{
CU := cCursor,
    CS := CS,
    fS := fES,
    aO := aO,
    aC := aC,
    fNT := fmNT,
    fNK := fmNK,
    fNS := fmNS,
    fRF := fmRF,
    fTA := fmTA,
    fIB := fmIB,
    fEX := fmEX,
    fTI := fmTI,
    fTN := fmTN,
    fBE := fmBE,
    fEE := fmEE,
    fBI := fmBI,
    fEI := fmEI,
    T := TC,
    fdNT := _,
    fdNK := _,
    fdRF := _,
    fdTA := _,
    fdEX := _,
    fdTI := _,
    fdTN := _,
    fdBE := _,
    fdEE := _,
    fdBI := _,
    fdEI := _,
    dN := dsNT,
    dT := dsTN,
    aE := aE,
    GNK := mNK,
    bNK := bmNK,
    GRF := mRF,
    bRF := bmRF,
    GTA := mTA,
    bTA := bmTA,
    GEX := mEX,
    bEX := bmEX,
    GTI := mTI,
    bTI := bmTI,
    GBE := mBE,
    bBE := bmBE,
    GEE := mEE,
    bEE := bmEE,
    GBI := mBI,
    bBI := bmBI,
    GEI := mEI,
    bEI := bmEI,
    GNT := mNT,
    bNT0 := bdNT,
    dNT0 := vsNT,
    bNT1 := bmNT,
    cName := cName,
    fName := fiName,
    cLiteral := cLiteral,
    fLiteral := fiLiteral,
    cGroup := cGroup,
    fGroup := fiGroup,
    cListing := cListing,
    fListing := fiListing,
    cComprehension := cComprehension,
    fComprehension := fiComprehension,
    cMember := cMember,
    fMember := fiMember,
    cIndex := cIndex,
    fIndex := fiIndex,
    cArgument := cArgument,
    fArgument := fiArgument,
    cCall := cCall,
    fCall := fiCall,
    cUnary := cUnary,
    fUnary := fiUnary,
    cBinary := cBinary,
    fBinary := fiBinary,
    cParameter := cParameter,
    fParameter := fiParameter,
    cFn := cFn,
    fFn := fiFn,
    cImport := cImport,
    fImport := fiImport,
    cImportItem := cImportItem,
    fImportItem := fiImportItem,
    cFromImport := cFromImport,
    fFromImport := fiFromImport,
    cAssignment := cAssignment,
    fAssignment := fiAssignment,
    cDef := cDef,
    fDef := fiDef,
    cClassBlock := cClassBlock,
    fClassBlock := fiClassBlock,
    cOuterNames := cOuterNames,
    fOuterNames := fiOuterNames,
    cIf := cIf,
    fIf := fiIf,
    cWhile := cWhile,
    fWhile := fiWhile,
    cFor := cFor,
    fFor := fiFor,
    cReturn := cReturn,
    fReturn := fiReturn,
    cWordAlone := cWordAlone,
    fWordAlone := fiWordAlone,
    cEvaluation := cEvaluation,
    fEvaluation := fiEvaluation,
    GTN := mTN,
    bTN0 := bdTN,
    dTN0 := vsTN,
    bTN := bmTN,
    sE0 := sEm,
    mName := ⟨⟨mkName, inName, fi_Name, kcName⟩, m gName, _, giName, biName⟩,
    mLiteral := ⟨⟨mkLiteral, inLiteral, fi_Literal, kcLiteral⟩, m gLiteral, _, giLiteral, biLiteral⟩,
    mGroup := ⟨⟨mkGroup, inGroup, fi_Group, kcGroup⟩, m gGroup, _, giGroup, biGroup⟩,
    mListing := ⟨⟨mkListing, inListing, fi_Listing, kcListing⟩, m gListing, _, giListing, biListing⟩,
    mComprehension := ⟨⟨mkComprehension, inComprehension, fi_Comprehension, kcComprehension⟩, m gComprehension, _, giComprehension, biComprehension⟩,
    mMember := ⟨⟨mkMember, inMember, fi_Member, kcMember⟩, m gMember, _, giMember, biMember⟩,
    mIndex := ⟨⟨mkIndex, inIndex, fi_Index, kcIndex⟩, m gIndex, _, giIndex, biIndex⟩,
    mArgument := ⟨⟨mkArgument, inArgument, fi_Argument, kcArgument⟩, m gArgument, _, giArgument, biArgument⟩,
    mCall := ⟨⟨mkCall, inCall, fi_Call, kcCall⟩, m gCall, _, giCall, biCall⟩,
    mUnary := ⟨⟨mkUnary, inUnary, fi_Unary, kcUnary⟩, m gUnary, _, giUnary, biUnary⟩,
    mBinary := ⟨⟨mkBinary, inBinary, fi_Binary, kcBinary⟩, m gBinary, _, giBinary, biBinary⟩,
    mParameter := ⟨⟨mkParameter, inParameter, fi_Parameter, kcParameter⟩, m gParameter, _, giParameter, biParameter⟩,
    mFn := ⟨⟨mkFn, inFn, fi_Fn, kcFn⟩, m gFn, _, giFn, biFn⟩,
    mImport := ⟨⟨mkImport, inImport, fi_Import, kcImport⟩, m gImport, _, giImport, biImport⟩,
    mImportItem := ⟨⟨mkImportItem, inImportItem, fi_ImportItem, kcImportItem⟩, m gImportItem, _, giImportItem, biImportItem⟩,
    mFromImport := ⟨⟨mkFromImport, inFromImport, fi_FromImport, kcFromImport⟩, m gFromImport, _, giFromImport, biFromImport⟩,
    mAssignment := ⟨⟨mkAssignment, inAssignment, fi_Assignment, kcAssignment⟩, m gAssignment, _, giAssignment, biAssignment⟩,
    mDef := ⟨⟨mkDef, inDef, fi_Def, kcDef⟩, m gDef, _, giDef, biDef⟩,
    mClassBlock := ⟨⟨mkClassBlock, inClassBlock, fi_ClassBlock, kcClassBlock⟩, m gClassBlock, _, giClassBlock, biClassBlock⟩,
    mOuterNames := ⟨⟨mkOuterNames, inOuterNames, fi_OuterNames, kcOuterNames⟩, m gOuterNames, _, giOuterNames, biOuterNames⟩,
    mIf := ⟨⟨mkIf, inIf, fi_If, kcIf⟩, m gIf, _, giIf, biIf⟩,
    mWhile := ⟨⟨mkWhile, inWhile, fi_While, kcWhile⟩, m gWhile, _, giWhile, biWhile⟩,
    mFor := ⟨⟨mkFor, inFor, fi_For, kcFor⟩, m gFor, _, giFor, biFor⟩,
    mReturn := ⟨⟨mkReturn, inReturn, fi_Return, kcReturn⟩, m gReturn, _, giReturn, biReturn⟩,
    mWordAlone := ⟨⟨mkWordAlone, inWordAlone, fi_WordAlone, kcWordAlone⟩, m gWordAlone, _, giWordAlone, biWordAlone⟩,
    mEvaluation := ⟨⟨mkEvaluation, inEvaluation, fi_Evaluation, kcEvaluation⟩, m gEvaluation, _, giEvaluation, biEvaluation⟩,
    nName := ⟨⟨pgName, hdName, poName, saName⟩, noName_start, noName_end, ⟨haName, obn, obt, hmName, kiName⟩⟩,
    nMember := ⟨⟨pgMember, hdMember, poMember, saMember⟩, noMember_start, noMember_end, ⟨haMember, obn, obt, hmMember, kiMember⟩⟩,
    nLiteral := ⟨⟨pgLiteral, hdLiteral, poLiteral, saLiteral⟩, noLiteral_start, noLiteral_end, ⟨haLiteral, obn, obt, hmLiteral, kiLiteral⟩⟩,
    nGroup := ⟨⟨pgGroup, hdGroup, poGroup, saGroup⟩, noGroup_start, noGroup_end, ⟨haGroup, obn, obt, hmGroup, kiGroup⟩⟩,
    nListing := ⟨⟨pgListing, hdListing, poListing, saListing⟩, noListing_start, noListing_end, ⟨haListing, obn, obt, hmListing, kiListing⟩⟩,
    nComprehension := ⟨⟨pgComprehension, hdComprehension, poComprehension, saComprehension⟩, noComprehension_start, noComprehension_end, ⟨haComprehension, obn, obt, hmComprehension, kiComprehension⟩⟩,
    nIndex := ⟨⟨pgIndex, hdIndex, poIndex, saIndex⟩, noIndex_start, noIndex_end, ⟨haIndex, obn, obt, hmIndex, kiIndex⟩⟩,
    nCall := ⟨⟨pgCall, hdCall, poCall, saCall⟩, noCall_start, noCall_end, ⟨haCall, obn, obt, hmCall, kiCall⟩⟩,
    nUnary := ⟨⟨pgUnary, hdUnary, poUnary, saUnary⟩, noUnary_start, noUnary_end, ⟨haUnary, obn, obt, hmUnary, kiUnary⟩⟩,
    nBinary := ⟨⟨pgBinary, hdBinary, poBinary, saBinary⟩, noBinary_start, noBinary_end, ⟨haBinary, obn, obt, hmBinary, kiBinary⟩⟩,
    nFn := ⟨⟨pgFn, hdFn, poFn, saFn⟩, noFn_start, noFn_end, ⟨haFn, obn, obt, hmFn, kiFn⟩⟩,
    pcl := ⟨pgParameter, hdParameter, poParameter, saParameter⟩,
    pna := noParameter_name,
    pde := noParameter_default,
    acl := ⟨pgArgument, hdArgument, poArgument, saArgument⟩,
    ake := noArgument_keyword,
    nte := noName_text,
    isinstance := z z_isinstance,
    reversed := z z_reversed,
    gPLAIN := ⟨_, m g_PLAIN⟩,
    gSTILL := ⟨_, m g_STILL⟩,
    gFREE := ⟨_, m g_FREE⟩,
    gLOOSEST := ⟨_, m g_LOOSEST⟩,
    gNOT_LEVEL := ⟨_, m g_NOT_LEVEL⟩,
    gCOMPARISON := ⟨_, m g_COMPARISON⟩,
    gCLOSEST := ⟨_, m g_CLOSEST⟩,
    aK := aK,
    gCON := m g_CONSTANTS,
    sCON := sCON,
    aL := aL,
    gLEV := m g_LEVELS,
    lev := lev_,
    fE := frE,
    fdE := _,
    FE := FrE,
    gE := m arE_,
    kE := krE_,
    bE := brE,
    fRT := frRT,
    fdRT := _,
    FRT := FrRT,
    gRT := m arRT_,
    kRT := krRT_,
    bRT := brRT,
    fIT := frIT,
    fdIT := _,
    FIT := FrIT,
    gIT := m arIT_,
    kIT := krIT_,
    bIT := brIT,
    fPS := frPS,
    fdPS := _,
    FPS := FrPS,
    gPS := m arPS_,
    kPS := krPS_,
    bPS := brPS,
    fPM := frPM,
    fdPM := _,
    FPM := FrPM,
    gPM := m arPM_,
    kPM := krPM_,
    bPM := brPM,
    fFN := frFN,
    fdFN := _,
    FFN := FrFN,
    gFN := m arFN_,
    kFN := krFN_,
    bFN := brFN,
    fSG := frSG,
    fdSG := _,
    FSG := FrSG,
    gSG := m arSG_,
    kSG := krSG_,
    bSG := brSG,
    fAH := frAH,
    fdAH := _,
    FAH := FrAH,
    gAH := m arAH_,
    kAH := krAH_,
    bAH := brAH,
    fCL := frCL,
    fdCL := _,
    FCL := FrCL,
    gCL := m arCL_,
    kCL := krCL_,
    bCL := brCL,
    fAS := frAS,
    fdAS := _,
    FAS := FrAS,
    gAS := m arAS_,
    kAS := krAS_,
    bAS := brAS,
    fAR := frAR,
    fdAR := _,
    FAR := FrAR,
    gAR := m arAR_,
    kAR := krAR_,
    bAR := brAR,
    fSI := frSI,
    fdSI := _,
    FSI := FrSI,
    gSI := m arSI_,
    kSI := krSI_,
    bSI := brSI,
    fLI := frLI,
    fdLI := _,
    FLI := FrLI,
    gLI := m arLI_,
    kLI := krLI_,
    bLI := brLI,
    fCO := frCO,
    fdCO := _,
    FCO := FrCO,
    gCO := m arCO_,
    kCO := krCO_,
    bCO := brCO,
    fMO := frMO,
    fdMO := _,
    FMO := FrMO,
    gMO := m arMO_,
    kMO := krMO_,
    bMO := brMO,
    fTO1 := frTO1,
    fdTO1 := _,
    FTO1 := FrTO1,
    gTO1 := m arTO1_,
    kTO1 := krTO1_,
    bTO1 := brTO1,
    fDA := frDA,
    fdDA := _,
    FDA := FrDA,
    gDA := m arDA_,
    kDA := krDA_,
    bDA := brDA,
    fRS := frRS,
    fdRS := _,
    FRS := FrRS,
    gRS := m arRS_,
    kRS := krRS_,
    bRS := brRS,
    fIM := frIM,
    fdIM := _,
    FIM := FrIM,
    gIM := m arIM_,
    kIM := krIM_,
    bIM := brIM,
    fAL := frAL,
    fdAL := _,
    FAL := FrAL,
    gAL := m arAL_,
    kAL := krAL_,
    bAL := brAL,
    fFR := frFR,
    fdFR := _,
    FFR := FrFR,
    gFR := m arFR_,
    kFR := krFR_,
    bFR := brFR,
    fIS := frIS,
    fdIS := _,
    FIS := FrIS,
    gIS := m arIS_,
    kIS := krIS_,
    bIS := brIS,
    fII := frII,
    fdII := _,
    FII := FrII,
    gII := m arII_,
    kII := krII_,
    bII := brII,
    fCC := frCC,
    fdCC := _,
    FCC := FrCC,
    gCC := m arCC_,
    kCC := krCC_,
    bCC := brCC,
    fDE := frDE,
    fdDE := _,
    FDE := FrDE,
    gDE := m arDE_,
    kDE := krDE_,
    bDE := brDE,
    fBL := frBL,
    fdBL := _,
    FBL := FrBL,
    gBL := m arBL_,
    kBL := krBL_,
    bBL := brBL,
    fSS := frSS,
    fdSS := _,
    FSS := FrSS,
    gSS := m arSS_,
    kSS := krSS_,
    bSS := brSS,
    fIF := frIF,
    fdIF := _,
    FIF := FrIF,
    gIF := m arIF_,
    kIF := krIF_,
    bIF := brIF,
    fWH := frWH,
    fdWH := _,
    FWH := FrWH,
    gWH := m arWH_,
    kWH := krWH_,
    bWH := brWH,
    fFO := frFO,
    fdFO := _,
    FFO := FrFO,
    gFO := m arFO_,
    kFO := krFO_,
    bFO := brFO,
    fRE1 := frRE1,
    fdRE1 := _,
    FRE1 := FrRE1,
    gRE1 := m arRE1_,
    kRE1 := krRE1_,
    bRE1 := brRE1,
    fON := frON,
    fdON := _,
    FON := FrON,
    gON := m arON_,
    kON := krON_,
    bON := brON,
    fAE := frAE,
    fdAE := _,
    FAE := FrAE,
    gAE := m arAE_,
    kAE := krAE_,
    bAE := brAE,
    fCS1 := frCS1,
    fdCS1 := _,
    FCS1 := FrCS1,
    gCS1 := m arCS1_,
    kCS1 := krCS1_,
    bCS1 := brCS1 }, rfl, rfl⟩
  subst eCU eCS
  have l12 := lv X 12
  have b12 := lb X 12 12
  have gDA := ok_DA X b12.D (ok_RS X l12.E)
  have gTO := ok_TO1 X (ok_IM X (ok_AL X)) (ok_FR X (ok_IS X (ok_II X (ok_AL X)))) (ok_CC X gDA) gDA
  have gCS := ok_CS1 X (ok_MO X ⟨mkCursor, atCI, fnCI, kcCursor⟩ (m gCursor) mCI bmCI gTO)
  have GA := ok_At X FAt T (z z_repr) apart gCS
  exact ok_law FL TW GP bPool GT bTake GTl bTl GBo bBo GIN2 bIN GA bAt
abbrev D_EB : He.DefD := ⟨("BadText", some "__init__"), "__init__", "BadText.__init__", defArgs sI0, defBody sI0, defScope sI0, [], []⟩
abbrev D_ES : He.DefD := ⟨("BadSyntax", some "__init__"), "__init__", "BadSyntax.__init__", defArgs sI1, defBody sI1, defScope sI1, [], []⟩
abbrev D_IN : He.DefD := ⟨("is_name", none), "is_name", "is_name", defArgs sIN, defBody sIN, defScope sIN, [], []⟩
abbrev D_NU : He.DefD := ⟨("_is_number", none), "_is_number", "_is_number", defArgs sNU, defBody sNU, defScope sNU, [], []⟩
abbrev D_RE : He.DefD := ⟨("_run_end", none), "_run_end", "_run_end", defArgs sRE, defBody sRE, defScope sRE, [], []⟩
abbrev D_LE : He.DefD := ⟨("_line_end", none), "_line_end", "_line_end", defArgs sLE, defBody sLE, defScope sLE, [], []⟩
abbrev D_TE : He.DefD := ⟨("_text_end", none), "_text_end", "_text_end", defArgs sTE, defBody sTE, defScope sTE, [], []⟩
abbrev D_RK : He.DefD := ⟨("_run_kind", none), "_run_kind", "_run_kind", defArgs sRK, defBody sRK, defScope sRK, [], []⟩
abbrev D_TO : He.DefD := ⟨("_token", none), "_token", "_token", defArgs sTO, defBody sTO, defScope sTO, [], []⟩
abbrev D_TK : He.DefD := ⟨("tokens", none), "tokens", "tokens", defArgs sTK, defBody sTK, defScope sTK, [], []⟩
abbrev D_Pool : He.DefD := ⟨("_law_pool", none), "_law_pool", "_law_pool", defArgs sPool, defBody sPool, defScope sPool, [], []⟩
abbrev D_Take : He.DefD := ⟨("_law_take", none), "_law_take", "_law_take", defArgs sTake, defBody sTake, defScope sTake, [], []⟩
abbrev D_At : He.DefD := ⟨("_law_at", none), "_law_at", "_law_at", defArgs sAt, defBody sAt, defScope sAt, [], []⟩
abbrev D_Tl : He.DefD := ⟨("_law_tails", none), "_law_tails", "_law_tails", defArgs sTails, defBody sTails, defScope sTails, [], []⟩
abbrev D_Bo : He.DefD := ⟨("_law_bodies", none), "_law_bodies", "_law_bodies", defArgs sBodies, defBody sBodies, defScope sBodies, [], []⟩
abbrev D_L : He.DefD := ⟨("law", none), "law", "law", defArgs sLaw, defBody sLaw, defScope sLaw, [], []⟩
abbrev D_rE : He.DefD := ⟨("read_expression", none), "read_expression", "read_expression", defArgs sE_, defBody sE_, defScope sE_, [], []⟩
abbrev D_rRT : He.DefD := ⟨("read_target", none), "read_target", "read_target", defArgs sRT, defBody sRT, defScope sRT, [], []⟩
abbrev D_rIT : He.DefD := ⟨("is_target", none), "is_target", "is_target", defArgs sIT, defBody sIT, defScope sIT, [], []⟩
abbrev D_rPS : He.DefD := ⟨("read_parameters", none), "read_parameters", "read_parameters", defArgs sPS, defBody sPS, defScope sPS, [], []⟩
abbrev D_rPM : He.DefD := ⟨("_read_parameter", none), "_read_parameter", "_read_parameter", defArgs sPM, defBody sPM, defScope sPM, [], []⟩
abbrev D_rFN : He.DefD := ⟨("_read_fn", none), "_read_fn", "_read_fn", defArgs sFN, defBody sFN, defScope sFN, [], []⟩
abbrev D_rSG : He.DefD := ⟨("_read_signs", none), "_read_signs", "_read_signs", defArgs sSG, defBody sSG, defScope sSG, [], []⟩
abbrev D_rAH : He.DefD := ⟨("_read_ahead", none), "_read_ahead", "_read_ahead", defArgs sAH, defBody sAH, defScope sAH, [], []⟩
abbrev D_rCL : He.DefD := ⟨("_read_call", none), "_read_call", "_read_call", defArgs sCL, defBody sCL, defScope sCL, [], []⟩
abbrev D_rAS : He.DefD := ⟨("_read_arguments", none), "_read_arguments", "_read_arguments", defArgs sAS, defBody sAS, defScope sAS, [], []⟩
abbrev D_rAR : He.DefD := ⟨("_read_argument", none), "_read_argument", "_read_argument", defArgs sAR, defBody sAR, defScope sAR, [], []⟩
abbrev D_rSI : He.DefD := ⟨("_read_single", none), "_read_single", "_read_single", defArgs sSI, defBody sSI, defScope sSI, [], []⟩
abbrev D_rLI : He.DefD := ⟨("_read_list", none), "_read_list", "_read_list", defArgs sLI, defBody sLI, defScope sLI, [], []⟩
abbrev D_rCO : He.DefD := ⟨("_read_comprehension", none), "_read_comprehension", "_read_comprehension", defArgs sCO, defBody sCO, defScope sCO, [], []⟩
abbrev D_rMO : He.DefD := ⟨("read_module", none), "read_module", "read_module", defArgs sMO, defBody sMO, defScope sMO, [], []⟩
abbrev D_rTO1 : He.DefD := ⟨("_read_top", none), "_read_top", "_read_top", defArgs sTO1, defBody sTO1, defScope sTO1, [], []⟩
abbrev D_rDA : He.DefD := ⟨("_read_def_or_assignment", none), "_read_def_or_assignment", "_read_def_or_assignment", defArgs sDA, defBody sDA, defScope sDA, [], []⟩
abbrev D_rRS : He.DefD := ⟨("_read_right_side", none), "_read_right_side", "_read_right_side", defArgs sRS, defBody sRS, defScope sRS, [], []⟩
abbrev D_rIM : He.DefD := ⟨("_read_import", none), "_read_import", "_read_import", defArgs sIM, defBody sIM, defScope sIM, [], []⟩
abbrev D_rAL : He.DefD := ⟨("_read_alias", none), "_read_alias", "_read_alias", defArgs sAL, defBody sAL, defScope sAL, [], []⟩
abbrev D_rFR : He.DefD := ⟨("_read_from", none), "_read_from", "_read_from", defArgs sFR, defBody sFR, defScope sFR, [], []⟩
abbrev D_rIS : He.DefD := ⟨("_read_items", none), "_read_items", "_read_items", defArgs sIS, defBody sIS, defScope sIS, [], []⟩
abbrev D_rII : He.DefD := ⟨("_read_item", none), "_read_item", "_read_item", defArgs sII, defBody sII, defScope sII, [], []⟩
abbrev D_rCC : He.DefD := ⟨("_read_class", none), "_read_class", "_read_class", defArgs sCC, defBody sCC, defScope sCC, [], []⟩
abbrev D_rDE : He.DefD := ⟨("_read_def", none), "_read_def", "_read_def", defArgs sDE, defBody sDE, defScope sDE, [], []⟩
abbrev D_rBL : He.DefD := ⟨("_read_block", none), "_read_block", "_read_block", defArgs sBL, defBody sBL, defScope sBL, [], []⟩
abbrev D_rSS : He.DefD := ⟨("_read_statement", none), "_read_statement", "_read_statement", defArgs sSS, defBody sSS, defScope sSS, [], []⟩
abbrev D_rIF : He.DefD := ⟨("_read_if", none), "_read_if", "_read_if", defArgs sIF, defBody sIF, defScope sIF, [], []⟩
abbrev D_rWH : He.DefD := ⟨("_read_while", none), "_read_while", "_read_while", defArgs sWH, defBody sWH, defScope sWH, [], []⟩
abbrev D_rFO : He.DefD := ⟨("_read_for", none), "_read_for", "_read_for", defArgs sFO, defBody sFO, defScope sFO, [], []⟩
abbrev D_rRE1 : He.DefD := ⟨("_read_return", none), "_read_return", "_read_return", defArgs sRE1, defBody sRE1, defScope sRE1, [], []⟩
abbrev D_rON : He.DefD := ⟨("_read_outer_names", none), "_read_outer_names", "_read_outer_names", defArgs sON, defBody sON, defScope sON, [], []⟩
abbrev D_rAE : He.DefD := ⟨("_read_assignment_or_evaluation", none), "_read_assignment_or_evaluation", "_read_assignment_or_evaluation", defArgs sAE, defBody sAE, defScope sAE, [], []⟩
abbrev D_rCS1 : He.DefD := ⟨("check_syntax", none), "check_syntax", "check_syntax", defArgs sCS1, defBody sCS1, defScope sCS1, [], []⟩
abbrev D_mCI : He.DefD := ⟨("Cursor", some "__init__"), "__init__", "Cursor.__init__", defArgs sCI, defBody sCI, defScope sCI, [], []⟩
abbrev D_mNT : He.DefD := ⟨("Cursor", some "next_text"), "next_text", "Cursor.next_text", defArgs sNT, defBody sNT, defScope sNT, [.int 0], []⟩
abbrev D_mNK : He.DefD := ⟨("Cursor", some "next_kind"), "next_kind", "Cursor.next_kind", defArgs sNK, defBody sNK, defScope sNK, [], []⟩
abbrev D_mNS : He.DefD := ⟨("Cursor", some "next_start"), "next_start", "Cursor.next_start", defArgs sNS, defBody sNS, defScope sNS, [], []⟩
abbrev D_mRF : He.DefD := ⟨("Cursor", some "refuse"), "refuse", "Cursor.refuse", defArgs sRF, defBody sRF, defScope sRF, [], []⟩
abbrev D_mTA : He.DefD := ⟨("Cursor", some "take"), "take", "Cursor.take", defArgs sTA, defBody sTA, defScope sTA, [], []⟩
abbrev D_mIB : He.DefD := ⟨("Cursor", some "_is_beyond"), "_is_beyond", "Cursor._is_beyond", defArgs sIB, defBody sIB, defScope sIB, [], []⟩
abbrev D_mEX : He.DefD := ⟨("Cursor", some "expect"), "expect", "Cursor.expect", defArgs sEX, defBody sEX, defScope sEX, [], []⟩
abbrev D_mTI : He.DefD := ⟨("Cursor", some "take_if"), "take_if", "Cursor.take_if", defArgs sTI, defBody sTI, defScope sTI, [], []⟩
abbrev D_mTN : He.DefD := ⟨("Cursor", some "take_name"), "take_name", "Cursor.take_name", defArgs sTN, defBody sTN, defScope sTN, [.adr (He.dflAt ("Cursor", some "take_name") 0)], []⟩
abbrev D_mBE : He.DefD := ⟨("Cursor", some "begin_expression"), "begin_expression", "Cursor.begin_expression", defArgs sBE, defBody sBE, defScope sBE, [], []⟩
abbrev D_mEE : He.DefD := ⟨("Cursor", some "end_expression"), "end_expression", "Cursor.end_expression", defArgs sEE, defBody sEE, defScope sEE, [], []⟩
abbrev D_mBI : He.DefD := ⟨("Cursor", some "begin_else_if"), "begin_else_if", "Cursor.begin_else_if", defArgs sBI, defBody sBI, defScope sBI, [], []⟩
abbrev D_mEI : He.DefD := ⟨("Cursor", some "end_else_if"), "end_else_if", "Cursor.end_else_if", defArgs sEI, defBody sEI, defScope sEI, [], []⟩
abbrev D_iName : He.DefD := ⟨("Name", some "__init__"), "__init__", "Name.__init__", defArgs s_Name, defBody s_Name, defScope s_Name, [], []⟩
abbrev D_iLiteral : He.DefD := ⟨("Literal", some "__init__"), "__init__", "Literal.__init__", defArgs s_Literal, defBody s_Literal, defScope s_Literal, [], []⟩
abbrev D_iGroup : He.DefD := ⟨("Group", some "__init__"), "__init__", "Group.__init__", defArgs s_Group, defBody s_Group, defScope s_Group, [], []⟩
abbrev D_iListing : He.DefD := ⟨("Listing", some "__init__"), "__init__", "Listing.__init__", defArgs s_Listing, defBody s_Listing, defScope s_Listing, [], []⟩
abbrev D_iComprehension : He.DefD := ⟨("Comprehension", some "__init__"), "__init__", "Comprehension.__init__", defArgs s_Comprehension, defBody s_Comprehension, defScope s_Comprehension, [], []⟩
abbrev D_iMember : He.DefD := ⟨("Member", some "__init__"), "__init__", "Member.__init__", defArgs s_Member, defBody s_Member, defScope s_Member, [], []⟩
abbrev D_iIndex : He.DefD := ⟨("Index", some "__init__"), "__init__", "Index.__init__", defArgs s_Index, defBody s_Index, defScope s_Index, [], []⟩
abbrev D_iArgument : He.DefD := ⟨("Argument", some "__init__"), "__init__", "Argument.__init__", defArgs s_Argument, defBody s_Argument, defScope s_Argument, [], []⟩
abbrev D_iCall : He.DefD := ⟨("Call", some "__init__"), "__init__", "Call.__init__", defArgs s_Call, defBody s_Call, defScope s_Call, [], []⟩
abbrev D_iUnary : He.DefD := ⟨("Unary", some "__init__"), "__init__", "Unary.__init__", defArgs s_Unary, defBody s_Unary, defScope s_Unary, [], []⟩
abbrev D_iBinary : He.DefD := ⟨("Binary", some "__init__"), "__init__", "Binary.__init__", defArgs s_Binary, defBody s_Binary, defScope s_Binary, [], []⟩
abbrev D_iParameter : He.DefD := ⟨("Parameter", some "__init__"), "__init__", "Parameter.__init__", defArgs s_Parameter, defBody s_Parameter, defScope s_Parameter, [], []⟩
abbrev D_iFn : He.DefD := ⟨("Fn", some "__init__"), "__init__", "Fn.__init__", defArgs s_Fn, defBody s_Fn, defScope s_Fn, [], []⟩
abbrev D_iImport : He.DefD := ⟨("Import", some "__init__"), "__init__", "Import.__init__", defArgs s_Import, defBody s_Import, defScope s_Import, [], []⟩
abbrev D_iImportItem : He.DefD := ⟨("ImportItem", some "__init__"), "__init__", "ImportItem.__init__", defArgs s_ImportItem, defBody s_ImportItem, defScope s_ImportItem, [], []⟩
abbrev D_iFromImport : He.DefD := ⟨("FromImport", some "__init__"), "__init__", "FromImport.__init__", defArgs s_FromImport, defBody s_FromImport, defScope s_FromImport, [], []⟩
abbrev D_iAssignment : He.DefD := ⟨("Assignment", some "__init__"), "__init__", "Assignment.__init__", defArgs s_Assignment, defBody s_Assignment, defScope s_Assignment, [], []⟩
abbrev D_iDef : He.DefD := ⟨("Def", some "__init__"), "__init__", "Def.__init__", defArgs s_Def, defBody s_Def, defScope s_Def, [], []⟩
abbrev D_iClassBlock : He.DefD := ⟨("ClassBlock", some "__init__"), "__init__", "ClassBlock.__init__", defArgs s_ClassBlock, defBody s_ClassBlock, defScope s_ClassBlock, [], []⟩
abbrev D_iOuterNames : He.DefD := ⟨("OuterNames", some "__init__"), "__init__", "OuterNames.__init__", defArgs s_OuterNames, defBody s_OuterNames, defScope s_OuterNames, [], []⟩
abbrev D_iIf : He.DefD := ⟨("If", some "__init__"), "__init__", "If.__init__", defArgs s_If, defBody s_If, defScope s_If, [], []⟩
abbrev D_iWhile : He.DefD := ⟨("While", some "__init__"), "__init__", "While.__init__", defArgs s_While, defBody s_While, defScope s_While, [], []⟩
abbrev D_iFor : He.DefD := ⟨("For", some "__init__"), "__init__", "For.__init__", defArgs s_For, defBody s_For, defScope s_For, [], []⟩
abbrev D_iReturn : He.DefD := ⟨("Return", some "__init__"), "__init__", "Return.__init__", defArgs s_Return, defBody s_Return, defScope s_Return, [], []⟩
abbrev D_iWordAlone : He.DefD := ⟨("WordAlone", some "__init__"), "__init__", "WordAlone.__init__", defArgs s_WordAlone, defBody s_WordAlone, defScope s_WordAlone, [], []⟩
abbrev D_iEvaluation : He.DefD := ⟨("Evaluation", some "__init__"), "__init__", "Evaluation.__init__", defArgs s_Evaluation, defBody s_Evaluation, defScope s_Evaluation, [], []⟩
def T_SIGNS : List He.Dv := [.str "==", .str "<=", .str "(", .str ")", .str "[", .str "]", .str "{", .str "}", .str ",", .str ";", .str ":", .str ".", .str "=", .str "<", .str "+", .str "-", .str "*"]
def T_WORDS : List He.Dv := [.str "import", .str "from", .str "as", .str "def", .str "class", .str "global", .str "nonlocal", .str "if", .str "else", .str "while", .str "for", .str "in", .str "return", .str "break", .str "continue", .str "pass", .str "and", .str "or", .str "not", .str "fn", .str "none", .str "true", .str "false"]
def T_OPENING : List He.Dv := [.str "(", .str "[", .str "{"]
def T_CLOSING : List He.Dv := [.str ")", .str "]", .str "}"]
def T_CONSTANTS : List He.Dv := [.str "none", .str "true", .str "false"]
def FA0 : List He.Fa := [.glo "BadText", .glo "BadSyntax", .exm "BadSyntax" "BadText" false, .glo "is_name", .glo "_is_number", .glo "_run_end", .glo "_line_end", .glo "_text_end", .glo "_run_kind", .glo "_token", .glo "tokens", .glo "_law_pool", .glo "_law_take", .glo "_law_at", .glo "_law_tails", .glo "_law_bodies", .glo "law", .glo "read_expression", .glo "read_target", .glo "is_target", .glo "read_parameters", .glo "_read_parameter", .glo "_read_fn", .glo "_read_signs", .glo "_read_ahead", .glo "_read_call", .glo "_read_arguments", .glo "_read_argument", .glo "_read_single", .glo "_read_list", .glo "_read_comprehension", .glo "read_module", .glo "_read_top", .glo "_read_def_or_assignment", .glo "_read_right_side", .glo "_read_import", .glo "_read_alias", .glo "_read_from", .glo "_read_items", .glo "_read_item"]
def FA1 : List He.Fa := [.glo "_read_class", .glo "_read_def", .glo "_read_block", .glo "_read_statement", .glo "_read_if", .glo "_read_while", .glo "_read_for", .glo "_read_return", .glo "_read_outer_names", .glo "_read_assignment_or_evaluation", .glo "check_syntax", .str "LETTERS" "abcdefghijklmnopqrstuvwxyz", .str "DIGITS" "0123456789", .str "RUN" "abcdefghijklmnopqrstuvwxyz0123456789_", .str "BLANKS" " \n", .int "LONGEST_NAME" 20, .int "LONGEST_NUMBER" 18, .int "LONGEST_TEXT" 40, .int "LONGEST_PROGRAM" 5000, .int "MOST_OPEN" 30, .int "MOST_TOKENS" 100, .int "PLAIN" 0, .int "STILL" 1, .int "FREE" 2, .int "LOOSEST" 1, .int "NOT_LEVEL" 3, .int "COMPARISON" 4, .int "CLOSEST" 6, .glo "SIGNS", .glo "WORDS", .glo "OPENING", .glo "CLOSING", .glo "CONSTANTS", .glo "LEVELS", .free "range", .free "max", .free "min", .free "len", .free "abs", .free "int"]
def FA2 : List He.Fa := [.free "isinstance", .free "repr", .free "str", .free "all", .free "reversed", .cls "Cursor", .mkr "Cursor", .glo "Cursor", .noat "Cursor" "end", .noat "Cursor" "_tokens", .noat "Cursor" "_length", .noat "Cursor" "_at", .noat "Cursor" "_opened", .noat "Cursor" "_first", .meth "Cursor" "__init__", .meth "Cursor" "next_text", .meth "Cursor" "next_kind", .meth "Cursor" "next_start", .meth "Cursor" "refuse", .meth "Cursor" "take", .meth "Cursor" "_is_beyond", .meth "Cursor" "expect", .meth "Cursor" "take_if", .meth "Cursor" "take_name", .meth "Cursor" "begin_expression", .meth "Cursor" "end_expression", .meth "Cursor" "begin_else_if", .meth "Cursor" "end_else_if", .cls "Name", .mkr "Name", .glo "Name", .noat "Name" "text", .noat "Name" "start", .noat "Name" "end", .cls "Literal", .mkr "Literal", .glo "Literal", .noat "Literal" "text", .noat "Literal" "start", .noat "Literal" "end"]
def FA3 : List He.Fa := [.cls "Group", .mkr "Group", .glo "Group", .noat "Group" "start", .noat "Group" "end", .noat "Group" "inner", .cls "Listing", .mkr "Listing", .glo "Listing", .noat "Listing" "start", .noat "Listing" "end", .noat "Listing" "rows", .cls "Comprehension", .mkr "Comprehension", .glo "Comprehension", .noat "Comprehension" "start", .noat "Comprehension" "end", .noat "Comprehension" "row", .noat "Comprehension" "name", .noat "Comprehension" "source", .noat "Comprehension" "test", .cls "Member", .mkr "Member", .glo "Member", .noat "Member" "start", .noat "Member" "end", .noat "Member" "left", .noat "Member" "name", .cls "Index", .mkr "Index", .glo "Index", .noat "Index" "start", .noat "Index" "end", .noat "Index" "left", .noat "Index" "at", .cls "Argument", .mkr "Argument", .glo "Argument", .noat "Argument" "start", .noat "Argument" "end"]
def FA4 : List He.Fa := [.noat "Argument" "keyword", .noat "Argument" "value", .cls "Call", .mkr "Call", .glo "Call", .noat "Call" "start", .noat "Call" "end", .noat "Call" "called", .noat "Call" "arguments", .cls "Unary", .mkr "Unary", .glo "Unary", .noat "Unary" "start", .noat "Unary" "end", .noat "Unary" "sign", .noat "Unary" "inner", .cls "Binary", .mkr "Binary", .glo "Binary", .noat "Binary" "start", .noat "Binary" "end", .noat "Binary" "sign", .noat "Binary" "left", .noat "Binary" "right", .cls "Parameter", .mkr "Parameter", .glo "Parameter", .noat "Parameter" "start", .noat "Parameter" "end", .noat "Parameter" "name", .noat "Parameter" "default", .cls "Fn", .mkr "Fn", .glo "Fn", .noat "Fn" "start", .noat "Fn" "end", .noat "Fn" "parameters", .noat "Fn" "body", .cls "Import", .mkr "Import"]
def FA5 : List He.Fa := [.glo "Import", .noat "Import" "start", .noat "Import" "end", .noat "Import" "module", .noat "Import" "alias", .cls "ImportItem", .mkr "ImportItem", .glo "ImportItem", .noat "ImportItem" "start", .noat "ImportItem" "end", .noat "ImportItem" "name", .noat "ImportItem" "alias", .cls "FromImport", .mkr "FromImport", .glo "FromImport", .noat "FromImport" "start", .noat "FromImport" "end", .noat "FromImport" "module", .noat "FromImport" "star", .noat "FromImport" "rows", .cls "Assignment", .mkr "Assignment", .glo "Assignment", .noat "Assignment" "start", .noat "Assignment" "end", .noat "Assignment" "targets", .noat "Assignment" "value", .cls "Def", .mkr "Def", .glo "Def", .noat "Def" "start", .noat "Def" "end", .noat "Def" "name", .noat "Def" "parameters", .noat "Def" "body", .cls "ClassBlock", .mkr "ClassBlock", .glo "ClassBlock", .noat "ClassBlock" "start", .noat "ClassBlock" "end"]
def FA6 : List He.Fa := [.noat "ClassBlock" "name", .noat "ClassBlock" "base", .noat "ClassBlock" "body", .cls "OuterNames", .mkr "OuterNames", .glo "OuterNames", .noat "OuterNames" "start", .noat "OuterNames" "end", .noat "OuterNames" "word", .noat "OuterNames" "names", .cls "If", .mkr "If", .glo "If", .noat "If" "start", .noat "If" "end", .noat "If" "test", .noat "If" "body", .noat "If" "other", .noat "If" "else_if", .cls "While", .mkr "While", .glo "While", .noat "While" "start", .noat "While" "end", .noat "While" "test", .noat "While" "body", .cls "For", .mkr "For", .glo "For", .noat "For" "start", .noat "For" "end", .noat "For" "name", .noat "For" "word_in", .noat "For" "source", .noat "For" "body", .cls "Return", .mkr "Return", .glo "Return", .noat "Return" "start", .noat "Return" "end"]
def FA7 : List He.Fa := [.noat "Return" "value", .cls "WordAlone", .mkr "WordAlone", .glo "WordAlone", .noat "WordAlone" "start", .noat "WordAlone" "end", .noat "WordAlone" "word", .cls "Evaluation", .mkr "Evaluation", .glo "Evaluation", .noat "Evaluation" "start", .noat "Evaluation" "end", .noat "Evaluation" "value"]
def FA : List He.Fa := FA0 ++ FA1 ++ FA2 ++ FA3 ++ FA4 ++ FA5 ++ FA6 ++ FA7
def FN0 : List He.DefD := [D_EB, D_ES, D_IN, D_NU, D_RE, D_LE, D_TE, D_RK, D_TO, D_TK, D_Pool, D_Take, D_At, D_Tl, D_Bo, D_L, D_rE, D_rRT, D_rIT, D_rPS, D_rPM, D_rFN, D_rSG, D_rAH, D_rCL, D_rAS, D_rAR, D_rSI, D_rLI, D_rCO, D_rMO, D_rTO1, D_rDA, D_rRS, D_rIM, D_rAL, D_rFR, D_rIS, D_rII, D_rCC]
def FN1 : List He.DefD := [D_rDE, D_rBL, D_rSS, D_rIF, D_rWH, D_rFO, D_rRE1, D_rON, D_rAE, D_rCS1, D_mCI, D_mNT, D_mNK, D_mNS, D_mRF, D_mTA, D_mIB, D_mEX, D_mTI, D_mTN, D_mBE, D_mEE, D_mBI, D_mEI, D_iName, D_iLiteral, D_iGroup, D_iListing, D_iComprehension, D_iMember, D_iIndex, D_iArgument, D_iCall, D_iUnary, D_iBinary, D_iParameter, D_iFn, D_iImport, D_iImportItem, D_iFromImport]
def FN2 : List He.DefD := [D_iAssignment, D_iDef, D_iClassBlock, D_iOuterNames, D_iIf, D_iWhile, D_iFor, D_iReturn, D_iWordAlone, D_iEvaluation]
def FN : List He.DefD := FN0 ++ FN1 ++ FN2
def TS : List He.Tab := [((fun K => He.ga K "LEVELS"), levK)]
def EX (K : PySem.W.Frag) : Bool := exB K "BadText" && (exB K "BadSyntax" && (emptyB K (He.dflAt ("Cursor", some "take_name") 0 K) && (He.valsB K (He.ga K "LEVELS") levV && (He.tupB K "SIGNS" T_SIGNS && (He.tupB K "WORDS" T_WORDS && (He.tupB K "OPENING" T_OPENING && (He.tupB K "CLOSING" T_CLOSING && (He.tupB K "CONSTANTS" T_CONSTANTS && (He.eqO (PySem.W.specialIn K (.builtin "object.__class__") "__get__") (some (some (.builtin "getset_descriptor.__get__"))) && (decide (PySem.W.takesIn K (.builtin "object.__class__") = some true) && (nodeB K "Name" true && (nodeB K "Member" true && (nodeB K "Literal" false && (nodeB K "Group" false && (nodeB K "Listing" false && (nodeB K "Comprehension" false && (nodeB K "Index" false && (nodeB K "Call" false && (nodeB K "Unary" false && (nodeB K "Binary" false && (nodeB K "Fn" false)))))))))))))))))))))
set_option maxHeartbeats 8000000 in
theorem all_of {P : Program} {w : World} {K : PySem.W.Frag} {mg : Str → Option Value} {h : Heap} {fa : Addr} (X : K.In h) (G : h.Ns mainGlobals mg) (hfa : mg "law" = some (.ref fa)) (c : HdF.SaysY FA FN TS EX w K) : ∃ fd : FuncData, (∀ (s : Shared) (v : Value), BindsTo s fd ⟨[v], []⟩ [("_law_script", v)]) ∧ ∀ base : Heap, K.In base → base.Ns mainGlobals mg → FnOk P w K mg base CX0 139 fa fd ["_law_script"] (spLaw K) := by
  have d := c.t.d
  have e0 := c.more
  obtain ⟨eB, e0⟩ := He.ba e0
  obtain ⟨eS, e0⟩ := He.ba e0
  obtain ⟨eE, e0⟩ := He.ba e0
  obtain ⟨eL, e0⟩ := He.ba e0
  obtain ⟨e_SIGNS, e0⟩ := He.ba e0
  obtain ⟨e_WORDS, e0⟩ := He.ba e0
  obtain ⟨e_OPENING, e0⟩ := He.ba e0
  obtain ⟨e_CLOSING, e0⟩ := He.ba e0
  obtain ⟨e_CONSTANTS, e0⟩ := He.ba e0
  obtain ⟨eO1, e0⟩ := He.ba e0
  obtain ⟨eO2, e0⟩ := He.ba e0
  obtain ⟨eN0, e0⟩ := He.ba e0
  obtain ⟨eN1, e0⟩ := He.ba e0
  obtain ⟨eN2, e0⟩ := He.ba e0
  obtain ⟨eN3, e0⟩ := He.ba e0
  obtain ⟨eN4, e0⟩ := He.ba e0
  obtain ⟨eN5, e0⟩ := He.ba e0
  obtain ⟨eN6, e0⟩ := He.ba e0
  obtain ⟨eN7, e0⟩ := He.ba e0
  obtain ⟨eN8, e0⟩ := He.ba e0
  obtain ⟨eN9, e0⟩ := He.ba e0
  have eN10 := e0
  have dW : He.dicW K (He.ga K "LEVELS") = some (He.keysIn w.params levK) := by
    have e : TS.map (fun t => He.dicW K (t.1 K)) = TS.map fun t => some (He.keysIn w.params t.2) := congrArg (fun z : He.AlT => z.2) c.t
    exact List.cons.inj e |>.1
  obtain ⟨tkLETTERS, g_LETTERS⟩ := str_k (d.fact 51 (f := .str "LETTERS" "abcdefghijklmnopqrstuvwxyz") rfl)
  obtain ⟨tkDIGITS, g_DIGITS⟩ := str_k (d.fact 52 (f := .str "DIGITS" "0123456789") rfl)
  obtain ⟨tkRUN, g_RUN⟩ := str_k (d.fact 53 (f := .str "RUN" "abcdefghijklmnopqrstuvwxyz0123456789_") rfl)
  obtain ⟨tkBLANKS, g_BLANKS⟩ := str_k (d.fact 54 (f := .str "BLANKS" " \n") rfl)
  obtain ⟨tkLONGEST_NAME, g_LONGEST_NAME⟩ := int_k (d.fact 55 (f := .int "LONGEST_NAME" 20) rfl)
  obtain ⟨tkLONGEST_NUMBER, g_LONGEST_NUMBER⟩ := int_k (d.fact 56 (f := .int "LONGEST_NUMBER" 18) rfl)
  obtain ⟨tkLONGEST_TEXT, g_LONGEST_TEXT⟩ := int_k (d.fact 57 (f := .int "LONGEST_TEXT" 40) rfl)
  obtain ⟨tkLONGEST_PROGRAM, g_LONGEST_PROGRAM⟩ := int_k (d.fact 58 (f := .int "LONGEST_PROGRAM" 5000) rfl)
  obtain ⟨tkMOST_OPEN, g_MOST_OPEN⟩ := int_k (d.fact 59 (f := .int "MOST_OPEN" 30) rfl)
  obtain ⟨tkMOST_TOKENS, g_MOST_TOKENS⟩ := int_k (d.fact 60 (f := .int "MOST_TOKENS" 100) rfl)
  obtain ⟨tkPLAIN, g_PLAIN⟩ := int_k (d.fact 61 (f := .int "PLAIN" 0) rfl)
  obtain ⟨tkSTILL, g_STILL⟩ := int_k (d.fact 62 (f := .int "STILL" 1) rfl)
  obtain ⟨tkFREE, g_FREE⟩ := int_k (d.fact 63 (f := .int "FREE" 2) rfl)
  obtain ⟨tkLOOSEST, g_LOOSEST⟩ := int_k (d.fact 64 (f := .int "LOOSEST" 1) rfl)
  obtain ⟨tkNOT_LEVEL, g_NOT_LEVEL⟩ := int_k (d.fact 65 (f := .int "NOT_LEVEL" 3) rfl)
  obtain ⟨tkCOMPARISON, g_COMPARISON⟩ := int_k (d.fact 66 (f := .int "COMPARISON" 4) rfl)
  obtain ⟨tkCLOSEST, g_CLOSEST⟩ := int_k (d.fact 67 (f := .int "CLOSEST" 6) rfl)
  obtain ⟨ocEB, odEB, kVEB, dcEB, pmEB, anEB, cdEB, ctEB, slEB, lEB_, cEB_, kEB_⟩ := fun_k (d := D_EB) rfl (d.def_ 0 (d := D_EB) rfl)
  obtain ⟨ocES, odES, kVES, dcES, pmES, anES, cdES, ctES, slES, lES_, cES_, kES_⟩ := fun_k (d := D_ES) rfl (d.def_ 1 (d := D_ES) rfl)
  obtain ⟨ocIN, odIN, kVIN, dcIN, pmIN, anIN, cdIN, ctIN, slIN, lIN_, cIN_, kIN_⟩ := fun_k (d := D_IN) rfl (d.def_ 2 (d := D_IN) rfl)
  obtain ⟨ocNU, odNU, kVNU, dcNU, pmNU, anNU, cdNU, ctNU, slNU, lNU_, cNU_, kNU_⟩ := fun_k (d := D_NU) rfl (d.def_ 3 (d := D_NU) rfl)
  obtain ⟨ocRE, odRE, kVRE, dcRE, pmRE, anRE, cdRE, ctRE, slRE, lRE_, cRE_, kRE_⟩ := fun_k (d := D_RE) rfl (d.def_ 4 (d := D_RE) rfl)
  obtain ⟨ocLE, odLE, kVLE, dcLE, pmLE, anLE, cdLE, ctLE, slLE, lLE_, cLE_, kLE_⟩ := fun_k (d := D_LE) rfl (d.def_ 5 (d := D_LE) rfl)
  obtain ⟨ocTE, odTE, kVTE, dcTE, pmTE, anTE, cdTE, ctTE, slTE, lTE_, cTE_, kTE_⟩ := fun_k (d := D_TE) rfl (d.def_ 6 (d := D_TE) rfl)
  obtain ⟨ocRK, odRK, kVRK, dcRK, pmRK, anRK, cdRK, ctRK, slRK, lRK_, cRK_, kRK_⟩ := fun_k (d := D_RK) rfl (d.def_ 7 (d := D_RK) rfl)
  obtain ⟨ocTO, odTO, kVTO, dcTO, pmTO, anTO, cdTO, ctTO, slTO, lTO_, cTO_, kTO_⟩ := fun_k (d := D_TO) rfl (d.def_ 8 (d := D_TO) rfl)
  obtain ⟨ocTK, odTK, kVTK, dcTK, pmTK, anTK, cdTK, ctTK, slTK, lTK_, cTK_, kTK_⟩ := fun_k (d := D_TK) rfl (d.def_ 9 (d := D_TK) rfl)
  obtain ⟨ocPool, odPool, kVPool, dcPool, pmPool, anPool, cdPool, ctPool, slPool, lPool_, cPool_, kPool_⟩ := fun_k (d := D_Pool) rfl (d.def_ 10 (d := D_Pool) rfl)
  obtain ⟨ocTake, odTake, kVTake, dcTake, pmTake, anTake, cdTake, ctTake, slTake, lTake_, cTake_, kTake_⟩ := fun_k (d := D_Take) rfl (d.def_ 11 (d := D_Take) rfl)
  obtain ⟨ocAt, odAt, kVAt, dcAt, pmAt, anAt, cdAt, ctAt, slAt, lAt_, cAt_, kAt_⟩ := fun_k (d := D_At) rfl (d.def_ 12 (d := D_At) rfl)
  obtain ⟨ocTl, odTl, kVTl, dcTl, pmTl, anTl, cdTl, ctTl, slTl, lTl_, cTl_, kTl_⟩ := fun_k (d := D_Tl) rfl (d.def_ 13 (d := D_Tl) rfl)
  obtain ⟨ocBo, odBo, kVBo, dcBo, pmBo, anBo, cdBo, ctBo, slBo, lBo_, cBo_, kBo_⟩ := fun_k (d := D_Bo) rfl (d.def_ 14 (d := D_Bo) rfl)
  obtain ⟨ocL, odL, kVL, dcL, pmL, anL, cdL, ctL, slL, lL_, cL_, kL_⟩ := fun_k (d := D_L) rfl (d.def_ 15 (d := D_L) rfl)
  obtain ⟨ocrE, odrE, kVrE, dcrE, pmrE, anrE, cdrE, ctrE, slrE, lrE_, crE_, krE_⟩ := fun_k (d := D_rE) rfl (d.def_ 16 (d := D_rE) rfl)
  obtain ⟨ocrRT, odrRT, kVrRT, dcrRT, pmrRT, anrRT, cdrRT, ctrRT, slrRT, lrRT_, crRT_, krRT_⟩ := fun_k (d := D_rRT) rfl (d.def_ 17 (d := D_rRT) rfl)
  obtain ⟨ocrIT, odrIT, kVrIT, dcrIT, pmrIT, anrIT, cdrIT, ctrIT, slrIT, lrIT_, crIT_, krIT_⟩ := fun_k (d := D_rIT) rfl (d.def_ 18 (d := D_rIT) rfl)
  obtain ⟨ocrPS, odrPS, kVrPS, dcrPS, pmrPS, anrPS, cdrPS, ctrPS, slrPS, lrPS_, crPS_, krPS_⟩ := fun_k (d := D_rPS) rfl (d.def_ 19 (d := D_rPS) rfl)
  obtain ⟨ocrPM, odrPM, kVrPM, dcrPM, pmrPM, anrPM, cdrPM, ctrPM, slrPM, lrPM_, crPM_, krPM_⟩ := fun_k (d := D_rPM) rfl (d.def_ 20 (d := D_rPM) rfl)
  obtain ⟨ocrFN, odrFN, kVrFN, dcrFN, pmrFN, anrFN, cdrFN, ctrFN, slrFN, lrFN_, crFN_, krFN_⟩ := fun_k (d := D_rFN) rfl (d.def_ 21 (d := D_rFN) rfl)
  obtain ⟨ocrSG, odrSG, kVrSG, dcrSG, pmrSG, anrSG, cdrSG, ctrSG, slrSG, lrSG_, crSG_, krSG_⟩ := fun_k (d := D_rSG) rfl (d.def_ 22 (d := D_rSG) rfl)
  obtain ⟨ocrAH, odrAH, kVrAH, dcrAH, pmrAH, anrAH, cdrAH, ctrAH, slrAH, lrAH_, crAH_, krAH_⟩ := fun_k (d := D_rAH) rfl (d.def_ 23 (d := D_rAH) rfl)
  obtain ⟨ocrCL, odrCL, kVrCL, dcrCL, pmrCL, anrCL, cdrCL, ctrCL, slrCL, lrCL_, crCL_, krCL_⟩ := fun_k (d := D_rCL) rfl (d.def_ 24 (d := D_rCL) rfl)
  obtain ⟨ocrAS, odrAS, kVrAS, dcrAS, pmrAS, anrAS, cdrAS, ctrAS, slrAS, lrAS_, crAS_, krAS_⟩ := fun_k (d := D_rAS) rfl (d.def_ 25 (d := D_rAS) rfl)
  obtain ⟨ocrAR, odrAR, kVrAR, dcrAR, pmrAR, anrAR, cdrAR, ctrAR, slrAR, lrAR_, crAR_, krAR_⟩ := fun_k (d := D_rAR) rfl (d.def_ 26 (d := D_rAR) rfl)
  obtain ⟨ocrSI, odrSI, kVrSI, dcrSI, pmrSI, anrSI, cdrSI, ctrSI, slrSI, lrSI_, crSI_, krSI_⟩ := fun_k (d := D_rSI) rfl (d.def_ 27 (d := D_rSI) rfl)
  obtain ⟨ocrLI, odrLI, kVrLI, dcrLI, pmrLI, anrLI, cdrLI, ctrLI, slrLI, lrLI_, crLI_, krLI_⟩ := fun_k (d := D_rLI) rfl (d.def_ 28 (d := D_rLI) rfl)
  obtain ⟨ocrCO, odrCO, kVrCO, dcrCO, pmrCO, anrCO, cdrCO, ctrCO, slrCO, lrCO_, crCO_, krCO_⟩ := fun_k (d := D_rCO) rfl (d.def_ 29 (d := D_rCO) rfl)
  obtain ⟨ocrMO, odrMO, kVrMO, dcrMO, pmrMO, anrMO, cdrMO, ctrMO, slrMO, lrMO_, crMO_, krMO_⟩ := fun_k (d := D_rMO) rfl (d.def_ 30 (d := D_rMO) rfl)
  obtain ⟨ocrTO1, odrTO1, kVrTO1, dcrTO1, pmrTO1, anrTO1, cdrTO1, ctrTO1, slrTO1, lrTO1_, crTO1_, krTO1_⟩ := fun_k (d := D_rTO1) rfl (d.def_ 31 (d := D_rTO1) rfl)
  obtain ⟨ocrDA, odrDA, kVrDA, dcrDA, pmrDA, anrDA, cdrDA, ctrDA, slrDA, lrDA_, crDA_, krDA_⟩ := fun_k (d := D_rDA) rfl (d.def_ 32 (d := D_rDA) rfl)
  obtain ⟨ocrRS, odrRS, kVrRS, dcrRS, pmrRS, anrRS, cdrRS, ctrRS, slrRS, lrRS_, crRS_, krRS_⟩ := fun_k (d := D_rRS) rfl (d.def_ 33 (d := D_rRS) rfl)
  obtain ⟨ocrIM, odrIM, kVrIM, dcrIM, pmrIM, anrIM, cdrIM, ctrIM, slrIM, lrIM_, crIM_, krIM_⟩ := fun_k (d := D_rIM) rfl (d.def_ 34 (d := D_rIM) rfl)
  obtain ⟨ocrAL, odrAL, kVrAL, dcrAL, pmrAL, anrAL, cdrAL, ctrAL, slrAL, lrAL_, crAL_, krAL_⟩ := fun_k (d := D_rAL) rfl (d.def_ 35 (d := D_rAL) rfl)
  obtain ⟨ocrFR, odrFR, kVrFR, dcrFR, pmrFR, anrFR, cdrFR, ctrFR, slrFR, lrFR_, crFR_, krFR_⟩ := fun_k (d := D_rFR) rfl (d.def_ 36 (d := D_rFR) rfl)
  obtain ⟨ocrIS, odrIS, kVrIS, dcrIS, pmrIS, anrIS, cdrIS, ctrIS, slrIS, lrIS_, crIS_, krIS_⟩ := fun_k (d := D_rIS) rfl (d.def_ 37 (d := D_rIS) rfl)
  obtain ⟨ocrII, odrII, kVrII, dcrII, pmrII, anrII, cdrII, ctrII, slrII, lrII_, crII_, krII_⟩ := fun_k (d := D_rII) rfl (d.def_ 38 (d := D_rII) rfl)
  obtain ⟨ocrCC, odrCC, kVrCC, dcrCC, pmrCC, anrCC, cdrCC, ctrCC, slrCC, lrCC_, crCC_, krCC_⟩ := fun_k (d := D_rCC) rfl (d.def_ 39 (d := D_rCC) rfl)
  obtain ⟨ocrDE, odrDE, kVrDE, dcrDE, pmrDE, anrDE, cdrDE, ctrDE, slrDE, lrDE_, crDE_, krDE_⟩ := fun_k (d := D_rDE) rfl (d.def_ 40 (d := D_rDE) rfl)
  obtain ⟨ocrBL, odrBL, kVrBL, dcrBL, pmrBL, anrBL, cdrBL, ctrBL, slrBL, lrBL_, crBL_, krBL_⟩ := fun_k (d := D_rBL) rfl (d.def_ 41 (d := D_rBL) rfl)
  obtain ⟨ocrSS, odrSS, kVrSS, dcrSS, pmrSS, anrSS, cdrSS, ctrSS, slrSS, lrSS_, crSS_, krSS_⟩ := fun_k (d := D_rSS) rfl (d.def_ 42 (d := D_rSS) rfl)
  obtain ⟨ocrIF, odrIF, kVrIF, dcrIF, pmrIF, anrIF, cdrIF, ctrIF, slrIF, lrIF_, crIF_, krIF_⟩ := fun_k (d := D_rIF) rfl (d.def_ 43 (d := D_rIF) rfl)
  obtain ⟨ocrWH, odrWH, kVrWH, dcrWH, pmrWH, anrWH, cdrWH, ctrWH, slrWH, lrWH_, crWH_, krWH_⟩ := fun_k (d := D_rWH) rfl (d.def_ 44 (d := D_rWH) rfl)
  obtain ⟨ocrFO, odrFO, kVrFO, dcrFO, pmrFO, anrFO, cdrFO, ctrFO, slrFO, lrFO_, crFO_, krFO_⟩ := fun_k (d := D_rFO) rfl (d.def_ 45 (d := D_rFO) rfl)
  obtain ⟨ocrRE1, odrRE1, kVrRE1, dcrRE1, pmrRE1, anrRE1, cdrRE1, ctrRE1, slrRE1, lrRE1_, crRE1_, krRE1_⟩ := fun_k (d := D_rRE1) rfl (d.def_ 46 (d := D_rRE1) rfl)
  obtain ⟨ocrON, odrON, kVrON, dcrON, pmrON, anrON, cdrON, ctrON, slrON, lrON_, crON_, krON_⟩ := fun_k (d := D_rON) rfl (d.def_ 47 (d := D_rON) rfl)
  obtain ⟨ocrAE, odrAE, kVrAE, dcrAE, pmrAE, anrAE, cdrAE, ctrAE, slrAE, lrAE_, crAE_, krAE_⟩ := fun_k (d := D_rAE) rfl (d.def_ 48 (d := D_rAE) rfl)
  obtain ⟨ocrCS1, odrCS1, kVrCS1, dcrCS1, pmrCS1, anrCS1, cdrCS1, ctrCS1, slrCS1, lrCS1_, crCS1_, krCS1_⟩ := fun_k (d := D_rCS1) rfl (d.def_ 49 (d := D_rCS1) rfl)
  obtain ⟨ocmCI, odmCI, kVmCI, dcmCI, pmmCI, anmCI, cdmCI, ctmCI, slmCI, lmCI_, cmCI_, kmCI_⟩ := fun_k (d := D_mCI) rfl (d.def_ 50 (d := D_mCI) rfl)
  obtain ⟨fdmNT, FmNT⟩ := d.def_ 51 (d := D_mNT) rfl
  obtain ⟨ocmNK, odmNK, kVmNK, dcmNK, pmmNK, anmNK, cdmNK, ctmNK, slmNK, lmNK_, cmNK_, kmNK_⟩ := fun_k (d := D_mNK) rfl (d.def_ 52 (d := D_mNK) rfl)
  obtain ⟨ocmNS, odmNS, kVmNS, dcmNS, pmmNS, anmNS, cdmNS, ctmNS, slmNS, lmNS_, cmNS_, kmNS_⟩ := fun_k (d := D_mNS) rfl (d.def_ 53 (d := D_mNS) rfl)
  obtain ⟨ocmRF, odmRF, kVmRF, dcmRF, pmmRF, anmRF, cdmRF, ctmRF, slmRF, lmRF_, cmRF_, kmRF_⟩ := fun_k (d := D_mRF) rfl (d.def_ 54 (d := D_mRF) rfl)
  obtain ⟨ocmTA, odmTA, kVmTA, dcmTA, pmmTA, anmTA, cdmTA, ctmTA, slmTA, lmTA_, cmTA_, kmTA_⟩ := fun_k (d := D_mTA) rfl (d.def_ 55 (d := D_mTA) rfl)
  obtain ⟨ocmIB, odmIB, kVmIB, dcmIB, pmmIB, anmIB, cdmIB, ctmIB, slmIB, lmIB_, cmIB_, kmIB_⟩ := fun_k (d := D_mIB) rfl (d.def_ 56 (d := D_mIB) rfl)
  obtain ⟨ocmEX, odmEX, kVmEX, dcmEX, pmmEX, anmEX, cdmEX, ctmEX, slmEX, lmEX_, cmEX_, kmEX_⟩ := fun_k (d := D_mEX) rfl (d.def_ 57 (d := D_mEX) rfl)
  obtain ⟨ocmTI, odmTI, kVmTI, dcmTI, pmmTI, anmTI, cdmTI, ctmTI, slmTI, lmTI_, cmTI_, kmTI_⟩ := fun_k (d := D_mTI) rfl (d.def_ 58 (d := D_mTI) rfl)
  obtain ⟨fdmTN, FmTN⟩ := d.def_ 59 (d := D_mTN) rfl
  obtain ⟨ocmBE, odmBE, kVmBE, dcmBE, pmmBE, anmBE, cdmBE, ctmBE, slmBE, lmBE_, cmBE_, kmBE_⟩ := fun_k (d := D_mBE) rfl (d.def_ 60 (d := D_mBE) rfl)
  obtain ⟨ocmEE, odmEE, kVmEE, dcmEE, pmmEE, anmEE, cdmEE, ctmEE, slmEE, lmEE_, cmEE_, kmEE_⟩ := fun_k (d := D_mEE) rfl (d.def_ 61 (d := D_mEE) rfl)
  obtain ⟨ocmBI, odmBI, kVmBI, dcmBI, pmmBI, anmBI, cdmBI, ctmBI, slmBI, lmBI_, cmBI_, kmBI_⟩ := fun_k (d := D_mBI) rfl (d.def_ 62 (d := D_mBI) rfl)
  obtain ⟨ocmEI, odmEI, kVmEI, dcmEI, pmmEI, anmEI, cdmEI, ctmEI, slmEI, lmEI_, cmEI_, kmEI_⟩ := fun_k (d := D_mEI) rfl (d.def_ 63 (d := D_mEI) rfl)
  obtain ⟨ociName, odiName, kViName, dciName, pmiName, aniName, cdiName, ctiName, sliName, liName_, ciName_, kiName_⟩ := fun_k (d := D_iName) rfl (d.def_ 64 (d := D_iName) rfl)
  obtain ⟨ociLiteral, odiLiteral, kViLiteral, dciLiteral, pmiLiteral, aniLiteral, cdiLiteral, ctiLiteral, sliLiteral, liLiteral_, ciLiteral_, kiLiteral_⟩ := fun_k (d := D_iLiteral) rfl (d.def_ 65 (d := D_iLiteral) rfl)
  obtain ⟨ociGroup, odiGroup, kViGroup, dciGroup, pmiGroup, aniGroup, cdiGroup, ctiGroup, sliGroup, liGroup_, ciGroup_, kiGroup_⟩ := fun_k (d := D_iGroup) rfl (d.def_ 66 (d := D_iGroup) rfl)
  obtain ⟨ociListing, odiListing, kViListing, dciListing, pmiListing, aniListing, cdiListing, ctiListing, sliListing, liListing_, ciListing_, kiListing_⟩ := fun_k (d := D_iListing) rfl (d.def_ 67 (d := D_iListing) rfl)
  obtain ⟨ociComprehension, odiComprehension, kViComprehension, dciComprehension, pmiComprehension, aniComprehension, cdiComprehension, ctiComprehension, sliComprehension, liComprehension_, ciComprehension_, kiComprehension_⟩ := fun_k (d := D_iComprehension) rfl (d.def_ 68 (d := D_iComprehension) rfl)
  obtain ⟨ociMember, odiMember, kViMember, dciMember, pmiMember, aniMember, cdiMember, ctiMember, sliMember, liMember_, ciMember_, kiMember_⟩ := fun_k (d := D_iMember) rfl (d.def_ 69 (d := D_iMember) rfl)
  obtain ⟨ociIndex, odiIndex, kViIndex, dciIndex, pmiIndex, aniIndex, cdiIndex, ctiIndex, sliIndex, liIndex_, ciIndex_, kiIndex_⟩ := fun_k (d := D_iIndex) rfl (d.def_ 70 (d := D_iIndex) rfl)
  obtain ⟨ociArgument, odiArgument, kViArgument, dciArgument, pmiArgument, aniArgument, cdiArgument, ctiArgument, sliArgument, liArgument_, ciArgument_, kiArgument_⟩ := fun_k (d := D_iArgument) rfl (d.def_ 71 (d := D_iArgument) rfl)
  obtain ⟨ociCall, odiCall, kViCall, dciCall, pmiCall, aniCall, cdiCall, ctiCall, sliCall, liCall_, ciCall_, kiCall_⟩ := fun_k (d := D_iCall) rfl (d.def_ 72 (d := D_iCall) rfl)
  obtain ⟨ociUnary, odiUnary, kViUnary, dciUnary, pmiUnary, aniUnary, cdiUnary, ctiUnary, sliUnary, liUnary_, ciUnary_, kiUnary_⟩ := fun_k (d := D_iUnary) rfl (d.def_ 73 (d := D_iUnary) rfl)
  obtain ⟨ociBinary, odiBinary, kViBinary, dciBinary, pmiBinary, aniBinary, cdiBinary, ctiBinary, sliBinary, liBinary_, ciBinary_, kiBinary_⟩ := fun_k (d := D_iBinary) rfl (d.def_ 74 (d := D_iBinary) rfl)
  obtain ⟨ociParameter, odiParameter, kViParameter, dciParameter, pmiParameter, aniParameter, cdiParameter, ctiParameter, sliParameter, liParameter_, ciParameter_, kiParameter_⟩ := fun_k (d := D_iParameter) rfl (d.def_ 75 (d := D_iParameter) rfl)
  obtain ⟨ociFn, odiFn, kViFn, dciFn, pmiFn, aniFn, cdiFn, ctiFn, sliFn, liFn_, ciFn_, kiFn_⟩ := fun_k (d := D_iFn) rfl (d.def_ 76 (d := D_iFn) rfl)
  obtain ⟨ociImport, odiImport, kViImport, dciImport, pmiImport, aniImport, cdiImport, ctiImport, sliImport, liImport_, ciImport_, kiImport_⟩ := fun_k (d := D_iImport) rfl (d.def_ 77 (d := D_iImport) rfl)
  obtain ⟨ociImportItem, odiImportItem, kViImportItem, dciImportItem, pmiImportItem, aniImportItem, cdiImportItem, ctiImportItem, sliImportItem, liImportItem_, ciImportItem_, kiImportItem_⟩ := fun_k (d := D_iImportItem) rfl (d.def_ 78 (d := D_iImportItem) rfl)
  obtain ⟨ociFromImport, odiFromImport, kViFromImport, dciFromImport, pmiFromImport, aniFromImport, cdiFromImport, ctiFromImport, sliFromImport, liFromImport_, ciFromImport_, kiFromImport_⟩ := fun_k (d := D_iFromImport) rfl (d.def_ 79 (d := D_iFromImport) rfl)
  obtain ⟨ociAssignment, odiAssignment, kViAssignment, dciAssignment, pmiAssignment, aniAssignment, cdiAssignment, ctiAssignment, sliAssignment, liAssignment_, ciAssignment_, kiAssignment_⟩ := fun_k (d := D_iAssignment) rfl (d.def_ 80 (d := D_iAssignment) rfl)
  obtain ⟨ociDef, odiDef, kViDef, dciDef, pmiDef, aniDef, cdiDef, ctiDef, sliDef, liDef_, ciDef_, kiDef_⟩ := fun_k (d := D_iDef) rfl (d.def_ 81 (d := D_iDef) rfl)
  obtain ⟨ociClassBlock, odiClassBlock, kViClassBlock, dciClassBlock, pmiClassBlock, aniClassBlock, cdiClassBlock, ctiClassBlock, sliClassBlock, liClassBlock_, ciClassBlock_, kiClassBlock_⟩ := fun_k (d := D_iClassBlock) rfl (d.def_ 82 (d := D_iClassBlock) rfl)
  obtain ⟨ociOuterNames, odiOuterNames, kViOuterNames, dciOuterNames, pmiOuterNames, aniOuterNames, cdiOuterNames, ctiOuterNames, sliOuterNames, liOuterNames_, ciOuterNames_, kiOuterNames_⟩ := fun_k (d := D_iOuterNames) rfl (d.def_ 83 (d := D_iOuterNames) rfl)
  obtain ⟨ociIf, odiIf, kViIf, dciIf, pmiIf, aniIf, cdiIf, ctiIf, sliIf, liIf_, ciIf_, kiIf_⟩ := fun_k (d := D_iIf) rfl (d.def_ 84 (d := D_iIf) rfl)
  obtain ⟨ociWhile, odiWhile, kViWhile, dciWhile, pmiWhile, aniWhile, cdiWhile, ctiWhile, sliWhile, liWhile_, ciWhile_, kiWhile_⟩ := fun_k (d := D_iWhile) rfl (d.def_ 85 (d := D_iWhile) rfl)
  obtain ⟨ociFor, odiFor, kViFor, dciFor, pmiFor, aniFor, cdiFor, ctiFor, sliFor, liFor_, ciFor_, kiFor_⟩ := fun_k (d := D_iFor) rfl (d.def_ 86 (d := D_iFor) rfl)
  obtain ⟨ociReturn, odiReturn, kViReturn, dciReturn, pmiReturn, aniReturn, cdiReturn, ctiReturn, sliReturn, liReturn_, ciReturn_, kiReturn_⟩ := fun_k (d := D_iReturn) rfl (d.def_ 87 (d := D_iReturn) rfl)
  obtain ⟨ociWordAlone, odiWordAlone, kViWordAlone, dciWordAlone, pmiWordAlone, aniWordAlone, cdiWordAlone, ctiWordAlone, sliWordAlone, liWordAlone_, ciWordAlone_, kiWordAlone_⟩ := fun_k (d := D_iWordAlone) rfl (d.def_ 88 (d := D_iWordAlone) rfl)
  obtain ⟨ociEvaluation, odiEvaluation, kViEvaluation, dciEvaluation, pmiEvaluation, aniEvaluation, cdiEvaluation, ctiEvaluation, sliEvaluation, liEvaluation_, ciEvaluation_, kiEvaluation_⟩ := fun_k (d := D_iEvaluation) rfl (d.def_ 89 (d := D_iEvaluation) rfl)
  exact all_mk X G hfa (He.eqO_ok (d.fact 16 (f := .glo "law") rfl))
    lEB_
    cEB_
    kEB_
    (exB_ok X G (d.fact 0 (f := .glo "BadText") rfl) eB)
    lES_
    cES_
    kES_
    (exB_ok X G (d.fact 1 (f := .glo "BadSyntax") rfl) eS)
    (He.exm_ok (d.fact 2 (f := .exm "BadSyntax" "BadText" false) rfl))
    (He.eqO_ok (d.fact 3 (f := .glo "is_name") rfl))
    lIN_
    cIN_
    kIN_
    (He.eqO_ok (d.fact 4 (f := .glo "_is_number") rfl))
    lNU_
    cNU_
    kNU_
    (He.eqO_ok (d.fact 5 (f := .glo "_run_end") rfl))
    lRE_
    cRE_
    kRE_
    (He.eqO_ok (d.fact 6 (f := .glo "_line_end") rfl))
    lLE_
    cLE_
    kLE_
    (He.eqO_ok (d.fact 7 (f := .glo "_text_end") rfl))
    lTE_
    cTE_
    kTE_
    (He.eqO_ok (d.fact 8 (f := .glo "_run_kind") rfl))
    lRK_
    cRK_
    kRK_
    (He.eqO_ok (d.fact 9 (f := .glo "_token") rfl))
    lTO_
    cTO_
    kTO_
    (He.eqO_ok (d.fact 10 (f := .glo "tokens") rfl))
    lTK_
    cTK_
    kTK_
    (He.eqO_ok (d.fact 11 (f := .glo "_law_pool") rfl))
    lPool_
    cPool_
    kPool_
    (He.eqO_ok (d.fact 12 (f := .glo "_law_take") rfl))
    lTake_
    cTake_
    kTake_
    (He.eqO_ok (d.fact 13 (f := .glo "_law_at") rfl))
    lAt_
    cAt_
    kAt_
    (He.eqO_ok (d.fact 14 (f := .glo "_law_tails") rfl))
    lTl_
    cTl_
    kTl_
    (He.eqO_ok (d.fact 15 (f := .glo "_law_bodies") rfl))
    lBo_
    cBo_
    kBo_
    lL_
    cL_
    kL_
    (He.eqO_ok (d.fact 17 (f := .glo "read_expression") rfl))
    lrE_
    crE_
    krE_
    (He.eqO_ok (d.fact 18 (f := .glo "read_target") rfl))
    lrRT_
    crRT_
    krRT_
    (He.eqO_ok (d.fact 19 (f := .glo "is_target") rfl))
    lrIT_
    crIT_
    krIT_
    (He.eqO_ok (d.fact 20 (f := .glo "read_parameters") rfl))
    lrPS_
    crPS_
    krPS_
    (He.eqO_ok (d.fact 21 (f := .glo "_read_parameter") rfl))
    lrPM_
    crPM_
    krPM_
    (He.eqO_ok (d.fact 22 (f := .glo "_read_fn") rfl))
    lrFN_
    crFN_
    krFN_
    (He.eqO_ok (d.fact 23 (f := .glo "_read_signs") rfl))
    lrSG_
    crSG_
    krSG_
    (He.eqO_ok (d.fact 24 (f := .glo "_read_ahead") rfl))
    lrAH_
    crAH_
    krAH_
    (He.eqO_ok (d.fact 25 (f := .glo "_read_call") rfl))
    lrCL_
    crCL_
    krCL_
    (He.eqO_ok (d.fact 26 (f := .glo "_read_arguments") rfl))
    lrAS_
    crAS_
    krAS_
    (He.eqO_ok (d.fact 27 (f := .glo "_read_argument") rfl))
    lrAR_
    crAR_
    krAR_
    (He.eqO_ok (d.fact 28 (f := .glo "_read_single") rfl))
    lrSI_
    crSI_
    krSI_
    (He.eqO_ok (d.fact 29 (f := .glo "_read_list") rfl))
    lrLI_
    crLI_
    krLI_
    (He.eqO_ok (d.fact 30 (f := .glo "_read_comprehension") rfl))
    lrCO_
    crCO_
    krCO_
    (He.eqO_ok (d.fact 31 (f := .glo "read_module") rfl))
    lrMO_
    crMO_
    krMO_
    (He.eqO_ok (d.fact 32 (f := .glo "_read_top") rfl))
    lrTO1_
    crTO1_
    krTO1_
    (He.eqO_ok (d.fact 33 (f := .glo "_read_def_or_assignment") rfl))
    lrDA_
    crDA_
    krDA_
    (He.eqO_ok (d.fact 34 (f := .glo "_read_right_side") rfl))
    lrRS_
    crRS_
    krRS_
    (He.eqO_ok (d.fact 35 (f := .glo "_read_import") rfl))
    lrIM_
    crIM_
    krIM_
    (He.eqO_ok (d.fact 36 (f := .glo "_read_alias") rfl))
    lrAL_
    crAL_
    krAL_
    (He.eqO_ok (d.fact 37 (f := .glo "_read_from") rfl))
    lrFR_
    crFR_
    krFR_
    (He.eqO_ok (d.fact 38 (f := .glo "_read_items") rfl))
    lrIS_
    crIS_
    krIS_
    (He.eqO_ok (d.fact 39 (f := .glo "_read_item") rfl))
    lrII_
    crII_
    krII_
    (He.eqO_ok (d.fact 40 (f := .glo "_read_class") rfl))
    lrCC_
    crCC_
    krCC_
    (He.eqO_ok (d.fact 41 (f := .glo "_read_def") rfl))
    lrDE_
    crDE_
    krDE_
    (He.eqO_ok (d.fact 42 (f := .glo "_read_block") rfl))
    lrBL_
    crBL_
    krBL_
    (He.eqO_ok (d.fact 43 (f := .glo "_read_statement") rfl))
    lrSS_
    crSS_
    krSS_
    (He.eqO_ok (d.fact 44 (f := .glo "_read_if") rfl))
    lrIF_
    crIF_
    krIF_
    (He.eqO_ok (d.fact 45 (f := .glo "_read_while") rfl))
    lrWH_
    crWH_
    krWH_
    (He.eqO_ok (d.fact 46 (f := .glo "_read_for") rfl))
    lrFO_
    crFO_
    krFO_
    (He.eqO_ok (d.fact 47 (f := .glo "_read_return") rfl))
    lrRE1_
    crRE1_
    krRE1_
    (He.eqO_ok (d.fact 48 (f := .glo "_read_outer_names") rfl))
    lrON_
    crON_
    krON_
    (He.eqO_ok (d.fact 49 (f := .glo "_read_assignment_or_evaluation") rfl))
    lrAE_
    crAE_
    krAE_
    (He.eqO_ok (d.fact 50 (f := .glo "check_syntax") rfl))
    lrCS1_
    crCS1_
    krCS1_
    g_LETTERS
    g_DIGITS
    g_RUN
    g_BLANKS
    g_LONGEST_NAME
    g_LONGEST_NUMBER
    g_LONGEST_TEXT
    g_LONGEST_PROGRAM
    g_MOST_OPEN
    g_MOST_TOKENS
    g_PLAIN
    g_STILL
    g_FREE
    g_LOOSEST
    g_NOT_LEVEL
    g_COMPARISON
    g_CLOSEST
    (He.eqO_ok (d.fact 68 (f := .glo "SIGNS") rfl))
    (He.tupB_ok e_SIGNS)
    (He.eqO_ok (d.fact 69 (f := .glo "WORDS") rfl))
    (He.tupB_ok e_WORDS)
    (He.eqO_ok (d.fact 70 (f := .glo "OPENING") rfl))
    (He.tupB_ok e_OPENING)
    (He.eqO_ok (d.fact 71 (f := .glo "CLOSING") rfl))
    (He.tupB_ok e_CLOSING)
    (He.eqO_ok (d.fact 72 (f := .glo "CONSTANTS") rfl))
    (He.tupB_ok e_CONSTANTS)
    (He.eqO_ok (d.fact 73 (f := .glo "LEVELS") rfl))
    (levD_of dW eL)
    (He.eqO_ok (d.fact 74 (f := .free "range") rfl))
    (He.eqO_ok (d.fact 75 (f := .free "max") rfl))
    (He.eqO_ok (d.fact 76 (f := .free "min") rfl))
    (He.eqO_ok (d.fact 77 (f := .free "len") rfl))
    (He.eqO_ok (d.fact 78 (f := .free "abs") rfl))
    (He.eqO_ok (d.fact 79 (f := .free "int") rfl))
    (He.eqO_ok (d.fact 80 (f := .free "isinstance") rfl))
    (He.eqO_ok (d.fact 81 (f := .free "repr") rfl))
    (He.eqO_ok (d.fact 82 (f := .free "str") rfl))
    (He.eqO_ok (d.fact 83 (f := .free "all") rfl))
    (He.eqO_ok (d.fact 84 (f := .free "reversed") rfl))
    (He.eqO_ok (d.fact 87 (f := .glo "Cursor") rfl))
    (He.cls_ok (d.fact 85 (f := .cls "Cursor") rfl)).1
    (He.cls_ok (d.fact 85 (f := .cls "Cursor") rfl)).2
    (He.cls_ok (d.fact 85 (f := .cls "Cursor") rfl)).3
    (He.cls_ok (d.fact 85 (f := .cls "Cursor") rfl)).4
    (He.mkr_ok (d.fact 86 (f := .mkr "Cursor") rfl)).1
    (He.mkr_ok (d.fact 86 (f := .mkr "Cursor") rfl)).4
    (He.noat_ok (d.fact 88 (f := .noat "Cursor" "end") rfl))
    (He.noat_ok (d.fact 89 (f := .noat "Cursor" "_tokens") rfl))
    (He.noat_ok (d.fact 90 (f := .noat "Cursor" "_length") rfl))
    (He.noat_ok (d.fact 91 (f := .noat "Cursor" "_at") rfl))
    (He.noat_ok (d.fact 92 (f := .noat "Cursor" "_opened") rfl))
    (He.noat_ok (d.fact 93 (f := .noat "Cursor" "_first") rfl))
    (He.meth_ok (d.fact 94 (f := .meth "Cursor" "__init__") rfl)).1
    lmCI_
    cmCI_
    kmCI_
    (He.meth_ok (d.fact 94 (f := .meth "Cursor" "__init__") rfl)).2
    (He.meth_ok (d.fact 95 (f := .meth "Cursor" "next_text") rfl)).1
    FmNT
    (He.meth_ok (d.fact 95 (f := .meth "Cursor" "next_text") rfl)).2
    (He.meth_ok (d.fact 96 (f := .meth "Cursor" "next_kind") rfl)).1
    lmNK_
    cmNK_
    kmNK_
    (He.meth_ok (d.fact 96 (f := .meth "Cursor" "next_kind") rfl)).2
    (He.meth_ok (d.fact 97 (f := .meth "Cursor" "next_start") rfl)).1
    lmNS_
    cmNS_
    kmNS_
    (He.meth_ok (d.fact 97 (f := .meth "Cursor" "next_start") rfl)).2
    (He.meth_ok (d.fact 98 (f := .meth "Cursor" "refuse") rfl)).1
    lmRF_
    cmRF_
    kmRF_
    (He.meth_ok (d.fact 98 (f := .meth "Cursor" "refuse") rfl)).2
    (He.meth_ok (d.fact 99 (f := .meth "Cursor" "take") rfl)).1
    lmTA_
    cmTA_
    kmTA_
    (He.meth_ok (d.fact 99 (f := .meth "Cursor" "take") rfl)).2
    (He.meth_ok (d.fact 100 (f := .meth "Cursor" "_is_beyond") rfl)).1
    lmIB_
    cmIB_
    kmIB_
    (He.meth_ok (d.fact 100 (f := .meth "Cursor" "_is_beyond") rfl)).2
    (He.meth_ok (d.fact 101 (f := .meth "Cursor" "expect") rfl)).1
    lmEX_
    cmEX_
    kmEX_
    (He.meth_ok (d.fact 101 (f := .meth "Cursor" "expect") rfl)).2
    (He.meth_ok (d.fact 102 (f := .meth "Cursor" "take_if") rfl)).1
    lmTI_
    cmTI_
    kmTI_
    (He.meth_ok (d.fact 102 (f := .meth "Cursor" "take_if") rfl)).2
    (He.meth_ok (d.fact 103 (f := .meth "Cursor" "take_name") rfl)).1
    FmTN
    (He.meth_ok (d.fact 103 (f := .meth "Cursor" "take_name") rfl)).2
    (He.meth_ok (d.fact 104 (f := .meth "Cursor" "begin_expression") rfl)).1
    lmBE_
    cmBE_
    kmBE_
    (He.meth_ok (d.fact 104 (f := .meth "Cursor" "begin_expression") rfl)).2
    (He.meth_ok (d.fact 105 (f := .meth "Cursor" "end_expression") rfl)).1
    lmEE_
    cmEE_
    kmEE_
    (He.meth_ok (d.fact 105 (f := .meth "Cursor" "end_expression") rfl)).2
    (He.meth_ok (d.fact 106 (f := .meth "Cursor" "begin_else_if") rfl)).1
    lmBI_
    cmBI_
    kmBI_
    (He.meth_ok (d.fact 106 (f := .meth "Cursor" "begin_else_if") rfl)).2
    (He.meth_ok (d.fact 107 (f := .meth "Cursor" "end_else_if") rfl)).1
    lmEI_
    cmEI_
    kmEI_
    (He.meth_ok (d.fact 107 (f := .meth "Cursor" "end_else_if") rfl)).2
    (emptyB_ok eE)
    (He.eqO_ok (d.fact 110 (f := .glo "Name") rfl))
    (He.cls_ok (d.fact 108 (f := .cls "Name") rfl)).1
    (He.cls_ok (d.fact 108 (f := .cls "Name") rfl)).2
    (He.cls_ok (d.fact 108 (f := .cls "Name") rfl)).3
    (He.cls_ok (d.fact 108 (f := .cls "Name") rfl)).4
    (He.mkr_ok (d.fact 109 (f := .mkr "Name") rfl)).1
    (He.mkr_ok (d.fact 109 (f := .mkr "Name") rfl)).4
    (He.noat_ok (d.fact 111 (f := .noat "Name" "text") rfl))
    (He.noat_ok (d.fact 112 (f := .noat "Name" "start") rfl))
    (He.noat_ok (d.fact 113 (f := .noat "Name" "end") rfl))
    (He.mkr_ok (d.fact 109 (f := .mkr "Name") rfl)).2
    liName_
    ciName_
    kiName_
    (He.mkr_ok (d.fact 109 (f := .mkr "Name") rfl)).3
    (He.eqO_ok (d.fact 116 (f := .glo "Literal") rfl))
    (He.cls_ok (d.fact 114 (f := .cls "Literal") rfl)).1
    (He.cls_ok (d.fact 114 (f := .cls "Literal") rfl)).2
    (He.cls_ok (d.fact 114 (f := .cls "Literal") rfl)).3
    (He.cls_ok (d.fact 114 (f := .cls "Literal") rfl)).4
    (He.mkr_ok (d.fact 115 (f := .mkr "Literal") rfl)).1
    (He.mkr_ok (d.fact 115 (f := .mkr "Literal") rfl)).4
    (He.noat_ok (d.fact 117 (f := .noat "Literal" "text") rfl))
    (He.noat_ok (d.fact 118 (f := .noat "Literal" "start") rfl))
    (He.noat_ok (d.fact 119 (f := .noat "Literal" "end") rfl))
    (He.mkr_ok (d.fact 115 (f := .mkr "Literal") rfl)).2
    liLiteral_
    ciLiteral_
    kiLiteral_
    (He.mkr_ok (d.fact 115 (f := .mkr "Literal") rfl)).3
    (He.eqO_ok (d.fact 122 (f := .glo "Group") rfl))
    (He.cls_ok (d.fact 120 (f := .cls "Group") rfl)).1
    (He.cls_ok (d.fact 120 (f := .cls "Group") rfl)).2
    (He.cls_ok (d.fact 120 (f := .cls "Group") rfl)).3
    (He.cls_ok (d.fact 120 (f := .cls "Group") rfl)).4
    (He.mkr_ok (d.fact 121 (f := .mkr "Group") rfl)).1
    (He.mkr_ok (d.fact 121 (f := .mkr "Group") rfl)).4
    (He.noat_ok (d.fact 123 (f := .noat "Group" "start") rfl))
    (He.noat_ok (d.fact 124 (f := .noat "Group" "end") rfl))
    (He.noat_ok (d.fact 125 (f := .noat "Group" "inner") rfl))
    (He.mkr_ok (d.fact 121 (f := .mkr "Group") rfl)).2
    liGroup_
    ciGroup_
    kiGroup_
    (He.mkr_ok (d.fact 121 (f := .mkr "Group") rfl)).3
    (He.eqO_ok (d.fact 128 (f := .glo "Listing") rfl))
    (He.cls_ok (d.fact 126 (f := .cls "Listing") rfl)).1
    (He.cls_ok (d.fact 126 (f := .cls "Listing") rfl)).2
    (He.cls_ok (d.fact 126 (f := .cls "Listing") rfl)).3
    (He.cls_ok (d.fact 126 (f := .cls "Listing") rfl)).4
    (He.mkr_ok (d.fact 127 (f := .mkr "Listing") rfl)).1
    (He.mkr_ok (d.fact 127 (f := .mkr "Listing") rfl)).4
    (He.noat_ok (d.fact 129 (f := .noat "Listing" "start") rfl))
    (He.noat_ok (d.fact 130 (f := .noat "Listing" "end") rfl))
    (He.noat_ok (d.fact 131 (f := .noat "Listing" "rows") rfl))
    (He.mkr_ok (d.fact 127 (f := .mkr "Listing") rfl)).2
    liListing_
    ciListing_
    kiListing_
    (He.mkr_ok (d.fact 127 (f := .mkr "Listing") rfl)).3
    (He.eqO_ok (d.fact 134 (f := .glo "Comprehension") rfl))
    (He.cls_ok (d.fact 132 (f := .cls "Comprehension") rfl)).1
    (He.cls_ok (d.fact 132 (f := .cls "Comprehension") rfl)).2
    (He.cls_ok (d.fact 132 (f := .cls "Comprehension") rfl)).3
    (He.cls_ok (d.fact 132 (f := .cls "Comprehension") rfl)).4
    (He.mkr_ok (d.fact 133 (f := .mkr "Comprehension") rfl)).1
    (He.mkr_ok (d.fact 133 (f := .mkr "Comprehension") rfl)).4
    (He.noat_ok (d.fact 135 (f := .noat "Comprehension" "start") rfl))
    (He.noat_ok (d.fact 136 (f := .noat "Comprehension" "end") rfl))
    (He.noat_ok (d.fact 137 (f := .noat "Comprehension" "row") rfl))
    (He.noat_ok (d.fact 138 (f := .noat "Comprehension" "name") rfl))
    (He.noat_ok (d.fact 139 (f := .noat "Comprehension" "source") rfl))
    (He.noat_ok (d.fact 140 (f := .noat "Comprehension" "test") rfl))
    (He.mkr_ok (d.fact 133 (f := .mkr "Comprehension") rfl)).2
    liComprehension_
    ciComprehension_
    kiComprehension_
    (He.mkr_ok (d.fact 133 (f := .mkr "Comprehension") rfl)).3
    (He.eqO_ok (d.fact 143 (f := .glo "Member") rfl))
    (He.cls_ok (d.fact 141 (f := .cls "Member") rfl)).1
    (He.cls_ok (d.fact 141 (f := .cls "Member") rfl)).2
    (He.cls_ok (d.fact 141 (f := .cls "Member") rfl)).3
    (He.cls_ok (d.fact 141 (f := .cls "Member") rfl)).4
    (He.mkr_ok (d.fact 142 (f := .mkr "Member") rfl)).1
    (He.mkr_ok (d.fact 142 (f := .mkr "Member") rfl)).4
    (He.noat_ok (d.fact 144 (f := .noat "Member" "start") rfl))
    (He.noat_ok (d.fact 145 (f := .noat "Member" "end") rfl))
    (He.noat_ok (d.fact 146 (f := .noat "Member" "left") rfl))
    (He.noat_ok (d.fact 147 (f := .noat "Member" "name") rfl))
    (He.mkr_ok (d.fact 142 (f := .mkr "Member") rfl)).2
    liMember_
    ciMember_
    kiMember_
    (He.mkr_ok (d.fact 142 (f := .mkr "Member") rfl)).3
    (He.eqO_ok (d.fact 150 (f := .glo "Index") rfl))
    (He.cls_ok (d.fact 148 (f := .cls "Index") rfl)).1
    (He.cls_ok (d.fact 148 (f := .cls "Index") rfl)).2
    (He.cls_ok (d.fact 148 (f := .cls "Index") rfl)).3
    (He.cls_ok (d.fact 148 (f := .cls "Index") rfl)).4
    (He.mkr_ok (d.fact 149 (f := .mkr "Index") rfl)).1
    (He.mkr_ok (d.fact 149 (f := .mkr "Index") rfl)).4
    (He.noat_ok (d.fact 151 (f := .noat "Index" "start") rfl))
    (He.noat_ok (d.fact 152 (f := .noat "Index" "end") rfl))
    (He.noat_ok (d.fact 153 (f := .noat "Index" "left") rfl))
    (He.noat_ok (d.fact 154 (f := .noat "Index" "at") rfl))
    (He.mkr_ok (d.fact 149 (f := .mkr "Index") rfl)).2
    liIndex_
    ciIndex_
    kiIndex_
    (He.mkr_ok (d.fact 149 (f := .mkr "Index") rfl)).3
    (He.eqO_ok (d.fact 157 (f := .glo "Argument") rfl))
    (He.cls_ok (d.fact 155 (f := .cls "Argument") rfl)).1
    (He.cls_ok (d.fact 155 (f := .cls "Argument") rfl)).2
    (He.cls_ok (d.fact 155 (f := .cls "Argument") rfl)).3
    (He.cls_ok (d.fact 155 (f := .cls "Argument") rfl)).4
    (He.mkr_ok (d.fact 156 (f := .mkr "Argument") rfl)).1
    (He.mkr_ok (d.fact 156 (f := .mkr "Argument") rfl)).4
    (He.noat_ok (d.fact 158 (f := .noat "Argument" "start") rfl))
    (He.noat_ok (d.fact 159 (f := .noat "Argument" "end") rfl))
    (He.noat_ok (d.fact 160 (f := .noat "Argument" "keyword") rfl))
    (He.noat_ok (d.fact 161 (f := .noat "Argument" "value") rfl))
    (He.mkr_ok (d.fact 156 (f := .mkr "Argument") rfl)).2
    liArgument_
    ciArgument_
    kiArgument_
    (He.mkr_ok (d.fact 156 (f := .mkr "Argument") rfl)).3
    (He.eqO_ok (d.fact 164 (f := .glo "Call") rfl))
    (He.cls_ok (d.fact 162 (f := .cls "Call") rfl)).1
    (He.cls_ok (d.fact 162 (f := .cls "Call") rfl)).2
    (He.cls_ok (d.fact 162 (f := .cls "Call") rfl)).3
    (He.cls_ok (d.fact 162 (f := .cls "Call") rfl)).4
    (He.mkr_ok (d.fact 163 (f := .mkr "Call") rfl)).1
    (He.mkr_ok (d.fact 163 (f := .mkr "Call") rfl)).4
    (He.noat_ok (d.fact 165 (f := .noat "Call" "start") rfl))
    (He.noat_ok (d.fact 166 (f := .noat "Call" "end") rfl))
    (He.noat_ok (d.fact 167 (f := .noat "Call" "called") rfl))
    (He.noat_ok (d.fact 168 (f := .noat "Call" "arguments") rfl))
    (He.mkr_ok (d.fact 163 (f := .mkr "Call") rfl)).2
    liCall_
    ciCall_
    kiCall_
    (He.mkr_ok (d.fact 163 (f := .mkr "Call") rfl)).3
    (He.eqO_ok (d.fact 171 (f := .glo "Unary") rfl))
    (He.cls_ok (d.fact 169 (f := .cls "Unary") rfl)).1
    (He.cls_ok (d.fact 169 (f := .cls "Unary") rfl)).2
    (He.cls_ok (d.fact 169 (f := .cls "Unary") rfl)).3
    (He.cls_ok (d.fact 169 (f := .cls "Unary") rfl)).4
    (He.mkr_ok (d.fact 170 (f := .mkr "Unary") rfl)).1
    (He.mkr_ok (d.fact 170 (f := .mkr "Unary") rfl)).4
    (He.noat_ok (d.fact 172 (f := .noat "Unary" "start") rfl))
    (He.noat_ok (d.fact 173 (f := .noat "Unary" "end") rfl))
    (He.noat_ok (d.fact 174 (f := .noat "Unary" "sign") rfl))
    (He.noat_ok (d.fact 175 (f := .noat "Unary" "inner") rfl))
    (He.mkr_ok (d.fact 170 (f := .mkr "Unary") rfl)).2
    liUnary_
    ciUnary_
    kiUnary_
    (He.mkr_ok (d.fact 170 (f := .mkr "Unary") rfl)).3
    (He.eqO_ok (d.fact 178 (f := .glo "Binary") rfl))
    (He.cls_ok (d.fact 176 (f := .cls "Binary") rfl)).1
    (He.cls_ok (d.fact 176 (f := .cls "Binary") rfl)).2
    (He.cls_ok (d.fact 176 (f := .cls "Binary") rfl)).3
    (He.cls_ok (d.fact 176 (f := .cls "Binary") rfl)).4
    (He.mkr_ok (d.fact 177 (f := .mkr "Binary") rfl)).1
    (He.mkr_ok (d.fact 177 (f := .mkr "Binary") rfl)).4
    (He.noat_ok (d.fact 179 (f := .noat "Binary" "start") rfl))
    (He.noat_ok (d.fact 180 (f := .noat "Binary" "end") rfl))
    (He.noat_ok (d.fact 181 (f := .noat "Binary" "sign") rfl))
    (He.noat_ok (d.fact 182 (f := .noat "Binary" "left") rfl))
    (He.noat_ok (d.fact 183 (f := .noat "Binary" "right") rfl))
    (He.mkr_ok (d.fact 177 (f := .mkr "Binary") rfl)).2
    liBinary_
    ciBinary_
    kiBinary_
    (He.mkr_ok (d.fact 177 (f := .mkr "Binary") rfl)).3
    (He.eqO_ok (d.fact 186 (f := .glo "Parameter") rfl))
    (He.cls_ok (d.fact 184 (f := .cls "Parameter") rfl)).1
    (He.cls_ok (d.fact 184 (f := .cls "Parameter") rfl)).2
    (He.cls_ok (d.fact 184 (f := .cls "Parameter") rfl)).3
    (He.cls_ok (d.fact 184 (f := .cls "Parameter") rfl)).4
    (He.mkr_ok (d.fact 185 (f := .mkr "Parameter") rfl)).1
    (He.mkr_ok (d.fact 185 (f := .mkr "Parameter") rfl)).4
    (He.noat_ok (d.fact 187 (f := .noat "Parameter" "start") rfl))
    (He.noat_ok (d.fact 188 (f := .noat "Parameter" "end") rfl))
    (He.noat_ok (d.fact 189 (f := .noat "Parameter" "name") rfl))
    (He.noat_ok (d.fact 190 (f := .noat "Parameter" "default") rfl))
    (He.mkr_ok (d.fact 185 (f := .mkr "Parameter") rfl)).2
    liParameter_
    ciParameter_
    kiParameter_
    (He.mkr_ok (d.fact 185 (f := .mkr "Parameter") rfl)).3
    (He.eqO_ok (d.fact 193 (f := .glo "Fn") rfl))
    (He.cls_ok (d.fact 191 (f := .cls "Fn") rfl)).1
    (He.cls_ok (d.fact 191 (f := .cls "Fn") rfl)).2
    (He.cls_ok (d.fact 191 (f := .cls "Fn") rfl)).3
    (He.cls_ok (d.fact 191 (f := .cls "Fn") rfl)).4
    (He.mkr_ok (d.fact 192 (f := .mkr "Fn") rfl)).1
    (He.mkr_ok (d.fact 192 (f := .mkr "Fn") rfl)).4
    (He.noat_ok (d.fact 194 (f := .noat "Fn" "start") rfl))
    (He.noat_ok (d.fact 195 (f := .noat "Fn" "end") rfl))
    (He.noat_ok (d.fact 196 (f := .noat "Fn" "parameters") rfl))
    (He.noat_ok (d.fact 197 (f := .noat "Fn" "body") rfl))
    (He.mkr_ok (d.fact 192 (f := .mkr "Fn") rfl)).2
    liFn_
    ciFn_
    kiFn_
    (He.mkr_ok (d.fact 192 (f := .mkr "Fn") rfl)).3
    (He.eqO_ok (d.fact 200 (f := .glo "Import") rfl))
    (He.cls_ok (d.fact 198 (f := .cls "Import") rfl)).1
    (He.cls_ok (d.fact 198 (f := .cls "Import") rfl)).2
    (He.cls_ok (d.fact 198 (f := .cls "Import") rfl)).3
    (He.cls_ok (d.fact 198 (f := .cls "Import") rfl)).4
    (He.mkr_ok (d.fact 199 (f := .mkr "Import") rfl)).1
    (He.mkr_ok (d.fact 199 (f := .mkr "Import") rfl)).4
    (He.noat_ok (d.fact 201 (f := .noat "Import" "start") rfl))
    (He.noat_ok (d.fact 202 (f := .noat "Import" "end") rfl))
    (He.noat_ok (d.fact 203 (f := .noat "Import" "module") rfl))
    (He.noat_ok (d.fact 204 (f := .noat "Import" "alias") rfl))
    (He.mkr_ok (d.fact 199 (f := .mkr "Import") rfl)).2
    liImport_
    ciImport_
    kiImport_
    (He.mkr_ok (d.fact 199 (f := .mkr "Import") rfl)).3
    (He.eqO_ok (d.fact 207 (f := .glo "ImportItem") rfl))
    (He.cls_ok (d.fact 205 (f := .cls "ImportItem") rfl)).1
    (He.cls_ok (d.fact 205 (f := .cls "ImportItem") rfl)).2
    (He.cls_ok (d.fact 205 (f := .cls "ImportItem") rfl)).3
    (He.cls_ok (d.fact 205 (f := .cls "ImportItem") rfl)).4
    (He.mkr_ok (d.fact 206 (f := .mkr "ImportItem") rfl)).1
    (He.mkr_ok (d.fact 206 (f := .mkr "ImportItem") rfl)).4
    (He.noat_ok (d.fact 208 (f := .noat "ImportItem" "start") rfl))
    (He.noat_ok (d.fact 209 (f := .noat "ImportItem" "end") rfl))
    (He.noat_ok (d.fact 210 (f := .noat "ImportItem" "name") rfl))
    (He.noat_ok (d.fact 211 (f := .noat "ImportItem" "alias") rfl))
    (He.mkr_ok (d.fact 206 (f := .mkr "ImportItem") rfl)).2
    liImportItem_
    ciImportItem_
    kiImportItem_
    (He.mkr_ok (d.fact 206 (f := .mkr "ImportItem") rfl)).3
    (He.eqO_ok (d.fact 214 (f := .glo "FromImport") rfl))
    (He.cls_ok (d.fact 212 (f := .cls "FromImport") rfl)).1
    (He.cls_ok (d.fact 212 (f := .cls "FromImport") rfl)).2
    (He.cls_ok (d.fact 212 (f := .cls "FromImport") rfl)).3
    (He.cls_ok (d.fact 212 (f := .cls "FromImport") rfl)).4
    (He.mkr_ok (d.fact 213 (f := .mkr "FromImport") rfl)).1
    (He.mkr_ok (d.fact 213 (f := .mkr "FromImport") rfl)).4
    (He.noat_ok (d.fact 215 (f := .noat "FromImport" "start") rfl))
    (He.noat_ok (d.fact 216 (f := .noat "FromImport" "end") rfl))
    (He.noat_ok (d.fact 217 (f := .noat "FromImport" "module") rfl))
    (He.noat_ok (d.fact 218 (f := .noat "FromImport" "star") rfl))
    (He.noat_ok (d.fact 219 (f := .noat "FromImport" "rows") rfl))
    (He.mkr_ok (d.fact 213 (f := .mkr "FromImport") rfl)).2
    liFromImport_
    ciFromImport_
    kiFromImport_
    (He.mkr_ok (d.fact 213 (f := .mkr "FromImport") rfl)).3
    (He.eqO_ok (d.fact 222 (f := .glo "Assignment") rfl))
    (He.cls_ok (d.fact 220 (f := .cls "Assignment") rfl)).1
    (He.cls_ok (d.fact 220 (f := .cls "Assignment") rfl)).2
    (He.cls_ok (d.fact 220 (f := .cls "Assignment") rfl)).3
    (He.cls_ok (d.fact 220 (f := .cls "Assignment") rfl)).4
    (He.mkr_ok (d.fact 221 (f := .mkr "Assignment") rfl)).1
    (He.mkr_ok (d.fact 221 (f := .mkr "Assignment") rfl)).4
    (He.noat_ok (d.fact 223 (f := .noat "Assignment" "start") rfl))
    (He.noat_ok (d.fact 224 (f := .noat "Assignment" "end") rfl))
    (He.noat_ok (d.fact 225 (f := .noat "Assignment" "targets") rfl))
    (He.noat_ok (d.fact 226 (f := .noat "Assignment" "value") rfl))
    (He.mkr_ok (d.fact 221 (f := .mkr "Assignment") rfl)).2
    liAssignment_
    ciAssignment_
    kiAssignment_
    (He.mkr_ok (d.fact 221 (f := .mkr "Assignment") rfl)).3
    (He.eqO_ok (d.fact 229 (f := .glo "Def") rfl))
    (He.cls_ok (d.fact 227 (f := .cls "Def") rfl)).1
    (He.cls_ok (d.fact 227 (f := .cls "Def") rfl)).2
    (He.cls_ok (d.fact 227 (f := .cls "Def") rfl)).3
    (He.cls_ok (d.fact 227 (f := .cls "Def") rfl)).4
    (He.mkr_ok (d.fact 228 (f := .mkr "Def") rfl)).1
    (He.mkr_ok (d.fact 228 (f := .mkr "Def") rfl)).4
    (He.noat_ok (d.fact 230 (f := .noat "Def" "start") rfl))
    (He.noat_ok (d.fact 231 (f := .noat "Def" "end") rfl))
    (He.noat_ok (d.fact 232 (f := .noat "Def" "name") rfl))
    (He.noat_ok (d.fact 233 (f := .noat "Def" "parameters") rfl))
    (He.noat_ok (d.fact 234 (f := .noat "Def" "body") rfl))
    (He.mkr_ok (d.fact 228 (f := .mkr "Def") rfl)).2
    liDef_
    ciDef_
    kiDef_
    (He.mkr_ok (d.fact 228 (f := .mkr "Def") rfl)).3
    (He.eqO_ok (d.fact 237 (f := .glo "ClassBlock") rfl))
    (He.cls_ok (d.fact 235 (f := .cls "ClassBlock") rfl)).1
    (He.cls_ok (d.fact 235 (f := .cls "ClassBlock") rfl)).2
    (He.cls_ok (d.fact 235 (f := .cls "ClassBlock") rfl)).3
    (He.cls_ok (d.fact 235 (f := .cls "ClassBlock") rfl)).4
    (He.mkr_ok (d.fact 236 (f := .mkr "ClassBlock") rfl)).1
    (He.mkr_ok (d.fact 236 (f := .mkr "ClassBlock") rfl)).4
    (He.noat_ok (d.fact 238 (f := .noat "ClassBlock" "start") rfl))
    (He.noat_ok (d.fact 239 (f := .noat "ClassBlock" "end") rfl))
    (He.noat_ok (d.fact 240 (f := .noat "ClassBlock" "name") rfl))
    (He.noat_ok (d.fact 241 (f := .noat "ClassBlock" "base") rfl))
    (He.noat_ok (d.fact 242 (f := .noat "ClassBlock" "body") rfl))
    (He.mkr_ok (d.fact 236 (f := .mkr "ClassBlock") rfl)).2
    liClassBlock_
    ciClassBlock_
    kiClassBlock_
    (He.mkr_ok (d.fact 236 (f := .mkr "ClassBlock") rfl)).3
    (He.eqO_ok (d.fact 245 (f := .glo "OuterNames") rfl))
    (He.cls_ok (d.fact 243 (f := .cls "OuterNames") rfl)).1
    (He.cls_ok (d.fact 243 (f := .cls "OuterNames") rfl)).2
    (He.cls_ok (d.fact 243 (f := .cls "OuterNames") rfl)).3
    (He.cls_ok (d.fact 243 (f := .cls "OuterNames") rfl)).4
    (He.mkr_ok (d.fact 244 (f := .mkr "OuterNames") rfl)).1
    (He.mkr_ok (d.fact 244 (f := .mkr "OuterNames") rfl)).4
    (He.noat_ok (d.fact 246 (f := .noat "OuterNames" "start") rfl))
    (He.noat_ok (d.fact 247 (f := .noat "OuterNames" "end") rfl))
    (He.noat_ok (d.fact 248 (f := .noat "OuterNames" "word") rfl))
    (He.noat_ok (d.fact 249 (f := .noat "OuterNames" "names") rfl))
    (He.mkr_ok (d.fact 244 (f := .mkr "OuterNames") rfl)).2
    liOuterNames_
    ciOuterNames_
    kiOuterNames_
    (He.mkr_ok (d.fact 244 (f := .mkr "OuterNames") rfl)).3
    (He.eqO_ok (d.fact 252 (f := .glo "If") rfl))
    (He.cls_ok (d.fact 250 (f := .cls "If") rfl)).1
    (He.cls_ok (d.fact 250 (f := .cls "If") rfl)).2
    (He.cls_ok (d.fact 250 (f := .cls "If") rfl)).3
    (He.cls_ok (d.fact 250 (f := .cls "If") rfl)).4
    (He.mkr_ok (d.fact 251 (f := .mkr "If") rfl)).1
    (He.mkr_ok (d.fact 251 (f := .mkr "If") rfl)).4
    (He.noat_ok (d.fact 253 (f := .noat "If" "start") rfl))
    (He.noat_ok (d.fact 254 (f := .noat "If" "end") rfl))
    (He.noat_ok (d.fact 255 (f := .noat "If" "test") rfl))
    (He.noat_ok (d.fact 256 (f := .noat "If" "body") rfl))
    (He.noat_ok (d.fact 257 (f := .noat "If" "other") rfl))
    (He.noat_ok (d.fact 258 (f := .noat "If" "else_if") rfl))
    (He.mkr_ok (d.fact 251 (f := .mkr "If") rfl)).2
    liIf_
    ciIf_
    kiIf_
    (He.mkr_ok (d.fact 251 (f := .mkr "If") rfl)).3
    (He.eqO_ok (d.fact 261 (f := .glo "While") rfl))
    (He.cls_ok (d.fact 259 (f := .cls "While") rfl)).1
    (He.cls_ok (d.fact 259 (f := .cls "While") rfl)).2
    (He.cls_ok (d.fact 259 (f := .cls "While") rfl)).3
    (He.cls_ok (d.fact 259 (f := .cls "While") rfl)).4
    (He.mkr_ok (d.fact 260 (f := .mkr "While") rfl)).1
    (He.mkr_ok (d.fact 260 (f := .mkr "While") rfl)).4
    (He.noat_ok (d.fact 262 (f := .noat "While" "start") rfl))
    (He.noat_ok (d.fact 263 (f := .noat "While" "end") rfl))
    (He.noat_ok (d.fact 264 (f := .noat "While" "test") rfl))
    (He.noat_ok (d.fact 265 (f := .noat "While" "body") rfl))
    (He.mkr_ok (d.fact 260 (f := .mkr "While") rfl)).2
    liWhile_
    ciWhile_
    kiWhile_
    (He.mkr_ok (d.fact 260 (f := .mkr "While") rfl)).3
    (He.eqO_ok (d.fact 268 (f := .glo "For") rfl))
    (He.cls_ok (d.fact 266 (f := .cls "For") rfl)).1
    (He.cls_ok (d.fact 266 (f := .cls "For") rfl)).2
    (He.cls_ok (d.fact 266 (f := .cls "For") rfl)).3
    (He.cls_ok (d.fact 266 (f := .cls "For") rfl)).4
    (He.mkr_ok (d.fact 267 (f := .mkr "For") rfl)).1
    (He.mkr_ok (d.fact 267 (f := .mkr "For") rfl)).4
    (He.noat_ok (d.fact 269 (f := .noat "For" "start") rfl))
    (He.noat_ok (d.fact 270 (f := .noat "For" "end") rfl))
    (He.noat_ok (d.fact 271 (f := .noat "For" "name") rfl))
    (He.noat_ok (d.fact 272 (f := .noat "For" "word_in") rfl))
    (He.noat_ok (d.fact 273 (f := .noat "For" "source") rfl))
    (He.noat_ok (d.fact 274 (f := .noat "For" "body") rfl))
    (He.mkr_ok (d.fact 267 (f := .mkr "For") rfl)).2
    liFor_
    ciFor_
    kiFor_
    (He.mkr_ok (d.fact 267 (f := .mkr "For") rfl)).3
    (He.eqO_ok (d.fact 277 (f := .glo "Return") rfl))
    (He.cls_ok (d.fact 275 (f := .cls "Return") rfl)).1
    (He.cls_ok (d.fact 275 (f := .cls "Return") rfl)).2
    (He.cls_ok (d.fact 275 (f := .cls "Return") rfl)).3
    (He.cls_ok (d.fact 275 (f := .cls "Return") rfl)).4
    (He.mkr_ok (d.fact 276 (f := .mkr "Return") rfl)).1
    (He.mkr_ok (d.fact 276 (f := .mkr "Return") rfl)).4
    (He.noat_ok (d.fact 278 (f := .noat "Return" "start") rfl))
    (He.noat_ok (d.fact 279 (f := .noat "Return" "end") rfl))
    (He.noat_ok (d.fact 280 (f := .noat "Return" "value") rfl))
    (He.mkr_ok (d.fact 276 (f := .mkr "Return") rfl)).2
    liReturn_
    ciReturn_
    kiReturn_
    (He.mkr_ok (d.fact 276 (f := .mkr "Return") rfl)).3
    (He.eqO_ok (d.fact 283 (f := .glo "WordAlone") rfl))
    (He.cls_ok (d.fact 281 (f := .cls "WordAlone") rfl)).1
    (He.cls_ok (d.fact 281 (f := .cls "WordAlone") rfl)).2
    (He.cls_ok (d.fact 281 (f := .cls "WordAlone") rfl)).3
    (He.cls_ok (d.fact 281 (f := .cls "WordAlone") rfl)).4
    (He.mkr_ok (d.fact 282 (f := .mkr "WordAlone") rfl)).1
    (He.mkr_ok (d.fact 282 (f := .mkr "WordAlone") rfl)).4
    (He.noat_ok (d.fact 284 (f := .noat "WordAlone" "start") rfl))
    (He.noat_ok (d.fact 285 (f := .noat "WordAlone" "end") rfl))
    (He.noat_ok (d.fact 286 (f := .noat "WordAlone" "word") rfl))
    (He.mkr_ok (d.fact 282 (f := .mkr "WordAlone") rfl)).2
    liWordAlone_
    ciWordAlone_
    kiWordAlone_
    (He.mkr_ok (d.fact 282 (f := .mkr "WordAlone") rfl)).3
    (He.eqO_ok (d.fact 289 (f := .glo "Evaluation") rfl))
    (He.cls_ok (d.fact 287 (f := .cls "Evaluation") rfl)).1
    (He.cls_ok (d.fact 287 (f := .cls "Evaluation") rfl)).2
    (He.cls_ok (d.fact 287 (f := .cls "Evaluation") rfl)).3
    (He.cls_ok (d.fact 287 (f := .cls "Evaluation") rfl)).4
    (He.mkr_ok (d.fact 288 (f := .mkr "Evaluation") rfl)).1
    (He.mkr_ok (d.fact 288 (f := .mkr "Evaluation") rfl)).4
    (He.noat_ok (d.fact 290 (f := .noat "Evaluation" "start") rfl))
    (He.noat_ok (d.fact 291 (f := .noat "Evaluation" "end") rfl))
    (He.noat_ok (d.fact 292 (f := .noat "Evaluation" "value") rfl))
    (He.mkr_ok (d.fact 288 (f := .mkr "Evaluation") rfl)).2
    liEvaluation_
    ciEvaluation_
    kiEvaluation_
    (He.mkr_ok (d.fact 288 (f := .mkr "Evaluation") rfl)).3
    (He.eqO_ok eO1)
    (of_decide_eq_true eO2)
    (nodeB_ok eN0).1
    (nodeB_ok eN0).2.1
    (nodeB_ok eN0).2.2
    (nodeB_ok eN1).1
    (nodeB_ok eN1).2.1
    (nodeB_ok eN1).2.2
    (nodeB_ok eN2).1
    (nodeB_ok eN2).2.1
    (nodeB_ok eN2).2.2
    (nodeB_ok eN3).1
    (nodeB_ok eN3).2.1
    (nodeB_ok eN3).2.2
    (nodeB_ok eN4).1
    (nodeB_ok eN4).2.1
    (nodeB_ok eN4).2.2
    (nodeB_ok eN5).1
    (nodeB_ok eN5).2.1
    (nodeB_ok eN5).2.2
    (nodeB_ok eN6).1
    (nodeB_ok eN6).2.1
    (nodeB_ok eN6).2.2
    (nodeB_ok eN7).1
    (nodeB_ok eN7).2.1
    (nodeB_ok eN7).2.2
    (nodeB_ok eN8).1
    (nodeB_ok eN8).2.1
    (nodeB_ok eN8).2.2
    (nodeB_ok eN9).1
    (nodeB_ok eN9).2.1
    (nodeB_ok eN9).2.2
    (nodeB_ok eN10).1
    (nodeB_ok eN10).2.1
    (nodeB_ok eN10).2.2
theorem walk {l : PySem.W.OpenLaw} {q : Program} {loose : List Str} {XP : (Str → Option Value) → Heap → Prop} {YP : World → Heap → Prop} {d : DefRec} (hn : l.most = some 63) (hdf : d.params.defaults = [])
    (F : ∀ (w : World) (mg : Str → Option Value) (fa : Addr) (h : Heap), YP w h → h.Ns mainGlobals mg → mg d.name = some (.ref fa) →
      ∃ (K : PySem.W.Frag) (fd : FuncData), K.In h ∧ (∀ (s : Shared) (u : Value), BindsTo s fd ⟨[u], []⟩ [("_law_script", u)]) ∧ ∀ base : Heap, K.In base → base.Ns mainGlobals mg → FnOk l.prog w K mg base CX0 139 fa fd ["_law_script"] (spLaw K)) :
    PySem.W.WalkO q loose XP YP l.row.toRowW d [] (fun f vs => PySem.call f vs) := by
  refine Att.attach_callB hn hdf fun w s₀ s₁ mg mb fa o pm cd doc a vs ns G Y ho hd hcd hmg hobj hints hlen hbits hg => ?_
  obtain ⟨K, fd, KX, hb, hF⟩ := F w mg fa _ Y G.T.g hmg
  exact law_call KX G.T.g G.T.b G.T.builtins G.T.nolimit hg hobj hints (Nat.le_trans hlen (by decide)) (⟨rfl, by decide, by decide⟩ : Room 139 callerA) hF hb (fun H hO hS => (⟨a, ns, rfl, hS, hlen, hbits, fun _ => rfl⟩ : spLaw K [.ref a] H (fun v _ => v = .bl true) fun _ _ _ => False)) fun H e s' z => z
end KB
set_option maxHeartbeats 0
namespace KB
open PySem PySem.Spec PyProof.Rows L2
abbrev R : PySem.W.OpenRow := PySem.W.OpenLaw.row PySem.Challenge.rw_keptbindings_k11_names_and_syntax_refuse
def loo0 : List PySem.Str := ["KeptError", "BadText", "BadSyntax", "LETTERS", "DIGITS", "RUN", "BLANKS", "SIGNS", "WORDS", "LONGEST_NAME", "LONGEST_NUMBER", "LONGEST_TEXT", "LONGEST_PROGRAM", "is_name", "tokens", "_line_end", "_token", "_text_end", "_run_end", "_run_kind"]
def loo1 : List PySem.Str := ["_is_number", "Name", "Literal", "Group", "Listing", "Comprehension", "Member", "Index", "Argument", "Call", "Unary", "Binary", "Parameter", "Fn", "Import", "ImportItem", "FromImport", "Assignment", "Def", "ClassBlock"]
def loo2 : List PySem.Str := ["OuterNames", "If", "While", "For", "Return", "WordAlone", "Evaluation", "OPENING", "CLOSING", "MOST_OPEN", "MOST_TOKENS", "Cursor", "PLAIN", "STILL", "FREE", "CONSTANTS", "LEVELS", "LOOSEST", "NOT_LEVEL", "COMPARISON"]
def loo3 : List PySem.Str := ["CLOSEST", "read_expression", "read_target", "is_target", "read_parameters", "_read_parameter", "_read_fn", "_read_signs", "_read_ahead", "_read_call", "_read_arguments", "_read_argument", "_read_single", "_read_list", "_read_comprehension", "read_module", "_read_top", "_read_def_or_assignment", "_read_right_side", "_read_import"]
def loo4 : List PySem.Str := ["_read_alias", "_read_from", "_read_items", "_read_item", "_read_class", "_read_def", "_read_block", "_read_statement", "_read_if", "_read_while", "_read_for", "_read_return", "_read_outer_names", "_read_assignment_or_evaluation", "check_syntax", "_law_pool", "_law_take", "_law_at", "_law_tails", "_law_bodies"]
def loo : List PySem.Str := loo0 ++ loo1 ++ loo2 ++ loo3 ++ loo4
abbrev hk : PySem.W.Hook := HdF.hookY FA FN TS EX
def ob (s : PySem.W.SharedT) : HdF.AlY := HdF.obsY FA FN TS EX (HandSHeadRun.getT s)
theorem ob_eq (s : PySem.W.SharedT) : ob s = hk.obs s.abs := HdF.obsY_eq (HandSHeadRun.getT_eq s)
abbrev RunAt (w : World) : Prop := HandSHeadRun.RunEq R (PySem.W.view R.prog [108]) hk ob 9600 loo w
noncomputable def E0 (w : World) (os : OsState) : Option PySem.W.SharedT := HandSHeadRun.endF (HandSHeadRun.stepQ (HandSHeadRun.denQ HandSHeadRun.tabQ) R.prog w) 9600 R.prog w os
noncomputable def look1_ (w : World) (s : PySem.W.SharedT) : Bool := HandSHeadRun.looksF R.prog (PySem.W.boot_heap w.params) s.abs
noncomputable def look2_ (s : PySem.W.SharedT) := HandSHeadRun.seenQ (PySem.W.view R.prog [108]) loo (importedModules R.prog.main.body) (fun s => PySem.W.xlAt (PySem.W.view R.prog [108]) [] s && PySem.W.recOk R.toRowW.records s) s.abs
def facts1 (s : PySem.W.SharedT) : Bool := HdF.fK (He.frG (HandSHeadRun.getT s) (HdF.asY (HandSHeadRun.getT s))) fun K => FA.all fun f => f.ok K
def facts2 (s : PySem.W.SharedT) : Bool := HdF.fK (He.frG (HandSHeadRun.getT s) (HdF.asY (HandSHeadRun.getT s))) fun K => FN.all fun d => d.ok K
def goU (st : PySem.W.SharedT → Thread → Option (PySem.W.SharedT × Thread)) : Nat → PySem.W.SharedT → Thread → Option PySem.W.SharedT
  | 0, _, _ => none
  | m + 1, s, t => match PySem.W.through t with
    | true => some s
    | false => match st s t with
      | some (s', t') => HandSHeadRun.frS s' fun s' => goU st m s' t'
      | none => none
theorem goU_of {st : PySem.W.SharedT → Thread → Option (PySem.W.SharedT × Thread)} {n0 : Nat} {ann : Option Value} : ∀ {m : Nat} {s s' : PySem.W.SharedT} {t : Thread}, HandSHeadRun.goF st n0 ann m s t = some s' → goU st m s t = some s'
  | 0, _, _, _, h => by cases h
  | m + 1, s, s', t, h => by
    have h1 : (match PySem.W.through t with
      | true => some s
      | false => match PySem.W.stepOk n0 ann t with
        | false => none
        | true => match st s t with
          | some (s', t') => HandSHeadRun.frS s' fun s' => HandSHeadRun.goF st n0 ann m s' t'
          | none => none) = some s' := h
    show (match PySem.W.through t with
      | true => some s
      | false => match st s t with
        | some (s', t') => HandSHeadRun.frS s' fun s' => goU st m s' t'
        | none => none) = some s'
    cases ht : PySem.W.through t with
    | true =>
      rw [ht] at h1
      exact h1
    | false =>
      rw [ht] at h1
      cases hk : PySem.W.stepOk n0 ann t with
      | false =>
        rw [hk] at h1
        cases h1
      | true =>
        rw [hk] at h1
        cases hs : st s t with
        | none =>
          rw [hs] at h1
          cases h1
        | some r =>
          obtain ⟨s2, t2⟩ := r
          rw [hs] at h1
          have h3 : (HandSHeadRun.frS s2 fun s' => HandSHeadRun.goF st n0 ann m s' t2) = some s' := h1
          rw [HandSHeadRun.frS_eq] at h3
          show (HandSHeadRun.frS s2 fun s' => goU st m s' t2) = some s'
          rw [HandSHeadRun.frS_eq]
          exact goU_of h3
noncomputable def U0 (w : World) (os : OsState) : Option PySem.W.SharedT := match HandSHeadRun.putAll (PySem.W.boot_heap w.params).objs.toList .nil 0 with
  | some (t, n) => HandSHeadRun.frNat n fun n0 => goU (HandSHeadRun.stepQ (HandSHeadRun.denQ HandSHeadRun.tabQ) R.prog w) 9600 (HandSHeadRun.bootT w os (t, n0)) (PySem.W.topStub R.prog)
  | none => none
theorem U0_of {w : World} {os : OsState} (h : (E0 w os).isSome = true) : E0 w os = U0 w os := by
  cases e : E0 w os with
  | none =>
    rw [e] at h
    cases h
  | some s =>
    unfold E0 HandSHeadRun.endF at e
    unfold U0
    cases q : HandSHeadRun.putAll (PySem.W.boot_heap w.params).objs.toList .nil 0 with
    | none =>
      rw [q] at e
      cases e
    | some r =>
      obtain ⟨t, n⟩ := r
      rw [q] at e
      have e1 : (HandSHeadRun.frNat n fun n0 => HandSHeadRun.goF (HandSHeadRun.stepQ (HandSHeadRun.denQ HandSHeadRun.tabQ) R.prog w) n0 (HandSHeadRun.bootAnn w) 9600 (HandSHeadRun.bootT w os (t, n0)) (PySem.W.topStub R.prog)) = some s := e
      rw [HandSHeadRun.frNat_eq] at e1
      show some s = HandSHeadRun.frNat n fun n0 => goU (HandSHeadRun.stepQ (HandSHeadRun.denQ HandSHeadRun.tabQ) R.prog w) 9600 (HandSHeadRun.bootT w os (t, n0)) (PySem.W.topStub R.prog)
      rw [HandSHeadRun.frNat_eq]
      exact (goU_of e1).symm
theorem run_of {w : World} {os : OsState} (ha : (E0 w os).map (fun s => (look1_ w s, look2_ s)) = some (true, PySem.W.openGood (PySem.W.view R.prog [108]) loo)) (hd : (E0 w os).map (fun s => (ob s).1.1.2) = some (FN.map He.DefD.val)) (he : (E0 w os).map (fun s => ((ob s).1.2, (ob s).2)) = some (TS.map (fun t => some (He.keysIn w.params t.2)), true))
    (hb : (E0 w os).map facts1 = some true) (hc : (E0 w os).map facts2 = some true) :
    (E0 w os).map (fun s => (look1_ w s, look2_ s, ob s)) = some (true, PySem.W.openGood (PySem.W.view R.prog [108]) loo, (((true, FN.map He.DefD.val), TS.map (fun t => some (He.keysIn w.params t.2))), true)) := by
  cases e : E0 w os with
  | none =>
    rw [e] at hb
    cases hb
  | some s =>
    rw [e] at ha hb hc hd he
    have a := Option.some.inj ha
    have b : facts1 s = true := Option.some.inj hb
    have c : facts2 s = true := Option.some.inj hc
    have a1 := congrArg (fun z => z.1) a
    have a2 := congrArg (fun z => z.2) a
    have a3 : (ob s).1.1.2 = _ := Option.some.inj hd
    have a45 := Option.some.inj he
    have a4 := congrArg (fun z => z.1) a45
    have a5 := congrArg (fun z => z.2) a45
    unfold facts1 at b
    unfold facts2 at c
    rw [HdF.fK_eq] at b c
    have eo : ob s = ((((FA.all fun f => f.ok (He.frG (HandSHeadRun.getT s) (HdF.asY (HandSHeadRun.getT s)))) && (FN.all fun d => d.ok (He.frG (HandSHeadRun.getT s) (HdF.asY (HandSHeadRun.getT s)))), (ob s).1.1.2), (ob s).1.2), (ob s).2) := by
      unfold ob HdF.obsY
      rw [HdF.fK_eq]
      rfl
    rw [b, c] at eo
    refine congrArg some (Prod.ext a1 (Prod.ext a2 ?_))
    show ob s = _
    rw [eo]
    exact Prod.ext (Prod.ext (Prod.ext rfl a3) a4) a5
theorem run_f0 (w : World) (os : OsState) : (E0 (w.withFollow "special-get-raises" false) os).isSome = true := by kernel_rfl
theorem run_f1 (w : World) (os : OsState) : (U0 (w.withFollow "special-get-raises" false) os).map (fun s => (look1_ (w.withFollow "special-get-raises" false) s, look2_ s)) = some (true, PySem.W.openGood (PySem.W.view R.prog [108]) loo) := by kernel_rfl
theorem run_f4 (w : World) (os : OsState) : (U0 (w.withFollow "special-get-raises" false) os).map (fun s => (ob s).1.1.2) = some (FN.map He.DefD.val) := by kernel_rfl
theorem run_f5 (w : World) (os : OsState) : (U0 (w.withFollow "special-get-raises" false) os).map (fun s => ((ob s).1.2, (ob s).2)) = some (TS.map (fun t => some (He.keysIn (w.withFollow "special-get-raises" false).params t.2)), true) := by kernel_rfl
theorem run_f2 (w : World) (os : OsState) : (U0 (w.withFollow "special-get-raises" false) os).map facts1 = some true := by kernel_rfl
theorem run_f3 (w : World) (os : OsState) : (U0 (w.withFollow "special-get-raises" false) os).map facts2 = some true := by kernel_rfl
theorem run_f (w : World) : RunAt (w.withFollow "special-get-raises" false) := fun os => run_of (by rw [U0_of (run_f0 w os)]; exact run_f1 w os) (by rw [U0_of (run_f0 w os)]; exact run_f4 w os) (by rw [U0_of (run_f0 w os)]; exact run_f5 w os) (by rw [U0_of (run_f0 w os)]; exact run_f2 w os) (by rw [U0_of (run_f0 w os)]; exact run_f3 w os)
theorem run_t0 (w : World) (os : OsState) : (E0 (w.withFollow "special-get-raises" true) os).isSome = true := by kernel_rfl
theorem run_t1 (w : World) (os : OsState) : (U0 (w.withFollow "special-get-raises" true) os).map (fun s => (look1_ (w.withFollow "special-get-raises" true) s, look2_ s)) = some (true, PySem.W.openGood (PySem.W.view R.prog [108]) loo) := by kernel_rfl
theorem run_t4 (w : World) (os : OsState) : (U0 (w.withFollow "special-get-raises" true) os).map (fun s => (ob s).1.1.2) = some (FN.map He.DefD.val) := by kernel_rfl
theorem run_t5 (w : World) (os : OsState) : (U0 (w.withFollow "special-get-raises" true) os).map (fun s => ((ob s).1.2, (ob s).2)) = some (TS.map (fun t => some (He.keysIn (w.withFollow "special-get-raises" true).params t.2)), true) := by kernel_rfl
theorem run_t2 (w : World) (os : OsState) : (U0 (w.withFollow "special-get-raises" true) os).map facts1 = some true := by kernel_rfl
theorem run_t3 (w : World) (os : OsState) : (U0 (w.withFollow "special-get-raises" true) os).map facts2 = some true := by kernel_rfl
theorem run_t (w : World) : RunAt (w.withFollow "special-get-raises" true) := fun os => run_of (by rw [U0_of (run_t0 w os)]; exact run_t1 w os) (by rw [U0_of (run_t0 w os)]; exact run_t4 w os) (by rw [U0_of (run_t0 w os)]; exact run_t5 w os) (by rw [U0_of (run_t0 w os)]; exact run_t2 w os) (by rw [U0_of (run_t0 w os)]; exact run_t3 w os)
theorem run (w : World) : RunAt w := PySem.W.byRow2 "special-get-raises" (P := RunAt) run_f run_t w
end KB
open PySem PySem.W PySem.Calls PyProof.Rows
theorem PySem.Challenge.cw_keptbindings_k11_names_and_syntax_refuse_holds : PySem.Challenge.rw_keptbindings_k11_names_and_syntax_refuse.Holds := by
  w_on; o_law
  refine HandSHeadRun.head_any (r := OpenLaw.row PySem.Challenge.rw_keptbindings_k11_names_and_syntax_refuse) (q := view (OpenLaw.row PySem.Challenge.rw_keptbindings_k11_names_and_syntax_refuse).prog [108]) (H := KB.hk) (ob := KB.ob) (M := 9600) (loose := KB.loo) (d := HandSHeadRun.topDef (OpenLaw.row PySem.Challenge.rw_keptbindings_k11_names_and_syntax_refuse).prog 108) (kwd := []) KB.ob_eq
    (by kernel_rfl) (fun s => by kernel_rfl) KB.run (by kernel_rfl) (by kernel_rfl) (by kernel_rfl) (by rfl) (by first | assumption | decide +kernel) (by decide +kernel) ⟨rfl, rfl, rfl, rfl, rfl, by decide +kernel⟩ ?hw ?hc
  case hw => w_witness2
  case hc =>
    refine KB.walk (l := PySem.Challenge.rw_keptbindings_k11_names_and_syntax_refuse) rfl (by kernel_rfl) ?F
    intro w mg fa h Y G hmg0
    obtain ⟨K, KX, c⟩ := Y
    have hmg : mg ("law" : PySem.Str) = some (.ref fa) := by
      have e : (HandSHeadRun.topDef (OpenLaw.row PySem.Challenge.rw_keptbindings_k11_names_and_syntax_refuse).prog 108).name = ("law" : PySem.Str) := by kernel_rfl
      rw [← e]
      exact hmg0
    obtain ⟨fd, hb, hF⟩ := KB.all_of (P := (PySem.Challenge.rw_keptbindings_k11_names_and_syntax_refuse).prog) KX G hmg c
    exact ⟨K, fd, KX, hb, hF⟩
