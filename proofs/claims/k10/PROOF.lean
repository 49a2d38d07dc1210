import PyProof.Rows.All
import Wide.All
import OpenK.AllK
import Wide.FinOn
import PyProof.EqAt
import PyProof.EqKinds
import PyProof.TupleCall
import HandS.ForMost
import HandS.ForExc
import HandS.Wide
import HandS.EndBits
import HandS.Evl
import HandS.StrMore
import HandS.NoneIn
import HandS.ExcInit
import HandS.ExcField
import HandS.IsInst
import HandS.RaiseMore
import HandS.Walk
import HandS.ExcIs
import HandS.Style
import HandS.Codes
import PySem.Challenge.RW_keptbindings_k10_tokens
/-! Tokens over lists of code points: the mirror and its mathematics -/
namespace KB
/-! ### the mirror -/
def letL : List Nat := [97, 98, 99, 100, 101, 102, 103, 104, 105, 106, 107, 108, 109, 110, 111, 112, 113, 114, 115, 116, 117, 118, 119, 120, 121, 122]
def digL : List Nat := [48, 49, 50, 51, 52, 53, 54, 55, 56, 57]
def runL : List Nat := [97, 98, 99, 100, 101, 102, 103, 104, 105, 106, 107, 108, 109, 110, 111, 112, 113, 114, 115, 116, 117, 118, 119, 120, 121, 122, 48, 49, 50, 51, 52, 53, 54, 55, 56, 57, 95]
def wordsL : List (List Nat) := [[105, 109, 112, 111, 114, 116], [102, 114, 111, 109], [97, 115], [100, 101, 102], [99, 108, 97, 115, 115], [103, 108, 111, 98, 97, 108], [110, 111, 110, 108, 111, 99, 97, 108], [105, 102], [101, 108, 115, 101], [119, 104, 105, 108, 101], [102, 111, 114], [105, 110], [114, 101, 116, 117, 114, 110], [98, 114, 101, 97, 107], [99, 111, 110, 116, 105, 110, 117, 101], [112, 97, 115, 115], [97, 110, 100], [111, 114], [110, 111, 116], [102, 110], [110, 111, 110, 101], [116, 114, 117, 101], [102, 97, 108, 115, 101]]
def signsL : List (List Nat) := [[61, 61], [60, 61], [40], [41], [91], [93], [123], [125], [44], [59], [58], [46], [61], [60], [43], [45], [42]]
def isRun (c : Nat) : Bool := decide (c ∈ runL)
def isDig (c : Nat) : Bool := decide (c ∈ digL)
def isBlank (c : Nat) : Bool := decide (c ∈ [32, 10])
inductive Kind where
  | name | word | number | text | sign
  deriving DecidableEq
def isName (v : List Nat) : Bool := match v with
  | [] => false
  | c :: r => decide ((c :: r).length ≤ 20) && decide (c ∈ letL) && (c :: r).all isRun && !decide ((c :: r) ∈ wordsL)
def isNumber (v : List Nat) : Bool := !(decide (v.length > 18) || (decide (v[0]? = some 48) && decide (v.length > 1))) && v.all isDig
def runKind (v : List Nat) : Option Kind :=
  if v ∈ wordsL then some .word else if isName v = true then some .name else if isNumber v = true then some .number else none
/-- until a sign c, or to the end -/
def upTo (c : Nat) (l : List Nat) : List Nat := l.takeWhile fun d => d != c
/-- the length of the text that starts with the quote ahead of r -/
def textLen (r : List Nat) : Option Nat :=
  if (upTo 39 r).length = r.length ∨ (upTo 39 r).length > 40 ∨ 10 ∈ upTo 39 r then none else some ((upTo 39 r).length + 2)
/-- the token at the head of a text that is not empty: its kind and length -/
def tokenAt (l : List Nat) : Option (Kind × Nat) := match l with
  | [] => none
  | c :: r => if c = 39 then (textLen r).map fun n => (.text, n)
    else if isRun c = true then (runKind ((c :: r).takeWhile isRun)).map fun k => (k, ((c :: r).takeWhile isRun).length)
    else (signsL.find? fun s => s.isPrefixOf (c :: r)).map fun s => (.sign, s.length)
structure Tk where
  kind : Kind
  text : List Nat
  start : Nat
abbrev Res := Except Nat (List Tk)
def Res.add (t : Tk) : Res → Res
  | .ok l => .ok (t :: l)
  | .error e => .error e
def scan : Nat → List Nat → Nat → Res
  | 0, _, _ => .ok []
  | _ + 1, [], _ => .ok []
  | n + 1, c :: r, at_ => if isBlank c = true then scan n r (at_ + 1)
    else if c = 35 then scan n ((c :: r).drop (upTo 10 (c :: r)).length) (at_ + (upTo 10 (c :: r)).length)
    else match tokenAt (c :: r) with
      | none => .error at_
      | some (k, m) => (scan n ((c :: r).drop m) (at_ + m)).add ⟨k, (c :: r).take m, at_⟩
def sc (l : List Nat) (at_ : Nat) : Res := scan l.length l at_
/-! ### steps -/
theorem takeWhile_pos {p : Nat → Bool} {c : Nat} {r : List Nat} (h : p c = true) : 0 < ((c :: r).takeWhile p).length := by
  simp [List.takeWhile, h]
theorem upTo_pos {c d : Nat} {r : List Nat} (h : d ≠ c) : 0 < (upTo c (d :: r)).length := takeWhile_pos (by simpa using h)
theorem signs_pos : ∀ s ∈ signsL, 0 < s.length := by decide
theorem tokenAt_pos {l : List Nat} {k : Kind} {m : Nat} (h : tokenAt l = some (k, m)) : 0 < m := by
  unfold tokenAt at h
  split at h
  · cases h
  · rename_i c r
    split at h
    · unfold textLen at h
      split at h
      · cases h
      · simp at h
        omega
    · split at h
      · rename_i hc
        simp only [Option.map_eq_some_iff] at h
        obtain ⟨_, _, e⟩ := h
        cases e
        exact takeWhile_pos hc
      · simp only [Option.map_eq_some_iff] at h
        obtain ⟨s, hs, e⟩ := h
        cases e
        exact signs_pos s (List.mem_of_find?_eq_some hs)
/-- fuel beyond the length adds nothing -/
theorem scan_fuel : ∀ (n m : Nat) (l : List Nat) (a : Nat), l.length ≤ n → l.length ≤ m → scan n l a = scan m l a
  | 0, 0, _, _, _, _ => rfl
  | 0, m + 1, l, a, hn, _ => by
    have e : l = [] := List.length_eq_zero_iff.mp (by omega)
    subst e
    rfl
  | n + 1, 0, l, a, _, hm => by
    have e : l = [] := List.length_eq_zero_iff.mp (by omega)
    subst e
    rfl
  | n + 1, m + 1, [], a, _, _ => rfl
  | n + 1, m + 1, c :: r, a, hn, hm => by
    have hn' : r.length ≤ n := by simpa using hn
    have hm' : r.length ≤ m := by simpa using hm
    unfold scan
    by_cases h1 : isBlank c = true
    · rw [if_pos h1, if_pos h1]
      exact scan_fuel n m r _ hn' hm'
    · rw [if_neg h1, if_neg h1]
      by_cases h2 : c = 35
      · rw [if_pos h2, if_pos h2]
        have p := upTo_pos (c := 10) (d := c) (r := r) (by omega)
        have e : ((c :: r).drop (upTo 10 (c :: r)).length).length ≤ r.length := by
          rw [List.length_drop, List.length_cons]
          omega
        exact scan_fuel n m _ _ (by omega) (by omega)
      · rw [if_neg h2, if_neg h2]
        cases h3 : tokenAt (c :: r) with
        | none => rfl
        | some q =>
          obtain ⟨k, q⟩ := q
          have p := tokenAt_pos h3
          have e : ((c :: r).drop q).length ≤ r.length := by
            rw [List.length_drop, List.length_cons]
            omega
          show Res.add _ (scan n _ _) = Res.add _ (scan m _ _)
          rw [scan_fuel n m _ _ (by omega) (by omega)]
theorem sc_fuel {n : Nat} {l : List Nat} {a : Nat} (h : l.length ≤ n) : scan n l a = sc l a := scan_fuel _ _ _ _ h (Nat.le_refl _)
theorem sc_nil (a : Nat) : sc [] a = .ok [] := rfl
theorem sc_blank {c : Nat} (r : List Nat) (a : Nat) (h : isBlank c = true) : sc (c :: r) a = sc r (a + 1) := by
  show scan (r.length + 1) (c :: r) a = scan r.length r (a + 1)
  rw [scan, if_pos h]
theorem sc_hash (r : List Nat) (a : Nat) : sc (35 :: r) a = sc ((35 :: r).drop (upTo 10 (35 :: r)).length) (a + (upTo 10 (35 :: r)).length) := by
  show scan (r.length + 1) (35 :: r) a = _
  unfold scan
  rw [if_neg (by decide), if_pos rfl]
  have p := upTo_pos (c := 10) (d := 35) (r := r) (by omega)
  refine sc_fuel ?_
  rw [List.length_drop, List.length_cons]
  omega
theorem sc_tok {c : Nat} (r : List Nat) (a : Nat) (h1 : isBlank c = false) (h2 : c ≠ 35) : sc (c :: r) a = match tokenAt (c :: r) with
    | none => .error a
    | some (k, m) => (sc ((c :: r).drop m) (a + m)).add ⟨k, (c :: r).take m, a⟩ := by
  show scan (r.length + 1) (c :: r) a = _
  unfold scan
  rw [if_neg (by rw [h1]; decide), if_neg h2]
  cases h3 : tokenAt (c :: r) with
  | none => rfl
  | some q =>
    obtain ⟨k, q⟩ := q
    have p := tokenAt_pos h3
    show Res.add _ _ = Res.add _ _
    rw [sc_fuel]
    rw [List.length_drop, List.length_cons]
    omega
/-! ### a row of tokens with blanks between -/
/-- nothing that follows t makes it another token -/
def Sep (t rest : List Nat) : Prop := ∀ c r, rest = c :: r → ((∀ d, t.getLast? = some d → isRun d = true → isRun c = false) ∧ (t = [60] ∨ t = [61] → c ≠ 61))
structure Good (k : Kind) (t : List Nat) : Prop where
  head : ∃ c r, t = c :: r ∧ isBlank c = false ∧ c ≠ 35
  tok : ∀ rest, Sep t rest → tokenAt (t ++ rest) = some (k, t.length)
  ok : ∀ c ∈ t, c < 1114112
/-- what may stand between two tokens -/
def blanksL : List (List Nat) := [[], [32], [10], [32, 32, 32], [35, 32, 97, 32, 39, 98, 10], [32, 35, 32, 105, 102, 32, 120, 10, 32, 32], [35, 10, 10]]
theorem upTo_stop {c : Nat} : ∀ (a r : List Nat), c ∉ a → upTo c (a ++ c :: r) = a
  | [], r, _ => by simp [upTo]
  | d :: a, r, h => by
    have hd : d ≠ c := fun e => h (by simp [e])
    have ih := upTo_stop a r (fun m => h (List.mem_cons_of_mem _ m))
    unfold upTo at ih ⊢
    rw [List.cons_append, List.takeWhile_cons, if_pos (by simpa using hd), ih]
theorem upTo_end {c : Nat} : ∀ (a : List Nat), c ∉ a → upTo c a = a
  | [], _ => rfl
  | d :: a, h => by
    have hd : d ≠ c := fun e => h (by simp [e])
    have ih := upTo_end a (fun m => h (List.mem_cons_of_mem _ m))
    unfold upTo at ih ⊢
    rw [List.takeWhile_cons, if_pos (by simpa using hd), ih]
/-- a comment up to a line feed -/
theorem sc_comment (a r : List Nat) (n : Nat) (h : 10 ∉ a) : sc (35 :: a ++ 10 :: r) n = sc r (n + a.length + 2) := by
  have u : upTo 10 (35 :: a ++ 10 :: r) = 35 :: a := upTo_stop (35 :: a) r (by
    intro m
    rcases List.mem_cons.mp m with e | e
    · omega
    · exact h e)
  rw [List.cons_append, sc_hash, ← List.cons_append, u]
  have d : (35 :: a ++ 10 :: r).drop (35 :: a).length = 10 :: r := by simp
  rw [d, sc_blank _ _ (by decide)]
  congr 1
theorem sc_commentEnd (a : List Nat) (n : Nat) (h : 10 ∉ a) : sc (35 :: a) n = .ok [] := by
  have u : upTo 10 (35 :: a) = 35 :: a := upTo_end (35 :: a) (by
    intro m
    rcases List.mem_cons.mp m with e | e
    · omega
    · exact h e)
  rw [sc_hash, u]
  simp [sc_nil]
theorem sc_blanks : ∀ b ∈ blanksL, ∀ (r : List Nat) (n : Nat), sc (b ++ r) n = sc r (n + b.length) := by
  intro b hb r n
  simp only [blanksL, List.mem_cons, List.not_mem_nil, or_false] at hb
  rcases hb with rfl | rfl | rfl | rfl | rfl | rfl | rfl
  · rfl
  · exact sc_blank _ _ (by decide)
  · exact sc_blank _ _ (by decide)
  · show sc (32 :: 32 :: 32 :: r) n = _
    rw [sc_blank _ _ (by decide), sc_blank _ _ (by decide), sc_blank _ _ (by decide)]
    rfl
  · exact sc_comment [32, 97, 32, 39, 98] r n (by decide)
  · show sc (32 :: ((35 :: [32, 105, 102, 32, 120]) ++ 10 :: (32 :: 32 :: r))) n = _
    rw [sc_blank _ _ (by decide), sc_comment _ _ _ (by decide), sc_blank _ _ (by decide), sc_blank _ _ (by decide)]
    congr 1
  · show sc ((35 :: []) ++ 10 :: (10 :: r)) n = _
    rw [sc_comment _ _ _ (by decide), sc_blank _ _ (by decide)]
    congr 1
theorem sc_good {k : Kind} {t : List Nat} (g : Good k t) (rest : List Nat) (n : Nat) (s : Sep t rest) : sc (t ++ rest) n = (sc rest (n + t.length)).add ⟨k, t, n⟩ := by
  obtain ⟨c, r, e, h1, h2⟩ := g.head
  have h := g.tok rest s
  subst e
  rw [List.cons_append] at h ⊢
  rw [sc_tok _ _ h1 h2, h]
  show Res.add _ _ = _
  have d : (c :: (r ++ rest)).drop (c :: r).length = rest := by
    rw [← List.cons_append]
    simp
  have t : (c :: (r ++ rest)).take (c :: r).length = c :: r := by
    rw [← List.cons_append]
    simp
  rw [d, t]
/-- a written row: its text, its tokens, the last one -/
def must (one other : List Nat) : Bool := match other with
  | [] => false
  | c :: _ => if one = [] then false else if (one = [60] ∨ one = [61] ∨ one = [60, 61]) ∧ c = 61 then true else (match one.getLast? with | some d => isRun d | none => false) && isRun c
inductive Wr : List Nat → List Tk → List Nat → Prop
  | nil : Wr [] [] []
  | snoc {x : List Nat} {ts : List Tk} {last b t : List Nat} {k : Kind} (w : Wr x ts last) (g : Good k t) (hb : b ∈ blanksL) (hm : b = [] → must last t = false) :
      Wr (x ++ b ++ t) (ts ++ [⟨k, t, (x ++ b).length⟩]) t
def Res.pre (ts : List Tk) : Res → Res
  | .ok l => .ok (ts ++ l)
  | .error e => .error e
theorem pre_add (ts : List Tk) (t : Tk) (r : Res) : (r.add t).pre ts = r.pre (ts ++ [t]) := by
  cases r with
  | ok l => simp [Res.add, Res.pre]
  | error e => rfl
theorem pre_nil (r : Res) : r.pre [] = r := by
  cases r <;> rfl
theorem blank_heads : ∀ b ∈ blanksL, ∀ c r, b = c :: r → isRun c = false ∧ c ≠ 61 := by
  intro b hb c r e
  simp only [blanksL, List.mem_cons, List.not_mem_nil, or_false] at hb
  rcases hb with rfl | rfl | rfl | rfl | rfl | rfl | rfl <;> cases e <;> decide
theorem sep_blank {t b rest : List Nat} (hb : b ∈ blanksL) (hne : b ≠ []) : Sep t (b ++ rest) := by
  intro c r e
  cases b with
  | nil => exact absurd rfl hne
  | cons d b' =>
    obtain ⟨h1, h2⟩ := blank_heads _ hb d b' rfl
    have e' : d = c := by
      rw [List.cons_append] at e
      exact (List.cons.inj e).1
    subst e'
    exact ⟨fun _ _ _ => h1, fun _ => h2⟩
theorem sep_must {one t rest : List Nat} (ht : t ≠ []) (h1 : one ≠ []) (h : must one t = false) : Sep one (t ++ rest) := by
  intro c r e
  cases t with
  | nil => exact absurd rfl ht
  | cons d t' =>
    have e' : d = c := by
      rw [List.cons_append] at e
      exact (List.cons.inj e).1
    subst e'
    unfold must at h
    simp only [if_neg h1] at h
    split at h
    · cases h
    · rename_i hn
      refine ⟨fun z hz hr => ?_, fun ho hc => hn ⟨?_, hc⟩⟩
      · rw [hz] at h
        simp only [hr, Bool.true_and] at h
        exact h
      · rcases ho with ho | ho
        · exact .inl ho
        · exact .inr (.inl ho)
theorem wr_scan {x : List Nat} {ts : List Tk} {last : List Nat} (w : Wr x ts last) : ∀ rest, (last = [] ∨ Sep last rest) → sc (x ++ rest) 0 = (sc rest x.length).pre ts := by
  induction w with
  | nil => intro rest _; exact (pre_nil _).symm
  | @snoc x ts last b t k w g hb hm ih =>
    intro rest hs
    have ht : t ≠ [] := by
      obtain ⟨c, r, e, _⟩ := g.head
      rw [e]
      simp
    have hs' : Sep t rest := by
      rcases hs with z | z
      · exact absurd z ht
      · exact z
    have sep : last = [] ∨ Sep last (b ++ (t ++ rest)) := by
      by_cases h0 : last = []
      · exact .inl h0
      · refine .inr ?_
        by_cases hb0 : b = []
        · subst hb0
          show Sep last (t ++ rest)
          exact sep_must ht h0 (hm rfl)
        · exact sep_blank hb hb0
    have e : x ++ b ++ t ++ rest = x ++ (b ++ (t ++ rest)) := by simp
    rw [e, ih _ sep, sc_blanks b hb, sc_good g rest _ hs', pre_add]
    congr 2
    · simp
    · simp
      omega
/-! ### the tokens that the law draws -/
theorem takeWhile_stop {p : Nat → Bool} : ∀ (a r : List Nat), (∀ c ∈ a, p c = true) → (∀ c s, r = c :: s → p c = false) → (a ++ r).takeWhile p = a
  | [], [], _, _ => rfl
  | [], c :: s, _, h => by
    rw [List.nil_append, List.takeWhile_cons, if_neg (by rw [h c s rfl]; decide)]
  | d :: a, r, h, h2 => by
    rw [List.cons_append, List.takeWhile_cons, if_pos (h d (by simp)), takeWhile_stop a r (fun c m => h c (List.mem_cons_of_mem _ m)) h2]
theorem run_small : ∀ c ∈ runL, c < 1114112 := by decide
theorem run_head : ∀ c ∈ runL, isBlank c = false ∧ c ≠ 35 ∧ c ≠ 39 := by decide
theorem good_run {k : Kind} {t : List Nat} (hne : t ≠ []) (hr : ∀ c ∈ t, isRun c = true) (hk : runKind t = some k) : Good k t := by
  have hd : ∃ c r, t = c :: r := by
    cases t with
    | nil => exact absurd rfl hne
    | cons c r => exact ⟨c, r, rfl⟩
  obtain ⟨c, r, e⟩ := hd
  have hc : isRun c = true := hr c (by simp [e])
  obtain ⟨h1, h2, h3⟩ := run_head c (of_decide_eq_true hc)
  refine ⟨⟨c, r, e, h1, h2⟩, fun rest hs => ?_, fun d hd => run_small d (of_decide_eq_true (hr d hd))⟩
  have tw : (t ++ rest).takeWhile isRun = t := takeWhile_stop t rest hr fun d s e2 => by
    refine (hs d s e2).1 (t.getLast hne) (List.getLast?_eq_some_getLast hne) (hr _ (List.getLast_mem hne))
  have e3 : t ++ rest = c :: (r ++ rest) := by simp [e]
  rw [e3] at tw ⊢
  unfold tokenAt
  simp only [if_neg h3, hc, if_true, tw, hk, Option.map_some]
theorem words_head : ∀ v ∈ wordsL, v.head? ≠ some 120 ∧ v.head? ≠ some 113 := by decide
theorem good_name {c : Nat} {w : List Nat} (hc : c = 120 ∨ c = 113) (hw : ∀ d ∈ w, d ∈ [97, 98, 122, 57, 95]) (hl : w.length ≤ 18) : Good .name (c :: w) := by
  have hr : ∀ d ∈ c :: w, isRun d = true := by
    intro d hd
    rcases List.mem_cons.mp hd with e | m
    · subst e
      rcases hc with rfl | rfl <;> decide
    · have := hw d m
      simp only [List.mem_cons, List.not_mem_nil, or_false] at this
      rcases this with rfl | rfl | rfl | rfl | rfl <;> decide
  have hn : (c :: w) ∉ wordsL := fun m => by
    obtain ⟨h1, h2⟩ := words_head _ m
    rcases hc with rfl | rfl
    · exact h1 rfl
    · exact h2 rfl
  refine good_run (by simp) hr ?_
  unfold runKind
  rw [if_neg hn, if_pos]
  unfold isName
  have h1 : (c :: w).length ≤ 20 := by
    rw [List.length_cons]
    omega
  have h2 : c ∈ letL := by rcases hc with rfl | rfl <;> decide
  have h3 : (c :: w).all isRun = true := List.all_eq_true.mpr hr
  simp only [decide_eq_true h1, decide_eq_true h2, h3, decide_eq_false hn, Bool.and_true, Bool.not_false]
theorem good_words : ∀ t ∈ [[105, 109, 112, 111, 114, 116], [97, 115], [110, 111, 110, 108, 111, 99, 97, 108], [102, 110], [110, 111, 110, 101], [111, 114], [99, 111, 110, 116, 105, 110, 117, 101], [100, 101, 102]], Good .word t := by
  intro t ht
  simp only [List.mem_cons, List.not_mem_nil, or_false] at ht
  rcases ht with rfl | rfl | rfl | rfl | rfl | rfl | rfl | rfl <;> exact good_run (by simp) (by decide) (by decide)
theorem good_numbers : ∀ t ∈ [[48], [55], [49, 48], List.replicate 18 57, 49 :: List.replicate 17 48], Good .number t := by
  intro t ht
  simp only [List.mem_cons, List.not_mem_nil, or_false] at ht
  rcases ht with rfl | rfl | rfl | rfl | rfl <;> exact good_run (by simp) (by decide) (by decide)
theorem good_text {w : List Nat} (h1 : 39 ∉ w) (h2 : 10 ∉ w) (h3 : w.length ≤ 40) (h4 : ∀ c ∈ w, c < 1114112) : Good .text (39 :: w ++ [39]) := by
  refine ⟨⟨39, w ++ [39], rfl, by decide, by decide⟩, fun rest _ => ?_, fun c hc => ?_⟩
  rotate_left
  · have hc' : c = 39 ∨ c ∈ w := by
      simp only [List.cons_append, List.mem_cons, List.mem_append, List.not_mem_nil, or_false] at hc
      rcases hc with e | e | e
      · exact .inl e
      · exact .inr e
      · exact .inl e
    rcases hc' with e | e
    · omega
    · exact h4 c e
  have e : 39 :: w ++ [39] ++ rest = 39 :: (w ++ 39 :: rest) := by simp
  have u : upTo 39 (w ++ 39 :: rest) = w := upTo_stop w rest h1
  have hn : ¬ (w.length = (w ++ 39 :: rest).length ∨ w.length > 40 ∨ 10 ∈ w) := by
    rintro (h | h | h)
    · simp at h
    · omega
    · exact h2 h
  rw [e]
  unfold tokenAt textLen
  simp only [if_true, u, if_neg hn, Option.map_some]
  simp
theorem good_signs : ∀ t ∈ signsL, Good .sign t := by
  intro t ht
  simp only [signsL, List.mem_cons, List.not_mem_nil, or_false] at ht
  rcases ht with rfl | rfl | rfl | rfl | rfl | rfl | rfl | rfl | rfl | rfl | rfl | rfl | rfl | rfl | rfl | rfl | rfl
  all_goals refine ⟨⟨_, _, rfl, by decide, by decide⟩, fun rest hs => ?_, by decide⟩
  · rfl
  · rfl
  · rfl
  · rfl
  · rfl
  · rfl
  · rfl
  · rfl
  · rfl
  · rfl
  · rfl
  · rfl
  · cases rest with
    | nil => rfl
    | cons c r =>
      have hc : (61 == c) = false := by
        have := (hs c r rfl).2 (.inr rfl)
        simpa using fun e => this (Eq.symm e)
      show (signsL.find? fun s => s.isPrefixOf (61 :: c :: r)).map (fun s => (Kind.sign, s.length)) = _
      simp [signsL, List.find?, List.isPrefixOf, hc]
  · cases rest with
    | nil => rfl
    | cons c r =>
      have hc : (61 == c) = false := by
        have := (hs c r rfl).2 (.inl rfl)
        simpa using fun e => this (Eq.symm e)
      show (signsL.find? fun s => s.isPrefixOf (60 :: c :: r)).map (fun s => (Kind.sign, s.length)) = _
      simp [signsL, List.find?, List.isPrefixOf, hc]
  · rfl
  · rfl
  · rfl
/-! ### the pieces that are no tokens -/
def wrongL : List (List Nat) := [[65], [36], [39, 97], 39 :: List.replicate 41 97 ++ [39], List.replicate 19 57, [48, 49], [49, 97], [95, 97], List.replicate 21 97, [33], [9], [39, 97, 10, 39], [34]]
theorem wrong_sc : ∀ w ∈ wrongL, ∀ a, sc w a = .error a ∧ sc (w ++ [32]) a = .error a := by
  intro w hw a
  simp only [wrongL, List.mem_cons, List.not_mem_nil, or_false] at hw
  rcases hw with rfl | rfl | rfl | rfl | rfl | rfl | rfl | rfl | rfl | rfl | rfl | rfl | rfl <;> exact ⟨rfl, rfl⟩
theorem sc_spaces : ∀ (n a : Nat), sc (List.replicate n 32) a = .ok []
  | 0, _ => rfl
  | n + 1, a => by
    rw [List.replicate_succ, sc_blank _ _ (by decide)]
    exact sc_spaces n _
theorem sc_a (n : Nat) : sc (97 :: List.replicate (n + 1) 32) 0 = .ok [⟨.name, [97], 0⟩] := by
  have g : Good .name [97] := good_run (by simp) (by decide) (by decide)
  have z := sc_good g (List.replicate (n + 1) 32) 0 (by
    intro c r e
    rw [List.replicate_succ] at e
    have := (List.cons.inj e).1
    subst this
    exact ⟨fun _ _ _ => by decide, fun _ => by decide⟩)
  rw [sc_spaces] at z
  exact z
theorem sc_ab : sc [97, 60, 61, 61, 98] 0 = .ok [⟨.name, [97], 0⟩, ⟨.sign, [60, 61], 1⟩, ⟨.sign, [61], 3⟩, ⟨.name, [98], 4⟩] := rfl
theorem wr_ok {x : List Nat} {ts : List Tk} {last : List Nat} (w : Wr x ts last) : ∀ t ∈ ts, ∀ c ∈ t.text, c < 1114112 := by
  induction w with
  | nil => intro t h; exact absurd h List.not_mem_nil
  | snoc w g hb hm ih =>
    intro t h
    rcases List.mem_append.mp h with h | h
    · exact ih t h
    · rw [List.mem_singleton.mp h]
      exact g.ok
/-- what the law asks of a written row -/
theorem row_end {x : List Nat} {ts : List Tk} {last : List Nat} (w : Wr x ts last) : sc x 0 = .ok ts ∧ sc (x ++ [10, 35, 32, 101, 110, 100]) 0 = .ok ts ∧
    ∀ v ∈ wrongL, sc (x ++ [10] ++ v) 0 = .error (x.length + 1) ∧ sc (x ++ [10] ++ v ++ [32]) 0 = .error (x.length + 1) := by
  have line : ∀ r, Sep last (10 :: r) := fun r c s e => by
    have := (List.cons.inj e).1
    subst this
    exact ⟨fun _ _ _ => by decide, fun _ => by decide⟩
  refine ⟨?_, ?_, fun v hv => ⟨?_, ?_⟩⟩
  · have z := wr_scan w [] (.inr fun c r e => nomatch e)
    rw [List.append_nil] at z
    rw [z, sc_nil]
    simp [Res.pre]
  · rw [wr_scan w _ (.inr (line _)), sc_blank _ _ (by decide), sc_commentEnd _ _ (by decide)]
    simp [Res.pre]
  · have z := wr_scan w (10 :: v) (.inr (line _))
    rw [sc_blank _ _ (by decide), (wrong_sc v hv _).1] at z
    simpa [Res.pre] using z
  · have z := wr_scan w (10 :: (v ++ [32])) (.inr (line _))
    rw [sc_blank _ _ (by decide), (wrong_sc v hv _).2] at z
    simpa [Res.pre] using z
end KB
set_option Elab.async false
set_option linter.all false
set_option maxRecDepth 100000
set_option maxHeartbeats 4000000
namespace KB
open PySem PySem.Spec PyProof.Rows L2
open TL (tl len_tl ext_tl tl_append mk_tl)
def topS (i : Nat) : Stmt := PySem.Challenge.pw_keptbindings_k10_tokens.main.body.getD i (.Pass ⟨0, 0, 0, 0⟩)
/-! ### texts as lists of code points -/
def S (l : List Nat) : Str := ⟨l.toArray⟩
theorem tl_S (l : List Nat) : tl (S l) = l := rfl
theorem S_tl (x : Str) : S (tl x) = x := mk_tl x
theorem S_len (l : List Nat) : (S l).length = l.length := by
  rw [len_tl]
  rfl
theorem S_inj {a b : List Nat} (h : S a = S b) : a = b := congrArg tl h
theorem S_add (a b : List Nat) : S a ++ S b = S (a ++ b) := ext_tl (by rw [tl_append]; rfl)
theorem S_eq (a b : List Nat) : decide (V.str (S a) = V.str (S b)) = decide (a = b) := by
  rw [Bool.eq_iff_iff, decide_eq_true_eq, decide_eq_true_eq]
  exact ⟨fun h => S_inj (V.str.inj h), fun h => by rw [h]⟩
theorem fromI (n i : Nat) : PySem.fromIndex n (i : Int) = i := by
  unfold PySem.fromIndex
  rw [if_neg (by omega)]
  omega
theorem upTo_get {c : Nat} : ∀ (l : List Nat), (upTo c l).length < l.length → l[(upTo c l).length]? = some c
  | [], h => by simp at h
  | d :: l, h => by
    unfold upTo at h ⊢
    by_cases e : d = c
    · subst e
      rw [List.takeWhile_cons, if_neg (by simp)]
      rfl
    · have e' : (d != c) = true := by simpa using e
      rw [List.takeWhile_cons, if_pos e'] at h ⊢
      have ih := upTo_get (c := c) l (by
        unfold upTo
        simpa using h)
      unfold upTo at ih
      simpa using ih
theorem upTo_below {c : Nat} : ∀ (l : List Nat) (i : Nat), i < (upTo c l).length → l[i]? ≠ some c
  | [], i, h => by simp [upTo] at h
  | d :: l, i, h => by
    unfold upTo at h
    by_cases e : d = c
    · subst e
      rw [List.takeWhile_cons, if_neg (by simp)] at h
      simp at h
    · have e' : (d != c) = true := by simpa using e
      rw [List.takeWhile_cons, if_pos e'] at h
      cases i with
      | zero =>
        intro z
        exact e (Option.some.inj z)
      | succ i =>
        have ih := upTo_below (c := c) l i (by
          unfold upTo
          simpa using h)
        simpa using ih
theorem upTo_le {c : Nat} (l : List Nat) : (upTo c l).length ≤ l.length := by
  unfold upTo
  exact (List.takeWhile_sublist _).length_le
open PySem.StrLaws in
/-- text.find(sign, i) -/
theorem find_one (l : List Nat) (c i : Nat) (hi : i ≤ l.length) : Txt.find3 (S l) ⟨#[c]⟩ (i : Int) =
    if (upTo c (l.drop i)).length = (l.drop i).length then -1 else ((i + (upTo c (l.drop i)).length : Nat) : Int) := by
  have one : (⟨#[c]⟩ : Str).length = 1 := rfl
  have n : (S l).length = l.length := S_len l
  have at_ : ∀ j, At (S l) ⟨#[c]⟩ (S l).length j ↔ l[j]? = some c := fun j => by
    unfold At
    rw [one, n]
    constructor
    · exact fun h => ((subAt_one (S l) c j).mp (by simpa [one, n] using h)).trans rfl
    · exact fun h => by
        have z := (subAt_one (S l) c j).mpr h
        simpa [one, n] using z
  unfold Txt.find3
  rw [fromI, occ_eq]
  have lt : (upTo c (l.drop i)).length ≤ (l.drop i).length := upTo_le _
  rcases occ_first (S l) ⟨#[c]⟩ (S l).length 1 (by decide) (List.range' i ((S l).length + 1 - i)) i (fun j hj => by
      rw [List.mem_range'_1] at hj
      exact hj.1) with ⟨h0, hn⟩ | ⟨pre, a, post, e, h0, ha, hn⟩
  · rw [h0]
    by_cases full : (upTo c (l.drop i)).length = (l.drop i).length
    · rw [if_pos full]
    · have z := upTo_get (c := c) (l.drop i) (by omega)
      rw [List.getElem?_drop] at z
      have hl := (List.getElem?_eq_some_iff.mp z).1
      exact absurd ((at_ _).mpr z) (hn _ (by
        rw [List.mem_range'_1, n]
        omega))
  · have la : l[a]? = some c := (at_ a).mp ha
    have mem : a ∈ List.range' i ((S l).length + 1 - i) := by
      rw [e]
      simp
    rw [List.mem_range'_1] at mem
    have la' : (l.drop i)[a - i]? = some c := by
      rw [List.getElem?_drop, show i + (a - i) = a by omega]
      exact la
    have nfull : (upTo c (l.drop i)).length ≠ (l.drop i).length := fun z => by
      have hh := (List.getElem?_eq_some_iff.mp la').1
      exact upTo_below (l.drop i) (a - i) (by omega) la'
    have first : a = i + (upTo c (l.drop i)).length := by
      have g1 : (upTo c (l.drop i)).length ≤ a - i := by
        by_cases q : (upTo c (l.drop i)).length ≤ a - i
        · exact q
        · exact absurd la' (upTo_below _ _ (by omega))
      have z := upTo_get (c := c) (l.drop i) (by omega)
      rw [List.getElem?_drop] at z
      by_cases q : a = i + (upTo c (l.drop i)).length
      · exact q
      · have before : i + (upTo c (l.drop i)).length ∈ pre := by
          have sorted : (List.range' i ((S l).length + 1 - i)).Pairwise (· < ·) := List.pairwise_lt_range'
          have m2 : i + (upTo c (l.drop i)).length ∈ List.range' i ((S l).length + 1 - i) := by
            rw [List.mem_range'_1]
            omega
          rw [e] at m2 sorted
          rcases List.mem_append.mp m2 with m | m
          · exact m
          · rcases List.mem_cons.mp m with m | m
            · omega
            · have := (List.pairwise_cons.mp (List.pairwise_append.mp sorted).2.1).1 _ m
              omega
        exact absurd ((at_ _).mpr z) (hn _ before)
    rw [if_neg nfull]
    generalize (forIn (List.range' i ((S l).length + 1 - i)) ((#[] : Array Nat), i) (occBody (S l) ⟨#[c]⟩ (S l).length 1)).run.fst = arr at h0
    have h1 : arr.toList[0]? = some a := by simpa using h0
    cases hL : arr.toList with
    | nil => rw [hL] at h1; cases h1
    | cons b t =>
      rw [hL] at h1
      have : b = a := Option.some.inj h1
      show ((b : Nat) : Int) = _
      rw [this, first]
theorem isPrefix_take : ∀ (s l : List Nat), s.isPrefixOf l = decide (l.take s.length = s)
  | [], l => by simp [List.isPrefixOf]
  | c :: s, [] => by simp [List.isPrefixOf]
  | c :: s, d :: l => by
    rw [List.isPrefixOf, isPrefix_take s l]
    by_cases e : c = d
    · subst e
      simp
    · have e' : (c == d) = false := by simpa using e
      simp [e', Ne.symm e]
theorem starts_at (l s : List Nat) (i : Nat) (hi : i ≤ l.length) : Txt.startswith3 (S l) (S s) (i : Int) = s.isPrefixOf (l.drop i) := by
  unfold Txt.startswith3
  rw [fromI, S_len, S_len, isPrefix_take]
  have e : Builtin.Str.subAt (S l) (S s) i = decide ((l.drop i).take s.length = s) := by
    unfold Builtin.Str.subAt
    rw [Bool.eq_iff_iff, decide_eq_true_eq]
    have z : ((S l).cps.extract i (i + (S s).length)).toList = (l.drop i).take s.length := by
      rw [Array.toList_extract, S_len]
      show List.take (i + s.length - i) (l.drop i) = _ <;> simp [List.extract]
    constructor
    · intro h
      have h2 : (S l).cps.extract i (i + (S s).length) = (S s).cps := by simpa using h
      rw [← z, h2]
      rfl
    · intro h
      have h2 : (S l).cps.extract i (i + (S s).length) = (S s).cps := Array.toList_inj.mp (by rw [z, h]; rfl)
      simpa using h2
  rw [e]
  by_cases q : (l.drop i).take s.length = s
  · have := congrArg List.length q
    rw [List.length_take, List.length_drop] at this
    simp [q]
    omega
  · simp [q]
theorem cut_at (l : List Nat) (i j : Nat) (hi : i ≤ j) (hj : j ≤ l.length) : cutS (S l) (some (i : Int)) (some (j : Int)) = S ((l.drop i).take (j - i)) := by
  unfold cutS
  rw [HT.sIx_nat, HT.sIx_nat, S_len, Nat.min_eq_left hj, Nat.min_eq_left (show i ≤ l.length by omega)]
  rfl
/-! ### the texts of the program -/
theorem tLET : (Str.ofString "abcdefghijklmnopqrstuvwxyz") = S letL := by decide +kernel
theorem tDIG : (Str.ofString "0123456789") = S digL := by decide +kernel
theorem tRUN : (Str.ofString "abcdefghijklmnopqrstuvwxyz0123456789_") = S runL := by decide +kernel
theorem tBLA : (Str.ofString " \n") = S [32, 10] := by decide +kernel
end KB
/-! The program's own errors: their __init__, raised -/
namespace KB
open PySem PySem.Spec PyProof.Rows L2
/-- __init__ puts its arguments into the error's own dict -/
def spI (C : Addr) (n : Nat) (look : List V → List (Str × V)) : Sp := fun vs H Q _ => ∃ (a : Addr) (xs : List V), vs = .ref a :: xs ∧ xs.length = n ∧ H a = some (exo a C none) ∧
  ∀ (H' : Hp) (dx : Addr), H dx = none → dx ≠ a → H' a = some (exo a C (some dx)) → H' dx = some (exd dx (look xs)) → (∀ b, b ≠ a → b ≠ dx → H' b = H b) → Q .non H'
def look1 (f : Str) (vs : List V) : List (Str × V) := vs.map fun v => (f, v)
/-- what the written part says of an error's class that is raised and caught -/
structure ErT (K : PySem.W.Frag) (mg : Str → Option Value) (name : Str) (fs : List Str) (C fI : Addr) : Prop where
  T : OexC K C
  X : XfC K C
  g : mg name = some (.ref C)
  iC : PySem.W.findIn K (.ref C) "__init__" = some (some (.ref fI))
  tI : PySem.W.typeIn K (.ref fI) = some (.type "function")
  no : ∀ f ∈ fs, PySem.W.findIn K (.ref C) f = some none
  te : PySem.W.exmOne K (.ref C) (.ref C) = some true
section
theorem fin1 {H : Hp} {a C dx : Addr} {f : Str} {v : V} {Q : VK}
    (k : ∀ (H' : Hp) (dx : Addr), H dx = none → dx ≠ a → H' a = some (exo a C (some dx)) → H' dx = some (exd dx (look1 f [v])) → (∀ b, b ≠ a → b ≠ dx → H' b = H b) → Q .non H')
    (n : H dx = none) (ne : dx ≠ a) : Q .non (upd (upd H dx (exd dx [(f, v)])) a (exo a C (some dx))) :=
  k _ dx n ne upd_same (by rw [upd_ne ne]; exact upd_same) fun b h1 h2 => by rw [upd_ne h1, upd_ne h2]
/-- an error of one field on its way: what was tracked stands, its own dict is new -/
theorem raise1 {C : Addr} {f : Str} {σ : L2.St} {H : Hp} {ta : TA} {v : V} {Q : XK} (ha : Evl.EvA ta σ H [v])
    (k : ∀ (d : Addr) (H' : Hp), Same H H' → H d = none → H' d = some (.xd [(f, v)]) → Q (.ref C) (some d) H') : tMkO C (spI C 1 (look1 f)) [] ta σ H Q := by
  refine ha H (Evl.Ex.refl H) _ fun H1 e1 => ⟨by show 1 ≤ 1000; decide, fun a na => ⟨a, [v], rfl, rfl, upd_same, fun H' dx nd ne h1 h2 keep => ?_⟩⟩
  have nd1 : H1 dx = none := by
    rw [upd_ne ne] at nd
    exact nd
  refine ⟨rfl, dx, [(f, v)], h1, h2, nd1, k dx _ (fun b o q => ?_) (Evl.fresh_back e1 nd1) upd_same⟩
  have q1 := e1 b o q
  have nba : b ≠ a := ne_of_none q1 na
  have nbd : b ≠ dx := ne_of_none q1 nd1
  rw [upd_ne nbd, del_ne nba, keep b nba nbd, upd_ne nba]
  exact q1
theorem same_new {H : Hp} {p : Addr} {o : HO} (h : H p = none) : Same H (upd H p o) := fun b x e => by
  rw [upd_ne (ne_of_none e h)]
  exact e
end
end KB
namespace KB
open PySem PySem.Spec PyProof.Rows L2
open TL (tl len_tl ext_tl tl_append mk_tl)
abbrev sI0 : Stmt := inClass (topS 2) 0
abbrev sIN : Stmt := topS 14
abbrev sTK : Stmt := topS 15
abbrev sLE : Stmt := topS 16
abbrev sTO : Stmt := topS 17
abbrev sTE : Stmt := topS 18
abbrev sRE : Stmt := topS 19
abbrev sRK : Stmt := topS 20
abbrev sNU : Stmt := topS 21
def kindL : Kind → List Nat
  | .name => [110, 97, 109, 101]
  | .word => [119, 111, 114, 100]
  | .number => [110, 117, 109, 98, 101, 114]
  | .text => [116, 101, 120, 116]
  | .sign => [115, 105, 103, 110]
theorem kName : Str.ofString "name" = S (kindL .name) := by decide +kernel
theorem kWord : Str.ofString "word" = S (kindL .word) := by decide +kernel
theorem kNumber : Str.ofString "number" = S (kindL .number) := by decide +kernel
theorem kText : Str.ofString "text" = S (kindL .text) := by decide +kernel
theorem kSign : Str.ofString "sign" = S (kindL .sign) := by decide +kernel
structure TK (K : PySem.W.Frag) (mg : Str → Option Value) (C fI aS aW fIN fTK fLE fTO fTE fRE fRK fNU : Addr) : Prop where
  err : ErT K mg "BadText" ["at"] C fI
  isinstance : mg "isinstance" = none
  len : mg "len" = none
  all : mg "all" = none
  str : mg "str" = none
  LET : ∃ t, mg "LETTERS" = some (.str (S letL) t)
  DIG : ∃ t, mg "DIGITS" = some (.str (S digL) t)
  RUN : ∃ t, mg "RUN" = some (.str (S runL) t)
  BLA : ∃ t, mg "BLANKS" = some (.str (S [32, 10]) t)
  LN : ∃ t, mg "LONGEST_NAME" = some (.int 20 t)
  LU : ∃ t, mg "LONGEST_NUMBER" = some (.int 18 t)
  LT : ∃ t, mg "LONGEST_TEXT" = some (.int 40 t)
  LP : ∃ t, mg "LONGEST_PROGRAM" = some (.int 5000 t)
  gSIG : mg "SIGNS" = some (.ref aS)
  gWRD : mg "WORDS" = some (.ref aW)
  sSIG : ∀ H, SqT K H aS (signsL.map fun s => .str (S s))
  sWRD : ∀ H, SqT K H aW (wordsL.map fun s => .str (S s))
  gIN : mg "is_name" = some (.ref fIN)
  kIN : PySem.W.keepIn K (.ref fIN) = true
  gTK : mg "tokens" = some (.ref fTK)
  kTK : PySem.W.keepIn K (.ref fTK) = true
  gLE : mg "_line_end" = some (.ref fLE)
  kLE : PySem.W.keepIn K (.ref fLE) = true
  gTO : mg "_token" = some (.ref fTO)
  kTO : PySem.W.keepIn K (.ref fTO) = true
  gTE : mg "_text_end" = some (.ref fTE)
  kTE : PySem.W.keepIn K (.ref fTE) = true
  gRE : mg "_run_end" = some (.ref fRE)
  kRE : PySem.W.keepIn K (.ref fRE) = true
  gRK : mg "_run_kind" = some (.ref fRK)
  kRK : PySem.W.keepIn K (.ref fRK) = true
  gNU : mg "_is_number" = some (.ref fNU)
  kNU : PySem.W.keepIn K (.ref fNU) = true
theorem small {n : Nat} (h : n ≤ 10000) : n ≤ sizeLine := Nat.le_trans h (by decide)
theorem str_type {K : PySem.W.Frag} : PySem.W.kitOne K (.type "str") (.type "str") = some true := kit_ty (by decide +kernel)
theorem inV_words (v : List Nat) (l : List (List Nat)) : inV (.str (S v)) (l.map fun s => .str (S s)) = decide (v ∈ l) := by
  unfold inV
  rw [List.any_map, Bool.eq_iff_iff, List.any_eq_true, decide_eq_true_eq]
  constructor
  · rintro ⟨s, hs, h⟩
    have e : S s = S v := by
      have h' : eqV (.str (S s)) (.str (S v)) = true := h
      simpa [eqV] using h'
    rw [S_inj e.symm]
    exact hs
  · intro h
    exact ⟨v, h, by simp [eqV]⟩
theorem flat_words (l : List (List Nat)) : (l.map fun s => V.str (S s)).all flatV = true := by
  rw [List.all_map, List.all_eq_true]
  intro s _
  rfl
theorem isName_cons (c : Nat) (r : List Nat) : isName (c :: r) = (decide ((c :: r).length ≤ 20) && decide (c ∈ letL) && (c :: r).all isRun && !decide ((c :: r) ∈ wordsL)) := rfl
theorem is_empty (v : List Nat) : decide (V.str (S v) = V.str (Str.ofString "")) = decide (v = []) := by
  have e : Str.ofString "" = S [] := by decide +kernel
  rw [e, S_eq]
theorem bool_if {b : Bool} {A B : Prop} (h1 : b = true → A) (h2 : b = false → B) : if b = true then A else B := by
  cases b with
  | true => exact iteT (h1 rfl)
  | false => exact iteF (h2 rfl)
/-- an error raised: what was tracked stands, its own dict is new -/
def Rz (C : Addr) (H : Hp) (E : XK) (v : V) : Prop := ∀ (d : Addr) (H' : Hp), Same H H' → H d = none → H' d = some (.xd [("at", v)]) → E (.ref C) (some d) H'
section
variable {P : Program} {w : World} {K : PySem.W.Frag} {mg : Str → Option Value} {base : Heap} {C fI aS aW fIN fTK fLE fTO fTE fRE fRK fNU : Addr}
theorem scI0 : FnScope ["self", "at"] ["self", "at"] (defScope sI0) := ⟨rfl, rfl, rfl, by decide +kernel, rfl, by decide +kernel, by decide +kernel⟩
theorem ok_i0 {fd : FuncData} {k : Nat} (F : Fun K "__init__" "BadText.__init__" sI0 fI fd) (X : ErT K mg "BadText" ["at"] C fI) : FnOk P w K mg base CX0 (k + 1) fI fd ["self", "at"] (spI C 1 (look1 "at")) := by
  refine F.ok scI0 (fun vs H Q E h => ?_) (fun cdv A outer s H vs Q E hr h => ⟨_, pss_one (ps_ost (pv 0) (pv 1)), ?_⟩)
  · obtain ⟨a, xs, rfl, len, _⟩ := h
    simp [len]
  · obtain ⟨a, xs, rfl, len, ha, k⟩ := h
    obtain ⟨v, rfl⟩ := List.length_eq_one_iff.mp len
    exact ⟨_, rfl, _, rfl, a, C, rfl, X.T, X.no _ (by simp), .inl ⟨ha, fun dx n ne => fin1 k n ne⟩⟩
/-! ### is_name -/
theorem scIN : FnScope ["value", "char"] ["value"] (defScope sIN) := ⟨rfl, rfl, rfl, by decide +kernel, rfl, by decide +kernel, by decide +kernel⟩
def spIN : Sp := fun vs H Q _ => ∃ v : List Nat, vs = [.str (S v)] ∧ v.length ≤ 5000 ∧ ∀ H', Same H H' → Q (.bl (isName v)) H'
/-- all([sign in SIGNS for sign in text]) -/
theorem all_in {σ : L2.St} {H : Hp} {Q : VK} (v z : List Nat) (j : Nat) (hσ : σ[0]? = some (some (.str (S v)))) (hj : ∀ x, wipe ((wipe σ [j]).set j (some x)) [j] = wipe σ [j]) (hs : (wipe σ [j]).length > j) (small : v.length ≤ 5000)
    (k : ∀ H', Same H H' → Q (.bl (v.all fun c => decide (c ∈ z))) H') :
    tCB (rAll K) (tCons (tLc (iStr (tVar 0)) (gName j) tYes (tOp (fun x y H Q => ∃ (c : Nat) (z : Str), x = .str ⟨#[c]⟩ ∧ y = .str z ∧ Q (.bl (decide (c ∈ z.cps.toList))) H) (tVar j) (tC (.str (S z)))) [j]) tNil) σ H Q := by
  refine ⟨_, hσ, S v, rfl, fun D hD => lc_it (walk_str (z := S v)) (fun i H' => H' D = some (.lst ((v.take i).map fun c => .bl (decide (c ∈ z)))) ∧ Same H H') ⟨upd_same, same_new hD⟩ (fun _ _ _ _ => trivial) ?_ ?_⟩
  · rintro i x H1 H2 hi ⟨hD1, sm⟩ ⟨rfl, c, hc, rfl⟩
    have hc' : v[i]? = some c := by
      have z : (S v).cps[i]? = v[i]? := by simp [S]
      rw [← z]
      exact hc
    refine ⟨hj _, .str ⟨#[c]⟩, ?_, c, S z, rfl, rfl, _, hD1, ?_, ?_, fun b o q => ?_⟩
    · rw [List.getElem?_set_self (by omega)]
    · rw [List.length_map, List.length_take]
      exact Nat.lt_of_le_of_lt (Nat.min_le_right _ _) (Nat.lt_of_le_of_lt small (by decide))
    · rw [upd_same, List.take_add_one, hc', List.map_append]
      rfl
    · have nb : b ≠ D := fun z => by
        subst z
        rw [hD] at q
        cases q
      rw [upd_ne nb]
      exact sm _ _ q
  · rintro H1 ⟨hD1, sm⟩
    have e : (v.take (S v).cps.size) = v := List.take_of_length_le (by simp [S])
    rw [e] at hD1
    refine ⟨D, v.map fun c => decide (c ∈ z), rfl, .inl (.inl (by rw [List.map_map]; exact hD1)), ?_⟩
    rw [List.all_map]
    exact k _ sm
theorem ok_IN {fd : FuncData} {k : Nat} (F : Fun K "is_name" "is_name" sIN fIN fd) (T : TK K mg C fI aS aW fIN fTK fLE fTO fTE fRE fRK fNU) : FnOk P w K mg base CX0 (k + 1) fIN fd ["value"] spIN := by
  refine F.ok scIN (fun vs H Q E h => ?_) (fun cdv A outer s H vs Q E hr h => ?_)
  · obtain ⟨v, rfl, _⟩ := h
    rfl
  · obtain ⟨v, rfl, hl', q⟩ := h
    obtain ⟨t1, gLET⟩ := T.LET
    obtain ⟨t2, gRUN⟩ := T.RUN
    obtain ⟨t3, gLN⟩ := T.LN
    refine ⟨_,
(pss_cons (ps_if (PW.pt (pw_or (pt_not (pt_val (pe_callB call_isi (by rfl) T.isinstance (by decide +kernel) (pa_cons (pv 0) (pa_cons (pe_bltn (v := .ty "str") (by rfl) T.str (by decide +kernel) rfl) pa_nil))))) (pw_or (pt_cmpR op_eq (pv 0) pe_str (nomark _)) (pw_or1 (pt_cmpR op_gt (pe_callB call_len_str (by rfl) T.len (by decide +kernel) (pa_cons (pv 0) pa_nil)) (pe_glob (v := .int 20) rfl gLN ⟨_, rfl⟩) (nomark _))))))
 (pss_one (ps_ret pe_bl))
 pss_nil)
 (pss_one (ps_ret (pe_and (pe_cmpR op_in_sign (pe_ix ix_str (pv 0) pe_int (fun _ _ => rfl)) (pe_glob (v := .str (S letL)) rfl gLET ⟨_, rfl⟩) (by rfl)) (pe_and (pe_callB (cr_all rfl) (by rfl) T.all (by decide +kernel) (pa_cons (pe_lc (own := [("char", 1)]) (g := gName 1) (tt := tYes) rfl scIN.nd (pi_str (pv 0)) (blkOk_by (own := [("char", 1)]) (N := ["value", "char"]) (sc := defScope sIN) (by decide +kernel)) (fun _ _ _ _ _ => pg_name (i := 1) scIN.nd rfl (Or.inl rfl)) (fun _ _ _ _ _ => pts_nil) (fun _ _ _ _ _ => (pe_cmpR op_in_sign (pv 1) (pe_glob (v := .str (S runL)) rfl gRUN ⟨_, rfl⟩) (by rfl)))) pa_nil)) (pe_one (pe_cmpR op_notIn_seq (pv 0) (pe_glob (v := .ref aW) rfl T.gWRD rfl) (by rfl)))))))), ?_⟩
    refine ⟨_, rfl, .str (S v), .ty "str", _, _, true, rfl, .ty _, .base (.str _), str_type, true, rfl, iteF ?_⟩
    refine ⟨_, rfl, rfl, _, rfl, ?_⟩
    rw [is_empty]
    cases v with
    | nil =>
      refine bool_if (fun _ => ?_) (fun h => absurd h (by decide))
      exact q H (Same.refl H)
    | cons c r =>
      refine bool_if (fun h => absurd h (by simp)) (fun _ => ?_)
      refine ⟨_, rfl, S (c :: r), rfl, by rw [S_len]; exact small (by omega), _, _, rfl, rfl, _, rfl, ?_⟩
      rw [S_len]
      refine bool_if (fun h => ?_) (fun h => ?_)
      · have hl : ¬ (c :: r).length ≤ 20 := by
          have := of_decide_eq_true h
          omega
        have e : isName (c :: r) = false := by
          rw [isName_cons, decide_eq_false hl]
          rfl
        rw [← e]
        exact q H (Same.refl H)
      · have hl : (c :: r).length ≤ 20 := by
          have := of_decide_eq_false h
          omega
        have e : isName (c :: r) = (decide (c ∈ letL) && ((c :: r).all isRun && !decide ((c :: r) ∈ wordsL))) := by
          rw [isName_cons, decide_eq_true hl, Bool.true_and, Bool.and_assoc]
        rw [e] at q
        refine ⟨_, rfl, S (c :: r), 0, c, rfl, rfl, by rw [S_len]; exact small (by omega), atI_nat (j := 0) rfl, c, S letL, rfl, rfl, _, rfl, bool_if (fun h1 => ?_) (fun h1 => ?_)⟩
        · have h1' : decide (c ∈ letL) = true := h1
          rw [h1', Bool.true_and] at q
          refine all_in (c :: r) runL 1 rfl (fun _ => rfl) (by show 2 > 1; decide) hl' fun H' sm => ⟨_, rfl, bool_if (fun h2 => ?_) (fun h2 => ?_)⟩
          · have h2' : (c :: r).all isRun = true := h2
            rw [h2', Bool.true_and] at q
            refine ⟨_, rfl, aW, _, rfl, .inr (T.sWRD _), rfl, flat_words _, ?_⟩
            have z := q H' sm
            rw [← inV_words] at z
            exact z
          · have h2' : (c :: r).all isRun = false := h2
            rw [h2', Bool.false_and] at q
            exact q H' sm
        · have h1' : decide (c ∈ letL) = false := h1
          rw [h1', Bool.false_and] at q
          exact q H (Same.refl H)
/-! ### _is_number -/
theorem scNU : FnScope ["run", "char"] ["run"] (defScope sNU) := ⟨rfl, rfl, rfl, by decide +kernel, rfl, by decide +kernel, by decide +kernel⟩
def spNU : Sp := fun vs H Q _ => ∃ v : List Nat, vs = [.str (S v)] ∧ v ≠ [] ∧ v.length ≤ 5000 ∧ ∀ H', Same H H' → Q (.bl (isNumber v)) H'
theorem is_zero (c : Nat) : decide (V.str ⟨#[c]⟩ = V.str (Str.ofString "0")) = decide (c = 48) := by
  have e : Str.ofString "0" = S [48] := by decide +kernel
  have z := S_eq [c] [48]
  rw [e]
  refine Eq.trans z ?_
  rw [Bool.eq_iff_iff]
  simp
theorem isNumber_cons (c : Nat) (r : List Nat) : isNumber (c :: r) = (!(decide ((c :: r).length > 18) || (decide (c = 48) && decide ((c :: r).length > 1))) && (c :: r).all isDig) := by
  unfold isNumber
  congr 4
  simp
theorem ok_NU {fd : FuncData} {k : Nat} (F : Fun K "_is_number" "_is_number" sNU fNU fd) (T : TK K mg C fI aS aW fIN fTK fLE fTO fTE fRE fRK fNU) : FnOk P w K mg base CX0 (k + 1) fNU fd ["run"] spNU := by
  refine F.ok scNU (fun vs H Q E h => ?_) (fun cdv A outer s H vs Q E hr h => ?_)
  · obtain ⟨v, rfl, _⟩ := h
    rfl
  · obtain ⟨v, rfl, hne, hl', q⟩ := h
    obtain ⟨t1, gDIG⟩ := T.DIG
    obtain ⟨t3, gLU⟩ := T.LU
    refine ⟨_,
(pss_cons (ps_if (PW.pt (pw_or (pt_cmpR op_gt (pe_callB call_len_str (by rfl) T.len (by decide +kernel) (pa_cons (pv 0) pa_nil)) (pe_glob (v := .int 18) rfl gLU ⟨_, rfl⟩) (nomark _)) (pw_or1 (PW.pt (pw_and (pt_cmpR op_eq (pe_ix ix_str (pv 0) pe_int (fun _ _ => rfl)) pe_str (nomark _)) (pw_and1 (pt_cmpR op_gt (pe_callB call_len_str (by rfl) T.len (by decide +kernel) (pa_cons (pv 0) pa_nil)) pe_int (nomark _))))))))
 (pss_one (ps_ret pe_bl))
 pss_nil)
 (pss_one (ps_ret (pe_callB (cr_all rfl) (by rfl) T.all (by decide +kernel) (pa_cons (pe_lc (own := [("char", 1)]) (g := gName 1) (tt := tYes) rfl scNU.nd (pi_str (pv 0)) (blkOk_by (own := [("char", 1)]) (N := ["run", "char"]) (sc := defScope sNU) (by decide +kernel)) (fun _ _ _ _ _ => pg_name (i := 1) scNU.nd rfl (Or.inl rfl)) (fun _ _ _ _ _ => pts_nil) (fun _ _ _ _ _ => (pe_cmpR op_in_sign (pv 1) (pe_glob (v := .str (S digL)) rfl gDIG ⟨_, rfl⟩) (by rfl)))) pa_nil))))), ?_⟩
    cases v with
    | nil => exact absurd rfl hne
    | cons c r =>
      rw [isNumber_cons] at q
      have last : ∀ b : Bool, b = false → (∀ H', Same H H' → Q (.bl (!b && (c :: r).all isDig)) H') → ∀ H', Same H H' → Q (.bl ((c :: r).all isDig)) H' := by
        intro b hb q H' sm
        have z := q H' sm
        rw [hb, Bool.not_false, Bool.true_and] at z
        exact z
      have stop : ∀ b : Bool, b = true → (∀ H', Same H H' → Q (.bl (!b && (c :: r).all isDig)) H') → Q (.bl false) H := by
        intro b hb q
        have z := q H (Same.refl H)
        rw [hb, Bool.not_true, Bool.false_and] at z
        exact z
      refine ⟨_, rfl, S (c :: r), rfl, by rw [S_len]; exact small (by omega), _, _, rfl, rfl, _, rfl, ?_⟩
      rw [S_len]
      refine bool_if (fun h => ?_) (fun h => ?_)
      · have hl : (c :: r).length > 18 := by
          have := of_decide_eq_true h
          omega
        exact stop _ (by rw [decide_eq_true hl]; rfl) q
      · have hl : ¬ (c :: r).length > 18 := by
          have := of_decide_eq_false h
          omega
        refine ⟨_, rfl, S (c :: r), 0, c, rfl, rfl, by rw [S_len]; exact small (by omega), atI_nat (j := 0) rfl, rfl, _, rfl, ?_⟩
        rw [is_zero]
        refine bool_if (fun h1 => ?_) (fun h1 => ?_)
        · refine ⟨_, rfl, S (c :: r), rfl, by rw [S_len]; exact small (by omega), _, _, rfl, rfl, _, rfl, ?_⟩
          rw [S_len]
          refine bool_if (fun h2 => ?_) (fun h2 => ?_)
          · have hl2 : (c :: r).length > 1 := by
              have := of_decide_eq_true h2
              omega
            exact stop _ (by rw [h1, decide_eq_true hl2]; simp) q
          · have hl2 : ¬ (c :: r).length > 1 := by
              have := of_decide_eq_false h2
              omega
            exact all_in (c :: r) digL 1 rfl (fun _ => rfl) (by show 2 > 1; decide) hl' (last _ (by rw [decide_eq_false hl, decide_eq_false hl2]; simp) q)
        · refine iteF ?_
          exact all_in (c :: r) digL 1 rfl (fun _ => rfl) (by show 2 > 1; decide) hl' (last _ (by rw [decide_eq_false hl, h1]; simp) q)
/-! ### _run_end -/
theorem scRE : FnScope ["text", "at", "end"] ["text", "at"] (defScope sRE) := ⟨rfl, rfl, rfl, by decide +kernel, rfl, by decide +kernel, by decide +kernel⟩
def runs (l : List Nat) : Nat := (l.takeWhile isRun).length
def spRE : Sp := fun vs H Q _ => ∃ (l : List Nat) (n : Nat), vs = [.str (S l), .int n] ∧ n ≤ l.length ∧ l.length ≤ 5000 ∧ Q (.int ((n + runs (l.drop n) : Nat) : Int)) H
theorem runs_more {l : List Nat} {c : Nat} {r : List Nat} (h : l = c :: r) (hc : isRun c = true) : runs l = runs r + 1 := by
  subst h
  unfold runs
  rw [List.takeWhile_cons, if_pos hc]
  rfl
theorem runs_stop {l : List Nat} (h : ∀ c r, l = c :: r → isRun c = false) : runs l = 0 := by
  cases l with
  | nil => rfl
  | cons c r =>
    unfold runs
    rw [List.takeWhile_cons, if_neg (by rw [h c r rfl]; decide)]
    rfl
theorem drop_cons {l : List Nat} {n : Nat} (h : n < l.length) : l.drop n = l[n] :: l.drop (n + 1) := List.drop_eq_getElem_cons h
theorem ok_RE {fd : FuncData} {k : Nat} (F : Fun K "_run_end" "_run_end" sRE fRE fd) (T : TK K mg C fI aS aW fIN fTK fLE fTO fTE fRE fRK fNU) : FnOk P w K mg base CX0 (k + 1) fRE fd ["text", "at"] spRE := by
  refine F.ok scRE (fun vs H Q E h => ?_) (fun cdv A outer s H vs Q E hr h => ?_)
  · obtain ⟨l, n, rfl, _⟩ := h
    rfl
  · obtain ⟨l, n, rfl, hn, hl, q⟩ := h
    obtain ⟨t2, gRUN⟩ := T.RUN
    refine ⟨_,
(pss_cons (ps_set (i := 2) scRE.nd rfl (.inl rfl) (pv 1))
 (pss_cons (ps_while PassesOwn.never (PW.pt (pw_and (pt_cmpR op_lt (pv 2) (pe_callB call_len_str (by rfl) T.len (by decide +kernel) (pa_cons (pv 0) pa_nil)) (nomark _)) (pw_and1 (pt_cmpR op_in_sign (pe_ix ix_str (pv 0) (pv 2) (fun _ _ => rfl)) (pe_glob (v := .str (S runL)) rfl gRUN ⟨_, rfl⟩) (by rfl)))))
 (pss_one (ps_aug (i := 2) scRE.nd rfl (.inl rfl) pe_int ip_add)))
 (pss_one (ps_ret (pv 2))))), ?_⟩
    refine ⟨_, rfl, fun m σ H' => ∃ j : Nat, σ = [some (.str (S l)), some (.int n), some (.int j)] ∧ j ≤ l.length ∧ m = l.length - j ∧ j + runs (l.drop j) = n + runs (l.drop n) ∧ H' = H, ⟨_, n, rfl, hn, rfl, rfl, rfl⟩, ?_⟩
    rintro m σ H' ⟨j, rfl, hj, rfl, e, rfl⟩
    refine ⟨_, rfl, _, rfl, S l, rfl, by rw [S_len]; exact small (by omega), _, _, rfl, rfl, _, rfl, ?_⟩
    rw [S_len]
    refine bool_if (fun h => ?_) (fun h => ?_)
    · have hlt : j < l.length := by
        have := of_decide_eq_true h
        omega
      have d := drop_cons hlt
      refine ⟨_, rfl, _, rfl, S l, _, l[j], rfl, rfl, by rw [S_len]; exact small (by omega), atI_nat (List.getElem?_eq_getElem hlt), l[j], S runL, rfl, rfl, _, rfl, bool_if (fun h1 => ?_) (fun h1 => ?_)⟩
      · have e1 := runs_more d h1
        refine ⟨fun σ H'' => ∃ j' : Nat, σ = [some (.str (S l)), some (.int n), some (.int j')] ∧ j' ≤ l.length ∧ j' = j + 1 ∧ j' + runs (l.drop j') = n + runs (l.drop n) ∧ H'' = H', fun σ H'' ⟨j', e1, e2, e3, e4, e5⟩ => ⟨l.length - j', by omega, j', e1, e2, rfl, e4, e5⟩, _, rfl, _, _, rfl, rfl, j + 1, rfl, by omega, rfl, by omega, rfl⟩
      · have e1 : runs (l.drop j) = 0 := runs_stop fun c r z => by
          rw [d] at z
          rw [← (List.cons.inj z).1]
          exact h1
        refine ⟨_, rfl, ?_⟩
        rw [e1] at e
        rw [← e] at q
        exact q
    · have hge : ¬ j < l.length := by
        have := of_decide_eq_false h
        omega
      have e1 : l.drop j = [] := List.drop_eq_nil_of_le (by omega)
      rw [e1] at e
      refine iteF ⟨_, rfl, ?_⟩
      rw [← e] at q
      exact q
/-! ### _line_end -/
theorem scLE : FnScope ["text", "at", "end"] ["text", "at"] (defScope sLE) := ⟨rfl, rfl, rfl, by decide +kernel, rfl, by decide +kernel, by decide +kernel⟩
def spLE : Sp := fun vs H Q _ => ∃ (l : List Nat) (n : Nat), vs = [.str (S l), .int n] ∧ n ≤ l.length ∧ l.length ≤ 5000 ∧ Q (.int ((n + (upTo 10 (l.drop n)).length : Nat) : Int)) H
theorem ok_LE {fd : FuncData} {k : Nat} (F : Fun K "_line_end" "_line_end" sLE fLE fd) (T : TK K mg C fI aS aW fIN fTK fLE fTO fTE fRE fRK fNU) : FnOk P w K mg base CX0 (k + 1) fLE fd ["text", "at"] spLE := by
  refine F.ok scLE (fun vs H Q E h => ?_) (fun cdv A outer s H vs Q E hr h => ?_)
  · obtain ⟨l, n, rfl, _⟩ := h
    rfl
  · obtain ⟨l, n, rfl, hn, hl, q⟩ := h
    refine ⟨_,
(pss_cons (ps_set (i := 2) scLE.nd rfl (.inl rfl) (pe_bm PySem.F.plainAttrs_str PySem.F.slot_str_find PySem.F.type_str_find mt_find3 (pv 0) (pa_cons pe_str (pa_cons (pv 1) pa_nil))))
 (pss_one (ps_ret (pe_ifExp (pt_cmpR op_lt (pv 2) pe_int (nomark _)) (pe_callB call_len_str (by rfl) T.len (by decide +kernel) (pa_cons (pv 0) pa_nil)) (pv 2))))), ?_⟩
    have one : Str.ofString "\n" = ⟨#[10]⟩ := by decide +kernel
    refine ⟨_, rfl, rfl, _, rfl, S l, _, _, rfl, rfl, ?_⟩
    rw [one, find_one l 10 n hn]
    by_cases full : (upTo 10 (l.drop n)).length = (l.drop n).length
    · rw [if_pos full]
      have e : n + (upTo 10 (l.drop n)).length = l.length := by
        rw [full, List.length_drop]
        omega
      rw [e] at q
      refine ⟨_, rfl, _, _, rfl, rfl, _, rfl, iteT ⟨_, rfl, S l, rfl, by rw [S_len]; exact small (by omega), ?_⟩⟩
      rw [S_len]
      exact q
    · rw [if_neg full]
      refine ⟨_, rfl, _, _, rfl, rfl, _, rfl, bool_if (fun h => ?_) (fun _ => ⟨_, rfl, q⟩)⟩
      have := of_decide_eq_true h
      omega
/-! ### _text_end -/
theorem scTE : FnScope ["text", "at", "end"] ["text", "at"] (defScope sTE) := ⟨rfl, rfl, rfl, by decide +kernel, rfl, by decide +kernel, by decide +kernel⟩
def spTE (C : Addr) : Sp := fun vs H Q E => ∃ (l : List Nat) (n : Nat), vs = [.str (S l), .int n] ∧ l[n]? = some 39 ∧ l.length ≤ 5000 ∧
  (∀ m, textLen (l.drop (n + 1)) = some m → Q (.int ((n + m : Nat) : Int)) H) ∧ (textLen (l.drop (n + 1)) = none → Rz C H E (.int n))
theorem ok_TE {fd fdI : FuncData} (F : Fun K "_text_end" "_text_end" sTE fTE fd) (T : TK K mg C fI aS aW fIN fTK fLE fTO fTE fRE fRK fNU) (GI : FnOk P w K mg base CX0 1 fI fdI ["self", "at"] (spI C 1 (look1 "at"))) (bI : Binds K fdI ["self", "at"] []) :
    FnOk P w K mg base (L2.CX P w) 3 fTE fd ["text", "at"] (spTE C) := by
  refine F.okX scTE (fun vs H Q E h => ?_) (fun cdv A outer s H vs Q E hr2 h => ?_)
  · obtain ⟨l, n, rfl, _⟩ := h
    rfl
  · obtain ⟨l, n, rfl, hq, hl, qS, qN⟩ := h
    obtain ⟨t3, gLT⟩ := T.LT
    have hn : n < l.length := (List.getElem?_eq_some_iff.mp hq).1
    have one : Str.ofString "'" = ⟨#[39]⟩ := by decide +kernel
    have lf : Str.ofString "\n" = ⟨#[10]⟩ := by decide +kernel
    refine ⟨_,
(pss_cons (ps_set (i := 2) scTE.nd rfl (.inl rfl) (pe_bm PySem.F.plainAttrs_str PySem.F.slot_str_find PySem.F.type_str_find mt_find3 (pv 0) (pa_cons pe_str (pa_cons (pe_op op_add (pv 1) pe_int) pa_nil))))
 (pss_cons (ps_if (PW.pt (pw_or (pt_cmpR op_lt (pv 2) pe_int (nomark _)) (pw_or (pt_cmpR op_gt (pe_op op_sub (pe_op op_sub (pv 2) (pv 1)) pe_int) (pe_glob (v := .int 40) rfl gLT ⟨_, rfl⟩) (nomark _)) (pw_or1 (pt_cmpR op_in_sign pe_str (pe_slice sl_str (pv 0) (po_some (pv 1)) (po_some (pv 2))) (by rfl))))))
 (pss_one (ps_raise rfl (takes_of rfl rfl rfl rfl) (pmk_oex T.err.T T.err.iC T.err.tI GI hr2 bI .nil pass0 (by rfl) T.err.g (pa_cons (pv 1) pa_nil))))
 pss_nil)
 (pss_one (ps_ret (pe_op op_add (pv 2) pe_int))))), ?_⟩
    have up : ∀ σ : L2.St, σ[1]? = some (some (.int (n : Int))) → textLen (l.drop (n + 1)) = none → tMkO C (spI C 1 (look1 "at")) [] (tCons (tVar 1) tNil) σ H E := fun σ hσ hN => raise1 (Evl.ea_cons (Evl.ev_var hσ) Evl.ea_nil) fun d H' sm nd hd => qN hN d H' sm nd hd
    have en : (n : Int) + 1 = ((n + 1 : Nat) : Int) := rfl
    refine ⟨_, rfl, rfl, _, rfl, _, _, rfl, rfl, S l, _, _, rfl, rfl, ?_⟩
    rw [one, en, find_one l 39 (n + 1) (by omega)]
    have lt : (upTo 39 (l.drop (n + 1))).length ≤ (l.drop (n + 1)).length := upTo_le _
    by_cases full : (upTo 39 (l.drop (n + 1))).length = (l.drop (n + 1)).length
    · rw [if_pos full]
      have hN : textLen (l.drop (n + 1)) = none := by
        unfold textLen
        rw [if_pos (.inl full)]
      refine ⟨_, rfl, _, _, rfl, rfl, _, rfl, iteT ?_⟩
      exact up _ rfl hN
    · rw [if_neg full]
      rw [List.length_drop] at lt full
      refine ⟨_, rfl, _, _, rfl, rfl, _, rfl, bool_if (fun h => ?_) (fun _ => ?_)⟩
      · have := of_decide_eq_true h
        omega
      refine ⟨_, rfl, _, rfl, _, _, rfl, rfl, _, _, rfl, rfl, _, _, rfl, rfl, _, rfl, bool_if (fun h => ?_) (fun h => ?_)⟩
      · have hN : textLen (l.drop (n + 1)) = none := by
          unfold textLen
          have := of_decide_eq_true h
          rw [if_pos (.inr (.inl (by omega)))]
        exact up _ rfl hN
      · have h40 : (upTo 39 (l.drop (n + 1))).length ≤ 40 := by
          have := of_decide_eq_false h
          omega
        refine ⟨_, rfl, _, rfl, _, rfl, _, rfl, _, rfl, S l, rfl, by rw [S_len]; exact small (by omega), ?_⟩
        have ec : cutS (S l) (some (n : Int)) (some ((n + 1 + (upTo 39 (l.drop (n + 1))).length : Nat) : Int)) = S (39 :: upTo 39 (l.drop (n + 1))) := by
          rw [cut_at l _ _ (by omega) (by omega)]
          congr 1
          have e1 : l.drop n = 39 :: l.drop (n + 1) := by
            rw [drop_cons hn]
            congr 1
            exact (List.getElem?_eq_some_iff.mp hq).2
          have e2 : n + 1 + (upTo 39 (l.drop (n + 1))).length - n = (upTo 39 (l.drop (n + 1))).length + 1 := by omega
          rw [e1, e2, List.take_succ_cons]
          congr 1
          unfold upTo
          exact (List.prefix_iff_eq_take.mp (List.takeWhile_prefix _)).symm
        rw [ec]
        refine ⟨10, _, by rw [lf], rfl, _, rfl, bool_if (fun h => ?_) (fun h => ?_)⟩
        · have hN : textLen (l.drop (n + 1)) = none := by
            unfold textLen
            have m : 10 ∈ 39 :: upTo 39 (l.drop (n + 1)) := of_decide_eq_true h
            rcases List.mem_cons.mp m with z | z
            · omega
            · rw [if_pos (.inr (.inr z))]
          exact up _ rfl hN
        · have m : ¬ 10 ∈ 39 :: upTo 39 (l.drop (n + 1)) := of_decide_eq_false h
          have hS : textLen (l.drop (n + 1)) = some ((upTo 39 (l.drop (n + 1))).length + 2) := by
            unfold textLen
            rw [if_neg]
            rintro (z | z | z)
            · rw [List.length_drop] at z
              exact full z
            · omega
            · exact m (List.mem_cons_of_mem _ z)
          refine ⟨_, rfl, _, _, rfl, rfl, ?_⟩
          have z := qS _ hS
          have e3 : ((n + 1 + (upTo 39 (l.drop (n + 1))).length : Nat) : Int) + 1 = ((n + ((upTo 39 (l.drop (n + 1))).length + 2) : Nat) : Int) := by omega
          show Q (.int (((n + 1 + (upTo 39 (l.drop (n + 1))).length : Nat) : Int) + 1)) H
          rw [e3]
          exact z
/-! ### _run_kind -/
theorem scRK : FnScope ["run", "at"] ["run", "at"] (defScope sRK) := ⟨rfl, rfl, rfl, by decide +kernel, rfl, by decide +kernel, by decide +kernel⟩
def spRK (C : Addr) : Sp := fun vs H Q E => ∃ (v : List Nat) (n : Nat), vs = [.str (S v), .int n] ∧ v ≠ [] ∧ v.length ≤ 5000 ∧
  (∀ k, runKind v = some k → ∀ H', Same H H' → Q (.str (S (kindL k))) H') ∧ (runKind v = none → Rz C H E (.int n))
theorem ok_RK {fd fdI fdN fdU : FuncData} (F : Fun K "_run_kind" "_run_kind" sRK fRK fd) (T : TK K mg C fI aS aW fIN fTK fLE fTO fTE fRE fRK fNU) (GI : FnOk P w K mg base CX0 1 fI fdI ["self", "at"] (spI C 1 (look1 "at"))) (bI : Binds K fdI ["self", "at"] [])
    (GN : FnOk P w K mg base CX0 1 fIN fdN ["value"] spIN) (bN : Binds K fdN ["value"] []) (GU : FnOk P w K mg base CX0 1 fNU fdU ["run"] spNU) (bU : Binds K fdU ["run"] []) :
    FnOk P w K mg base (L2.CX P w) 3 fRK fd ["run", "at"] (spRK C) := by
  refine F.okX scRK (fun vs H Q E h => ?_) (fun cdv A outer s H vs Q E hr2 h => ?_)
  · obtain ⟨l, n, rfl, _⟩ := h
    rfl
  · obtain ⟨v, n, rfl, hne, hl, qS, qN⟩ := h
    have hr1 := hr2.mono (show 1 ≤ 2 by decide)
    refine ⟨_,
(pss_cons (ps_if (pt_cmpR op_in_seq (pv 0) (pe_glob (v := .ref aW) rfl T.gWRD rfl) (by rfl))
 (pss_one (ps_ret pe_str))
 pss_nil)
 (pss_cons (ps_if (pt_val (pe_call GN hr1 (by rfl) T.gIN T.kIN bN .nil pass0 (pa_cons (pv 0) pa_nil)))
 (pss_one (ps_ret pe_str))
 pss_nil)
 (pss_cons (ps_if (pt_val (pe_call GU hr1 (by rfl) T.gNU T.kNU bU .nil pass0 (pa_cons (pv 0) pa_nil)))
 (pss_one (ps_ret pe_str))
 pss_nil)
 (pss_one (ps_raise rfl (takes_of rfl rfl rfl rfl) (pmk_oex T.err.T T.err.iC T.err.tI GI hr2 bI .nil pass0 (by rfl) T.err.g (pa_cons (pv 1) pa_nil))))))), ?_⟩
    refine ⟨_, rfl, aW, _, rfl, .inr (T.sWRD _), rfl, flat_words _, ?_⟩
    rw [show (if false = true then !inV (.str (S v)) (wordsL.map fun s => V.str (S s)) else inV (.str (S v)) (wordsL.map fun s => V.str (S s))) = decide (v ∈ wordsL) from inV_words v wordsL]
    refine ⟨_, rfl, bool_if (fun h => ?_) (fun h => ?_)⟩
    · have e : runKind v = some .word := by
        unfold runKind
        rw [if_pos (of_decide_eq_true h)]
      have z := qS _ e H (Same.refl H)
      rw [← kWord] at z
      exact z
    · have n1 := of_decide_eq_false h
      refine ⟨_, rfl, v, rfl, hl, fun H1 sm1 => ⟨_, rfl, bool_if (fun h2 => ?_) (fun h2 => ?_)⟩⟩
      · have e : runKind v = some .name := by
          unfold runKind
          rw [if_neg n1, if_pos h2]
        have z := qS _ e H1 sm1
        rw [← kName] at z
        exact z
      · refine ⟨_, rfl, v, rfl, hne, hl, fun H2 sm2 => ⟨_, rfl, bool_if (fun h3 => ?_) (fun h3 => ?_)⟩⟩
        · have e : runKind v = some .number := by
            unfold runKind
            rw [if_neg n1, if_neg (by rw [h2]; decide), if_pos h3]
          have z := qS _ e H2 (sm1.trans sm2)
          rw [← kNumber] at z
          exact z
        · have e : runKind v = none := by
            unfold runKind
            rw [if_neg n1, if_neg (by rw [h2]; decide), if_neg (by rw [h3]; decide)]
          have sm := sm1.trans sm2
          exact raise1 (Evl.ea_cons (Evl.ev_var rfl) Evl.ea_nil) fun d H' sm' nd hd => qN e d H' (sm.trans sm') (sm.free nd) hd
/-! ### _token -/
theorem scTO : FnScope ["text", "at", "end", "sign"] ["text", "at"] (defScope sTO) := ⟨rfl, rfl, rfl, by decide +kernel, rfl, by decide +kernel, by decide +kernel⟩
def spTO (C : Addr) : Sp := fun vs H Q E => ∃ (l : List Nat) (n : Nat), vs = [.str (S l), .int n] ∧ n < l.length ∧ l.length ≤ 5000 ∧
  (∀ k m, tokenAt (l.drop n) = some (k, m) → ∀ (H' : Hp) (p : Addr), Same H H' → H p = none → H' p = some (.tup [.str (S (kindL k)), .int ((n + m : Nat) : Int)]) → Q (.ref p) H') ∧ (tokenAt (l.drop n) = none → Rz C H E (.int n))
theorem tokenAt_cons (c : Nat) (r : List Nat) : tokenAt (c :: r) = if c = 39 then (textLen r).map fun n => (.text, n)
    else if isRun c = true then (runKind ((c :: r).takeWhile isRun)).map fun k => (k, ((c :: r).takeWhile isRun).length)
    else (signsL.find? fun s => s.isPrefixOf (c :: r)).map fun s => (.sign, s.length) := rfl
theorem is_quote (c : Nat) : decide (V.str ⟨#[c]⟩ = V.str (Str.ofString "'")) = decide (c = 39) := by
  have e : Str.ofString "'" = S [39] := by decide +kernel
  rw [e]
  refine Eq.trans (S_eq [c] [39]) ?_
  rw [Bool.eq_iff_iff]
  simp
theorem signs_len : ∀ s ∈ signsL, s.length ≤ 2 := by decide
theorem find_take {p : List Nat → Bool} : ∀ (l : List (List Nat)) (i : Nat) (s : List Nat), (∀ j t, j < i → l[j]? = some t → p t = false) → l[i]? = some s → p s = true → l.find? p = some s
  | [], i, s, _, h, _ => by simp at h
  | a :: l, 0, s, _, h, hp => by
    have e : a = s := Option.some.inj h
    subst e
    rw [List.find?_cons, hp]
  | a :: l, i + 1, s, hb, h, hp => by
    have ha : p a = false := hb 0 a (by omega) rfl
    rw [List.find?_cons, ha]
    exact find_take l i s (fun j t hj ht => hb (j + 1) t (by omega) (by simpa using ht)) (by simpa using h) hp
theorem find_none {p : List Nat → Bool} (l : List (List Nat)) (h : ∀ j t, j < l.length → l[j]? = some t → p t = false) : l.find? p = none := by
  rw [List.find?_eq_none]
  intro x hx
  obtain ⟨i, hi⟩ := List.mem_iff_getElem?.mp hx
  rw [h i x (List.getElem?_eq_some_iff.mp hi).1 hi]
  simp
theorem ok_TO {fd fdI fdE fdR fdK : FuncData} (F : Fun K "_token" "_token" sTO fTO fd) (T : TK K mg C fI aS aW fIN fTK fLE fTO fTE fRE fRK fNU) (GI : FnOk P w K mg base CX0 1 fI fdI ["self", "at"] (spI C 1 (look1 "at"))) (bI : Binds K fdI ["self", "at"] [])
    (GE : FnOk P w K mg base (L2.CX P w) 3 fTE fdE ["text", "at"] (spTE C)) (bE : Binds K fdE ["text", "at"] []) (GR : FnOk P w K mg base CX0 3 fRE fdR ["text", "at"] spRE) (bR : Binds K fdR ["text", "at"] [])
    (GK : FnOk P w K mg base (L2.CX P w) 3 fRK fdK ["run", "at"] (spRK C)) (bK : Binds K fdK ["run", "at"] []) :
    FnOk P w K mg base (L2.CX P w) 4 fTO fd ["text", "at"] (spTO C) := by
  refine F.okX scTO (fun vs H Q E h => ?_) (fun cdv A outer s H vs Q E hr3 h => ?_)
  · obtain ⟨l, n, rfl, _⟩ := h
    rfl
  · obtain ⟨l, n, rfl, hn, hl, qS, qN⟩ := h
    have hr2 := hr3.mono (show 2 ≤ 3 by decide)
    obtain ⟨t2, gRUN⟩ := T.RUN
    refine ⟨_,
(pss_cons (ps_if (pt_cmpR op_eq (pe_ix ix_str (pv 0) (pv 1) (fun _ _ => rfl)) pe_str (nomark _))
 (pss_one (ps_ret (pe_tup (pa_cons pe_str (pa_cons (pe_call GE hr3 (by rfl) T.gTE T.kTE bE .nil (passes_call (takes_of rfl rfl rfl rfl) (fun _ _ _ _ h => h)) (pa_cons (pv 0) (pa_cons (pv 1) pa_nil))) pa_nil)))))
 pss_nil)
 (pss_cons (ps_if (pt_cmpR op_in_sign (pe_ix ix_str (pv 0) (pv 1) (fun _ _ => rfl)) (pe_glob (v := .str (S runL)) rfl gRUN ⟨_, rfl⟩) (by rfl))
 (pss_cons (ps_set (i := 2) scTO.nd rfl (.inl rfl) (pe_call GR hr3 (by rfl) T.gRE T.kRE bR .nil pass0 (pa_cons (pv 0) (pa_cons (pv 1) pa_nil))))
 (pss_one (ps_ret (pe_tup (pa_cons (pe_call GK hr3 (by rfl) T.gRK T.kRK bK .nil (passes_call (takes_of rfl rfl rfl rfl) (fun _ _ _ _ h => h)) (pa_cons (pe_slice sl_str (pv 0) (po_some (pv 1)) (po_some (pv 2))) (pa_cons (pv 1) pa_nil))) (pa_cons (pv 2) pa_nil))))))
 pss_nil)
 (pss_cons (ps_for (passes_of rfl) rfl (pi_tup (pe_glob (v := .ref aS) rfl T.gSIG rfl)) (pg_name (i := 3) scTO.nd rfl (.inl rfl))
 (pss_one (ps_if (pt_val (pe_bm PySem.F.plainAttrs_str PySem.F.slot_str_startswith PySem.F.type_str_startswith mt_startswith3 (pv 0) (pa_cons (pv 3) (pa_cons (pv 1) pa_nil))))
 (pss_one (ps_ret (pe_tup (pa_cons pe_str (pa_cons (pe_op op_add (pv 1) (pe_callB call_len_str (by rfl) T.len (by decide +kernel) (pa_cons (pv 3) pa_nil))) pa_nil)))))
 pss_nil)))
 (pss_one (ps_raise rfl (takes_of rfl rfl rfl rfl) (pmk_oex T.err.T T.err.iC T.err.tI GI hr2 bI .nil pass0 (by rfl) T.err.g (pa_cons (pv 1) pa_nil))))))), ?_⟩
    have d := drop_cons hn
    rw [d] at qS qN
    refine ⟨_, rfl, _, rfl, S l, _, l[n], rfl, rfl, by rw [S_len]; exact small (by omega), atI_nat (List.getElem?_eq_getElem hn), rfl, _, rfl, ?_⟩
    rw [is_quote]
    refine bool_if (fun h => ?_) (fun h => ?_)
    · -- a text
      have hc := of_decide_eq_true h
      have e : tokenAt (l[n] :: l.drop (n + 1)) = (textLen (l.drop (n + 1))).map fun m => (.text, m) := by
        rw [tokenAt_cons, if_pos hc]
      refine ⟨_, rfl, _, rfl, l, n, rfl, by rw [List.getElem?_eq_getElem hn, hc], hl, fun m hm => ⟨(by show 2 ≤ sizeLine; decide), fun p hp => ?_⟩, fun hN => ?_⟩
      · refine qS .text m (by rw [e, hm]; rfl) _ p (same_new hp) hp ?_
        rw [← kText]
        exact upd_same
      · exact qN (by rw [e, hN]; rfl)
    · have hc := of_decide_eq_false h
      refine ⟨_, rfl, _, rfl, S l, _, l[n], rfl, rfl, by rw [S_len]; exact small (by omega), atI_nat (List.getElem?_eq_getElem hn), l[n], S runL, rfl, rfl, _, rfl, bool_if (fun h1 => ?_) (fun h1 => ?_)⟩
      · -- a run
        have hr : isRun l[n] = true := h1
        have e : tokenAt (l[n] :: l.drop (n + 1)) = (runKind ((l[n] :: l.drop (n + 1)).takeWhile isRun)).map fun k => (k, ((l[n] :: l.drop (n + 1)).takeWhile isRun).length) := by
          rw [tokenAt_cons, if_neg hc, if_pos hr]
        refine ⟨_, rfl, _, rfl, l, n, rfl, by omega, hl, ?_⟩
        have le : runs (l.drop n) ≤ l.length - n := by
          have z := (List.takeWhile_sublist (p := isRun) (l := l.drop n)).length_le
          rw [List.length_drop] at z
          exact z
        refine ⟨_, rfl, _, rfl, _, rfl, _, rfl, _, rfl, S l, rfl, by rw [S_len]; exact small (by omega), _, rfl, ?_⟩
        have ec : cutS (S l) (some (n : Int)) (some ((n + runs (l.drop n) : Nat) : Int)) = S ((l[n] :: l.drop (n + 1)).takeWhile isRun) := by
          rw [cut_at l _ _ (by omega) (by omega), ← d]
          congr 1
          rw [show n + runs (l.drop n) - n = runs (l.drop n) by omega]
          exact (List.prefix_iff_eq_take.mp (List.takeWhile_prefix _)).symm
        rw [ec]
        have er : runs (l.drop n) = ((l[n] :: l.drop (n + 1)).takeWhile isRun).length := by rw [← d]; rfl
        refine ⟨_, n, rfl, ?_, ?_, fun k hk H1 sm => ⟨_, rfl, (by show 2 ≤ sizeLine; decide), fun p hp => ?_⟩, fun hN => qN (by rw [e, hN]; rfl)⟩
        · intro z
          rw [z] at er
          have := runs_more d hr
          simp at er
          omega
        · have z := (List.takeWhile_sublist (p := isRun) (l := l[n] :: l.drop (n + 1))).length_le
          rw [← d, List.length_drop] at z
          rw [← d]
          omega
        · refine qS k _ (by rw [e, hk]; rfl) _ p (sm.trans (same_new hp)) (sm.free hp) ?_
          rw [← er]
          exact upd_same
      · -- a sign
        have hr : isRun l[n] = false := h1
        have e : tokenAt (l[n] :: l.drop (n + 1)) = (signsL.find? fun s => s.isPrefixOf (l[n] :: l.drop (n + 1))).map fun s => (.sign, s.length) := by
          rw [tokenAt_cons, if_neg hc, if_neg (by rw [hr]; decide)]
        refine ⟨aS, rfl, ⟨_, T.sSIG _⟩, for_it (walk_tup (K := K) (xs := signsL.map fun s => .str (S s))) (fun i σ H' => ∃ y, σ = [some (.str (S l)), some (.int n), none, y] ∧ H' = H ∧ ∀ j t, j < i → signsL[j]? = some t → t.isPrefixOf (l[n] :: l.drop (n + 1)) = false) ⟨_, rfl, rfl, fun j t hj => absurd hj (by omega)⟩ (fun _ _ _ _ _ => T.sSIG _) ?_ ?_⟩
        · rintro i x σ H1 H2 hi ⟨y, rfl, rfl, before⟩ ⟨rfl, hx⟩
          have hi' : i < signsL.length := by simpa using hi
          obtain ⟨sg, hsg, rfl⟩ : ∃ sg, signsL[i]? = some sg ∧ x = .str (S sg) := by
            rw [List.getElem?_map] at hx
            refine ⟨signsL[i], List.getElem?_eq_getElem hi', ?_⟩
            rw [List.getElem?_eq_getElem hi'] at hx
            exact (Option.some.inj hx).symm
          refine ⟨_, rfl, rfl, _, rfl, _, rfl, S l, _, _, rfl, rfl, ?_⟩
          rw [starts_at l sg n (by omega), d]
          refine ⟨_, rfl, bool_if (fun h2 => ?_) (fun h2 => ?_)⟩
          · have f := find_take signsL i sg before hsg h2
            refine ⟨_, rfl, _, rfl, S sg, rfl, by rw [S_len]; exact small (Nat.le_trans (signs_len sg (List.mem_of_getElem? hsg)) (by decide)), _, _, rfl, rfl, (by show 2 ≤ sizeLine; decide), fun p hp => ?_⟩
            refine qS .sign sg.length (by rw [e, f]; rfl) _ p (same_new hp) hp ?_
            rw [← kSign, S_len]
            exact upd_same
          · refine ⟨_, rfl, rfl, fun j t hj ht => ?_⟩
            by_cases q : j < i
            · exact before j t q ht
            · have e2 : j = i := by omega
              subst e2
              rw [hsg] at ht
              cases ht
              exact h2
        · rintro σ H1 ⟨y, rfl, rfl, before⟩
          have f : (signsL.find? fun s => s.isPrefixOf (l[n] :: l.drop (n + 1))) = none := find_none _ fun j t hj ht => before j t (by simpa using hj) ht
          exact raise1 (Evl.ea_cons (Evl.ev_var rfl) Evl.ea_nil) fun dd H' sm nd hd => qN (by rw [e, f]; rfl) dd H' sm nd hd
/-! ### tokens -/
theorem scTK : FnScope ["text", "found", "at", "kind", "end"] ["text"] (defScope sTK) := ⟨rfl, rfl, rfl, by decide +kernel, rfl, by decide +kernel, by decide +kernel⟩
/-- the token t as a tuple at q -/
def TkAt (H : Hp) (q : Addr) (t : Tk) : Prop := H q = some (.tup [.str (S (kindL t.kind)), .str (S t.text), .int (t.start : Int)])
def spTK (K : PySem.W.Frag) (C : Addr) : Sp := fun vs H Q E => ∃ x, vs = [x] ∧
  ((∃ l : List Nat, x = .str (S l) ∧ l.length ≤ 5000 ∧ (∀ ts, sc l 0 = .ok ts → ∀ (H' : Hp) (p : Addr) (qs : List Addr), Same H H' → H p = none → H' p = some (.lst (qs.map V.ref)) → Paired (TkAt H') qs ts → Q (.ref p) H') ∧
      (∀ e, sc l 0 = .error e → Rz C H E (.int (e : Int)))) ∨
   (∃ l : List Nat, x = .str (S l) ∧ 5000 < l.length ∧ l.length ≤ sizeLine ∧ Rz C H E .non) ∨
   (∃ t, TyX K H x t ∧ PySem.W.kitOne K t (.type "str") = some false ∧ Rz C H E .non))
theorem paired_snoc {α β : Type} {R : α → β → Prop} {as : List α} {bs : List β} {a : α} {b : β} (h : Paired R as bs) (r : R a b) : Paired R (as ++ [a]) (bs ++ [b]) := by
  induction h with
  | nil => exact .cons r .nil
  | cons h _ ih => exact .cons h ih
theorem paired_imp {α β : Type} {R T : α → β → Prop} {as : List α} {bs : List β} (h : Paired R as bs) (f : ∀ a b, R a b → T a b) : Paired T as bs := by
  induction h with
  | nil => exact .nil
  | cons h _ ih => exact .cons (f _ _ h) ih
theorem tokenAt_le {l : List Nat} {k : Kind} {m : Nat} (h : tokenAt l = some (k, m)) : m ≤ l.length := by
  cases l with
  | nil => cases h
  | cons c r =>
    rw [tokenAt_cons] at h
    split at h
    · unfold textLen at h
      split at h
      · cases h
      · rename_i hn
        have z := upTo_le (c := 39) r
        have z2 : (upTo 39 r).length ≠ r.length := fun e => hn (.inl e)
        simp at h
        rw [List.length_cons]
        omega
    · split at h
      · simp only [Option.map_eq_some_iff] at h
        obtain ⟨_, _, e⟩ := h
        cases e
        exact (List.takeWhile_sublist _).length_le
      · simp only [Option.map_eq_some_iff] at h
        obtain ⟨s, hs, e⟩ := h
        cases e
        have z := List.find?_some hs
        exact (List.isPrefixOf_iff_prefix.mp z).length_le
theorem blank_in (c : Nat) : decide (c ∈ (S [32, 10]).cps.toList) = isBlank c := rfl
theorem is_hash (c : Nat) : decide (V.str ⟨#[c]⟩ = V.str (Str.ofString "#")) = decide (c = 35) := by
  have e : Str.ofString "#" = S [35] := by decide +kernel
  rw [e]
  refine Eq.trans (S_eq [c] [35]) ?_
  rw [Bool.eq_iff_iff]
  simp
theorem ok_TK {fd fdI fdL fdT : FuncData} (F : Fun K "tokens" "tokens" sTK fTK fd) (T : TK K mg C fI aS aW fIN fTK fLE fTO fTE fRE fRK fNU) (GI : FnOk P w K mg base CX0 1 fI fdI ["self", "at"] (spI C 1 (look1 "at"))) (bI : Binds K fdI ["self", "at"] [])
    (GL : FnOk P w K mg base CX0 4 fLE fdL ["text", "at"] spLE) (bL : Binds K fdL ["text", "at"] []) (GT : FnOk P w K mg base (L2.CX P w) 4 fTO fdT ["text", "at"] (spTO C)) (bT : Binds K fdT ["text", "at"] []) :
    FnOk P w K mg base (L2.CX P w) 5 fTK fd ["text"] (spTK K C) := by
  refine F.okX scTK (fun vs H Q E h => ?_) (fun cdv A outer s H vs Q E hr4 h => ?_)
  · obtain ⟨x, rfl, _⟩ := h
    rfl
  · obtain ⟨x, rfl, h⟩ := h
    have hr2 := hr4.mono (show 2 ≤ 4 by decide)
    obtain ⟨t2, gBLA⟩ := T.BLA
    obtain ⟨t3, gLP⟩ := T.LP
    refine ⟨_,
(pss_cons (ps_if (PW.pt (pw_or (pt_not (pt_val (pe_callB call_isi (by rfl) T.isinstance (by decide +kernel) (pa_cons (pv 0) (pa_cons (pe_bltn (v := .ty "str") (by rfl) T.str (by decide +kernel) rfl) pa_nil))))) (pw_or1 (pt_cmpR op_gt (pe_callB call_len_str (by rfl) T.len (by decide +kernel) (pa_cons (pv 0) pa_nil)) (pe_glob (v := .int 5000) rfl gLP ⟨_, rfl⟩) (nomark _)))))
 (pss_one (ps_raise rfl (takes_of rfl rfl rfl rfl) (pmk_oex T.err.T T.err.iC T.err.tI GI hr2 bI .nil pass0 (by rfl) T.err.g (pa_cons pe_non pa_nil))))
 pss_nil)
 (pss_cons (ps_set (i := 1) scTK.nd rfl (.inl rfl) (pe_lst pa_nil))
 (pss_cons (ps_set (i := 2) scTK.nd rfl (.inl rfl) pe_int)
 (pss_cons (ps_while (passes_of rfl) (pt_cmpR op_lt (pv 2) (pe_callB call_len_str (by rfl) T.len (by decide +kernel) (pa_cons (pv 0) pa_nil)) (nomark _))
 (pss_one (ps_if (pt_cmpR op_in_sign (pe_ix ix_str (pv 0) (pv 2) (fun _ _ => rfl)) (pe_glob (v := .str (S [32, 10])) rfl gBLA ⟨_, rfl⟩) (by rfl))
 (pss_one (ps_aug (i := 2) scTK.nd rfl (.inl rfl) pe_int ip_add))
 (pss_one (ps_if (pt_cmpR op_eq (pe_ix ix_str (pv 0) (pv 2) (fun _ _ => rfl)) pe_str (nomark _))
 (pss_one (ps_set (i := 2) scTK.nd rfl (.inl rfl) (pe_call GL hr4 (by rfl) T.gLE T.kLE bL .nil pass0 (pa_cons (pv 0) (pa_cons (pv 2) pa_nil)))))
 (pss_cons (ps_asg (pe_call GT hr4 (by rfl) T.gTO T.kTO bT .nil (passes_call (takes_of rfl rfl rfl rfl) (fun _ _ _ _ h => h)) (pa_cons (pv 0) (pa_cons (pv 2) pa_nil))) (pg_tup rfl (pgs_cons (pg_name (i := 3) scTK.nd rfl (.inl rfl)) (pgs_cons (pg_name (i := 4) scTK.nd rfl (.inl rfl)) pgs_nil))))
 (pss_cons (ps_expr (pe_bm PySem.F.plainAttrs_list PySem.F.slot_list_append PySem.F.type_list_append mt_append (pv 1) (pa_cons (pe_tup (pa_cons (pv 3) (pa_cons (pe_slice sl_str (pv 0) (po_some (pv 2)) (po_some (pv 4))) (pa_cons (pv 2) pa_nil)))) pa_nil)))
 (pss_one (ps_set (i := 2) scTK.nd rfl (.inl rfl) (pv 4))))))))))
 (pss_one (ps_ret (pv 1))))))), ?_⟩
    rcases h with ⟨l, rfl, hl, qS, qN⟩ | ⟨l, rfl, hl, hz, qN⟩ | ⟨t, ty, kt, qN⟩
    · refine ⟨_, rfl, .str (S l), .ty "str", _, _, true, rfl, .ty _, .base (.str _), str_type, true, rfl, iteF ?_⟩
      refine ⟨_, rfl, S l, rfl, by rw [S_len]; exact small (by omega), _, _, rfl, rfl, _, rfl, ?_⟩
      rw [S_len]
      refine bool_if (fun h => ?_) (fun _ => ?_)
      · have := of_decide_eq_true h
        omega
      refine ⟨Nat.zero_le _, fun p hp => ?_⟩
      have s1 := same_new (o := .lst []) hp
      -- the loop
      refine ⟨fun m σ H' => ∃ (n : Nat) (ts : List Tk) (qs : List Addr) (y3 y4 : Option L2.V), σ = [some (.str (S l)), some (.ref p), some (.int n), y3, y4] ∧ n ≤ l.length ∧ m = l.length - n ∧ sc l 0 = (sc (l.drop n) n).pre ts ∧
          Same H H' ∧ H' p = some (.lst (qs.map V.ref)) ∧ Paired (TkAt H') qs ts ∧ qs.length ≤ n, ⟨_, 0, [], [], _, _, rfl, Nat.zero_le _, rfl, (pre_nil _).symm, s1, upd_same, .nil, Nat.le_refl _⟩, ?_⟩
      rintro m σ H' ⟨n, ts, qs, y3, y4, rfl, hn, rfl, e, sm, hp', pq, many⟩
      refine ⟨_, rfl, _, rfl, S l, rfl, by rw [S_len]; exact small (by omega), _, _, rfl, rfl, _, rfl, ?_⟩
      rw [S_len]
      refine bool_if (fun h => ?_) (fun h => ?_)
      · have hlt : n < l.length := by
          have := of_decide_eq_true h
          omega
        have d := drop_cons hlt
        refine ⟨fun σ H'' => ∃ (n' : Nat) (ts : List Tk) (qs : List Addr) (y3 y4 : Option L2.V), σ = [some (.str (S l)), some (.ref p), some (.int n'), y3, y4] ∧ n' ≤ l.length ∧ n < n' ∧ sc l 0 = (sc (l.drop n') n').pre ts ∧
          Same H H'' ∧ H'' p = some (.lst (qs.map V.ref)) ∧ Paired (TkAt H'') qs ts ∧ qs.length ≤ n', fun σ H'' ⟨n', ts, qs, y3, y4, z1, z2, z3, z4, z5, z6, z7, z8⟩ => ⟨l.length - n', by omega, n', ts, qs, y3, y4, z1, z2, rfl, z4, z5, z6, z7, z8⟩, ?_⟩
        refine ⟨_, rfl, _, rfl, S l, _, l[n], rfl, rfl, by rw [S_len]; exact small (by omega), atI_nat (List.getElem?_eq_getElem hlt), l[n], S [32, 10], rfl, rfl, _, rfl, ?_⟩
        rw [blank_in]
        refine bool_if (fun h1 => ?_) (fun h1 => ?_)
        · refine ⟨_, rfl, _, _, rfl, rfl, n + 1, ts, qs, _, _, rfl, by omega, by omega, ?_, sm, hp', pq, by omega⟩
          rw [e, d, sc_blank _ _ h1]
        · refine ⟨_, rfl, _, rfl, S l, _, l[n], rfl, rfl, by rw [S_len]; exact small (by omega), atI_nat (List.getElem?_eq_getElem hlt), rfl, _, rfl, ?_⟩
          rw [is_hash]
          refine bool_if (fun h2 => ?_) (fun h2 => ?_)
          · have hc := of_decide_eq_true h2
            refine ⟨_, rfl, _, rfl, l, n, rfl, hn, hl, ?_⟩
            have le := upTo_le (c := 10) (l.drop n)
            rw [List.length_drop] at le
            have pos : 0 < (upTo 10 (l.drop n)).length := by
              rw [d]
              exact upTo_pos (by omega)
            refine ⟨n + (upTo 10 (l.drop n)).length, ts, qs, _, _, rfl, by omega, by omega, ?_, sm, hp', pq, by omega⟩
            rw [e, d, hc, sc_hash, ← hc, ← d, List.drop_drop]
          · have hc := of_decide_eq_false h2
            have eq := sc_tok (l.drop (n + 1)) n h1 hc
            rw [← d] at eq
            refine ⟨_, rfl, _, rfl, l, n, rfl, hlt, hl, fun k m hk H1 T' smT nT hT => ?_, fun hN => fun dd H1 sm1 nd hd => qN n (by rw [e, eq, hN]; rfl) dd H1 (sm.trans sm1) (sm.free nd) hd⟩
            rw [hk] at eq
            have pos := tokenAt_pos hk
            have le := tokenAt_le hk
            rw [List.length_drop] at le
            refine ⟨T', _, rfl, .inl (.inl hT), rfl, _, _, rfl, _, _, rfl, rfl, ?_⟩
            have hp1 := smT _ _ hp'
            refine ⟨_, rfl, .inl ⟨rfl, _, .inl (.inl hp1)⟩, _, rfl, _, rfl, _, rfl, _, rfl, _, rfl, _, rfl, S l, rfl, by rw [S_len]; exact small (by omega), _, rfl, (by show 3 ≤ sizeLine; decide), fun q hq => ?_⟩
            have sq := same_new (o := .tup [.str (S (kindL k)), .str (cutS (S l) (some (n : Int)) (some ((n + m : Nat) : Int))), .int (n : Int)]) hq
            refine ⟨p, _, _, rfl, rfl, sq _ _ hp1, ?_, ?_⟩
            · rw [List.length_map]
              exact Nat.lt_of_le_of_lt many (Nat.lt_of_le_of_lt (Nat.le_trans hn hl) (by decide))
            have npq : p ≠ q := ne_of_none hp1 hq
            have cut : cutS (S l) (some (n : Int)) (some ((n + m : Nat) : Int)) = S ((l.drop n).take m) := by
              rw [cut_at l _ _ (by omega) (by omega), show n + m - n = m by omega]
            have old : ∀ b o, b ≠ p → H' b = some o → (upd (upd H1 q (.tup [.str (S (kindL k)), .str (cutS (S l) (some (n : Int)) (some ((n + m : Nat) : Int))), .int (n : Int)])) p (.lst (qs.map V.ref ++ [.ref q]))) b = some o := fun b o nb z => by
              rw [upd_ne nb]
              exact sq _ _ (smT _ _ z)
            refine ⟨_, rfl, n + m, ts ++ [⟨k, (l.drop n).take m, n⟩], qs ++ [q], _, _, rfl, by omega, by omega, ?_, fun b o z => old b o (ne_of_none z hp) (sm _ _ z), ?_, ?_, ?_⟩
            · rw [e, eq, ← pre_add]
              show Res.pre ts (Res.add _ _) = Res.pre ts (Res.add _ _)
              rw [List.drop_drop]
            · rw [upd_same, List.map_append]
              rfl
            · refine paired_snoc (paired_imp pq fun a t z => old a _ (fun y => ?_) z) ?_
              · have z' : H' a = _ := z
                rw [y, hp'] at z'
                cases z'
              · show (upd _ p _) q = _
                rw [upd_ne (Ne.symm npq), upd_same, cut]
            · rw [List.length_append]
              show qs.length + 1 ≤ n + m
              omega
      · have hge : ¬ n < l.length := by
          have := of_decide_eq_false h
          omega
        have e1 : l.drop n = [] := List.drop_eq_nil_of_le (by omega)
        rw [e1, sc_nil] at e
        refine ⟨_, rfl, ?_⟩
        exact qS ts (by rw [e]; simp [Res.pre]) H' p qs sm hp hp' pq
    · refine ⟨_, rfl, .str (S l), .ty "str", _, _, true, rfl, .ty _, .base (.str _), str_type, true, rfl, iteF ?_⟩
      refine ⟨_, rfl, S l, rfl, by rw [S_len]; exact hz, _, _, rfl, rfl, _, rfl, ?_⟩
      rw [S_len]
      refine bool_if (fun _ => ?_) (fun h => ?_)
      · exact raise1 (Evl.ea_cons Evl.ev_c Evl.ea_nil) fun dd H' sm nd hd => qN dd H' sm nd hd
      · have := of_decide_eq_false h
        omega
    · refine ⟨_, rfl, x, .ty "str", _, _, false, rfl, .ty _, ty, kt, false, rfl, iteT ?_⟩
      exact raise1 (Evl.ea_cons Evl.ev_c Evl.ea_nil) fun dd H' sm nd hd => qN dd H' sm nd hd
end
end KB
namespace KB
open PySem PySem.Spec PyProof.Rows L2
abbrev sPool : Stmt := topS 23
abbrev sTake : Stmt := topS 24
/-! ### the draws -/
/-- what is known of a pool's two numbers -/
structure PoolOk (a b : Int) : Prop where
  a0 : 0 ≤ a
  ab : Builtin.Int.intBits a ≤ 1048576
  b0 : 0 ≤ b
  bb : b < 2147483647
def PoolAt (H : Hp) (p : Addr) : Prop := ∃ a b, PoolOk a b ∧ H p = some (.lst [.int a, .int b])
section
variable {X : Cx}
/-- * of ints of any size that a model carries -/
theorem op_mulB : OpR X (binaryOp .Mult) (rI (fun i j => Builtin.Int.intBits i + Builtin.Int.intBits j ≤ 100000000) fun i j => .int (i * j)) := opI fun i j _ _ _ _ _ hc q => mul_int q (by
  unfold IntMulOk
  intro z
  rw [Bool.and_eq_true] at z
  have z2 := z.2
  unfold Builtin.Int.intTooBig at z2
  have z3 := of_decide_eq_true z2
  rw [show bitsLine = 134217728 by decide] at z3
  omega)
end
theorem bits_le {i : Int} {n : Nat} (hn : 0 < n) (h : i.natAbs < 2 ^ n) : Builtin.Int.intBits i ≤ n := by
  unfold Builtin.Int.intBits
  split
  · omega
  · have := PySem.Flt.log2_lt_of hn h
    omega
theorem bits_mono {i j : Int} (h0 : 0 ≤ i) (h : i ≤ j) : Builtin.Int.intBits i ≤ Builtin.Int.intBits j := by
  unfold Builtin.Int.intBits
  by_cases hi : i = 0
  · rw [if_pos (by rw [hi]; rfl)]
    exact Nat.zero_le _
  · have hj : j ≠ 0 := by omega
    rw [if_neg (by simpa using hi), if_neg (by simpa using hj)]
    have h1 : i.natAbs ≤ j.natAbs := by omega
    have h2 : j.natAbs.log2 < j.natAbs.log2 + 1 := Nat.lt_succ_self _
    have h3 : j.natAbs < 2 ^ (j.natAbs.log2 + 1) := (Nat.log2_lt (by omega)).mp h2
    have h4 : i.natAbs.log2 < j.natAbs.log2 + 1 := (Nat.log2_lt (by omega)).mpr (Nat.lt_of_le_of_lt h1 h3)
    omega
section
variable {P : Program} {w : World} {K : PySem.W.Frag} {mg : Str → Option Value} {base : Heap}
theorem scTake : FnScope ["_law_pool_here", "_law_many", "_law_found"] ["_law_pool_here", "_law_many"] (defScope sTake) := ⟨rfl, rfl, rfl, by decide +kernel, rfl, by decide +kernel, by decide +kernel⟩
theorem scPool : FnScope ["_law_script", "_law_k", "_law_cell", "_law_size", "_law_seed"] ["_law_script", "_law_k"] (defScope sPool) := ⟨rfl, rfl, rfl, by decide +kernel, rfl, by decide +kernel, by decide +kernel⟩
/-- _law_take(pool, n): a number below n; the pool goes on -/
def spTake : Sp := fun vs H Q _ => ∃ (p : Addr) (a b n : Int), vs = [.ref p, .int n] ∧ H p = some (.lst [.int a, .int b]) ∧ PoolOk a b ∧ 0 < n ∧ n < 1000 ∧
  ∀ (r a' b' : Int), 0 ≤ r → r < n → PoolOk a' b' → Q (.int r) (upd H p (.lst [.int a', .int b']))
theorem ok_take {f : Addr} {fd : FuncData} {k : Nat} (F : Fun K "_law_take" "_law_take" sTake f fd) : FnOk P w K mg base CX0 (k + 1) f fd ["_law_pool_here", "_law_many"] spTake := by
  refine F.ok scTake (fun vs H Q E h => ?_) (fun cdv A outer s H vs Q E hr h => ?_)
  · obtain ⟨p, a, b, n, rfl, _⟩ := h
    rfl
  · obtain ⟨p, a, b, n, rfl, hp, ok, n0, n1, q⟩ := h
    refine ⟨_, pss_cons (ps_if (pt_cmpR op_gt (pe_ix ix_list (pv 0) pe_int (fun _ _ => rfl)) pe_int (nomark _))
        (pss_cons (ps_set (i := 2) scTake.nd rfl (.inl rfl) (pe_op op_mod (pe_ix ix_list (pv 0) pe_int (fun _ _ => rfl)) (pv 1)))
        (pss_cons (ps_asg (pe_op op_fdivW (pe_ix ix_list (pv 0) pe_int (fun _ _ => rfl)) (pv 1)) (pg_sub (pv 0) pe_int set_list))
        (pss_one (ps_ret (pv 2))))) pss_nil)
      (pss_cons (ps_asg (pe_op op_mod (pe_op op_add (pe_op op_mul (pe_ix ix_list (pv 0) pe_int (fun _ _ => rfl)) pe_int) pe_int) pe_int) (pg_sub (pv 0) pe_int set_list))
      (pss_one (ps_ret (pe_op op_mod (pe_op op_fdiv (pe_op op_mod (pe_op op_mul (pe_ix ix_list (pv 0) pe_int (fun _ _ => rfl)) (pe_ix ix_list (pv 0) pe_int (fun _ _ => rfl))) pe_int) pe_int) (pv 1))))), ?_⟩
    have hl : SqL K H p [.int a, .int b] := .inl (.inl hp)
    refine ⟨_, rfl, p, _, _, _, rfl, rfl, hl, atI_nat (j := 0) rfl, _, _, rfl, rfl, _, rfl, ite2 (fun e => ?_) (fun e => ?_)⟩
    · have ha : 0 < a := of_decide_eq_true e
      refine ⟨_, rfl, p, _, _, _, rfl, rfl, hl, atI_nat (j := 0) rfl, _, rfl, _, _, rfl, rfl, n0, ?_⟩
      refine ⟨_, rfl, p, _, _, _, rfl, rfl, hl, atI_nat (j := 0) rfl, _, rfl, _, _, rfl, rfl, wide_div (b := 10) n0 (by omega) (by decide) (by decide), ?_⟩
      refine ⟨_, rfl, p, _, _, _, rfl, rfl, hp, rfl, ?_⟩
      refine ⟨_, rfl, ?_⟩
      have h1 : a / n ≤ a := Int.ediv_le_self n ok.a0
      have h2 : 0 ≤ a / n := Int.ediv_nonneg ok.a0 (by omega)
      exact q _ _ _ (Int.emod_nonneg _ (by omega)) (Int.emod_lt_of_pos _ n0) ⟨h2, Nat.le_trans (bits_mono h2 h1) ok.ab, ok.b0, ok.bb⟩
    · refine ⟨_, rfl, p, _, _, _, rfl, rfl, hl, atI_nat (j := 1) rfl, _, _, rfl, rfl, .inl ⟨?_, ?_⟩, _, _, rfl, rfl, _, _, rfl, rfl, (by show (0 : Int) < 2147483647; decide), ?_⟩
      · have := ok.b0; omega
      · have := ok.bb; omega
      refine ⟨_, rfl, p, _, _, _, rfl, rfl, hp, rfl, ?_⟩
      have hb0 := Int.emod_nonneg (b * 48271 + 11) (show (2147483647 : Int) ≠ 0 by decide)
      have hb1 := Int.emod_lt_of_pos (b * 48271 + 11) (show (0 : Int) < 2147483647 by decide)
      generalize hB : (b * 48271 + 11) % 2147483647 = B at hb0 hb1
      have hl2 : SqL K (upd H p (.lst [.int a, .int B])) p [.int a, .int B] := .inl (.inl upd_same)
      refine ⟨_, rfl, p, _, _, _, rfl, rfl, (by rw [← hB] at hl2; exact hl2), atI_nat (j := 1) rfl, _, rfl, p, _, _, _, rfl, rfl, (by rw [← hB] at hl2; exact hl2), atI_nat (j := 1) rfl, _, _, rfl, rfl, .inl ⟨?_, ?_⟩, _, _, rfl, rfl, (by show (0 : Int) < 2147483629; decide), _, _, rfl, rfl, ⟨by decide, by decide⟩, _, rfl, _, _, rfl, rfl, n0, ?_⟩
      · rw [hB]; omega
      · rw [hB]; omega
      · rw [hB]
        exact q _ _ _ (Int.emod_nonneg _ (by omega)) (Int.emod_lt_of_pos _ n0) ⟨ok.a0, ok.ab, by rw [hB]; exact hb0, by rw [hB]; exact hb1⟩
/-- _law_pool(script, k): a pool -/
def spPool (K : PySem.W.Frag) : Sp := fun vs H Q _ => ∃ (a : Addr) (ns : List Int) (k : Int), vs = [.ref a, .int k] ∧ SqL K H a (ns.map V.int) ∧ ns.length ≤ 63 ∧ (∀ z ∈ ns, Builtin.Int.intBits z ≤ 1048576) ∧ 0 ≤ k ∧ k < 100 ∧
  ∀ (p : Addr) (a' b' : Int), H p = none → PoolOk a' b' → Q (.ref p) (upd H p (.lst [.int a', .int b']))
theorem poolA {c : Int} (hc : Builtin.Int.intBits c ≤ 1048576) (t : Bool) : 0 ≤ (if c < 0 then -c else c) * (if t then 1 else 0) ∧ Builtin.Int.intBits ((if c < 0 then -c else c) * (if t then 1 else 0)) ≤ 1048576 := by
  have h0 : 0 ≤ (if c < 0 then -c else c) := by split <;> omega
  have h1 : Builtin.Int.intBits (if c < 0 then -c else c) ≤ 1048576 := by
    split
    · have e : Builtin.Int.intBits (-c) = Builtin.Int.intBits c := by
        unfold Builtin.Int.intBits
        rw [Int.natAbs_neg]
        by_cases z : c = 0
        · rw [z]; rfl
        · rw [if_neg (by simpa using z), if_neg (by simpa using z)]
      omega
    · exact hc
  cases t
  · simp [Builtin.Int.intBits]
  · simp only [if_true, Int.mul_one]
    exact ⟨h0, h1⟩
theorem ok_pool {f : Addr} {fd : FuncData} {k : Nat} (F : Fun K "_law_pool" "_law_pool" sPool f fd) (ml : mg "len" = none) (ma : mg "abs" = none) (mi : mg "int" = none) : FnOk P w K mg base CX0 (k + 1) f fd ["_law_script", "_law_k"] (spPool K) := by
  refine F.ok scPool (fun vs H Q E h => ?_) (fun cdv A outer s H vs Q E hr h => ?_)
  · obtain ⟨a, ns, k, rfl, _⟩ := h
    rfl
  · obtain ⟨a, ns, j, rfl, hS, hlen, hbits, j0, j1, q⟩ := h
    refine ⟨_, pss_cons (ps_set (i := 2) scPool.nd rfl (.inl rfl) pe_int)
      (Evl.pss_cut (ps_if (pt_cmpR op_lt (pv 1) (pe_callB call_len_seq (by rfl) ml PySem.boot_len (pa_cons (pv 0) pa_nil)) (nomark _))
        (pss_one (ps_set (i := 2) scPool.nd rfl (.inl rfl) (pe_ix ix_list (pv 0) (pv 1) (fun _ _ => rfl)))) pss_nil)
      (pss_cons (ps_set (i := 3) scPool.nd rfl (.inl rfl) (pe_callB call_abs (by rfl) ma (by decide +kernel) (pa_cons (pv 2) pa_nil)))
      (pss_cons (ps_set (i := 4) scPool.nd rfl (.inl rfl) (pe_op op_mod (pe_op op_pow (pe_op op_add (pe_op op_add (pe_op op_add (pe_op op_mod (pv 2) pe_int) (pe_op op_mul (pe_op op_mul pe_int (pv 1)) (pv 1))) (pe_op op_mul pe_int (pv 1))) pe_int) pe_int) pe_int))
      (pss_one (ps_ret (pe_lst (pa_cons (pe_op op_mulB (pv 3) (pe_callTy call_int1 (by rfl) mi (by decide +kernel) (pa_cons (pe_cmpR op_ge (pv 3) (pe_op op_pow pe_int pe_int) (nomark _)) pa_nil))) (pa_cons (pv 4) pa_nil)))))))), ?_⟩
    refine ⟨fun σ' H' => ∃ c : Int, Builtin.Int.intBits c ≤ 1048576 ∧ σ' = [some (.ref a), some (.int j), some (.int c), none, none] ∧ H' = H, ?_, ?_⟩
    · refine ⟨_, rfl, _, rfl, a, _, rfl, .inl hS, _, _, rfl, rfl, _, rfl, ?_⟩
      refine ite2 (fun e => ?_) (fun e => ?_)
      · have e1 : j < ((ns.map V.int).length : Int) := of_decide_eq_true e
        rw [List.length_map] at e1
        obtain ⟨m, rfl⟩ : ∃ m : Nat, j = (m : Int) := ⟨j.toNat, by omega⟩
        have hm : m < ns.length := by omega
        have g1 : (ns.map V.int)[m]? = some (.int ns[m]) := by
          rw [List.getElem?_map, List.getElem?_eq_getElem hm]
          rfl
        exact ⟨_, rfl, _, rfl, a, _, _, _, rfl, rfl, hS, atI_nat g1, ns[m], hbits _ (List.getElem_mem hm), rfl, rfl⟩
      · exact ⟨0, by decide, rfl, rfl⟩
    · rintro σ' H' ⟨c, hc, rfl, rfl⟩
      refine ⟨_, rfl, _, rfl, ?_⟩
      have m0 := Int.emod_nonneg c (show (2147483629 : Int) ≠ 0 by decide)
      have m1 := Int.emod_lt_of_pos c (show (0 : Int) < 2147483629 by decide)
      have k0 : 0 ≤ 104729 * j * j := Int.mul_nonneg (by omega) j0
      have k1 : 104729 * j * j ≤ 104729 * 100 * 100 := Int.mul_le_mul (by omega) (by omega) j0 (by omega)
      refine ⟨_, rfl, _, _, rfl, rfl, (by show (0 : Int) < 2147483629; decide), _, rfl, _, _, rfl, rfl, .inl ⟨by decide, by decide⟩, _, rfl, _, _, rfl, rfl, .inl ⟨by omega, by omega⟩, _, _, rfl, rfl, _, rfl, _, _, rfl, rfl, .inl ⟨by decide, by decide⟩, _, _, rfl, rfl, _, _, rfl, rfl, _, _, rfl, rfl, ⟨by decide, by decide, ?_⟩, _, _, rfl, rfl, (by show (0 : Int) < 2147483647; decide), ?_⟩
      · omega
      have s0 := Int.emod_nonneg ((c % 2147483629 + 104729 * j * j + 7919 * j + 11) ^ (3 : Int).toNat) (show (2147483647 : Int) ≠ 0 by decide)
      have s1 := Int.emod_lt_of_pos ((c % 2147483629 + 104729 * j * j + 7919 * j + 11) ^ (3 : Int).toNat) (show (0 : Int) < 2147483647 by decide)
      refine ⟨_, rfl, _, rfl, _, _, rfl, rfl, ⟨by decide, by decide, by decide⟩, _, _, rfl, rfl, .inr ⟨_, rfl, _, _, rfl, rfl, ?_, _, rfl, (by show 2 ≤ sizeLine; decide), fun p hp => ?_⟩⟩
      · obtain ⟨h0, h1⟩ := poolA hc true
        simp only [if_true, Int.mul_one] at h1
        have b1 : ∀ t : Bool, Builtin.Int.intBits (if t then 1 else 0) ≤ 1 := by decide
        exact Nat.le_trans (Nat.add_le_add h1 (b1 _)) (by decide)
      · obtain ⟨h0, h1⟩ := poolA hc (decide ((10 : Int) ^ (18 : Int).toNat ≤ (if c < 0 then -c else c)))
        exact q p _ _ hp ⟨h0, h1, s0, s1⟩
end
end KB
namespace KB
open PySem PySem.Spec PyProof.Rows L2
section
variable {X : Cx}
theorem fold_rep (c : Nat) : ∀ (k : Nat) (acc : Array Nat), (List.replicate k (#[c] : Array Nat)).foldl (· ++ ·) acc = acc ++ (List.replicate k c).toArray
  | 0, acc => by simp
  | k + 1, acc => by
    rw [List.replicate_succ, List.foldl_cons, fold_rep c k]
    apply Array.toList_inj.mp
    simp [List.replicate_succ]
/-- one sign, many times -/
theorem op_repS : OpR X (binaryOp .Mult) (fun x y H Q => ∃ c k : Nat, x = .str (S [c]) ∧ y = .int (k : Int) ∧ 2 ≤ k ∧ k ≤ 100000 ∧ Q (.str (S (List.replicate k c))) H) := by
  intro pins s σ H x y v u Q I rx ry want
  obtain ⟨c, k, rfl, rfl, k2, k1, q⟩ := want
  obtain ⟨t, rfl⟩ := rx
  obtain ⟨t', rfl⟩ := ry
  have one : (S [c]).length = 1 := rfl
  have n1 : ¬ ((k : Int) < 1) := by omega
  have n2 : ((k : Int) == 1 || (S [c]).length == 0) = false := by
    rw [one]
    simp
    omega
  refine PySem.P.mul_str (x := S [c]) (n := (k : Int)) ?_ ?_ ?_ ?_
  · rw [decide_eq_false (by omega), decide_eq_false (by omega)]
    rfl
  · intro _ _ z
    rw [one] at z
    have h : (1 : Int) ≤ (2 ^ 63 - 1) / (k : Int) := by
      rw [Int.le_ediv_iff_mul_le (by omega)]
      omega
    omega
  · intro _ _
    rw [one, Int.toNat_natCast, Nat.one_mul]
    have big : 100000 ≤ sizeLine := by decide
    exact decide_eq_false (by omega)
  · rw [if_neg n1, n2, if_neg Bool.false_ne_true, Int.toNat_natCast]
    have e : (⟨(List.replicate k (S [c]).cps).foldl (· ++ ·) #[]⟩ : Str) = S (List.replicate k c) := by
      show (⟨(List.replicate k (#[c] : Array Nat)).foldl (· ++ ·) #[]⟩ : Str) = _
      rw [fold_rep]
      simp [S]
    rw [e]
    refine ⟨?_, .str _, H, I.tok _, ⟨_, rfl⟩, q⟩
    rw [S_len, List.length_replicate]
    exact Nat.le_trans k1 (by decide)
end
end KB
namespace KB
open PySem PySem.Spec PyProof.Rows L2
open TL (tl len_tl ext_tl tl_append mk_tl)
abbrev sTok : Stmt := topS 25
abbrev sBla : Stmt := topS 26
abbrev sMus : Stmt := topS 27
abbrev sWri : Stmt := topS 28
abbrev sAt : Stmt := topS 29
abbrev sLaw : Stmt := topS 30
structure TLw (K : PySem.W.Frag) (mg : Str → Option Value) (C fI aS aW fIN fTK fLE fTO fTE fRE fRK fNU fP fT fTok fBla fMus fWri fAt : Addr) : Prop where
  k : TK K mg C fI aS aW fIN fTK fLE fTO fTE fRE fRK fNU
  gPool : mg "_law_pool" = some (.ref fP)
  kPool : PySem.W.keepIn K (.ref fP) = true
  gTake : mg "_law_take" = some (.ref fT)
  kTake : PySem.W.keepIn K (.ref fT) = true
  gTok : mg "_law_token" = some (.ref fTok)
  kTok : PySem.W.keepIn K (.ref fTok) = true
  gBla : mg "_law_blank" = some (.ref fBla)
  kBla : PySem.W.keepIn K (.ref fBla) = true
  gMus : mg "_law_must" = some (.ref fMus)
  kMus : PySem.W.keepIn K (.ref fMus) = true
  gWri : mg "_law_written" = some (.ref fWri)
  kWri : PySem.W.keepIn K (.ref fWri) = true
  gAt : mg "_law_at" = some (.ref fAt)
  kAt : PySem.W.keepIn K (.ref fAt) = true
  range : mg "range" = none
  max : mg "max" = none
  min : mg "min" = none
  len : mg "len" = none
  str : mg "str" = none
  repr : mg "repr" = none
def wordsD : List (List Nat) := [[105, 109, 112, 111, 114, 116], [97, 115], [110, 111, 110, 108, 111, 99, 97, 108], [102, 110], [110, 111, 110, 101], [111, 114], [99, 111, 110, 116, 105, 110, 117, 101], [100, 101, 102]]
theorem strs_word : (["import", "as", "nonlocal", "fn", "none", "or", "continue", "def"] : List Str) = wordsD.map S := by decide +kernel
def numsD : List (List Nat) := [[48], [55], [49, 48], List.replicate 18 57, 49 :: List.replicate 17 48]
def textD : List (List Nat) := [[97], [32], [35], [59], [90], [40], [92]]
theorem strs_text : (["a", " ", "#", ";", "Z", "(", "\\"] : List Str) = textD.map S := by decide +kernel
theorem strs_sign : Txt.split "( ) [ ] { } , ; : . = == < <= + - *" " " = ([[40], [41], [91], [93], [123], [125], [44], [59], [58], [46], [61], [61, 61], [60], [60, 61], [43], [45], [42]] : List (List Nat)).map S := by decide +kernel
def signsD : List (List Nat) := [[40], [41], [91], [93], [123], [125], [44], [59], [58], [46], [61], [61, 61], [60], [60, 61], [43], [45], [42]]
theorem signs_D : ∀ t ∈ signsD, t ∈ signsL := by decide
theorem signs_D2 : ∀ t ∈ signsD, t.length ≤ 42 := by decide
theorem words_D2 : ∀ t ∈ wordsD, t.length ≤ 42 := by decide
theorem nums_D2 : ∀ t ∈ numsD, t.length ≤ 42 := by decide
theorem text_small : ∀ c ∈ [97, 32, 35, 59, 90, 40, 92], c < 1114112 := by decide
theorem text_one : ∀ t ∈ textD, ∃ c, t = [c] ∧ c ∈ [97, 32, 35, 59, 90, 40, 92] := by
  intro t ht
  simp only [textD, List.mem_cons, List.not_mem_nil, or_false] at ht
  rcases ht with rfl | rfl | rfl | rfl | rfl | rfl | rfl
  all_goals exact ⟨_, rfl, by decide⟩
theorem pick {l : List (List Nat)} {i : Nat} (h : i < l.length) : ∃ t ∈ l, ((l.map S).map V.str)[i]? = some (.str (S t)) := by
  refine ⟨l[i], List.getElem_mem h, ?_⟩
  rw [List.getElem?_map, List.getElem?_map, List.getElem?_eq_getElem h]
  rfl
/-! ### the pool -/
/-- all that was tracked but p is as it was -/
def KeepBut (p : Addr) (H H' : Hp) : Prop := ∀ b o, b ≠ p → H b = some o → H' b = some o
theorem KeepBut.refl (p : Addr) (H : Hp) : KeepBut p H H := fun _ _ _ h => h
theorem KeepBut.trans {p : Addr} {H H1 H2 : Hp} (a : KeepBut p H H1) (b : KeepBut p H1 H2) : KeepBut p H H2 := fun c o n h => b c o n (a c o n h)
theorem KeepBut.same {p : Addr} {H H' : Hp} (a : Same H H') : KeepBut p H H' := fun b o _ h => a b o h
theorem PoolAt.same {p : Addr} {H H' : Hp} (h : PoolAt H p) (s : Same H H') : PoolAt H' p := by
  obtain ⟨a, b, ok, e⟩ := h
  exact ⟨a, b, ok, s _ _ e⟩
theorem PoolAt.ne {p q : Addr} {H : Hp} (h : PoolAt H p) (hq : H q = none) : p ≠ q := by
  obtain ⟨a, b, ok, e⟩ := h
  exact ne_of_none e hq
theorem take_ok {σ : L2.St} {H : Hp} {Q : VK} {p : Addr} {j m : Nat} (hσ : σ[j]? = some (some (.ref p))) (hp : PoolAt H p) (m0 : 0 < m) (m1 : m < 1000)
    (k : ∀ (r : Nat) (H' : Hp), r < m → KeepBut p H H' → PoolAt H' p → Q (.int (r : Int)) H') : tCall spTake [] E0 (tCons (tVar j) (tCons (tC (.int (m : Int))) tNil)) σ H Q := by
  obtain ⟨a, b, ok, e⟩ := hp
  refine ⟨_, hσ, p, a, b, m, rfl, e, ok, by omega, by omega, fun r a' b' r0 r1 ok' => ?_⟩
  obtain ⟨n, rfl⟩ : ∃ n : Nat, r = (n : Int) := ⟨r.toNat, by omega⟩
  exact k n _ (by omega) (fun c o nb h => by rw [upd_ne nb]; exact h) ⟨a', b', ok', upd_same⟩
theorem joinL_one : ∀ w : List Nat, TL.joinL [] (w.map fun c => [c]) = w
  | [] => rfl
  | [c] => rfl
  | c :: d :: s => by
    show [c] ++ ([] ++ TL.joinL [] ((d :: s).map fun c => [c])) = _
    rw [joinL_one (d :: s)]
    rfl
theorem join_signs (w : List Nat) : Txt.join (S []) (w.map fun c => S [c]) = S w := by
  have z := SX.join_S [] (w.map fun c => [c])
  rw [List.map_map, joinL_one] at z
  exact z
/-- [a drawn sign for turn in range(a draw)] -/
theorem word_lc {te : TE} {σ : L2.St} {H : Hp} {Q : VK} {p : Addr} (chars : List Nat) (m : Nat) (m0 : 0 < m) (m1 : m < 1000) (hp : PoolAt H p) (hσ : σ[0]? = some (some (.ref p)))
    (hw : ∀ x, wipe ((wipe σ [3]).set 3 (some x)) [3] = wipe σ [3]) (hz : ∀ x, ((wipe σ [3]).set 3 (some x))[0]? = some (some (.ref p)))
    (elt : ∀ (σ' : L2.St) (H' : Hp) (Q' : VK), σ'[0]? = some (some (.ref p)) → PoolAt H' p → (∀ c H'', c ∈ chars → KeepBut p H' H'' → PoolAt H'' p → Q' (.str (S [c])) H'') → te σ' H' Q')
    (k : ∀ (w : List Nat) (H' : Hp) (D : Addr), w.length < m → (∀ c ∈ w, c ∈ chars) → KeepBut p H H' → PoolAt H' p → H' D = some (.lst (w.map fun c => .str (S [c]))) → Q (.ref D) H') :
    tLc (iRng1 (tCons (tCall spTake [] E0 (tCons (tVar 0) (tCons (tC (.int (m : Int))) tNil))) tNil)) (gName 3) tYes te [3] σ H Q := by
  refine take_ok hσ hp m0 m1 fun r H1 hr k1 p1 => ⟨(r : Int), rfl, by omega, by omega, fun D hD => ?_⟩
  have nDp : p ≠ D := p1.ne hD
  refine lc_range (lo := 0) (n := r) (fun i H' => ∃ w : List Nat, w.length = i ∧ (∀ c ∈ w, c ∈ chars) ∧ H' D = some (.lst (w.map fun c => .str (S [c]))) ∧ KeepBut p H1 H' ∧ PoolAt H' p) ⟨[], rfl, fun _ h => absurd h List.not_mem_nil, upd_same, KeepBut.same (same_new hD), p1.same (same_new hD)⟩ ?_ ?_
  · rintro i H' hi ⟨w, rfl, hw', hD', kk, pp⟩
    refine ⟨hw _, elt _ H' _ (hz _) pp fun c H'' hc k2 p2 => ⟨_, k2 D _ nDp.symm hD', ?_, w ++ [c], by simp, fun d hd => ?_, ?_, fun b o nb h => ?_, ?_⟩⟩
    · rw [List.length_map]
      exact small1000 (by omega)
    · rcases List.mem_append.mp hd with h | h
      · exact hw' d h
      · rw [List.mem_singleton.mp h]
        exact hc
    · rw [upd_same, List.map_append]
      rfl
    · have nbD : b ≠ D := fun z => by
        subst z
        rw [hD] at h
        cases h
      rw [upd_ne nbD]
      exact k2 b o nb (kk b o nb h)
    · obtain ⟨a', b', ok', e'⟩ := p2
      exact ⟨a', b', ok', by rw [upd_ne nDp]; exact e'⟩
  · rintro H' ⟨w, hl, hw', hD', kk, pp⟩
    exact k w H' D (by omega) hw' (k1.trans kk) pp hD'
section
variable {P : Program} {w : World} {K : PySem.W.Frag} {mg : Str → Option Value} {base : Heap} {C fI aS aW fIN fTK fLE fTO fTE fRE fRK fNU fP fT fTok fBla fMus fWri fAt : Addr}
/-! ### _law_token -/
theorem scTok : FnScope ["_law_pool_here", "_law_way", "_law_word", "_law_turn"] ["_law_pool_here"] (defScope sTok) := ⟨rfl, rfl, rfl, by decide +kernel, rfl, by decide +kernel, by decide +kernel⟩
/-- a drawn token -/
def spTok : Sp := fun vs H Q _ => ∃ p : Addr, vs = [.ref p] ∧ PoolAt H p ∧
  ∀ (H' : Hp) (q : Addr) (k : Kind) (t : List Nat), KeepBut p H H' → PoolAt H' p → H' q = some (.tup [.str (S (kindL k)), .str (S t)]) → Good k t → t.length ≤ 42 → Q (.ref q) H'
theorem tok_end {p : Addr} {H H1 : Hp} {Q : VK} {k : Kind} {t : List Nat} {x y : V} (q : ∀ (H' : Hp) (q : Addr) (k : Kind) (t : List Nat), KeepBut p H H' → PoolAt H' p → H' q = some (.tup [.str (S (kindL k)), .str (S t)]) → Good k t → t.length ≤ 42 → Q (.ref q) H')
    (k1 : KeepBut p H H1) (p1 : PoolAt H1 p) (ex : x = .str (S (kindL k))) (ey : y = .str (S t)) (g : Good k t) (hl : t.length ≤ 42) : [x, y].length ≤ sizeLine ∧ ∀ r, H1 r = none → Q (.ref r) (upd H1 r (.tup [x, y])) := by
  subst ex ey
  exact ⟨by show 2 ≤ sizeLine; decide, fun r hr => q _ r k t (k1.trans (KeepBut.same (same_new hr))) (p1.same (same_new hr)) upd_same g hl⟩
theorem ok_Tok {fd fdT : FuncData} (F : Fun K "_law_token" "_law_token" sTok fTok fd) (T : TLw K mg C fI aS aW fIN fTK fLE fTO fTE fRE fRK fNU fP fT fTok fBla fMus fWri fAt) (GT : FnOk P w K mg base CX0 1 fT fdT ["_law_pool_here", "_law_many"] spTake) (bT : Binds K fdT ["_law_pool_here", "_law_many"] []) :
    FnOk P w K mg base CX0 2 fTok fd ["_law_pool_here"] spTok := by
  refine F.ok scTok (fun vs H Q E h => ?_) (fun cdv A outer s H vs Q E hr1 h => ?_)
  · obtain ⟨p, rfl, _⟩ := h
    rfl
  · obtain ⟨p, rfl, hp, q⟩ := h
    refine ⟨_,
(pss_cons (ps_set (i := 1) scTok.nd rfl (.inl rfl) (pe_call GT hr1 (by rfl) T.gTake T.kTake bT .nil pass0 (pa_cons (pv 0) (pa_cons pe_int pa_nil))))
 (pss_cons (ps_if (pt_cmpR op_lt (pv 1) pe_int (nomark _))
 (pss_cons (ps_set (i := 2) scTok.nd rfl (.inl rfl) (pe_join pe_str (pe_lc (own := [("_law_turn", 3)]) (g := gName 3) (tt := tYes) rfl scTok.nd (pi_range1 rfl T.range (pa_cons (pe_call GT hr1 (by rfl) T.gTake T.kTake bT .nil pass0 (pa_cons (pv 0) (pa_cons pe_int pa_nil))) pa_nil)) (blkOk_by (own := [("_law_turn", 3)]) (N := ["_law_pool_here", "_law_way", "_law_word", "_law_turn"]) (sc := defScope sTok) (by decide +kernel)) (fun _ _ _ _ _ => pg_name (i := 3) scTok.nd rfl (Or.inl rfl)) (fun _ _ _ _ _ => pts_nil) (fun _ _ _ _ _ => (pe_ix (r := rIxS) ix_str pe_str (pe_call GT hr1 (by rfl) T.gTake T.kTake bT .nil pass0 (pa_cons (pv 0) (pa_cons pe_int pa_nil))) (fun _ _ => rfl))))))
 (pss_one (ps_ret (pe_tup (pa_cons pe_str (pa_cons (pe_op op_add_str (pe_ix ix_str pe_str (pe_call GT hr1 (by rfl) T.gTake T.kTake bT .nil pass0 (pa_cons (pv 0) (pa_cons pe_int pa_nil))) (fun _ _ => rfl)) (pv 2)) pa_nil))))))
 pss_nil)
 (pss_cons (ps_if (pt_cmpR op_eq (pv 1) pe_int (nomark _))
 (pss_one (ps_ret (pe_tup (pa_cons pe_str (pa_cons (pe_ix ix_list (pe_lst (pa_cons pe_str (pa_cons pe_str (pa_cons pe_str (pa_cons pe_str (pa_cons pe_str (pa_cons pe_str (pa_cons pe_str (pa_cons pe_str pa_nil))))))))) (pe_call GT hr1 (by rfl) T.gTake T.kTake bT .nil pass0 (pa_cons (pv 0) (pa_cons pe_int pa_nil))) (fun _ _ => rfl)) pa_nil)))))
 pss_nil)
 (pss_cons (ps_if (pt_cmpR op_eq (pv 1) pe_int (nomark _))
 (pss_one (ps_ret (pe_tup (pa_cons pe_str (pa_cons (pe_ix ix_list (pe_lst (pa_cons pe_str (pa_cons pe_str (pa_cons pe_str (pa_cons (pe_op op_repS pe_str pe_int) (pa_cons (pe_op op_add_str pe_str (pe_op op_repS pe_str pe_int)) pa_nil)))))) (pe_call GT hr1 (by rfl) T.gTake T.kTake bT .nil pass0 (pa_cons (pv 0) (pa_cons pe_int pa_nil))) (fun _ _ => rfl)) pa_nil)))))
 pss_nil)
 (pss_cons (ps_if (pt_cmpR op_eq (pv 1) pe_int (nomark _))
 (pss_cons (ps_set (i := 2) scTok.nd rfl (.inl rfl) (pe_join pe_str (pe_lc (own := [("_law_turn", 3)]) (g := gName 3) (tt := tYes) rfl scTok.nd (pi_range1 rfl T.range (pa_cons (pe_call GT hr1 (by rfl) T.gTake T.kTake bT .nil pass0 (pa_cons (pv 0) (pa_cons pe_int pa_nil))) pa_nil)) (blkOk_by (own := [("_law_turn", 3)]) (N := ["_law_pool_here", "_law_way", "_law_word", "_law_turn"]) (sc := defScope sTok) (by decide +kernel)) (fun _ _ _ _ _ => pg_name (i := 3) scTok.nd rfl (Or.inl rfl)) (fun _ _ _ _ _ => pts_nil) (fun _ _ _ _ _ => (pe_ix (r := rIxL K) ix_list (pe_lst (pa_cons pe_str (pa_cons pe_str (pa_cons pe_str (pa_cons pe_str (pa_cons pe_str (pa_cons pe_str (pa_cons pe_str pa_nil)))))))) (pe_call GT hr1 (by rfl) T.gTake T.kTake bT .nil pass0 (pa_cons (pv 0) (pa_cons pe_int pa_nil))) (fun _ _ => rfl))))))
 (pss_one (ps_ret (pe_tup (pa_cons pe_str (pa_cons (pe_op op_add_str (pe_op op_add_str pe_str (pv 2)) pe_str) pa_nil))))))
 pss_nil)
 (pss_one (ps_ret (pe_tup (pa_cons pe_str (pa_cons (pe_ix ix_list (pe_split pe_str pe_str) (pe_call GT hr1 (by rfl) T.gTake T.kTake bT .nil pass0 (pa_cons (pv 0) (pa_cons pe_int pa_nil))) (fun _ _ => rfl)) pa_nil)))))))))), ?_⟩
    refine take_ok (m := 6) rfl hp (by decide) (by decide) fun r H1 hr k1 p1 => ?_
    refine ⟨_, rfl, _, _, rfl, rfl, _, rfl, bool_if (fun h => ?_) (fun h => ?_)⟩
    · -- a name
      refine ⟨⟨_, rfl⟩, ?_⟩
      refine word_lc [97, 98, 122, 57, 95] 19 (by decide) (by decide) p1 rfl (fun _ => rfl) (fun _ => rfl) ?_ ?_
      · intro σ' H' Q' hσ hp' kk
        refine take_ok (m := 5) hσ hp' (by decide) (by decide) fun i H'' hi k2 p2 => ?_
        have e : Str.ofString "abz9_" = S [97, 98, 122, 57, 95] := by decide +kernel
        have hi' : i < [97, 98, 122, 57, 95].length := hi
        refine ⟨S [97, 98, 122, 57, 95], (i : Int), [97, 98, 122, 57, 95][i], by rw [e], rfl, by rw [S_len]; exact small (by decide), atI_nat (List.getElem?_eq_getElem hi'), kk _ H'' (List.getElem_mem hi') k2 p2⟩
      · intro wd H2 D hl hc k2 p2 hD
        have em : Str.ofString "" = S [] := by decide +kernel
        refine ⟨_, D, wd.map fun c => S [c], rfl, rfl, .inl (.inl (.inl (by rw [List.map_map]; exact hD))), ?_, ?_⟩
        · rw [em, List.map_map, List.length_map, show ((fun x : Str => x.length) ∘ fun c => S [c]) = fun _ => 1 from rfl, List.map_const', List.sum_replicate_nat]
          show wd.length * 1 + wd.length * 0 ≤ _
          omega
        rw [em, join_signs]
        -- return ("name", "xq"[..] + word)
        refine take_ok (m := 2) rfl p2 (by decide) (by decide) fun i H3 hi k3 p3 => ?_
        have e : Str.ofString "xq" = S [120, 113] := by decide +kernel
        have hi' : i < [120, 113].length := hi
        refine ⟨S [120, 113], (i : Int), [120, 113][i], by rw [e], rfl, by rw [S_len]; exact small (by decide), atI_nat (List.getElem?_eq_getElem hi'), ?_⟩
        have hc2 : [120, 113][i] = 120 ∨ [120, 113][i] = 113 := by
          match i, hi' with
          | 0, _ => exact .inl rfl
          | 1, _ => exact .inr rfl
        have len1 : ([120, 113][i] :: wd).length ≤ 19 := by
          rw [List.length_cons]
          omega
        refine ⟨_, rfl, S [[120, 113][i]], S wd, rfl, rfl, ?_, ?_⟩
        · rw [S_len, S_len]
          exact small (by show 1 + wd.length ≤ 10000; omega)
        rw [S_add]
        exact tok_end (k := .name) q (k1.trans (k2.trans k3)) p3 (by rw [kName]) rfl (good_name (w := wd) hc2 hc (by omega)) (Nat.le_trans len1 (by decide))
    · refine ⟨_, rfl, rfl, _, rfl, bool_if (fun h => ?_) (fun h => ?_)⟩
      · -- a word
        refine ⟨(by show 8 ≤ sizeLine; decide), fun l hl => ?_⟩
        have sl := same_new (o := .lst ((wordsD.map S).map V.str)) hl
        have el : ([V.str "import", V.str "as", V.str "nonlocal", V.str "fn", V.str "none", V.str "or", V.str "continue", V.str "def"] : List V) = (wordsD.map S).map V.str := congrArg (List.map V.str) strs_word
        show tCall spTake [] E0 _ _ (upd H1 l (.lst [V.str "import", V.str "as", V.str "nonlocal", V.str "fn", V.str "none", V.str "or", V.str "continue", V.str "def"])) _
        rw [el]
        refine take_ok (m := 8) rfl (p1.same sl) (by decide) (by decide) fun i H3 hi k3 p3 => ?_
        obtain ⟨t, ht, e⟩ := pick (l := wordsD) hi
        have lp : l ≠ p := (p1.ne hl).symm
        refine ⟨l, _, (i : Int), _, rfl, rfl, .inl (.inl (k3 l _ lp upd_same)), atI_nat e, ?_⟩
        exact tok_end (k := .word) q (k1.trans ((KeepBut.same sl).trans k3)) p3 (by rw [kWord]) rfl (good_words t ht) (words_D2 t ht)
      · refine ⟨_, rfl, rfl, _, rfl, bool_if (fun h => ?_) (fun h => ?_)⟩
        · -- a number
          have e9 : Str.ofString "9" = S [57] := by decide +kernel
          have e0 : Str.ofString "0" = S [48] := by decide +kernel
          have e1 : Str.ofString "1" = S [49] := by decide +kernel
          refine ⟨57, 18, by rw [e9], rfl, by decide, by decide, ?_⟩
          refine ⟨48, 17, by rw [e0], rfl, by decide, by decide, ?_⟩
          refine ⟨S [49], S (List.replicate 17 48), by rw [e1], rfl, by decide, ?_⟩
          refine ⟨(by show 5 ≤ sizeLine; decide), fun l hl => ?_⟩
          have sl := same_new (o := .lst ((numsD.map S).map V.str)) hl
          have el : ([V.str "0", V.str "7", V.str "10", V.str (S (List.replicate 18 57)), V.str (S [49] ++ S (List.replicate 17 48))] : List V) = (numsD.map S).map V.str := by
            rw [S_add]
            exact congrArg (List.map V.str) (by decide +kernel : (["0", "7", "10", S (List.replicate 18 57), S ([49] ++ List.replicate 17 48)] : List Str) = numsD.map S)
          show tCall spTake [] E0 _ _ (upd H1 l (.lst [V.str "0", V.str "7", V.str "10", V.str (S (List.replicate 18 57)), V.str (S [49] ++ S (List.replicate 17 48))])) _
          rw [el]
          refine take_ok (m := 5) rfl (p1.same sl) (by decide) (by decide) fun i H3 hi k3 p3 => ?_
          obtain ⟨t, ht, e⟩ := pick (l := numsD) hi
          have lp : l ≠ p := (p1.ne hl).symm
          refine ⟨l, _, (i : Int), _, rfl, rfl, .inl (.inl (k3 l _ lp upd_same)), atI_nat e, ?_⟩
          exact tok_end (k := .number) q (k1.trans ((KeepBut.same sl).trans k3)) p3 (by rw [kNumber]) rfl (good_numbers t ht) (nums_D2 t ht)
        · refine ⟨_, rfl, rfl, _, rfl, bool_if (fun h => ?_) (fun h => ?_)⟩
          · -- a text
            refine ⟨⟨_, rfl⟩, ?_⟩
            refine word_lc [97, 32, 35, 59, 90, 40, 92] 41 (by decide) (by decide) p1 rfl (fun _ => rfl) (fun _ => rfl) ?_ ?_
            · intro σ' H' Q' hσ hp' kk
              refine ⟨(by show 7 ≤ sizeLine; decide), fun l hl => ?_⟩
              have sl := same_new (o := .lst ((textD.map S).map V.str)) hl
              have el : ([V.str "a", V.str " ", V.str "#", V.str ";", V.str "Z", V.str "(", V.str "\\"] : List V) = (textD.map S).map V.str := congrArg (List.map V.str) strs_text
              show tCall spTake [] E0 _ _ (upd H' l (.lst [V.str "a", V.str " ", V.str "#", V.str ";", V.str "Z", V.str "(", V.str "\\"])) _
              rw [el]
              refine take_ok (m := 7) hσ (hp'.same sl) (by decide) (by decide) fun i H3 hi k3 p3 => ?_
              obtain ⟨t, ht, e⟩ := pick (l := textD) hi
              obtain ⟨c, rfl, hc⟩ := text_one t ht
              have lp : l ≠ p := (hp'.ne hl).symm
              exact ⟨l, _, (i : Int), _, rfl, rfl, .inl (.inl (k3 l _ lp upd_same)), atI_nat e, kk c H3 hc ((KeepBut.same sl).trans k3) p3⟩
            · intro wd H2 D hl hc k2 p2 hD
              have em : Str.ofString "" = S [] := by decide +kernel
              refine ⟨_, D, wd.map fun c => S [c], rfl, rfl, .inl (.inl (.inl (by rw [List.map_map]; exact hD))), ?_, ?_⟩
              · rw [em, List.map_map, List.length_map, show ((fun x : Str => x.length) ∘ fun c => S [c]) = fun _ => 1 from rfl, List.map_const', List.sum_replicate_nat]
                show wd.length * 1 + wd.length * 0 ≤ _
                omega
              rw [em, join_signs]
              have eq : Str.ofString "'" = S [39] := by decide +kernel
              refine ⟨_, rfl, S [39], S wd, by rw [eq], rfl, ?_, ?_⟩
              · rw [S_len, S_len]
                exact small (by show 1 + wd.length ≤ 10000; omega)
              refine ⟨S [39] ++ S wd, S [39], rfl, by rw [eq], ?_, ?_⟩
              · rw [S_add, S_len, S_len]
                exact small (by simp; omega)
              rw [S_add, S_add]
              have n39 : 39 ∉ wd := fun m => absurd (hc 39 m) (by decide)
              have n10 : 10 ∉ wd := fun m => absurd (hc 10 m) (by decide)
              exact tok_end (k := .text) q (k1.trans k2) p2 (by rw [kText]) rfl (good_text (w := wd) n39 n10 (by omega) (fun c m => text_small c (hc c m))) (by simp; omega)
          · -- a sign
            refine ⟨⟨_, rfl⟩, _, _, rfl, rfl, by decide +kernel, by decide +kernel, fun l hl => ?_⟩
            rw [strs_sign]
            have sl := same_new (o := .lst ((signsD.map S).map V.str)) hl
            refine take_ok (m := 17) rfl (p1.same sl) (by decide) (by decide) fun i H3 hi k3 p3 => ?_
            obtain ⟨t, ht, e⟩ := pick (l := signsD) hi
            have lp : l ≠ p := (p1.ne hl).symm
            refine ⟨l, _, (i : Int), _, rfl, rfl, .inl (.inl (k3 l _ lp upd_same)), atI_nat e, ?_⟩
            exact tok_end (k := .sign) q (k1.trans ((KeepBut.same sl).trans k3)) p3 (by rw [kSign]) rfl (good_signs t (signs_D t ht)) (signs_D2 t ht)
/-! ### _law_blank -/
theorem scBla : FnScope ["_law_pool_here", "_law_some"] ["_law_pool_here"] (defScope sBla) := ⟨rfl, rfl, rfl, by decide +kernel, rfl, by decide +kernel, by decide +kernel⟩
def spBla : Sp := fun vs H Q _ => ∃ p : Addr, vs = [.ref p] ∧ PoolAt H p ∧ ∀ (H' : Hp) (b : List Nat), b ∈ blanksL → KeepBut p H H' → PoolAt H' p → Q (.str (S b)) H'
theorem strs_blank : (["", " ", "\n", "   ", "# a 'b\n", " # if x\n  ", "#\n\n"] : List Str) = blanksL.map S := by decide +kernel
theorem ok_Bla {fd fdT : FuncData} (F : Fun K "_law_blank" "_law_blank" sBla fBla fd) (T : TLw K mg C fI aS aW fIN fTK fLE fTO fTE fRE fRK fNU fP fT fTok fBla fMus fWri fAt) (GT : FnOk P w K mg base CX0 1 fT fdT ["_law_pool_here", "_law_many"] spTake) (bT : Binds K fdT ["_law_pool_here", "_law_many"] []) :
    FnOk P w K mg base CX0 2 fBla fd ["_law_pool_here"] spBla := by
  refine F.ok scBla (fun vs H Q E h => ?_) (fun cdv A outer s H vs Q E hr1 h => ?_)
  · obtain ⟨p, rfl, _⟩ := h
    rfl
  · obtain ⟨p, rfl, hp, q⟩ := h
    refine ⟨_,
(pss_cons (ps_set (i := 1) scBla.nd rfl (.inl rfl) (pe_lst (pa_cons pe_str (pa_cons pe_str (pa_cons pe_str (pa_cons pe_str (pa_cons pe_str (pa_cons pe_str (pa_cons pe_str pa_nil)))))))))
 (pss_one (ps_ret (pe_ix ix_list (pv 1) (pe_call GT hr1 (by rfl) T.gTake T.kTake bT .nil pass0 (pa_cons (pv 0) (pa_cons pe_int pa_nil))) (fun _ _ => rfl))))), ?_⟩
    refine ⟨(by show 7 ≤ sizeLine; decide), fun l hl => ?_⟩
    have sl := same_new (o := .lst ((blanksL.map S).map V.str)) hl
    have el : ([V.str "", V.str " ", V.str "\n", V.str "   ", V.str "# a 'b\n", V.str " # if x\n  ", V.str "#\n\n"] : List V) = (blanksL.map S).map V.str := congrArg (List.map V.str) strs_blank
    refine ⟨_, rfl, ?_⟩
    show tCall spTake [] E0 _ _ (upd H l (.lst [V.str "", V.str " ", V.str "\n", V.str "   ", V.str "# a 'b\n", V.str " # if x\n  ", V.str "#\n\n"])) _
    rw [el]
    refine take_ok (m := 7) rfl (hp.same sl) (by decide) (by decide) fun i H3 hi k3 p3 => ?_
    obtain ⟨t, ht, e⟩ := pick (l := blanksL) hi
    have lp : l ≠ p := (hp.ne hl).symm
    exact ⟨l, _, (i : Int), _, rfl, rfl, .inl (.inl (k3 l _ lp upd_same)), atI_nat e, q H3 t ht ((KeepBut.same sl).trans k3) p3⟩
/-! ### _law_must -/
theorem scMus : FnScope ["_law_one", "_law_other"] ["_law_one", "_law_other"] (defScope sMus) := ⟨rfl, rfl, rfl, by decide +kernel, rfl, by decide +kernel, by decide +kernel⟩
def spMus : Sp := fun vs H Q _ => ∃ a b : List Nat, vs = [.str (S a), .str (S b)] ∧ a.length ≤ 5000 ∧ b.length ≤ 5000 ∧ Q (.bl (must a b)) H
theorem sub_at (l s : List Nat) (i : Nat) : Builtin.Str.subAt (S l) (S s) i = decide ((l.drop i).take s.length = s) := by
  unfold Builtin.Str.subAt
  rw [Bool.eq_iff_iff, decide_eq_true_eq]
  have z : ((S l).cps.extract i (i + (S s).length)).toList = (l.drop i).take s.length := by
    rw [Array.toList_extract, S_len]
    show List.take (i + s.length - i) (l.drop i) = _ <;> simp [List.extract]
  constructor
  · intro h
    have h2 : (S l).cps.extract i (i + (S s).length) = (S s).cps := by simpa using h
    rw [← z, h2]
    rfl
  · intro h
    have h2 : (S l).cps.extract i (i + (S s).length) = (S s).cps := Array.toList_inj.mp (by rw [z, h]; rfl)
    simpa using h2
theorem in_le (one : List Nat) (h : one ≠ []) : (!(Builtin.Str.occurrences (S [60, 61]) (S one) 0 (S [60, 61]).length 1).isEmpty) = decide (one = [60] ∨ one = [61] ∨ one = [60, 61]) := by
  rw [Bool.eq_iff_iff, PySem.StrLaws.found_iff, decide_eq_true_eq]
  have two : (S [60, 61]).length = 2 := rfl
  rw [two, S_len]
  constructor
  · rintro ⟨i, hi, hs⟩
    rw [sub_at, decide_eq_true_eq] at hs
    match one, h with
    | [c], _ =>
      simp at hi
      have : i = 0 ∨ i = 1 := by omega
      rcases this with rfl | rfl
      · simp at hs
        simp [hs]
      · simp at hs
        simp [hs]
    | [c, d], _ =>
      simp at hi
      subst hi
      simp at hs
      simp [hs]
    | c :: d :: e :: r, _ =>
      simp at hi
      omega
  · rintro (rfl | rfl | rfl)
    · exact ⟨0, by decide, by decide⟩
    · exact ⟨1, by decide, by decide⟩
    · exact ⟨0, by decide, by decide⟩
theorem must_cons (one : List Nat) (c : Nat) (r : List Nat) (h : one ≠ []) : must one (c :: r) = (if (one = [60] ∨ one = [61] ∨ one = [60, 61]) ∧ c = 61 then true else isRun (one.getLast h) && isRun c) := by
  show (if one = [] then false else if (one = [60] ∨ one = [61] ∨ one = [60, 61]) ∧ c = 61 then true else (match one.getLast? with | some d => isRun d | none => false) && isRun c) = _
  rw [if_neg h, List.getLast?_eq_some_getLast h]
theorem ok_Mus {fd : FuncData} (F : Fun K "_law_must" "_law_must" sMus fMus fd) (T : TLw K mg C fI aS aW fIN fTK fLE fTO fTE fRE fRK fNU fP fT fTok fBla fMus fWri fAt) : FnOk P w K mg base CX0 2 fMus fd ["_law_one", "_law_other"] spMus := by
  refine F.ok scMus (fun vs H Q E h => ?_) (fun cdv A outer s H vs Q E hr1 h => ?_)
  · obtain ⟨a, b, rfl, _⟩ := h
    rfl
  · obtain ⟨a, b, rfl, ha, hb, q⟩ := h
    have eLE : Str.ofString "<=" = S [60, 61] := by decide +kernel
    have eEQ : Str.ofString "=" = S [61] := by decide +kernel
    refine ⟨_,
(pss_cons (ps_if (PW.pt (pw_or (pt_cmpR op_eq (pv 0) pe_str (nomark _)) (pw_or1 (pt_cmpR op_eq (pv 1) pe_str (nomark _)))))
 (pss_one (ps_ret pe_bl))
 pss_nil)
 (pss_cons (ps_if (PW.pt (pw_and (pt_cmpR op_in_str (pv 0) pe_str (by rfl)) (pw_and1 (pt_cmpR op_in_sign (pe_ix ix_str (pv 1) pe_int (fun _ _ => rfl)) pe_str (by rfl)))))
 (pss_one (ps_ret pe_bl))
 pss_nil)
 (pss_one (ps_ret (pe_and (pe_cmpR op_in_sign (pe_ix ix_str (pv 0) (pe_un un_neg pe_int) (fun _ _ => rfl)) pe_str (by rfl)) (pe_one (pe_cmpR op_in_sign (pe_ix ix_str (pv 1) pe_int (fun _ _ => rfl)) pe_str (by rfl)))))))), ?_⟩
    refine ⟨_, rfl, rfl, _, rfl, ?_⟩
    rw [is_empty]
    refine bool_if (fun h => ?_) (fun h => ?_)
    · have e : a = [] := of_decide_eq_true h
      have z : must a b = false := by
        rw [e]
        cases b <;> rfl
      rw [z] at q
      exact q
    · have ne : a ≠ [] := of_decide_eq_false h
      refine ⟨_, rfl, rfl, _, rfl, ?_⟩
      rw [is_empty]
      cases b with
      | nil => exact bool_if (fun _ => q) (fun h => absurd h (by decide))
      | cons c r =>
        refine bool_if (fun h => absurd h (by simp)) (fun _ => ?_)
        rw [must_cons a c r ne] at q
        refine ⟨_, rfl, S a, S [60, 61], rfl, by rw [eLE], ?_⟩
        rw [in_le a ne]
        have last : ∀ _ : ¬ ((a = [60] ∨ a = [61] ∨ a = [60, 61]) ∧ c = 61), Q (.bl (isRun (a.getLast ne) && isRun c)) H := fun hn => by
          rw [if_neg hn] at q
          exact q
        have fin : ∀ _ : ¬ ((a = [60] ∨ a = [61] ∨ a = [60, 61]) ∧ c = 61), (tAndV (tOp (fun x y H Q => ∃ (c : Nat) (z : Str), x = .str ⟨#[c]⟩ ∧ y = .str z ∧ Q (.bl (decide (c ∈ z.cps.toList))) H) (tOp rIxS (tVar 0) (tUn (rU fun i => .int (-i)) (tC (.int 1)))) (tC (.str "abcdefghijklmnopqrstuvwxyz0123456789_")))
            (tOp (fun x y H Q => ∃ (c : Nat) (z : Str), x = .str ⟨#[c]⟩ ∧ y = .str z ∧ Q (.bl (decide (c ∈ z.cps.toList))) H) (tOp rIxS (tVar 1) (tC (.int 0))) (tC (.str "abcdefghijklmnopqrstuvwxyz0123456789_")))) [some (.str (S a)), some (.str (S (c :: r)))] H Q := fun hn => by
          have q2 := last hn
          have al : a.dropLast ++ [a.getLast ne] = a := List.dropLast_concat_getLast ne
          have at1 : atI (S a).cps.toList (-1) = some (a.getLast ne) := by
            have z := atI_last a.dropLast (a.getLast ne)
            rw [al] at z
            exact z
          refine ⟨_, rfl, 1, rfl, S a, -1, _, rfl, rfl, by rw [S_len]; exact small (by omega), at1, _, S runL, rfl, by rw [tRUN], _, rfl, bool_if (fun h1 => ?_) (fun h1 => ?_)⟩
          · have h1' : isRun (a.getLast ne) = true := h1
            rw [h1', Bool.true_and] at q2
            exact ⟨_, rfl, S (c :: r), 0, c, rfl, rfl, by rw [S_len]; exact small (by omega), atI_nat (j := 0) rfl, c, S runL, rfl, by rw [tRUN], q2⟩
          · have h1' : isRun (a.getLast ne) = false := h1
            rw [h1', Bool.false_and] at q2
            exact q2
        refine ⟨_, rfl, bool_if (fun h1 => ?_) (fun h1 => ?_)⟩
        · have h1' := of_decide_eq_true h1
          refine ⟨_, rfl, S (c :: r), 0, c, rfl, rfl, by rw [S_len]; exact small (by omega), atI_nat (j := 0) rfl, c, S [61], rfl, by rw [eEQ], _, rfl, bool_if (fun h2 => ?_) (fun h2 => ?_)⟩
          · have h2' : c ∈ [61] := of_decide_eq_true h2
            rw [if_pos ⟨h1', List.mem_singleton.mp h2'⟩] at q
            exact q
          · have h2' : ¬ c ∈ [61] := of_decide_eq_false h2
            exact fin fun z => h2' (List.mem_singleton.mpr z.2)
        · have h1' := of_decide_eq_false h1
          exact iteF (fin fun z => h1' z.1)
end
end KB
namespace KB
open PySem PySem.Spec PyProof.Rows L2
open TL (tl len_tl ext_tl tl_append mk_tl)
section
variable {P : Program} {w : World} {K : PySem.W.Frag} {mg : Str → Option Value} {base : Heap} {C fI aS aW fIN fTK fLE fTO fTE fRE fRK fNU fP fT fTok fBla fMus fWri fAt : Addr}
/-! ### _law_written -/
theorem scWri : FnScope ["_law_pool_here", "_law_some", "_law_text", "_law_told", "_law_last", "_law_kind", "_law_token_here", "_law_blank_here"] ["_law_pool_here", "_law_some"] (defScope sWri) := ⟨rfl, rfl, rfl, by decide +kernel, rfl, by decide +kernel, by decide +kernel⟩
/-- the drawn tokens as tuples -/
def TokAt (H : Hp) (q : Addr) (t : Kind × List Nat) : Prop := H q = some (.tup [.str (S (kindL t.1)), .str (S t.2)]) ∧ Good t.1 t.2 ∧ t.2.length ≤ 42
def spWri : Sp := fun vs H Q _ => ∃ (p s : Addr) (qs : List Addr) (ks : List (Kind × List Nat)), vs = [.ref p, .ref s] ∧ PoolAt H p ∧ H s = some (.lst (qs.map V.ref)) ∧ Paired (TokAt H) qs ks ∧ qs.length ≤ 30 ∧
  ∀ (H' : Hp) (r told : Addr) (x : List Nat) (ts : List Tk) (last : List Nat) (rs : List Addr), KeepBut p H H' → PoolAt H' p → H' r = some (.lst [.str (S x), .ref told]) → H' told = some (.lst (rs.map V.ref)) → Paired (TkAt H') rs ts →
    Wr x ts last → x.length ≤ 2000 → Q (.ref r) H'
theorem paired_get {α β : Type} {R : α → β → Prop} {as : List α} {bs : List β} (h : Paired R as bs) : ∀ (i : Nat) (a : α), as[i]? = some a → ∃ b, bs[i]? = some b ∧ R a b := by
  induction h with
  | nil => intro i a z; simp at z
  | cons h _ ih =>
    intro i a z
    cases i with
    | zero =>
      have e := Option.some.inj z
      subst e
      exact ⟨_, rfl, h⟩
    | succ i =>
      obtain ⟨b, h1, h2⟩ := ih i a (by simpa using z)
      exact ⟨b, by simpa using h1, h2⟩
theorem ok_Wri {fd fdB fdM : FuncData} (F : Fun K "_law_written" "_law_written" sWri fWri fd) (T : TLw K mg C fI aS aW fIN fTK fLE fTO fTE fRE fRK fNU fP fT fTok fBla fMus fWri fAt)
    (GB : FnOk P w K mg base CX0 2 fBla fdB ["_law_pool_here"] spBla) (bB : Binds K fdB ["_law_pool_here"] []) (GM : FnOk P w K mg base CX0 2 fMus fdM ["_law_one", "_law_other"] spMus) (bM : Binds K fdM ["_law_one", "_law_other"] []) :
    FnOk P w K mg base CX0 3 fWri fd ["_law_pool_here", "_law_some"] spWri := by
  refine F.ok scWri (fun vs H Q E h => ?_) (fun cdv A outer s H vs Q E hr2 h => ?_)
  · obtain ⟨p, s, _, _, rfl, _⟩ := h
    rfl
  · obtain ⟨p, s, qs, ks, rfl, hp, hs, pk, many, q⟩ := h
    have em : Str.ofString "" = S [] := by decide +kernel
    have sp : Str.ofString " " = S [32] := by decide +kernel
    refine ⟨_,
(pss_cons (ps_par3 (i := 2) (j := 3) (l := 4) rfl scWri.nd rfl rfl rfl (by decide) (by decide) (by decide) rfl rfl rfl (pa_cons pe_str (pa_cons (pe_lst pa_nil) (pa_cons pe_str pa_nil))) (by rfl))
 (pss_cons (ps_for PassesOwn.never rfl (pi_list (pv 1)) (pg_tup rfl (pgs_cons (pg_name (i := 5) scWri.nd rfl (.inl rfl)) (pgs_cons (pg_name (i := 6) scWri.nd rfl (.inl rfl)) pgs_nil)))
 (pss_cons (ps_set (i := 7) scWri.nd rfl (.inl rfl) (pe_call GB hr2 (by rfl) T.gBla T.kBla bB .nil pass0 (pa_cons (pv 0) pa_nil)))
 (Evl.pss_cut (ps_if (PW.pt (pw_and (pt_cmpR op_eq (pv 7) pe_str (nomark _)) (pw_and1 (pt_val (pe_call GM hr2 (by rfl) T.gMus T.kMus bM .nil pass0 (pa_cons (pv 4) (pa_cons (pv 6) pa_nil)))))))
 (pss_one (ps_set (i := 7) scWri.nd rfl (.inl rfl) pe_str))
 pss_nil)
 (pss_cons (ps_set (i := 2) scWri.nd rfl (.inl rfl) (pe_op op_add_str (pv 2) (pv 7)))
 (pss_cons (ps_expr (pe_bm PySem.F.plainAttrs_list PySem.F.slot_list_append PySem.F.type_list_append mt_append (pv 3) (pa_cons (pe_tup (pa_cons (pv 5) (pa_cons (pv 6) (pa_cons (pe_callB call_len_str (by rfl) T.len (by decide +kernel) (pa_cons (pv 2) pa_nil)) pa_nil)))) pa_nil)))
 (pss_one (ps_par (i := 2) (j := 4) rfl scWri.nd rfl rfl (by decide) rfl rfl (pa_cons (pe_op op_add_str (pv 2) (pv 6)) (pa_cons (pv 6) pa_nil)) (by rfl))))))))
 (pss_one (ps_ret (pe_lst (pa_cons (pv 2) (pa_cons (pv 3) pa_nil))))))), ?_⟩
    refine ⟨Nat.zero_le _, fun D hD => ⟨_, _, _, rfl, ?_⟩⟩
    rw [em]
    have sD := same_new (o := .lst []) hD
    have nDp : D ≠ p := (hp.ne hD).symm
    have nsp : s ≠ p := fun z => by
      obtain ⟨a, b, _, e⟩ := hp
      subst z
      rw [hs] at e
      injection e with e
      injection e with e
      cases qs with
      | nil => cases e
      | cons c r => cases e
    have nqp : ∀ (H' : Hp) (b : Addr) (t : Kind × List Nat), PoolAt H' p → TokAt H' b t → b ≠ p := fun H' b t ⟨_, _, _, e⟩ ht z => by
      have e2 := ht.1
      rw [z, e] at e2
      cases e2
    have nsD : s ≠ D := ne_of_none hs hD
    refine ⟨_, rfl, s, rfl, ⟨_, .inl (.inl (sD _ _ hs))⟩, for_it (walk_list (K := K) (xs := qs.map V.ref)) (fun i σ H' => ∃ (x : List Nat) (ts : List Tk) (last : List Nat) (rs : List Addr) (y5 y6 y7 : Option L2.V),
        σ = [some (.ref p), some (.ref s), some (.str (S x)), some (.ref D), some (.str (S last)), y5, y6, y7] ∧ KeepBut p H H' ∧ PoolAt H' p ∧ H' D = some (.lst (rs.map V.ref)) ∧ Paired (TkAt H') rs ts ∧ Wr x ts last ∧ x.length ≤ 60 * i ∧ rs.length = i ∧ last.length ≤ 42)
      ⟨[], [], [], [], _, _, _, rfl, KeepBut.same sD, hp.same sD, upd_same, .nil, .nil, by decide, rfl, by decide⟩ ?_ ?_ ?_⟩
    · rintro i σ H' _ ⟨x, ts, last, rs, y5, y6, y7, rfl, k1, _⟩
      exact .inl (.inl (k1 s _ nsp hs))
    · rintro i x0 σ H1 H2 hi ⟨x, ts, last, rs, y5, y6, y7, rfl, k1, p1, hD1, pr, wr, hx, hrs, hlast⟩ ⟨rfl, hx0⟩
      obtain ⟨b0, hb0, rfl⟩ : ∃ b0, qs[i]? = some b0 ∧ x0 = .ref b0 := by
        rw [List.getElem?_map] at hx0
        cases e : qs[i]? with
        | none =>
          rw [e] at hx0
          cases hx0
        | some b0 =>
          rw [e] at hx0
          exact ⟨b0, rfl, (Option.some.inj hx0).symm⟩
      obtain ⟨⟨kd, t⟩, hks, hT⟩ := paired_get pk i b0 hb0
      have hi30 : i < 30 := by
        have := (List.getElem?_eq_some_iff.mp hb0).1
        omega
      have hT1 := k1 b0 _ (nqp H b0 _ hp hT) hT.1
      refine ⟨b0, _, rfl, .inl (.inl hT1), rfl, _, _, rfl, _, _, rfl, rfl, ?_⟩
      -- the blank
      refine ⟨_, rfl, p, rfl, p1, fun H3 b hb k3 p3 => ?_⟩
      have hDb := k3 D _ nDp hD1
      refine ⟨fun σ H'' => ∃ b2 ∈ blanksL, (b2 = [] → must last t = false) ∧ σ = [some (.ref p), some (.ref s), some (.str (S x)), some (.ref D), some (.str (S last)), some (.str (S (kindL kd))), some (.str (S t)), some (.str (S b2))] ∧ H'' = H3, ?_, ?_⟩
      · refine ⟨_, rfl, rfl, _, rfl, bool_if (fun h => ?_) (fun h => ?_)⟩
        · have e : b = [] := of_decide_eq_true ((is_empty b).symm.trans h)
          refine ⟨_, rfl, _, rfl, last, t, rfl, by omega, Nat.le_trans hT.2.2 (by decide), _, rfl, bool_if (fun h2 => ?_) (fun h2 => ?_)⟩
          · exact ⟨[32], by decide, fun z => (nomatch z), by rw [sp]; rfl, rfl⟩
          · exact ⟨b, hb, fun _ => h2, rfl, rfl⟩
        · have e : b ≠ [] := of_decide_eq_false ((is_empty b).symm.trans h)
          exact iteF ⟨b, hb, fun z => absurd z e, rfl, rfl⟩
      · rintro σ H4 ⟨b2, hb2, hm, rfl, rfl⟩
        have lb : b2.length ≤ 14 := by
          have : ∀ b ∈ blanksL, b.length ≤ 14 := by decide
          exact this b2 hb2
        have lt : t.length ≤ 42 := hT.2.2
        refine ⟨_, rfl, _, rfl, S x, S b2, rfl, rfl, ?_, ?_⟩
        · rw [S_len, S_len]
          exact small (by omega)
        rw [S_add]
        -- told.append
        refine ⟨_, rfl, .inl ⟨rfl, _, .inl (.inl hDb)⟩, _, rfl, _, rfl, _, rfl, S (x ++ b2), rfl, ?_, (by show 3 ≤ sizeLine; decide), fun r hr => ?_⟩
        · rw [S_len]
          exact small (by simp; omega)
        rw [S_len]
        have sr := same_new (o := .tup [.str (S (kindL kd)), .str (S t), .int (((x ++ b2).length : Nat) : Int)]) hr
        refine ⟨D, _, _, rfl, rfl, sr _ _ hDb, ?_, ?_⟩
        · rw [List.length_map]
          exact small1000 (by omega)
        refine ⟨_, rfl, _, rfl, S (x ++ b2), S t, rfl, rfl, ?_, ?_⟩
        · rw [S_len, S_len]
          exact small (by simp; omega)
        have nDr : D ≠ r := ne_of_none hDb hr
        have npr : p ≠ r := p3.ne hr
        have old : ∀ c o, c ≠ p → c ≠ D → H2 c = some o → (upd (upd H4 r (.tup [.str (S (kindL kd)), .str (S t), .int (((x ++ b2).length : Nat) : Int)])) D (.lst (rs.map V.ref ++ [.ref r]))) c = some o := fun c o n1 n2 z => by
          rw [upd_ne n2]
          exact sr _ _ (k3 c o n1 z)
        refine ⟨_, rfl, _, _, rfl, x ++ b2 ++ t, ts ++ [⟨kd, t, (x ++ b2).length⟩], t, rs ++ [r], some (.str (S (kindL kd))), some (.str (S t)), some (.str (S b2)), ?_, fun c o n1 z => ?_, ?_, ?_, ?_, ?_, ?_, ?_, lt⟩
        · rw [S_add]
          rfl
        · have nc : c ≠ D := ne_of_none z hD
          exact old c o n1 nc (k1 c o n1 z)
        · obtain ⟨a', b', ok', e'⟩ := p3
          exact ⟨a', b', ok', by rw [upd_ne nDp.symm]; exact sr _ _ e'⟩
        · rw [upd_same, List.map_append]
          rfl
        · refine paired_snoc (paired_imp pr fun c tk z => old c _ (fun y => ?_) (fun y => ?_) z) ?_
          · obtain ⟨_, _, _, e'⟩ := p1
            have z' : H2 c = _ := z
            rw [y, e'] at z'
            cases z'
          · have z' : H2 c = _ := z
            rw [y, hD1] at z'
            cases z'
          · show (upd _ D _) r = _
            rw [upd_ne nDr.symm]
            exact upd_same
        · exact .snoc wr hT.2.1 hb2 hm
        · simp
          omega
        · simp [hrs]
    · rintro σ H1 ⟨x, ts, last, rs, y5, y6, y7, rfl, k1, p1, hD1, pr, wr, hx, hrs, hlast⟩
      rw [List.length_map] at hx hrs
      refine ⟨_, rfl, _, rfl, (by show 2 ≤ sizeLine; decide), fun r hr => ?_⟩
      have sr := same_new (o := .lst [.str (S x), .ref D]) hr
      exact q _ r D x ts last rs (k1.trans (KeepBut.same sr)) (p1.same sr) upd_same (sr _ _ hD1) (paired_imp pr fun c tk z => sr _ _ z) wr (by omega)
end
end KB
namespace KB
open PySem PySem.Spec PyProof.Rows L2
open TL (tl len_tl ext_tl tl_append mk_tl)
section
variable {P : Program} {w : World} {K : PySem.W.Frag} {mg : Str → Option Value} {base : Heap} {C fI aS aW fIN fTK fLE fTO fTE fRE fRK fNU fP fT fTok fBla fMus fWri fAt : Addr}
/-! ### _law_at -/
theorem scAt : FnScope ["_law_text", "e"] ["_law_text"] (defScope sAt) := ⟨rfl, rfl, rfl, by decide +kernel, rfl, by decide +kernel, by decide +kernel⟩
def rRepO : List V → Hp → VK → Prop := fun xs H Q => (∃ i : Int, xs = [.int i] ∧ i.natAbs.log2 < 1920 ∧ Q (.str (toString i)) H) ∨ (xs = [.non] ∧ Q (.str "None") H)
theorem call_reprO {X : Cx} : CallR X (.builtin "repr") rRepO := by
  intro pins s σ H xs us Q I r want
  rcases want with want | ⟨rfl, q⟩
  · obtain ⟨i, rfl, hz, q⟩ := want
    obtain ⟨u, rfl, ru⟩ := vals1 r
    obtain ⟨t, rfl⟩ : ∃ t, u = Value.int i t := ru
    exact PySem.P.repr_of_int hz ⟨.str _, H, I.tok _, ⟨_, rfl⟩, q⟩
  · obtain ⟨u, rfl, ru⟩ := vals1 r
    obtain rfl : u = Value.none := ru
    exact PySem.P.repr_of_none ⟨.str _, H, I.tok _, ⟨_, rfl⟩, q⟩
def spAt (K : PySem.W.Frag) : Sp := fun vs H Q _ => ∃ x, vs = [x] ∧
  ((∃ l : List Nat, x = .str (S l) ∧ l.length ≤ 5000 ∧ ∃ e, sc l 0 = .error e ∧ ∀ H', Same H H' → Q (.str (toString (e : Int))) H') ∨
   (∃ l : List Nat, x = .str (S l) ∧ 5000 < l.length ∧ l.length ≤ sizeLine ∧ ∀ H', Same H H' → Q (.str "None") H') ∨
   (∃ t, TyX K H x t ∧ PySem.W.kitOne K t (.type "str") = some false ∧ ∀ H', Same H H' → Q (.str "None") H'))
theorem scan_bound : ∀ (n : Nat) (l : List Nat) (a e : Nat), scan n l a = .error e → e ≤ a + l.length
  | 0, _, _, _, h => by cases h
  | n + 1, [], _, _, h => by cases h
  | n + 1, c :: r, a, e, h => by
    rw [scan] at h
    split at h
    · have := scan_bound n r _ e h
      rw [List.length_cons]
      omega
    · split at h
      · have := scan_bound n _ _ e h
        rw [List.length_drop] at this
        have le := upTo_le (c := 10) (c :: r)
        omega
      · split at h
        · have z : a = e := Except.error.inj h
          omega
        · rename_i k m hk
          have le := tokenAt_le hk
          cases hs : scan n ((c :: r).drop m) (a + m) with
          | ok l2 =>
            rw [hs] at h
            cases h
          | error e2 =>
            rw [hs] at h
            have z : e2 = e := Except.error.inj h
            have := scan_bound n _ _ e2 hs
            rw [List.length_drop] at this
            omega
theorem ok_At {fd fdTK : FuncData} (F : Fun K "_law_at" "_law_at" sAt fAt fd) (T : TLw K mg C fI aS aW fIN fTK fLE fTO fTE fRE fRK fNU fP fT fTok fBla fMus fWri fAt)
    (GTK : FnOk P w K mg base (L2.CX P w) 5 fTK fdTK ["text"] (spTK K C)) (bTK : Binds K fdTK ["text"] []) : FnOk P w K mg base CX0 6 fAt fd ["_law_text"] (spAt K) := by
  refine F.ok scAt (fun vs H Q E h => ?_) (fun cdv A outer s H vs Q E hr5 h => ?_)
  · obtain ⟨x, rfl, _⟩ := h
    rfl
  · obtain ⟨x, rfl, h⟩ := h
    refine ⟨_,
(pss_cons (ps_try_as (i := 1) (tb := fun W => tDrop (tCallS (spTK K C) (WE W) (tCons (tVar 0) tNil))) (ts := fun a cls d => tRet (tCB rRepO (tCons (tXf a cls d C "at" (tVar 1)) tNil))) (Wout := fun _ _ _ _ => False) rfl rfl scAt.nd rfl rfl ⟨rfl, by decide, .inl T.k.err.g⟩ takes0 (fun W pn xe tk _ => pss_one (ps_expr (by exact (pe_callS GTK hr5 rfl T.k.gTK T.k.kTK bTK (fun σ => passAt tk σ) (by exact (pa_cons (pv 0) pa_nil)))))) (fun a oe cls d pn hz hf => pss_one (ps_ret (pe_callB call_reprO (by rfl) T.repr (by decide +kernel) (pa_cons (pe_xf T.k.err.X (T.k.err.no _ (by simp)) hz hf (pv 1)) pa_nil)))))
 (pss_one (ps_ret pe_non))), ?_⟩
    have no := T.k.err.te
    refine ⟨_, rfl, x, rfl, ?_⟩
    rcases h with ⟨l, rfl, hl, e, he, q⟩ | ⟨l, rfl, hl, hz, q⟩ | ⟨t, ty, kt, q⟩
    · refine .inl ⟨l, rfl, hl, fun ts hts => ?_, fun e2 he2 d H' sm nd hd => ?_⟩
      · rw [he] at hts
        cases hts
      · rw [he] at he2
        have ee : e = e2 := Except.error.inj he2
        subst ee
        have small : ((e : Nat) : Int).natAbs.log2 < 1920 := by
          have b := scan_bound _ _ _ _ he
          have z : ((e : Nat) : Int).natAbs < 2 ^ 13 := by omega
          exact Nat.lt_of_lt_of_le (PySem.Flt.log2_lt_of (by decide) z) (by decide)
        refine ⟨true, no, fun _ a0 _ => ?_, fun z => Bool.noConfusion z⟩
        exact ⟨_, rfl, rfl, rfl, d, _, _, rfl, hd, rfl, .inl ⟨_, rfl, small, q H' sm⟩⟩
    · refine .inr (.inl ⟨l, rfl, hl, hz, fun d H' sm nd hd => ⟨true, no, fun _ a0 _ => ?_, fun z => Bool.noConfusion z⟩⟩)
      exact ⟨_, rfl, rfl, rfl, d, _, _, rfl, hd, rfl, .inr ⟨rfl, q H' sm⟩⟩
    · refine .inr (.inr ⟨t, ty, kt, fun d H' sm nd hd => ⟨true, no, fun _ a0 _ => ?_, fun z => Bool.noConfusion z⟩⟩)
      exact ⟨_, rfl, rfl, rfl, d, _, _, rfl, hd, rfl, .inr ⟨rfl, q H' sm⟩⟩
end
end KB
set_option maxHeartbeats 8000000
namespace KB
open PySem PySem.Spec PyProof.Rows L2
open TL (tl len_tl ext_tl tl_append mk_tl)
def tkData (t : Tk) : PyData := .tuple [.str (S (kindL t.kind)), .str (S t.text), .int (t.start : Int)]
theorem strOk_S {l : List Nat} (h : ∀ c ∈ l, c < 1114112) : PyData.strOk (S l) = true := by
  unfold PyData.strOk
  rw [← Array.all_toList, List.all_eq_true]
  intro c hc
  exact decide_eq_true (h c hc)
theorem kind_small : ∀ k : Kind, ∀ c ∈ kindL k, c < 1114112 := by
  intro k
  cases k <;> decide
theorem toks_shaped {ts : List Tk} (h : ∀ t ∈ ts, ∀ c ∈ t.text, c < 1114112) : SeqAt.shaped (.list (ts.map tkData)) = true := by
  have c : ∀ l : List Tk, (∀ t ∈ l, ∀ c ∈ t.text, c < 1114112) → PyData.canLayAll0 (l.map tkData) = true := by
    intro l
    induction l with
    | nil => intro _; rfl
    | cons t r ih =>
      intro h
      show (PyData.canLay0 (tkData t) && PyData.canLayAll0 (r.map tkData)) = true
      rw [ih fun t ht => h t (List.mem_cons_of_mem _ ht), Bool.and_true]
      show (PyData.strOk (S (kindL t.kind)) && (PyData.strOk (S t.text) && (true && true))) = true
      rw [strOk_S (kind_small _), strOk_S (h t List.mem_cons_self)]
      rfl
  have d : ∀ l : List Tk, PyData.depthAll (l.map tkData) ≤ 1 := by
    intro l
    induction l with
    | nil => decide
    | cons t r ih =>
      show max (PyData.depth (tkData t)) (PyData.depthAll (r.map tkData)) ≤ 1
      have e : PyData.depth (tkData t) = 1 := rfl
      omega
  unfold SeqAt.shaped
  have c' : (PyData.list (ts.map tkData)).canLay0 = true := c ts h
  have d' : (PyData.list (ts.map tkData)).depth ≤ 64 := by
    show PyData.depthAll (ts.map tkData) + 1 ≤ 64
    have := d ts
    omega
  rw [c', decide_eq_true d']
  rfl
theorem dp_toks {K : PySem.W.Frag} {H : Hp} {p : Addr} {qs : List Addr} {ts : List Tk} (hp : H p = some (.lst (qs.map V.ref))) (h : Paired (TkAt H) qs ts) : Dp K H (.ref p) (.list (ts.map tkData)) := by
  refine .lst (.inl (.inl hp)) ?_
  clear hp
  induction h with
  | nil => exact .nil
  | cons h _ ih => exact .cons (.tup (.inl (.inl h)) (.cons (.str _) (.cons (.str _) (.cons (.int _) .nil)))) ih
theorem toks_sp {K : PySem.W.Frag} {C : Addr} {H : Hp} {Q : VK} {E : XK} {x : List Nat} {ts : List Tk} (hl : x.length ≤ 5000) (hs : sc x 0 = .ok ts)
    (k : ∀ (H' : Hp) (p : Addr) (qs : List Addr), Same H H' → H' p = some (.lst (qs.map V.ref)) → Paired (TkAt H') qs ts → Q (.ref p) H') : spTK K C [.str (S x)] H Q E :=
  ⟨_, rfl, .inl ⟨x, rfl, hl, fun ts' h' H' p qs sm _ hp pq => by
    rw [hs] at h'
    have e : ts = ts' := Except.ok.inj h'
    subst e
    exact k H' p qs sm hp pq, fun e he => by
    rw [hs] at he
    cases he⟩⟩
theorem toks_spE {K : PySem.W.Frag} {C : Addr} {H : Hp} {Q : VK} {E : XK} {z : Str} {x : List Nat} {ts : List Tk} (hz : z = S x) (hl : x.length ≤ 5000) (hs : sc x 0 = .ok ts)
    (k : ∀ (H' : Hp) (p : Addr) (qs : List Addr), Same H H' → H' p = some (.lst (qs.map V.ref)) → Paired (TkAt H') qs ts → Q (.ref p) H') : spTK K C [.str z] H Q E := by
  subst hz
  exact toks_sp hl hs k
theorem call_1 {sp : Sp} {z : V} {σ : L2.St} {H : Hp} {Q : VK} (h : sp [z] H Q E0) : tCall sp [] E0 (tCons (tC z) tNil) σ H Q := h
theorem op_1 {r : R2} {ta tb : TE} {σ : L2.St} {H : Hp} {Q : VK} (h : ta σ H fun x H1 => tb σ H1 fun y H2 => r x y H2 Q) : tOp r ta tb σ H Q := h
theorem and_1 {ta tb : TE} {σ : L2.St} {H : Hp} {Q : VK} (h : ta σ H fun x H1 => ∃ c, x = .bl c ∧ if c = true then tb σ H1 Q else Q (.bl false) H1) : tAndV ta tb σ H Q := h
theorem strOk_of (x : String) : PyData.strOk (Str.ofString x) = true := by
  unfold PyData.strOk
  rw [← Array.all_toList, List.all_eq_true, Str.ofString_eq_toList]
  intro c hc
  have h : ∃ d : Char, c = d.toNat := by
    have hc' : c ∈ x.toList.map Char.toNat := by simpa using hc
    obtain ⟨d, _, e⟩ := List.mem_map.mp hc'
    exact ⟨d, e.symm⟩
  obtain ⟨d, rfl⟩ := h
  have v := d.valid
  refine decide_eq_true ?_
  have v' : d.toNat.isValidChar := v
  unfold Nat.isValidChar at v'
  omega
theorem two_shaped (x : String) : SeqAt.shaped (.list [.str (Str.ofString x), .str (Str.ofString x)]) = true := by
  unfold SeqAt.shaped
  have c : (PyData.list [.str (Str.ofString x), .str (Str.ofString x)]).canLay0 = true := by
    show (PyData.strOk (Str.ofString x) && (PyData.strOk (Str.ofString x) && true)) = true
    rw [strOk_of]
    rfl
  rw [c]
  rfl
theorem strs_wrong : (["A", "$", "'a", S ([39] ++ List.replicate 41 97 ++ [39]), S (List.replicate 19 57), "01", "1a", "_a", S (List.replicate 21 97), "!", "\t", "'a\n'", "\""] : List Str) = wrongL.map S := by decide +kernel
theorem wrong_len : ∀ w ∈ wrongL, w.length ≤ 50 := by decide
theorem nil1 {σ : L2.St} {H : Hp} {Q : List V → Hp → Prop} (h : Q [] H) : tNil σ H Q := h
theorem Same.keep {p : Addr} {H H1 H2 : Hp} (a : Same H H1) (n : H p = none) (b : KeepBut p H1 H2) : Same H H2 := fun c o h => b c o (ne_of_none h n) (a c o h)
section
variable {P : Program} {w : World} {K : PySem.W.Frag} {mg : Str → Option Value} {base : Heap} {C fI aS aW fIN fTK fLE fTO fTE fRE fRK fNU fP fT fTok fBla fMus fWri fAt fL : Addr}
abbrev nLaw : List Str := ["_law_script", "_law_k", "_law_pool_here", "_law_turn", "_law_some", "_law_text", "_law_told", "_law_wrong", "_law_odd", "_law_each"]
theorem scLaw : FnScope nLaw ["_law_script"] (defScope sLaw) := ⟨rfl, rfl, rfl, by decide +kernel, rfl, by decide +kernel, by decide +kernel⟩
def spLaw (K : PySem.W.Frag) : Sp := fun vs H Q _ => ∃ (a : Addr) (ns : List Int), vs = [.ref a] ∧ SqL K H a (ns.map V.int) ∧ ns.length ≤ 63 ∧ (∀ z ∈ ns, Builtin.Int.intBits z ≤ 1048576) ∧ ∀ H', Q (.bl true) H'
theorem ok_law {fd fdP fdT fdK fdW fdTK fdA : FuncData} (F : Fun K "law" "law" sLaw fL fd) (T : TLw K mg C fI aS aW fIN fTK fLE fTO fTE fRE fRK fNU fP fT fTok fBla fMus fWri fAt)
    (GP : FnOk P w K mg base CX0 1 fP fdP ["_law_script", "_law_k"] (spPool K)) (bP : Binds K fdP ["_law_script", "_law_k"] []) (GT : FnOk P w K mg base CX0 1 fT fdT ["_law_pool_here", "_law_many"] spTake) (bT : Binds K fdT ["_law_pool_here", "_law_many"] [])
    (GK : FnOk P w K mg base CX0 2 fTok fdK ["_law_pool_here"] spTok) (bK : Binds K fdK ["_law_pool_here"] []) (GW : FnOk P w K mg base CX0 3 fWri fdW ["_law_pool_here", "_law_some"] spWri) (bW : Binds K fdW ["_law_pool_here", "_law_some"] [])
    (GTK : FnOk P w K mg base (L2.CX P w) 5 fTK fdTK ["text"] (spTK K C)) (bTK : Binds K fdTK ["text"] []) (GA : FnOk P w K mg base CX0 6 fAt fdA ["_law_text"] (spAt K)) (bA : Binds K fdA ["_law_text"] []) :
    FnOk P w K mg base CX0 7 fL fd ["_law_script"] (spLaw K) := by
  refine F.ok scLaw (fun vs H Q E h => ?_) (fun cdv A outer s H vs Q E hr6 h => ?_)
  · obtain ⟨a, ns, rfl, _⟩ := h
    rfl
  · obtain ⟨a, ns, rfl, hS, hlen, hbits, q⟩ := h
    have hr1 := hr6.mono (show 1 ≤ 6 by decide)
    have hr2 := hr6.mono (show 2 ≤ 6 by decide)
    have hr3 := hr6.mono (show 3 ≤ 6 by decide)
    have hr5 := hr6.mono (show 5 ≤ 6 by decide)
    have hu := hr6.units
    refine ⟨_,
(pss_cons (ps_for PassesOwn.never rfl (pi_range1 rfl T.range (pa_cons (pe_callB (call_max2 rfl) (by rfl) T.max (by decide +kernel) (pa_cons pe_int (pa_cons (pe_callB (call_min2 rfl) (by rfl) T.min (by decide +kernel) (pa_cons (pe_callB call_len_seq (by rfl) T.len (by decide +kernel) (pa_cons (pv 0) pa_nil)) (pa_cons pe_int pa_nil))) pa_nil))) pa_nil)) (pg_name (i := 1) scLaw.nd rfl (.inl rfl))
 (pss_cons (ps_set (i := 2) scLaw.nd rfl (.inr rfl) (pe_call GP hr1 (by rfl) T.gPool T.kPool bP .nil pass0 (pa_cons (pv 0) (pa_cons (pv 1) pa_nil))))
 (pss_one (ps_for PassesOwn.never rfl (pi_range1 rfl T.range (pa_cons pe_int pa_nil)) (pg_name (i := 3) scLaw.nd rfl (.inl rfl))
 (pss_cons (ps_setLc (i := 4) (own := [("_law_each", 9)]) (g := gName 9) (tt := tYes) rfl scLaw.nd rfl rfl (sw_true rfl rfl rfl (by decide +kernel)) (pi_range1 rfl T.range (pa_cons (pe_call GT hr1 (by rfl) T.gTake T.kTake bT .nil pass0 (pa_cons (pv 2) (pa_cons pe_int pa_nil))) pa_nil)) (blkOk_by (own := [("_law_each", 9)]) (N := ["_law_script", "_law_k", "_law_pool_here", "_law_turn", "_law_some", "_law_text", "_law_told", "_law_wrong", "_law_odd", "_law_each"]) (sc := defScope sLaw) (by decide +kernel)) (fun _ _ _ _ _ => pg_name (i := 9) scLaw.nd rfl (Or.inl rfl)) (fun _ _ _ _ _ => pts_nil) (fun _ _ _ _ _ => (pe_call GK hr2 (by rfl) T.gTok T.kTok bK .nil pass0 (pa_cons (pv 2) pa_nil))))
 (pss_cons (ps_asg (pe_call GW hr3 (by rfl) T.gWri T.kWri bW .nil pass0 (pa_cons (pv 2) (pa_cons (pv 4) pa_nil))) (pg_unl rfl (pgs_cons (pg_name (i := 5) scLaw.nd rfl (.inl rfl)) (pgs_cons (pg_name (i := 6) scLaw.nd rfl (.inl rfl)) pgs_nil))))
 (pss_cons (ps_if (PW.pt (pw_or (pt_cmpR (op_neD hu) (pe_call GTK hr5 (by rfl) T.k.gTK T.k.kTK bTK .nil passL (pa_cons (pv 5) pa_nil)) (pv 6) (nomark _)) (pw_or1 (pt_cmpR (op_neD hu) (pe_call GTK hr5 (by rfl) T.k.gTK T.k.kTK bTK .nil passL (pa_cons (pe_op op_add_str (pv 5) pe_str) pa_nil)) (pv 6) (nomark _)))))
 (pss_one (ps_ret pe_bl))
 pss_nil)
 (pss_cons (ps_set (i := 4) scLaw.nd rfl (.inl rfl) (pe_lst (pa_cons pe_str (pa_cons pe_str (pa_cons pe_str (pa_cons (pe_op op_add_str (pe_op op_add_str pe_str (pe_op op_repS pe_str pe_int)) pe_str) (pa_cons (pe_op op_repS pe_str pe_int) (pa_cons pe_str (pa_cons pe_str (pa_cons pe_str (pa_cons (pe_op op_repS pe_str pe_int) (pa_cons pe_str (pa_cons pe_str (pa_cons pe_str (pa_cons pe_str pa_nil)))))))))))))))
 (pss_cons (ps_set (i := 7) scLaw.nd rfl (.inl rfl) (pe_ix ix_list (pv 4) (pe_call GT hr1 (by rfl) T.gTake T.kTake bT .nil pass0 (pa_cons (pv 2) (pa_cons pe_int pa_nil))) (fun _ _ => rfl)))
 (pss_one (ps_if (pt_cmpR (op_neD hu) (pe_lst (pa_cons (pe_call GA hr6 (by rfl) T.gAt T.kAt bA .nil pass0 (pa_cons (pe_op op_add_str (pe_op op_add_str (pv 5) pe_str) (pv 7)) pa_nil)) (pa_cons (pe_call GA hr6 (by rfl) T.gAt T.kAt bA .nil pass0 (pa_cons (pe_op op_add_str (pe_op op_add_str (pe_op op_add_str (pv 5) pe_str) (pv 7)) pe_str) pa_nil)) pa_nil))) (pe_op op_rep (pe_lst (pa_cons (pe_callTy call_str_int (by rfl) T.str (by decide +kernel) (pa_cons (pe_op op_add (pe_callB call_len_str (by rfl) T.len (by decide +kernel) (pa_cons (pv 5) pa_nil)) pe_int) pa_nil)) pa_nil)) pe_int) (nomark _))
 (pss_one (ps_ret pe_bl))
 pss_nil)))))))))))
 (pss_cons (ps_for PassesOwn.never rfl (pi_list (pe_lst (pa_cons pe_non (pa_cons pe_int (pa_cons (pe_lst (pa_cons pe_str pa_nil)) (pa_cons (pe_tup (pa_cons pe_str pa_nil)) (pa_cons pe_bl (pa_cons pe_dnewK (pa_cons (pe_op op_add_str pe_str (pe_op op_repS pe_str pe_int)) (pa_cons (pe_op op_repS pe_str pe_int) pa_nil)))))))))) (pg_name (i := 8) scLaw.nd rfl (.inl rfl))
 (pss_one (ps_if (pt_cmpR op_ne (pe_call GA hr6 (by rfl) T.gAt T.kAt bA .nil pass0 (pa_cons (pv 8) pa_nil)) pe_str (nomark _))
 (pss_one (ps_ret pe_bl))
 pss_nil)))
 (pss_cons (ps_set (i := 6) scLaw.nd rfl (.inl rfl) (pe_lst (pa_cons (pe_tup (pa_cons pe_str (pa_cons pe_str (pa_cons pe_int pa_nil)))) (pa_cons (pe_tup (pa_cons pe_str (pa_cons pe_str (pa_cons pe_int pa_nil)))) (pa_cons (pe_tup (pa_cons pe_str (pa_cons pe_str (pa_cons pe_int pa_nil)))) (pa_cons (pe_tup (pa_cons pe_str (pa_cons pe_str (pa_cons pe_int pa_nil)))) pa_nil))))))
 (pss_one (ps_ret (pe_and (pe_cmpR (op_eqD hu) (pe_call GTK hr5 (by rfl) T.k.gTK T.k.kTK bTK .nil passL (pa_cons (pe_op op_add_str pe_str (pe_op op_repS pe_str pe_int)) pa_nil)) (pe_slice sl_list (pv 6) po_none (po_some pe_int)) (nomark _)) (pe_and (pe_cmpR (op_eqD hu) (pe_call GTK hr5 (by rfl) T.k.gTK T.k.kTK bTK .nil passL (pa_cons pe_str pa_nil)) (pe_lst pa_nil) (nomark _)) (pe_one (pe_cmpR (op_eqD hu) (pe_call GTK hr5 (by rfl) T.k.gTK T.k.kTK bTK .nil passL (pa_cons pe_str pa_nil)) (pv 6) (nomark _)))))))))), ?_⟩
    let S0 : L2.St → Hp → Prop := fun σ H' => ∃ y1 y2 y3 y4 y5 y6 y7 y8, σ = [some (.ref a), y1, y2, y3, y4, y5, y6, y7, y8, none] ∧ Same H H'
    refine ⟨_, rfl, a, _, rfl, .inl hS, _, _, rfl, _, _, rfl, _, rfl, ?_, ?_, for_range (lo := 0) (fun _ => S0) ⟨_, _, _, _, _, _, _, _, rfl, Same.refl H⟩ ?_ ?_⟩
    · split <;> split <;> omega
    · split <;> split <;> omega
    · intro i σ H0 hi h0
      obtain ⟨y1, y2, y3, y4, y5, y6, y7, y8, rfl, sm0⟩ := h0
      have hi3 : i < 4 := by
        revert hi
        split <;> split <;> omega
      refine ⟨_, rfl, _, rfl, a, ns, (0 + (i : Int)), rfl, sm0.seq hS, hlen, hbits, by omega, by omega, fun p A B hp okP => ?_⟩
      have s1 := same_new (o := .lst [.int A, .int B]) hp
      have p1 : PoolAt (upd H0 p (.lst [.int A, .int B])) p := ⟨A, B, okP, upd_same⟩
      generalize upd H0 p (.lst [.int A, .int B]) = H1 at s1 p1 ⊢
      -- four rows
      refine ⟨4, rfl, by decide, by decide, for_range (lo := 0) (n := 4) (fun _ σ H' => ∃ y3 y4 y5 y6 y7 y8, σ = [some (.ref a), some (.int (0 + (i : Int))), some (.ref p), y3, y4, y5, y6, y7, y8, none] ∧ KeepBut p H1 H' ∧ PoolAt H' p) ⟨_, _, _, _, _, _, rfl, KeepBut.refl _ _, p1⟩ ?_ ?_⟩
      · rintro j σ H2 hj ⟨y3, y4, y5, y6, y7, y8, rfl, k2, p2⟩
        -- the tokens
        refine take_ok (m := 31) rfl p2 (by decide) (by decide) fun r H3 hr31 k3 p3 => ⟨(r : Int), rfl, by omega, by omega, fun D hD => ?_⟩
        have nDp : D ≠ p := (p3.ne hD).symm
        refine lc_range (lo := 0) (n := r) (fun i H' => ∃ qs ks, H' D = some (.lst (qs.map V.ref)) ∧ Paired (TokAt H') qs ks ∧ qs.length = i ∧ KeepBut p H3 H' ∧ PoolAt H' p) ⟨[], [], upd_same, .nil, rfl, KeepBut.same (same_new hD), p3.same (same_new hD)⟩ ?_ ?_
        · rintro m H' hm ⟨qs, ks, hD', pq, rfl, kk, pp⟩
          refine ⟨rfl, _, rfl, p, rfl, pp, fun H'' b k t k5 p5 hb g hl => ?_⟩
          have hD2 := k5 D _ nDp hD'
          have nbD : b ≠ D := fun z => by
            rw [z, hD2] at hb
            cases hb
          refine ⟨_, hD2, by rw [List.length_map]; exact small1000 (by omega), qs ++ [b], ks ++ [(k, t)], ?_, paired_snoc (paired_imp pq fun c tk z => ⟨?_, z.2⟩) ⟨?_, g, hl⟩, by simp, fun c o n1 z => ?_, ?_⟩
          · rw [upd_same, List.map_append]
            rfl
          · have n1 : c ≠ p := fun y => by
              obtain ⟨_, _, _, e⟩ := pp
              have z1 := z.1
              rw [y, e] at z1
              cases z1
            have n2 : c ≠ D := fun y => by
              have z1 := z.1
              rw [y, hD'] at z1
              cases z1
            rw [upd_ne n2]
            exact k5 c _ n1 z.1
          · rw [upd_ne nbD]
            exact hb
          · have n2 : c ≠ D := fun y => by
              rw [y, hD] at z
              cases z
            rw [upd_ne n2]
            exact k5 c o n1 (kk c o n1 z)
          · obtain ⟨a', b', ok', e'⟩ := p5
            exact ⟨a', b', ok', by rw [upd_ne nDp.symm]; exact e'⟩
        · rintro H4 ⟨qs, ks, hD', pq, hlen', kk, p4⟩
          -- the text
          refine ⟨_, rfl, _, rfl, p, D, qs, ks, rfl, p4, hD', pq, by omega, fun H5 R told x ts last rs k5 p5 hR htold pr wr hx => ?_⟩
          refine ⟨R, _, rfl, .inl (.inl hR), rfl, _, _, rfl, _, _, rfl, rfl, ?_⟩
          obtain ⟨e1, e2, e3⟩ := row_end wr
          have okT := toks_shaped (wr_ok wr)
          have e4 : Str.ofString "\n# end" = S [10, 35, 32, 101, 110, 100] := by decide +kernel
          have lf : Str.ofString "\n" = S [10] := by decide +kernel
          refine ⟨_, rfl, nil1 (toks_sp (by omega) e1 fun H6 b6 qs6 sm6 h6 pq6 => ?_)⟩
          have told6 := dp_toks (K := K) (sm6 _ _ htold) (paired_imp pr fun c tk z => sm6 _ _ z)
          refine ⟨_, rfl, _, _, dp_toks h6 pq6, told6, okT, okT, false, by rw [SeqAt.eqv_refl _ (SeqAt.canLay_of_shaped okT)]; rfl, iteF ?_⟩
          refine ⟨_, rfl, S x, S [10, 35, 32, 101, 110, 100], rfl, by rw [e4], ?_, ?_⟩
          · rw [S_len, S_len]
            exact small (by simp; omega)
          rw [S_add]
          refine nil1 (toks_sp (by simp; omega) e2 fun H7 b7 qs7 sm7 h7 pq7 => ?_)
          have told7 := dp_toks (K := K) (sm7 _ _ (sm6 _ _ htold)) (paired_imp pr fun c tk z => sm7 _ _ (sm6 _ _ z))
          refine ⟨_, rfl, _, _, dp_toks h7 pq7, told7, okT, okT, false, by rw [SeqAt.eqv_refl _ (SeqAt.canLay_of_shaped okT)]; rfl, iteF ?_⟩
          -- a wrong piece
          have ea : Str.ofString "a" = S [97] := by decide +kernel
          have eq : Str.ofString "'" = S [39] := by decide +kernel
          have e9 : Str.ofString "9" = S [57] := by decide +kernel
          have bl : Str.ofString " " = S [32] := by decide +kernel
          refine ⟨97, 41, by rw [ea], rfl, by decide, by decide, S [39], S (List.replicate 41 97), by rw [eq], rfl, by decide, ?_⟩
          rw [S_add]
          refine ⟨S ([39] ++ List.replicate 41 97), S [39], rfl, by rw [eq], by decide, ?_⟩
          rw [S_add]
          refine ⟨57, 19, by rw [e9], rfl, by decide, by decide, ?_⟩
          refine ⟨97, 21, by rw [ea], rfl, by decide, by decide, ?_⟩
          refine ⟨(by show 13 ≤ sizeLine; decide), fun l hl => ?_⟩
          have p7 : PoolAt H7 p := (p5.same sm6).same sm7
          have sl := same_new (o := .lst ((wrongL.map S).map V.str)) hl
          have el : ([V.str "A", V.str "$", V.str "'a", V.str (S ([39] ++ List.replicate 41 97 ++ [39])), V.str (S (List.replicate 19 57)), V.str "01", V.str "1a", V.str "_a", V.str (S (List.replicate 21 97)), V.str "!", V.str "\t", V.str "'a\n'", V.str "\""] : List V) = (wrongL.map S).map V.str := congrArg (List.map V.str) strs_wrong
          refine ⟨_, rfl, ?_⟩
          show tCall spTake [] E0 _ _ (upd H7 l (.lst [V.str "A", V.str "$", V.str "'a", V.str (S ([39] ++ List.replicate 41 97 ++ [39])), V.str (S (List.replicate 19 57)), V.str "01", V.str "1a", V.str "_a", V.str (S (List.replicate 21 97)), V.str "!", V.str "\t", V.str "'a\n'", V.str "\""])) _
          rw [el]
          refine take_ok (m := 13) rfl (p7.same sl) (by decide) (by decide) fun i' H9 hi' k9 p9 => ?_
          obtain ⟨t, ht, et⟩ := pick (l := wrongL) hi'
          have lp : l ≠ p := (p7.ne hl).symm
          refine ⟨l, _, (i' : Int), _, rfl, rfl, .inl (.inl (k9 l _ lp upd_same)), atI_nat et, ?_⟩
          have lt := wrong_len t ht
          obtain ⟨w1, w2⟩ := e3 t ht
          -- [at(..), at(..)]
          refine ⟨_, rfl, S x, S [10], rfl, by rw [lf], by rw [S_len, S_len]; exact small (by simp; omega), ?_⟩
          rw [S_add]
          refine ⟨_, rfl, S (x ++ [10]), S t, rfl, rfl, by rw [S_len, S_len]; exact small (by simp; omega), ?_⟩
          rw [S_add]
          refine nil1 ⟨_, rfl, .inl ⟨_, rfl, by simp; omega, _, w1, fun H10 sm10 => ?_⟩⟩
          refine ⟨_, rfl, S x, S [10], rfl, by rw [lf], by rw [S_len, S_len]; exact small (by simp; omega), ?_⟩
          rw [S_add]
          refine ⟨_, rfl, S (x ++ [10]), S t, rfl, rfl, by rw [S_len, S_len]; exact small (by simp; omega), ?_⟩
          rw [S_add]
          refine ⟨S (x ++ [10] ++ t), S [32], rfl, by rw [bl], by rw [S_len, S_len]; exact small (by simp; omega), ?_⟩
          rw [S_add]
          refine nil1 ⟨_, rfl, .inl ⟨_, rfl, by simp; omega, _, w2, fun H11 sm11 => ?_⟩⟩
          refine ⟨(by show 2 ≤ sizeLine; decide), fun l2 hl2 => ?_⟩
          have s12 := same_new (o := .lst [V.str (toString ((x.length + 1 : Nat) : Int)), V.str (toString ((x.length + 1 : Nat) : Int))]) hl2
          have en : (((S x).length : Nat) : Int) + 1 = ((x.length + 1 : Nat) : Int) := by
            rw [S_len]
            rfl
          refine ⟨_, rfl, S x, rfl, by rw [S_len]; exact small (by omega), _, _, rfl, rfl, ?_⟩
          refine ⟨((S x).length : Int) + 1, rfl, ?_, ?_⟩
          · rw [en]
            have z : ((x.length + 1 : Nat) : Int).natAbs < 2 ^ 13 := by omega
            exact Nat.lt_of_lt_of_le (PySem.Flt.log2_lt_of (by decide) z) (by decide)
          rw [en]
          refine ⟨(by show 1 ≤ sizeLine; decide), fun l3 hl3 => ?_⟩
          have s13 := same_new (o := .lst [V.str (toString ((x.length + 1 : Nat) : Int))]) hl3
          refine ⟨l3, 2, _, rfl, rfl, upd_same, by decide, by decide, (by show 2 ≤ sizeLine; decide), fun l4 hl4 => ?_⟩
          have s14 := same_new (o := .lst (List.replicate (2 : Int).toNat [V.str (toString ((x.length + 1 : Nat) : Int))]).flatten) hl4
          have sh := two_shaped (toString ((x.length + 1 : Nat) : Int))
          refine ⟨_, _, .lst (.inl (.inl (s14 _ _ (s13 _ _ upd_same)))) (.cons (.str _) (.cons (.str _) .nil)), .lst (.inl (.inl upd_same)) (.cons (.str _) (.cons (.str _) .nil)), sh, sh, false, by rw [SeqAt.eqv_refl _ (SeqAt.canLay_of_shaped sh)]; rfl, iteF ?_⟩
          have back := (sm6.trans sm7).trans sl
          exact ⟨_, _, _, _, _, _, rfl, (((((k2.trans k3).trans kk).trans k5).trans (KeepBut.same back)).trans k9).trans (KeepBut.same (sm10.trans (sm11.trans (s12.trans (s13.trans s14))))), p9.same (sm10.trans (sm11.trans (s12.trans (s13.trans s14))))⟩
      · rintro σ H2 ⟨y3, y4, y5, y6, y7, y8, rfl, k2, p2⟩
        exact ⟨_, _, _, _, _, _, _, _, rfl, Same.keep (sm0.trans s1) (sm0.free hp) k2⟩
    · rintro σ H0 ⟨y1, y2, y3, y4, y5, y6, y7, y8, rfl, sm0⟩
      have ea : Str.ofString "a" = S [97] := by decide +kernel
      have bl : Str.ofString " " = S [32] := by decide +kernel
      refine ⟨(by show 1 ≤ sizeLine; decide), fun p1 hp1 => ?_⟩
      refine ⟨(by show 1 ≤ sizeLine; decide), fun p2 hp2 => ?_⟩
      refine fun p3 hp3 => ?_
      refine ⟨32, 5000, by rw [bl], rfl, by decide, by decide, ?_⟩
      refine ⟨S [97], S (List.replicate 5000 32), by rw [ea], rfl, by rw [S_len, S_len, List.length_replicate]; exact small (by decide), ?_⟩
      rw [S_add]
      refine ⟨32, 5001, by rw [bl], rfl, by decide, by decide, ?_⟩
      refine ⟨(by show 8 ≤ sizeLine; decide), fun l hl => ?_⟩
      let xs : List V := [.non, .int 5, .ref p1, .ref p2, .bl true, .ref p3, .str (S ([97] ++ List.replicate 5000 32)), .str (S (List.replicate 5001 32))]
      let HL : Hp := upd (upd (upd (upd H0 p1 (.lst [.str (Str.ofString "a")])) p2 (.tup [.str (Str.ofString "a")])) p3 (.dK [])) l (.lst xs)
      have s1 : Same H0 (upd H0 p1 (.lst [.str (Str.ofString "a")])) := same_new hp1
      have s2 := s1.trans (same_new (o := .tup [.str (Str.ofString "a")]) hp2)
      have s3 := s2.trans (same_new (o := .dK []) hp3)
      have s4 : Same H0 HL := s3.trans (same_new (o := .lst xs) hl)
      have q1 : HL p1 = some (.lst [.str (Str.ofString "a")]) := same_new hl _ _ (same_new hp3 _ _ (same_new hp2 _ _ upd_same))
      have q2 : HL p2 = some (.tup [.str (Str.ofString "a")]) := same_new hl _ _ (same_new hp3 _ _ upd_same)
      have q3 : HL p3 = some (.dK []) := same_new hl _ _ upd_same
      have q4 : HL l = some (.lst xs) := upd_same
      refine ⟨l, rfl, ⟨xs, .inl (.inl q4)⟩, ?_⟩
      refine for_it (walk_list (xs := xs)) (fun _ σ H' => ∃ y1 y2 y3 y4 y5 y6 y7 y8, σ = [some (.ref a), y1, y2, y3, y4, y5, y6, y7, y8, none] ∧ Same HL H') ⟨_, _, _, _, _, _, _, _, rfl, Same.refl _⟩ ?_ ?_ ?_
      · rintro i σ H1 _ ⟨_, _, _, _, _, _, _, _, _, sm⟩
        exact .inl (.inl (sm _ _ q4))
      · rintro i x σ H1 H2 hi ⟨y1, y2, y3, y4, y5, y6, y7, y8, rfl, sm⟩ ⟨e12, hx⟩
        subst e12
        have at_ : ∀ (Q : VK) (E : XK), (∀ H3, Same H2 H3 → Q (.str "None") H3) → spAt K [x] H2 Q E := by
          intro Q E q
          refine ⟨x, rfl, ?_⟩
          have hi8 : i < 8 := hi
          obtain rfl | rfl | rfl | rfl | rfl | rfl | rfl | rfl : i = 0 ∨ i = 1 ∨ i = 2 ∨ i = 3 ∨ i = 4 ∨ i = 5 ∨ i = 6 ∨ i = 7 := by omega
          · cases hx
            exact .inr (.inr ⟨_, .base .non, kit_ty (by decide +kernel), q⟩)
          · cases hx
            exact .inr (.inr ⟨_, .base (.int _), kit_ty (by decide +kernel), q⟩)
          · cases hx
            exact .inr (.inr ⟨_, .base (.lst (sm _ _ q1)), kit_ty (by decide +kernel), q⟩)
          · cases hx
            exact .inr (.inr ⟨_, .base (.tup (sm _ _ q2)), kit_ty (by decide +kernel), q⟩)
          · cases hx
            exact .inr (.inr ⟨_, .base (.bl _), kit_ty (by decide +kernel), q⟩)
          · cases hx
            exact .inr (.inr ⟨_, .base (.dK (sm _ _ q3)), kit_ty (by decide +kernel), q⟩)
          · cases hx
            exact .inr (.inl ⟨_, rfl, by rw [List.length_append, List.length_replicate]; decide, by rw [List.length_append, List.length_replicate]; decide, q⟩)
          · cases hx
            exact .inr (.inl ⟨_, rfl, by rw [List.length_replicate]; decide, by rw [List.length_replicate]; decide, q⟩)
        refine ⟨_, rfl, nil1 (at_ _ _ fun H3 sm3 => ?_)⟩
        refine ⟨rfl, false, by decide +kernel, iteF ?_⟩
        exact ⟨_, _, _, _, _, _, _, _, rfl, sm.trans sm3⟩
      · rintro σ H1 ⟨y1, y2, y3, y4, y5, y6, y7, y8, rfl, sm⟩
        refine ⟨(by show 3 ≤ sizeLine; decide), fun t1 ht1 => ?_⟩
        refine ⟨(by show 3 ≤ sizeLine; decide), fun t2 ht2 => ?_⟩
        refine ⟨(by show 3 ≤ sizeLine; decide), fun t3 ht3 => ?_⟩
        refine ⟨(by show 3 ≤ sizeLine; decide), fun t4 ht4 => ?_⟩
        refine ⟨(by show 4 ≤ sizeLine; decide), fun b hb => ?_⟩
        let ts : List Tk := [⟨.name, [97], 0⟩, ⟨.sign, [60, 61], 1⟩, ⟨.sign, [61], 3⟩, ⟨.name, [98], 4⟩]
        let H5 : Hp := upd (upd (upd (upd (upd H1 t1 (.tup [.str "name", .str "a", .int 0])) t2 (.tup [.str "sign", .str "<=", .int 1])) t3 (.tup [.str "sign", .str "=", .int 3])) t4 (.tup [.str "name", .str "b", .int 4])) b (.lst [.ref t1, .ref t2, .ref t3, .ref t4])
        have q5 : H5 b = some (.lst (([t1, t2, t3, t4] : List Addr).map V.ref)) := upd_same
        have q1' : H5 t1 = some (.tup [.str "name", .str "a", .int 0]) := same_new hb _ _ (same_new ht4 _ _ (same_new ht3 _ _ (same_new ht2 _ _ upd_same)))
        have q2' : H5 t2 = some (.tup [.str "sign", .str "<=", .int 1]) := same_new hb _ _ (same_new ht4 _ _ (same_new ht3 _ _ upd_same))
        have q3' : H5 t3 = some (.tup [.str "sign", .str "=", .int 3]) := same_new hb _ _ (same_new ht4 _ _ upd_same)
        have q4' : H5 t4 = some (.tup [.str "name", .str "b", .int 4]) := same_new hb _ _ upd_same
        have en : Str.ofString "name" = S (kindL .name) := by decide +kernel
        have es : Str.ofString "sign" = S (kindL .sign) := by decide +kernel
        have eb : Str.ofString "b" = S [98] := by decide +kernel
        have el : Str.ofString "<=" = S [60, 61] := by decide +kernel
        have ee : Str.ofString "=" = S [61] := by decide +kernel
        have k1 : TkAt H5 t1 ⟨.name, [97], 0⟩ := by
          show H5 t1 = some (.tup [.str (S (kindL .name)), .str (S [97]), .int ((0 : Nat) : Int)])
          rw [q1', en, ea]
          rfl
        have pt : Paired (TkAt H5) [t1, t2, t3, t4] ts := by
          refine .cons k1 (.cons ?_ (.cons ?_ (.cons ?_ .nil)))
          · show H5 t2 = some (.tup [.str (S (kindL .sign)), .str (S [60, 61]), .int ((1 : Nat) : Int)])
            rw [q2', es, el]
            rfl
          · show H5 t3 = some (.tup [.str (S (kindL .sign)), .str (S [61]), .int ((3 : Nat) : Int)])
            rw [q3', es, ee]
            rfl
          · show H5 t4 = some (.tup [.str (S (kindL .name)), .str (S [98]), .int ((4 : Nat) : Int)])
            rw [q4', en, eb]
            rfl
        have told5 := dp_toks (K := K) q5 pt
        have sh5 : SeqAt.shaped (.list (ts.map tkData)) = true := toks_shaped (by decide)
        have sh1 : SeqAt.shaped (.list (([⟨.name, [97], 0⟩] : List Tk).map tkData)) = true := toks_shaped (by decide)
        have long : ([97] ++ List.replicate 4999 32 : List Nat).length ≤ 5000 := by rw [List.length_append, List.length_replicate]; decide
        refine ⟨32, 4999, by rw [bl], rfl, by decide, by decide, ?_⟩
        refine ⟨S [97], S (List.replicate 4999 32), by rw [ea], rfl, by rw [S_len, S_len, List.length_replicate]; exact small (by decide), ?_⟩
        rw [S_add]
        refine nil1 (toks_sp long (sc_a 4998) fun H6 b6 qs6 sm6 h6 pq6 => ?_)
        have told6 := dp_toks (K := K) h6 pq6
        refine ⟨_, rfl, 1, rfl, b, _, rfl, .inl (.inl (sm6 _ _ q5)), fun p hp => ?_⟩
        have sp := same_new (o := .lst (cutV (List.map V.ref [t1, t2, t3, t4]) none (some 1))) hp
        have toldp : Dp K (upd H6 p (.lst (cutV (List.map V.ref [t1, t2, t3, t4]) none (some 1)))) (.ref p) (.list (([⟨.name, [97], 0⟩] : List Tk).map tkData)) := 
          dp_toks (qs := [t1]) upd_same (by exact .cons (sp _ _ (sm6 _ _ k1)) .nil)
        refine ⟨_, _, dp_toks (sp _ _ h6) (paired_imp pq6 fun c tk z => sp _ _ z), toldp, sh1, sh1, true, by rw [SeqAt.eqv_refl _ (SeqAt.canLay_of_shaped sh1)], ?_⟩
        have e0 : Str.ofString "" = S [] := by decide +kernel
        have eab : Str.ofString "a<==b" = S [97, 60, 61, 61, 98] := by decide +kernel
        refine iteT ?_
        have shn : SeqAt.shaped (.list (([] : List Tk).map tkData)) = true := toks_shaped (by decide)
        refine and_1 (op_1 (call_1 (toks_spE e0 (by decide) (sc_nil 0) fun H7 b7 qs7 sm7 h7 pq7 => ?_)))
        refine ⟨(by show 0 ≤ sizeLine; decide), fun pe hpe => ?_⟩
        have sm8 := same_new (o := .lst []) hpe
        refine ⟨_, _, dp_toks (sm8 _ _ h7) (paired_imp pq7 fun c tk z => sm8 _ _ z), dp_toks (qs := []) (ts := []) upd_same .nil, shn, shn, true, by rw [SeqAt.eqv_refl _ (SeqAt.canLay_of_shaped shn)], ?_⟩
        refine iteT ?_
        refine op_1 (call_1 (toks_spE eab (by decide) sc_ab fun H9 b9 qs9 sm9 h9 pq9 => ?_))
        have smA := (((sm6.trans sp).trans sm7).trans sm8).trans sm9
        refine ⟨_, rfl, _, _, dp_toks h9 pq9, dp_toks (smA _ _ q5) (paired_imp pt fun c tk z => smA _ _ z), sh5, sh5, ?_⟩
        rw [SeqAt.eqv_refl _ (SeqAt.canLay_of_shaped sh5)]
        exact q _
end
end KB
namespace KB
open PySem PySem.Spec PyProof.Rows L2
/-! ### the end -/
theorem sub_exc {K : PySem.W.Frag} {C : Addr} {nm q : Str} {N : Addr} {bs bm : List Value} {sn : List Str} {sub : List Value} {ab : Bool} {col : Option Bool} {dd : Option Addr} {m0 m1 m2 m3 m5 : Option Value}
    (xL : K.lookup C = some (excClassObj nm q C N bs bm true sn sub ab col dd m0 m1 m2 m3 m5 "ValueError.__new__")) (base : Value) : PySem.W.subIn K (.ref C) base = some ((Value.ref C :: bm).contains base) := by
  have hcl : PySem.W.clsIn K C = some { name := nm, bases := bs, mro := .ref C :: bm, ns := N, qualname := q, hasDict := true, slotNames := sn, subclasses := sub, abstract := ab, collection := col, hasDel := false } := by
    unfold PySem.W.clsIn
    rw [xL] <;> rfl
  show PySem.W.mroIn K C base = _
  unfold PySem.W.mroIn
  rw [hcl, Option.bind_some]
  rfl
theorem strs_sigs : (["==", "<=", "(", ")", "[", "]", "{", "}", ",", ";", ":", ".", "=", "<", "+", "-", "*"] : List Str) = signsL.map S := by decide +kernel
theorem strs_wrds : (["import", "from", "as", "def", "class", "global", "nonlocal", "if", "else", "while", "for", "in", "return", "break", "continue", "pass", "and", "or", "not", "fn", "none", "true", "false"] : List Str) = wordsL.map S := by decide +kernel
theorem two_map (l : List (List Nat)) : (l.map fun s => V.str (S s)) = (l.map S).map V.str := by
  rw [List.map_map]
  rfl
set_option maxHeartbeats 8000000 in
theorem all_mk {P : Program} {w : World} {K : PySem.W.Frag} {mg : Str → Option Value} {h : Heap} {fa cK C aS aW fI fIN fNU fRE fLE fTE fRK fTO fTK fP fT fTok fBla fMus fWri fAt fL : Addr}
    {odI anI odIN anIN odNU anNU odRE anRE odLE anLE odTE anTE odRK anRK odTO anTO odTK anTK odP anP odT anT odTok anTok odBla anBla odMus anMus odWri anWri odAt anAt odL anL : Option Addr} {slI slIN slNU slRE slLE slTE slRK slTO slTK slP slT slTok slBla slMus slWri slAt slL : Array (Option Value)} {ocI kVI dcI pmI cdI ctI ocIN kVIN dcIN pmIN cdIN ctIN ocNU kVNU dcNU pmNU cdNU ctNU ocRE kVRE dcRE pmRE cdRE ctRE ocLE kVLE dcLE pmLE cdLE ctLE ocTE kVTE dcTE pmTE cdTE ctTE ocRK kVRK dcRK pmRK cdRK ctRK ocTO kVTO dcTO pmTO cdTO ctTO ocTK kVTK dcTK pmTK cdTK ctTK ocP kVP dcP pmP cdP ctP ocT kVT dcT pmT cdT ctT ocTok kVTok dcTok pmTok cdTok ctTok ocBla kVBla dcBla pmBla cdBla ctBla ocMus kVMus dcMus pmMus cdMus ctMus ocWri kVWri dcWri pmWri cdWri ctWri ocAt kVAt dcAt pmAt cdAt ctAt ocL kVL dcL pmL cdL ctL : Value}
    {nm0 q0 : Str} {N0 : Addr} {bs0 sub0 : List Value} {sn0 : List Str} {ab0 : Bool} {col0 : Option Bool} {dd0 : Option Addr} {ma0 mb0 mc0 md0 me0 : Option Value}
    {odS odW : Option Addr} {slS slW : Array (Option Value)} {nS nW : Nat} {s0 s1 s2 s3 s4 s5 s6 s7 s8 s9 s10 s11 s12 s13 s14 s15 s16 w0 w1 w2 w3 w4 w5 w6 w7 w8 w9 w10 w11 w12 w13 w14 w15 w16 w17 w18 w19 w20 w21 w22 tA tB tC tD tE tF tG tH : Tok}
    (X : K.In h) (G : h.Ns mainGlobals mg) (hfa : mg "law" = some (.ref fa))
    (aC0 : PySem.W.nsIn K mainGlobals "BadText" = some (some (.ref C)))
    (xL0 : K.lookup C = some (excClassObj nm0 q0 C N0 bs0 [.ref cK, .type "ValueError", .type "Exception", .type "BaseException", .type "object"] true sn0 sub0 ab0 col0 dd0 ma0 mb0 mc0 md0 me0 "ValueError.__new__"))
    (sa0 : PySem.W.findIn K (.ref C) "__setattr__" = some (some (.builtin "object.__setattr__")))
    (ga0 : PySem.W.findIn K (.ref C) "__getattribute__" = some (some (.builtin "BaseException.__getattribute__")))
    (gg0 : PySem.W.findIn K (.ref C) "__getattr__" = some none)
    (n0 : PySem.W.findIn K (.ref C) "at" = some none)
    (i0 : PySem.W.findIn K (.ref C) "__init__" = some (some (.ref fI)))
    (t0 : PySem.W.typeIn K (.ref fI) = some (.type "function"))
    (kC0 : PySem.W.keepIn K (.ref C) = true)
    (tC0 : PySem.W.typeIn K (.ref C) = some (.type "type"))
    (hC0 : PySem.W.hasDictIn K C = true)
    (lI_ : K.lookup fI = some ⟨ocI, odI, .func (PySem.W.fnOf "__init__" "BadText.__init__" (defArgs sI0) (defBody sI0) (defScope sI0) .none kVI dcI pmI anI cdI ctI), slI⟩)
    (cI_ : PySem.W.codeIn K cdI "BadText.__init__" = true)
    (kI_ : PySem.W.keepIn K (.ref fI) = true)
    (aIN_ : PySem.W.nsIn K mainGlobals "is_name" = some (some (.ref fIN)))
    (lIN_ : K.lookup fIN = some ⟨ocIN, odIN, .func (PySem.W.fnOf "is_name" "is_name" (defArgs sIN) (defBody sIN) (defScope sIN) .none kVIN dcIN pmIN anIN cdIN ctIN), slIN⟩)
    (cIN_ : PySem.W.codeIn K cdIN "is_name" = true)
    (kIN_ : PySem.W.keepIn K (.ref fIN) = true)
    (aNU_ : PySem.W.nsIn K mainGlobals "_is_number" = some (some (.ref fNU)))
    (lNU_ : K.lookup fNU = some ⟨ocNU, odNU, .func (PySem.W.fnOf "_is_number" "_is_number" (defArgs sNU) (defBody sNU) (defScope sNU) .none kVNU dcNU pmNU anNU cdNU ctNU), slNU⟩)
    (cNU_ : PySem.W.codeIn K cdNU "_is_number" = true)
    (kNU_ : PySem.W.keepIn K (.ref fNU) = true)
    (aRE_ : PySem.W.nsIn K mainGlobals "_run_end" = some (some (.ref fRE)))
    (lRE_ : K.lookup fRE = some ⟨ocRE, odRE, .func (PySem.W.fnOf "_run_end" "_run_end" (defArgs sRE) (defBody sRE) (defScope sRE) .none kVRE dcRE pmRE anRE cdRE ctRE), slRE⟩)
    (cRE_ : PySem.W.codeIn K cdRE "_run_end" = true)
    (kRE_ : PySem.W.keepIn K (.ref fRE) = true)
    (aLE_ : PySem.W.nsIn K mainGlobals "_line_end" = some (some (.ref fLE)))
    (lLE_ : K.lookup fLE = some ⟨ocLE, odLE, .func (PySem.W.fnOf "_line_end" "_line_end" (defArgs sLE) (defBody sLE) (defScope sLE) .none kVLE dcLE pmLE anLE cdLE ctLE), slLE⟩)
    (cLE_ : PySem.W.codeIn K cdLE "_line_end" = true)
    (kLE_ : PySem.W.keepIn K (.ref fLE) = true)
    (aTE_ : PySem.W.nsIn K mainGlobals "_text_end" = some (some (.ref fTE)))
    (lTE_ : K.lookup fTE = some ⟨ocTE, odTE, .func (PySem.W.fnOf "_text_end" "_text_end" (defArgs sTE) (defBody sTE) (defScope sTE) .none kVTE dcTE pmTE anTE cdTE ctTE), slTE⟩)
    (cTE_ : PySem.W.codeIn K cdTE "_text_end" = true)
    (kTE_ : PySem.W.keepIn K (.ref fTE) = true)
    (aRK_ : PySem.W.nsIn K mainGlobals "_run_kind" = some (some (.ref fRK)))
    (lRK_ : K.lookup fRK = some ⟨ocRK, odRK, .func (PySem.W.fnOf "_run_kind" "_run_kind" (defArgs sRK) (defBody sRK) (defScope sRK) .none kVRK dcRK pmRK anRK cdRK ctRK), slRK⟩)
    (cRK_ : PySem.W.codeIn K cdRK "_run_kind" = true)
    (kRK_ : PySem.W.keepIn K (.ref fRK) = true)
    (aTO_ : PySem.W.nsIn K mainGlobals "_token" = some (some (.ref fTO)))
    (lTO_ : K.lookup fTO = some ⟨ocTO, odTO, .func (PySem.W.fnOf "_token" "_token" (defArgs sTO) (defBody sTO) (defScope sTO) .none kVTO dcTO pmTO anTO cdTO ctTO), slTO⟩)
    (cTO_ : PySem.W.codeIn K cdTO "_token" = true)
    (kTO_ : PySem.W.keepIn K (.ref fTO) = true)
    (aTK_ : PySem.W.nsIn K mainGlobals "tokens" = some (some (.ref fTK)))
    (lTK_ : K.lookup fTK = some ⟨ocTK, odTK, .func (PySem.W.fnOf "tokens" "tokens" (defArgs sTK) (defBody sTK) (defScope sTK) .none kVTK dcTK pmTK anTK cdTK ctTK), slTK⟩)
    (cTK_ : PySem.W.codeIn K cdTK "tokens" = true)
    (kTK_ : PySem.W.keepIn K (.ref fTK) = true)
    (aP_ : PySem.W.nsIn K mainGlobals "_law_pool" = some (some (.ref fP)))
    (lP_ : K.lookup fP = some ⟨ocP, odP, .func (PySem.W.fnOf "_law_pool" "_law_pool" (defArgs sPool) (defBody sPool) (defScope sPool) .none kVP dcP pmP anP cdP ctP), slP⟩)
    (cP_ : PySem.W.codeIn K cdP "_law_pool" = true)
    (kP_ : PySem.W.keepIn K (.ref fP) = true)
    (aT_ : PySem.W.nsIn K mainGlobals "_law_take" = some (some (.ref fT)))
    (lT_ : K.lookup fT = some ⟨ocT, odT, .func (PySem.W.fnOf "_law_take" "_law_take" (defArgs sTake) (defBody sTake) (defScope sTake) .none kVT dcT pmT anT cdT ctT), slT⟩)
    (cT_ : PySem.W.codeIn K cdT "_law_take" = true)
    (kT_ : PySem.W.keepIn K (.ref fT) = true)
    (aTok_ : PySem.W.nsIn K mainGlobals "_law_token" = some (some (.ref fTok)))
    (lTok_ : K.lookup fTok = some ⟨ocTok, odTok, .func (PySem.W.fnOf "_law_token" "_law_token" (defArgs sTok) (defBody sTok) (defScope sTok) .none kVTok dcTok pmTok anTok cdTok ctTok), slTok⟩)
    (cTok_ : PySem.W.codeIn K cdTok "_law_token" = true)
    (kTok_ : PySem.W.keepIn K (.ref fTok) = true)
    (aBla_ : PySem.W.nsIn K mainGlobals "_law_blank" = some (some (.ref fBla)))
    (lBla_ : K.lookup fBla = some ⟨ocBla, odBla, .func (PySem.W.fnOf "_law_blank" "_law_blank" (defArgs sBla) (defBody sBla) (defScope sBla) .none kVBla dcBla pmBla anBla cdBla ctBla), slBla⟩)
    (cBla_ : PySem.W.codeIn K cdBla "_law_blank" = true)
    (kBla_ : PySem.W.keepIn K (.ref fBla) = true)
    (aMus_ : PySem.W.nsIn K mainGlobals "_law_must" = some (some (.ref fMus)))
    (lMus_ : K.lookup fMus = some ⟨ocMus, odMus, .func (PySem.W.fnOf "_law_must" "_law_must" (defArgs sMus) (defBody sMus) (defScope sMus) .none kVMus dcMus pmMus anMus cdMus ctMus), slMus⟩)
    (cMus_ : PySem.W.codeIn K cdMus "_law_must" = true)
    (kMus_ : PySem.W.keepIn K (.ref fMus) = true)
    (aWri_ : PySem.W.nsIn K mainGlobals "_law_written" = some (some (.ref fWri)))
    (lWri_ : K.lookup fWri = some ⟨ocWri, odWri, .func (PySem.W.fnOf "_law_written" "_law_written" (defArgs sWri) (defBody sWri) (defScope sWri) .none kVWri dcWri pmWri anWri cdWri ctWri), slWri⟩)
    (cWri_ : PySem.W.codeIn K cdWri "_law_written" = true)
    (kWri_ : PySem.W.keepIn K (.ref fWri) = true)
    (aAt_ : PySem.W.nsIn K mainGlobals "_law_at" = some (some (.ref fAt)))
    (lAt_ : K.lookup fAt = some ⟨ocAt, odAt, .func (PySem.W.fnOf "_law_at" "_law_at" (defArgs sAt) (defBody sAt) (defScope sAt) .none kVAt dcAt pmAt anAt cdAt ctAt), slAt⟩)
    (cAt_ : PySem.W.codeIn K cdAt "_law_at" = true)
    (kAt_ : PySem.W.keepIn K (.ref fAt) = true)
    (aL_ : PySem.W.nsIn K mainGlobals "law" = some (some (.ref fL)))
    (lL_ : K.lookup fL = some ⟨ocL, odL, .func (PySem.W.fnOf "law" "law" (defArgs sLaw) (defBody sLaw) (defScope sLaw) .none kVL dcL pmL anL cdL ctL), slL⟩)
    (cL_ : PySem.W.codeIn K cdL "law" = true)
    (kL_ : PySem.W.keepIn K (.ref fL) = true)
    (g_LETTERS : PySem.W.nsIn K mainGlobals "LETTERS" = some (some (.str "abcdefghijklmnopqrstuvwxyz" tA)))
    (g_DIGITS : PySem.W.nsIn K mainGlobals "DIGITS" = some (some (.str "0123456789" tB)))
    (g_RUN : PySem.W.nsIn K mainGlobals "RUN" = some (some (.str "abcdefghijklmnopqrstuvwxyz0123456789_" tC)))
    (g_BLANKS : PySem.W.nsIn K mainGlobals "BLANKS" = some (some (.str " \n" tD)))
    (g_LONGEST_NAME : PySem.W.nsIn K mainGlobals "LONGEST_NAME" = some (some (.int 20 tE)))
    (g_LONGEST_NUMBER : PySem.W.nsIn K mainGlobals "LONGEST_NUMBER" = some (some (.int 18 tF)))
    (g_LONGEST_TEXT : PySem.W.nsIn K mainGlobals "LONGEST_TEXT" = some (some (.int 40 tG)))
    (g_LONGEST_PROGRAM : PySem.W.nsIn K mainGlobals "LONGEST_PROGRAM" = some (some (.int 5000 tH)))
    (g_SIGNS : PySem.W.nsIn K mainGlobals "SIGNS" = some (some (.ref aS)))
    (g_WORDS : PySem.W.nsIn K mainGlobals "WORDS" = some (some (.ref aW)))
    (l_SIGNS : K.lookup aS = some ⟨.type "tuple", odS, .seq #[.str "==" s0, .str "<=" s1, .str "(" s2, .str ")" s3, .str "[" s4, .str "]" s5, .str "{" s6, .str "}" s7, .str "," s8, .str ";" s9, .str ":" s10, .str "." s11, .str "=" s12, .str "<" s13, .str "+" s14, .str "-" s15, .str "*" s16] nS, slS⟩)
    (l_WORDS : K.lookup aW = some ⟨.type "tuple", odW, .seq #[.str "import" w0, .str "from" w1, .str "as" w2, .str "def" w3, .str "class" w4, .str "global" w5, .str "nonlocal" w6, .str "if" w7, .str "else" w8, .str "while" w9, .str "for" w10, .str "in" w11, .str "return" w12, .str "break" w13, .str "continue" w14, .str "pass" w15, .str "and" w16, .str "or" w17, .str "not" w18, .str "fn" w19, .str "none" w20, .str "true" w21, .str "false" w22] nW, slW⟩)
    (z_range : PySem.W.nsIn K mainGlobals "range" = some none)
    (z_max : PySem.W.nsIn K mainGlobals "max" = some none)
    (z_min : PySem.W.nsIn K mainGlobals "min" = some none)
    (z_len : PySem.W.nsIn K mainGlobals "len" = some none)
    (z_abs : PySem.W.nsIn K mainGlobals "abs" = some none)
    (z_int : PySem.W.nsIn K mainGlobals "int" = some none)
    (z_isinstance : PySem.W.nsIn K mainGlobals "isinstance" = some none)
    (z_repr : PySem.W.nsIn K mainGlobals "repr" = some none)
    (z_str : PySem.W.nsIn K mainGlobals "str" = some none)
    (z_all : PySem.W.nsIn K mainGlobals "all" = some none)
    : ∃ fd : FuncData, (∀ (s : Shared) (v : Value), BindsTo s fd ⟨[v], []⟩ [("_law_script", v)]) ∧ ∀ base : Heap, K.In base → base.Ns mainGlobals mg → FnOk P w K mg base CX0 7 fa fd ["_law_script"] (spLaw K) := by
  have e := hfa.symm.trans (PySem.W.mg_of X G aL_)
  cases e
  have m : ∀ {x : Str} {v : Value}, PySem.W.nsIn K mainGlobals x = some (some v) → mg x = some v := fun q => PySem.W.mg_of X G q
  have z : ∀ {x : Str}, PySem.W.nsIn K mainGlobals x = some none → mg x = none := fun q => PySem.W.mg_none_of X G q
  have E : ErT K mg "BadText" ["at"] C fI := ⟨⟨⟨nm0, q0, N0, bs0, _, sn0, sub0, ab0, col0, dd0, ma0, mb0, mc0, md0, me0, xL0, by rfl⟩, sa0, by rw [sub_exc xL0]; rfl, tC0, kC0⟩, ⟨ga0, gg0, by rw [sub_exc xL0]; rfl, hC0⟩, m aC0, i0, t0, by
    intro f hf
    simp only [List.mem_cons, List.not_mem_nil, or_false] at hf
    rw [hf]
    exact n0, PySem.W.exm_ref (by rw [sub_exc xL0]; rfl) hC0 tC0 (by rw [sub_exc xL0]; simp)⟩
  have sS : ∀ H, SqT K H aS (signsL.map fun s => .str (S s)) := fun H => .inr ⟨_, _, _, l_SIGNS, rfl, rfl, (by show 17 ≤ sizeLine; decide), by
    rw [two_map, ← strs_sigs]
    exact .cons ⟨_, rfl⟩ (.cons ⟨_, rfl⟩ (.cons ⟨_, rfl⟩ (.cons ⟨_, rfl⟩ (.cons ⟨_, rfl⟩ (.cons ⟨_, rfl⟩ (.cons ⟨_, rfl⟩ (.cons ⟨_, rfl⟩ (.cons ⟨_, rfl⟩ (.cons ⟨_, rfl⟩ (.cons ⟨_, rfl⟩ (.cons ⟨_, rfl⟩ (.cons ⟨_, rfl⟩ (.cons ⟨_, rfl⟩ (.cons ⟨_, rfl⟩ (.cons ⟨_, rfl⟩ (.cons ⟨_, rfl⟩ (.nil)))))))))))))))))⟩
  have sW : ∀ H, SqT K H aW (wordsL.map fun s => .str (S s)) := fun H => .inr ⟨_, _, _, l_WORDS, rfl, rfl, (by show 23 ≤ sizeLine; decide), by
    rw [two_map, ← strs_wrds]
    exact .cons ⟨_, rfl⟩ (.cons ⟨_, rfl⟩ (.cons ⟨_, rfl⟩ (.cons ⟨_, rfl⟩ (.cons ⟨_, rfl⟩ (.cons ⟨_, rfl⟩ (.cons ⟨_, rfl⟩ (.cons ⟨_, rfl⟩ (.cons ⟨_, rfl⟩ (.cons ⟨_, rfl⟩ (.cons ⟨_, rfl⟩ (.cons ⟨_, rfl⟩ (.cons ⟨_, rfl⟩ (.cons ⟨_, rfl⟩ (.cons ⟨_, rfl⟩ (.cons ⟨_, rfl⟩ (.cons ⟨_, rfl⟩ (.cons ⟨_, rfl⟩ (.cons ⟨_, rfl⟩ (.cons ⟨_, rfl⟩ (.cons ⟨_, rfl⟩ (.cons ⟨_, rfl⟩ (.cons ⟨_, rfl⟩ (.nil)))))))))))))))))))))))⟩
  have T : TK K mg C fI aS aW fIN fTK fLE fTO fTE fRE fRK fNU := ⟨E, z z_isinstance, z z_len, z z_all, z z_str, ⟨_, tLET ▸ m g_LETTERS⟩, ⟨_, tDIG ▸ m g_DIGITS⟩, ⟨_, tRUN ▸ m g_RUN⟩, ⟨_, tBLA ▸ m g_BLANKS⟩, ⟨_, m g_LONGEST_NAME⟩, ⟨_, m g_LONGEST_NUMBER⟩, ⟨_, m g_LONGEST_TEXT⟩, ⟨_, m g_LONGEST_PROGRAM⟩, m g_SIGNS, m g_WORDS, sS, sW, m aIN_, kIN_, m aTK_, kTK_, m aLE_, kLE_, m aTO_, kTO_, m aTE_, kTE_, m aRE_, kRE_, m aRK_, kRK_, m aNU_, kNU_⟩
  have TW : TLw K mg C fI aS aW fIN fTK fLE fTO fTE fRE fRK fNU fP fT fTok fBla fMus fWri fAt := ⟨T, m aP_, kP_, m aT_, kT_, m aTok_, kTok_, m aBla_, kBla_, m aMus_, kMus_, m aWri_, kWri_, m aAt_, kAt_, z z_range, z z_max, z z_min, z z_len, z z_str, z z_repr⟩
  have FI := fun_mk (st := sI0) lI_ cI_ kI_
  have bI := FI.binds (ps := ["self", "at"]) fun _ _ _ _ _ _ us hl => match us, hl with | [_, _], _ => rfl
  have FIN := fun_mk (st := sIN) lIN_ cIN_ kIN_
  have bIN := FIN.binds (ps := ["value"]) fun _ _ _ _ _ _ us hl => match us, hl with | [_], _ => rfl
  have FNU := fun_mk (st := sNU) lNU_ cNU_ kNU_
  have bNU := FNU.binds (ps := ["run"]) fun _ _ _ _ _ _ us hl => match us, hl with | [_], _ => rfl
  have FRE := fun_mk (st := sRE) lRE_ cRE_ kRE_
  have bRE := FRE.binds (ps := ["text", "at"]) fun _ _ _ _ _ _ us hl => match us, hl with | [_, _], _ => rfl
  have FLE := fun_mk (st := sLE) lLE_ cLE_ kLE_
  have bLE := FLE.binds (ps := ["text", "at"]) fun _ _ _ _ _ _ us hl => match us, hl with | [_, _], _ => rfl
  have FTE := fun_mk (st := sTE) lTE_ cTE_ kTE_
  have bTE := FTE.binds (ps := ["text", "at"]) fun _ _ _ _ _ _ us hl => match us, hl with | [_, _], _ => rfl
  have FRK := fun_mk (st := sRK) lRK_ cRK_ kRK_
  have bRK := FRK.binds (ps := ["run", "at"]) fun _ _ _ _ _ _ us hl => match us, hl with | [_, _], _ => rfl
  have FTO := fun_mk (st := sTO) lTO_ cTO_ kTO_
  have bTO := FTO.binds (ps := ["text", "at"]) fun _ _ _ _ _ _ us hl => match us, hl with | [_, _], _ => rfl
  have FTK := fun_mk (st := sTK) lTK_ cTK_ kTK_
  have bTK := FTK.binds (ps := ["text"]) fun _ _ _ _ _ _ us hl => match us, hl with | [_], _ => rfl
  have FP := fun_mk (st := sPool) lP_ cP_ kP_
  have bP := FP.binds (ps := ["_law_script", "_law_k"]) fun _ _ _ _ _ _ us hl => match us, hl with | [_, _], _ => rfl
  have FT := fun_mk (st := sTake) lT_ cT_ kT_
  have bT := FT.binds (ps := ["_law_pool_here", "_law_many"]) fun _ _ _ _ _ _ us hl => match us, hl with | [_, _], _ => rfl
  have FTok := fun_mk (st := sTok) lTok_ cTok_ kTok_
  have bTok := FTok.binds (ps := ["_law_pool_here"]) fun _ _ _ _ _ _ us hl => match us, hl with | [_], _ => rfl
  have FBla := fun_mk (st := sBla) lBla_ cBla_ kBla_
  have bBla := FBla.binds (ps := ["_law_pool_here"]) fun _ _ _ _ _ _ us hl => match us, hl with | [_], _ => rfl
  have FMus := fun_mk (st := sMus) lMus_ cMus_ kMus_
  have bMus := FMus.binds (ps := ["_law_one", "_law_other"]) fun _ _ _ _ _ _ us hl => match us, hl with | [_, _], _ => rfl
  have FWri := fun_mk (st := sWri) lWri_ cWri_ kWri_
  have bWri := FWri.binds (ps := ["_law_pool_here", "_law_some"]) fun _ _ _ _ _ _ us hl => match us, hl with | [_, _], _ => rfl
  have FAt := fun_mk (st := sAt) lAt_ cAt_ kAt_
  have bAt := FAt.binds (ps := ["_law_text"]) fun _ _ _ _ _ _ us hl => match us, hl with | [_], _ => rfl
  have FL := fun_mk (st := sLaw) lL_ cL_ kL_
  refine ⟨PySem.W.fnOf "law" "law" (defArgs sLaw) (defBody sLaw) (defScope sLaw) .none kVL dcL pmL anL cdL ctL, fun s v => .of_eq rfl, fun base _ _ => ?_⟩
  have GI : FnOk P w K mg base CX0 1 fI _ ["self", "at"] (spI C 1 (look1 "at")) := ok_i0 (k := 0) FI E
  have GIN : FnOk P w K mg base CX0 1 fIN _ ["value"] (spIN) := ok_IN (k := 0) FIN T
  have GNU : FnOk P w K mg base CX0 1 fNU _ ["run"] (spNU) := ok_NU (k := 0) FNU T
  have GRE : FnOk P w K mg base CX0 3 fRE _ ["text", "at"] (spRE) := ok_RE (k := 2) FRE T
  have GLE : FnOk P w K mg base CX0 4 fLE _ ["text", "at"] (spLE) := ok_LE (k := 3) FLE T
  have GTE : FnOk P w K mg base (L2.CX P w) 3 fTE _ ["text", "at"] (spTE C) := ok_TE FTE T GI bI
  have GRK : FnOk P w K mg base (L2.CX P w) 3 fRK _ ["run", "at"] (spRK C) := ok_RK FRK T GI bI GIN bIN GNU bNU
  have GTO : FnOk P w K mg base (L2.CX P w) 4 fTO _ ["text", "at"] (spTO C) := ok_TO FTO T GI bI GTE bTE GRE bRE GRK bRK
  have GTK : FnOk P w K mg base (L2.CX P w) 5 fTK _ ["text"] (spTK K C) := ok_TK FTK T GI bI GLE bLE GTO bTO
  have GP : FnOk P w K mg base CX0 1 fP _ ["_law_script", "_law_k"] (spPool K) := ok_pool (k := 0) FP (z z_len) (z z_abs) (z z_int)
  have GT : FnOk P w K mg base CX0 1 fT _ ["_law_pool_here", "_law_many"] (spTake) := ok_take (k := 0) FT
  have GTok : FnOk P w K mg base CX0 2 fTok _ ["_law_pool_here"] (spTok) := ok_Tok FTok TW GT bT
  have GBla : FnOk P w K mg base CX0 2 fBla _ ["_law_pool_here"] (spBla) := ok_Bla FBla TW GT bT
  have GMus : FnOk P w K mg base CX0 2 fMus _ ["_law_one", "_law_other"] (spMus) := ok_Mus FMus TW
  have GWri : FnOk P w K mg base CX0 3 fWri _ ["_law_pool_here", "_law_some"] (spWri) := ok_Wri FWri TW GBla bBla GMus bMus
  have GAt : FnOk P w K mg base CX0 6 fAt _ ["_law_text"] (spAt K) := ok_At FAt TW GTK bTK
  exact ok_law FL TW GP bP GT bT GTok bTok GWri bWri GTK bTK GAt bAt
theorem walk {l : PySem.W.OpenLaw} {q : Program} {loose : List Str} {XP : (Str → Option Value) → Heap → Prop} {YP : World → Heap → Prop} {d : DefRec} {K : Params → PySem.W.Frag} (hn : l.most = some 63) (hdf : d.params.defaults = [])
    (hY : ∀ (w : World) (h : Heap), YP w h → (K w.params).In h)
    (F : ∀ (w : World) (mg : Str → Option Value) (fa : Addr) (h : Heap), (K w.params).In h → h.Ns mainGlobals mg → mg d.name = some (.ref fa) →
      ∃ fd : FuncData, (∀ (s : Shared) (u : Value), BindsTo s fd ⟨[u], []⟩ [("_law_script", u)]) ∧ ∀ base : Heap, (K w.params).In base → base.Ns mainGlobals mg → FnOk l.prog w (K w.params) mg base CX0 7 fa fd ["_law_script"] (spLaw (K w.params))) :
    PySem.W.WalkO q loose XP YP l.row.toRowW d [] (fun f vs => PySem.call f vs) :=
  L2.walk_ofB (n := 63) (k := 7) (x := "_law_script") (CX := fun _ => CX0) (sp := fun w => spLaw (K w.params)) hn (by decide) hdf ⟨rfl, by decide, by decide⟩ hY F (fun _ _ a ns hl hb _ hS => ⟨a, ns, rfl, hS, hl, hb, fun _ => rfl⟩) fun _ _ _ _ _ z => z
end KB
open PySem PySem.W PyProof.Rows
set_option maxRecDepth 100000 in
set_option maxHeartbeats 0 in
theorem PySem.Challenge.cw_keptbindings_k10_tokens_holds : PySem.Challenge.rw_keptbindings_k10_tokens.Holds := by
  w_on; o_law; k_head; (case hw => w_witness2)
  k_fill
  refine KB.walk (l := PySem.Challenge.rw_keptbindings_k10_tokens) rfl rfl (fun w h Y => PySem.W.kIn_of Y) ?F
  case F =>
    intro w mg fa h KX G hmg
    refine' KB.all_mk KX G hmg ?aC0 ?xL0 ?sa0 ?ga0 ?gg0 ?n0 ?i0 ?t0 ?kC0 ?tC0 ?hC0 ?lI_ ?cI_ ?kI_ ?aIN_ ?lIN_ ?cIN_ ?kIN_ ?aNU_ ?lNU_ ?cNU_ ?kNU_ ?aRE_ ?lRE_ ?cRE_ ?kRE_ ?aLE_ ?lLE_ ?cLE_ ?kLE_ ?aTE_ ?lTE_ ?cTE_ ?kTE_ ?aRK_ ?lRK_ ?cRK_ ?kRK_ ?aTO_ ?lTO_ ?cTO_ ?kTO_ ?aTK_ ?lTK_ ?cTK_ ?kTK_ ?aP_ ?lP_ ?cP_ ?kP_ ?aT_ ?lT_ ?cT_ ?kT_ ?aTok_ ?lTok_ ?cTok_ ?kTok_ ?aBla_ ?lBla_ ?cBla_ ?kBla_ ?aMus_ ?lMus_ ?cMus_ ?kMus_ ?aWri_ ?lWri_ ?cWri_ ?kWri_ ?aAt_ ?lAt_ ?cAt_ ?kAt_ ?aL_ ?lL_ ?cL_ ?kL_ ?g_LETTERS ?g_DIGITS ?g_RUN ?g_BLANKS ?g_LONGEST_NAME ?g_LONGEST_NUMBER ?g_LONGEST_TEXT ?g_LONGEST_PROGRAM ?g_SIGNS ?g_WORDS ?l_SIGNS ?l_WORDS ?z_range ?z_max ?z_min ?z_len ?z_abs ?z_int ?z_isinstance ?z_repr ?z_str ?z_all
    (case aC0 => k_is)
    (case xL0 => k_is)
    (case sa0 => k_is)
    (case ga0 => k_is)
    (case gg0 => k_is)
    (case n0 => k_is)
    (case i0 => k_is)
    (case t0 => k_is)
    (case kC0 => k_is)
    (case tC0 => k_is)
    (case hC0 => k_is)
    (case lI_ => k_is)
    (case cI_ => k_is)
    (case kI_ => k_is)
    (case aIN_ => k_is)
    (case lIN_ => k_is)
    (case cIN_ => k_is)
    (case kIN_ => k_is)
    (case aNU_ => k_is)
    (case lNU_ => k_is)
    (case cNU_ => k_is)
    (case kNU_ => k_is)
    (case aRE_ => k_is)
    (case lRE_ => k_is)
    (case cRE_ => k_is)
    (case kRE_ => k_is)
    (case aLE_ => k_is)
    (case lLE_ => k_is)
    (case cLE_ => k_is)
    (case kLE_ => k_is)
    (case aTE_ => k_is)
    (case lTE_ => k_is)
    (case cTE_ => k_is)
    (case kTE_ => k_is)
    (case aRK_ => k_is)
    (case lRK_ => k_is)
    (case cRK_ => k_is)
    (case kRK_ => k_is)
    (case aTO_ => k_is)
    (case lTO_ => k_is)
    (case cTO_ => k_is)
    (case kTO_ => k_is)
    (case aTK_ => k_is)
    (case lTK_ => k_is)
    (case cTK_ => k_is)
    (case kTK_ => k_is)
    (case aP_ => k_is)
    (case lP_ => k_is)
    (case cP_ => k_is)
    (case kP_ => k_is)
    (case aT_ => k_is)
    (case lT_ => k_is)
    (case cT_ => k_is)
    (case kT_ => k_is)
    (case aTok_ => k_is)
    (case lTok_ => k_is)
    (case cTok_ => k_is)
    (case kTok_ => k_is)
    (case aBla_ => k_is)
    (case lBla_ => k_is)
    (case cBla_ => k_is)
    (case kBla_ => k_is)
    (case aMus_ => k_is)
    (case lMus_ => k_is)
    (case cMus_ => k_is)
    (case kMus_ => k_is)
    (case aWri_ => k_is)
    (case lWri_ => k_is)
    (case cWri_ => k_is)
    (case kWri_ => k_is)
    (case aAt_ => k_is)
    (case lAt_ => k_is)
    (case cAt_ => k_is)
    (case kAt_ => k_is)
    (case aL_ => k_is)
    (case lL_ => k_is)
    (case cL_ => k_is)
    (case kL_ => k_is)
    (case g_LETTERS => k_is)
    (case g_DIGITS => k_is)
    (case g_RUN => k_is)
    (case g_BLANKS => k_is)
    (case g_LONGEST_NAME => k_is)
    (case g_LONGEST_NUMBER => k_is)
    (case g_LONGEST_TEXT => k_is)
    (case g_LONGEST_PROGRAM => k_is)
    (case g_SIGNS => k_is)
    (case g_WORDS => k_is)
    (case l_SIGNS => k_is)
    (case l_WORDS => k_is)
    (case z_range => k_is)
    (case z_max => k_is)
    (case z_min => k_is)
    (case z_len => k_is)
    (case z_abs => k_is)
    (case z_int => k_is)
    (case z_isinstance => k_is)
    (case z_repr => k_is)
    (case z_str => k_is)
    (case z_all => k_is)
