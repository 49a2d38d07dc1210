import PyProof.Rows.All
import Wide.All
import OpenK.AllK
import Wide.FinOn
import KE.KStateDown
import HandS.Head0
import HandS.Head1
import HandS.Head2
import HandS.HeadEnd
import HandS.HeadHook1
import HandS.HeadHook2
import HandS.HeadHook3
import HandS.HeadHook4
import HandS.HeadWalk
import HandS.Words
import PyProof.EqAt
import PyProof.EqKinds
import PyProof.TupleCall
import HandS.ForMost
import HandS.ForExc
import HandS.Wide
import HandS.EndBits
import HandS.Evl
import HandS.StrMore
import HandS.NoneIn
import HandS.ExcInit
import HandS.ExcField
import HandS.IsInst
import HandS.RaiseMore
import HandS.Walk
import KE.SortKeyHeap
import HandS.Lambda
import HandS.SortKw
import KE.KDictWalk
import HandS.DictTup
import HandS.Style
import HandS.Codes
import HandS.Defaults
import HandS.DictComp
import HandS.Conv
import HandS.More
import PySem.Challenge.RW_keptbindings_k14_layouts_compared
set_option Elab.async false
set_option linter.all false
set_option maxRecDepth 100000
set_option maxHeartbeats 0
namespace KB
open PySem
def topS (i : Nat) : Stmt := PySem.Challenge.pw_keptbindings_k14_layouts_compared.main.body.getD i (.Pass ⟨0, 0, 0, 0⟩)
end KB
/-! A head's part of the heap, each value looked at once, in order -/
namespace HdF
open PySem PySem.Spec PyProof.Rows L2
section
variable {α : Type}
def fV (v : Value) (k : Value → α) : α := match v with
  | .ref a => HandSHeadRun.frNat a fun a => k (.ref a)
  | v => k v
theorem fV_eq (v : Value) (k : Value → α) : fV v k = k v := by
  cases v with
  | ref a => exact HandSHeadRun.frNat_eq a fun a => k (.ref a)
  | _ => rfl
def fVs : List Value → (List Value → α) → α
  | [], k => k []
  | v :: r, k => fV v fun v => fVs r fun r => k (v :: r)
theorem fVs_eq : ∀ (l : List Value) (k : List Value → α), fVs l k = k l
  | [], _ => rfl
  | v :: r, k => by
    show fV v (fun v => fVs r fun r => k (v :: r)) = _
    rw [fV_eq, fVs_eq r]
def fE : List DictEntry → (List DictEntry → α) → α
  | [], k => k []
  | ⟨h, key, v⟩ :: r, k => fV key fun key => fV v fun v => fE r fun r => k (⟨h, key, v⟩ :: r)
theorem fE_eq : ∀ (l : List DictEntry) (k : List DictEntry → α), fE l k = k l
  | [], _ => rfl
  | ⟨h, key, v⟩ :: r, k => by
    show fV key (fun key => fV v fun v => fE r fun r => k (⟨h, key, v⟩ :: r)) = _
    rw [fV_eq, fV_eq, fE_eq r]
def fD (dt : Data) (k : Data → α) : α := match dt with
  | .dict ⟨es⟩ n => fE es fun es => k (.dict ⟨es⟩ n)
  | .seq ⟨its⟩ n => fVs its fun its => k (.seq ⟨its⟩ n)
  | .fields ⟨vs⟩ => fVs vs fun vs => k (.fields ⟨vs⟩)
  | .cls ⟨nm, bs, mro, ns, qn, hd, sn, sub, ab, col, del⟩ => fVs mro fun mro => HandSHeadRun.frNat ns fun ns => k (.cls ⟨nm, bs, mro, ns, qn, hd, sn, sub, ab, col, del⟩)
  | .func ⟨a1, a2, a3, a4, a5, a6, a7, a8, a9, a10, a11, a12, a13, a14, a15⟩ => HandSHeadRun.frNat a6 fun a6 => fV a8 fun a8 => fV a13 fun a13 => HandSHeadRun.frNat a15 fun a15 => k (.func ⟨a1, a2, a3, a4, a5, a6, a7, a8, a9, a10, a11, a12, a13, a14, a15⟩)
  | dt => k dt
theorem fD_eq (dt : Data) (k : Data → α) : fD dt k = k dt := by
  cases dt with
  | dict es n =>
    obtain ⟨es⟩ := es
    exact fE_eq _ _
  | seq its n =>
    obtain ⟨its⟩ := its
    exact fVs_eq _ _
  | fields vs =>
    obtain ⟨vs⟩ := vs
    exact fVs_eq _ _
  | cls cd =>
    obtain ⟨nm, bs, mro, ns, qn, hd, sn, sub, ab, col, del⟩ := cd
    show fVs mro (fun mro => HandSHeadRun.frNat ns fun ns => k (.cls ⟨nm, bs, mro, ns, qn, hd, sn, sub, ab, col, del⟩)) = _
    rw [fVs_eq, HandSHeadRun.frNat_eq]
  | func fd =>
    obtain ⟨a1, a2, a3, a4, a5, a6, a7, a8, a9, a10, a11, a12, a13, a14, a15⟩ := fd
    show HandSHeadRun.frNat a6 (fun a6 => fV a8 fun a8 => fV a13 fun a13 => HandSHeadRun.frNat a15 fun a15 => k (.func ⟨a1, a2, a3, a4, a5, a6, a7, a8, a9, a10, a11, a12, a13, a14, a15⟩)) = _
    rw [HandSHeadRun.frNat_eq, fV_eq, fV_eq, HandSHeadRun.frNat_eq]
  | _ => rfl
def fO (o : Obj) (k : Obj → α) : α := match o with
  | ⟨c, d, dt, sl⟩ => fV c fun c => fD dt fun dt => k ⟨c, d, dt, sl⟩
theorem fO_eq (o : Obj) (k : Obj → α) : fO o k = k o := by
  obtain ⟨c, d, dt, sl⟩ := o
  show fV c (fun c => fD dt fun dt => k ⟨c, d, dt, sl⟩) = _
  rw [fV_eq, fD_eq]
def fK : List (Addr × Obj) → (List (Addr × Obj) → α) → α
  | [], k => k []
  | (a, o) :: r, k => HandSHeadRun.frNat a fun a => fO o fun o => fK r fun r => k ((a, o) :: r)
theorem fK_eq : ∀ (l : List (Addr × Obj)) (k : List (Addr × Obj) → α), fK l k = k l
  | [], _ => rfl
  | (a, o) :: r, k => by
    show HandSHeadRun.frNat a (fun a => fO o fun o => fK r fun r => k ((a, o) :: r)) = _
    rw [HandSHeadRun.frNat_eq, fO_eq, fK_eq r]
/-- the addresses among values -/
def fR : List Value → (List Addr → α) → α
  | [], k => k []
  | v :: r, k => (match v with
    | .ref a => HandSHeadRun.frNat a fun a => fR r fun l => k (a :: l)
    | _ => fR r k)
end
/-- what an object names: a def its code and defaults, a class its table, a table and a tuple their values -/
def nx (g : Addr → Option Obj) (a : Addr) : List Value := match g a with
  | some ⟨_, _, .func fd, _⟩ => [fd.code, fd.defaults]
  | some ⟨_, _, .cls cd, _⟩ => [.ref cd.ns]
  | some ⟨_, _, .dict es _, _⟩ => es.toList.map (·.val)
  | some ⟨_, _, .seq its _, _⟩ => its.toList
  | _ => []
/-- five steps from the module's names -/
def asY (g : Addr → Option Obj) : List Addr :=
  fR (nx g mainGlobals) fun l1 => fR (l1.flatMap (nx g)) fun l2 => fR (l2.flatMap (nx g)) fun l3 => fR (l3.flatMap (nx g)) fun l4 => fR (l4.flatMap (nx g)) fun l5 =>
    mainGlobals :: (l1 ++ (l2 ++ (l3 ++ (l4 ++ l5))))
abbrev AlY : Type := He.AlT × Bool
def obsY (fa : List He.Fa) (fn : List He.DefD) (ts : List He.Tab) (ex : PySem.W.Frag → Bool) (g : Addr → Option Obj) : AlY := fK (He.frG g (asY g)) fun K => (He.obsT fa fn ts K, ex K)
structure SaysY (fa : List He.Fa) (fn : List He.DefD) (ts : List He.Tab) (ex : PySem.W.Frag → Bool) (w : World) (K : PySem.W.Frag) : Prop where
  t : He.SaysT fa fn ts w K
  more : ex K = true
def hookY (fa : List He.Fa) (fn : List He.DefD) (ts : List He.Tab) (ex : PySem.W.Frag → Bool) : PySem.W.Hook where
  α := AlY
  obs := fun s => obsY fa fn ts ex s.heap.get?
  val := fun w => (He.valT fn ts w, true)
  says := fun w h => ∃ K : PySem.W.Frag, K.In h ∧ SaysY fa fn ts ex w K
  of := fun w s e => by
    have e1 : obsY fa fn ts ex s.heap.get? = (He.valT fn ts w, true) := e
    unfold obsY at e1
    rw [fK_eq] at e1
    exact ⟨He.frG s.heap.get? (asY s.heap.get?), He.frG_in, congrArg (fun z : AlY => z.1) e1, congrArg (fun z : AlY => z.2) e1⟩
  keeps := fun _ _ _ ⟨K, hK, c⟩ k => ⟨K, PySem.W.Frag.In.keeps hK k, c⟩
theorem obsY_eq {fa : List He.Fa} {fn : List He.DefD} {ts : List He.Tab} {ex : PySem.W.Frag → Bool} {g : Addr → Option Obj} {s : Shared} (h : ∀ a, g a = s.heap.get? a) : obsY fa fn ts ex g = (hookY fa fn ts ex).obs s := by
  have e : g = s.heap.get? := funext h
  rw [e] <;> rfl
end HdF
/-! a head's part of the heap, with a table of code objects -/
namespace HdT
open PySem PySem.Spec PyProof.Rows L2
def nxW (W : List Str) (g : Addr → Option Obj) (a : Addr) : List Value := match g a with
  | some ⟨_, _, .func fd, _⟩ => [fd.code, fd.defaults]
  | some ⟨_, _, .cls cd, _⟩ => [.ref cd.ns]
  | some ⟨_, _, .dict es _, _⟩ => es.toList.filterMap fun e => match e.key with
    | .str n _ => (match W.contains n with
      | true => some e.val
      | false => none)
    | _ => none
  | some ⟨_, _, .seq its _, _⟩ => its.toList
  | _ => []
/-- five steps from the module's names, by the wanted names -/
def asW (W : List Str) (g : Addr → Option Obj) : List Addr :=
  HdF.fR (nxW W g mainGlobals) fun l1 => HdF.fR (l1.flatMap (nxW W g)) fun l2 => HdF.fR (l2.flatMap (nxW W g)) fun l3 => HdF.fR (l3.flatMap (nxW W g)) fun l4 => HdF.fR (l4.flatMap (nxW W g)) fun l5 =>
    mainGlobals :: (l1 ++ (l2 ++ (l3 ++ (l4 ++ l5))))
def outB (tf : List He.Defn) (K : PySem.W.Frag) : Bool := tf.all fun p => match K.lookup (He.cT K p).2 with
  | none => true
  | some _ => false
def obsZ (W : List Str) (fa : List He.Fa) (fn : List He.DefD) (ts : List He.Tab) (tf : List He.Defn) (ex : PySem.W.Frag → Bool) (g : Addr → Option Obj) : HdF.AlY := HdF.fK (He.frG g (asW W g)) fun K => (He.obsT fa fn ts K, ex K && (outB tf K && He.tabsB g tf K))
structure SaysZ (fa : List He.Fa) (fn : List He.DefD) (ts : List He.Tab) (tf : List He.Defn) (ex : PySem.W.Frag → Bool) (w : World) (h : Heap) (K : PySem.W.Frag) : Prop where
  t : He.SaysT fa fn ts w K
  more : ex K = true
  hd : ∀ p ∈ tf, PySem.W.codeHdIn K (He.cT K p).1 (He.cT K p).2 = true
  out : ∀ p ∈ tf, K.lookup (He.cT K p).2 = none
  empty : ∀ p ∈ tf, h.get? (He.cT K p).2 = some { cls := .none, data := .fields #[] }
theorem saysZ_of {W : List Str} {fa : List He.Fa} {fn : List He.DefD} {ts : List He.Tab} {tf : List He.Defn} {ex : PySem.W.Frag → Bool} {w : World} {h : Heap} (e : obsZ W fa fn ts tf ex h.get? = (He.valT fn ts w, true)) : SaysZ fa fn ts tf ex w h (He.frG h.get? (asW W h.get?)) := by
  unfold obsZ at e
  rw [HdF.fK_eq] at e
  have e1 : He.obsT fa fn ts (He.frG h.get? (asW W h.get?)) = He.valT fn ts w := congrArg (fun z : HdF.AlY => z.1) e
  have e2 : (ex (He.frG h.get? (asW W h.get?)) && (outB tf (He.frG h.get? (asW W h.get?)) && He.tabsB h.get? tf (He.frG h.get? (asW W h.get?)))) = true := congrArg (fun z : HdF.AlY => z.2) e
  obtain ⟨h1, h2⟩ := He.ba e2
  obtain ⟨h2, h3⟩ := He.ba h2
  refine ⟨e1, h1, fun p hp => (He.ba (List.all_eq_true.mp h3 p hp)).1, fun p hp => ?_, fun p hp => ?_⟩
  · have z : (match (He.frG h.get? (asW W h.get?)).lookup (He.cT (He.frG h.get? (asW W h.get?)) p).2 with | none => true | some _ => false) = true := List.all_eq_true.mp h2 p hp
    cases q : (He.frG h.get? (asW W h.get?)).lookup (He.cT (He.frG h.get? (asW W h.get?)) p).2 with
    | none => rfl
    | some o =>
      rw [q] at z
      cases z
  · have z := (He.ba (List.all_eq_true.mp h3 p hp)).2
    cases q : h.get? (He.cT (He.frG h.get? (asW W h.get?)) p).2 with
    | none =>
      rw [q] at z
      cases z
    | some o =>
      rw [q] at z
      rw [He.emptyTab_eq z]
def hookZ (W : List Str) (fa : List He.Fa) (fn : List He.DefD) (ts : List He.Tab) (tf : List He.Defn) (ex : PySem.W.Frag → Bool) : PySem.W.Hook where
  α := HdF.AlY
  obs := fun s => obsZ W fa fn ts tf ex s.heap.get?
  val := fun w => (He.valT fn ts w, true)
  says := fun w h => ∃ K : PySem.W.Frag, K.In h ∧ SaysZ fa fn ts tf ex w h K
  of := fun _ _ e => ⟨_, He.frG_in, saysZ_of e⟩
  keeps := fun _ _ _ ⟨K, hK, c⟩ k => ⟨K, PySem.W.Frag.In.keeps hK k, ⟨c.t, c.more, c.hd, c.out, fun p hp => k _ _ (c.empty p hp)⟩⟩
theorem obsZ_eq {W : List Str} {fa : List He.Fa} {fn : List He.DefD} {ts : List He.Tab} {tf : List He.Defn} {ex : PySem.W.Frag → Bool} {g : Addr → Option Obj} {s : Shared} (h : ∀ a, g a = s.heap.get? a) : obsZ W fa fn ts tf ex g = (hookZ W fa fn ts tf ex).obs s := by
  have e : g = s.heap.get? := funext h
  rw [e] <;> rfl
end HdT
namespace KR
open PySem PySem.Spec PyProof.Rows L2
open KB (topS)
abbrev D_IN : He.DefD := ⟨("is_name", none), "is_name", "is_name", defArgs (topS 78), defBody (topS 78), defScope (topS 78), [], []⟩
abbrev D_LE : He.DefD := ⟨("_line_end", none), "_line_end", "_line_end", defArgs (topS 80), defBody (topS 80), defScope (topS 80), [], []⟩
abbrev D_TK : He.DefD := ⟨("tokens", none), "tokens", "tokens", defArgs (topS 79), defBody (topS 79), defScope (topS 79), [], []⟩
abbrev D_CI : He.DefD := ⟨("Cursor", some "__init__"), "__init__", "Cursor.__init__", defArgs (inClass (topS 91) 0), defBody (inClass (topS 91) 0), defScope (inClass (topS 91) 0), [], []⟩
abbrev D_NT : He.DefD := ⟨("Cursor", some "next_text"), "next_text", "Cursor.next_text", defArgs (inClass (topS 91) 1), defBody (inClass (topS 91) 1), defScope (inClass (topS 91) 1), [.int 0], []⟩
abbrev D_RM : He.DefD := ⟨("read_module", none), "read_module", "read_module", defArgs (topS 117), defBody (topS 117), defScope (topS 117), [], []⟩
abbrev D_SC : He.DefD := ⟨("Scope", some "__init__"), "__init__", "Scope.__init__", defArgs (inClass (topS 53) 0), defBody (inClass (topS 53) 0), defScope (inClass (topS 53) 0), [], []⟩
abbrev D_BG : He.DefD := ⟨("Finder", some "_begin"), "_begin", "Finder._begin", defArgs (inClass (topS 57) 1), defBody (inClass (topS 57) 1), defScope (inClass (topS 57) 1), [], []⟩
abbrev D_BL : He.DefD := ⟨("Finder", some "_block"), "_block", "Finder._block", defArgs (inClass (topS 57) 4), defBody (inClass (topS 57) 4), defScope (inClass (topS 57) 4), [], []⟩
abbrev D_FI : He.DefD := ⟨("Finder", some "__init__"), "__init__", "Finder.__init__", defArgs (inClass (topS 57) 0), defBody (inClass (topS 57) 0), defScope (inClass (topS 57) 0), [], []⟩
abbrev D_CB : He.DefD := ⟨("Links", some "_collect_brought"), "_collect_brought", "Links._collect_brought", defArgs (inClass (topS 60) 1), defBody (inClass (topS 60) 1), defScope (inClass (topS 60) 1), [], []⟩
abbrev D_FS : He.DefD := ⟨("Links", some "_fill_stars"), "_fill_stars", "Links._fill_stars", defArgs (inClass (topS 60) 2), defBody (inClass (topS 60) 2), defScope (inClass (topS 60) 2), [], []⟩
abbrev D_FR : He.DefD := ⟨("Links", some "_find_rings"), "_find_rings", "Links._find_rings", defArgs (inClass (topS 60) 3), defBody (inClass (topS 60) 3), defScope (inClass (topS 60) 3), [], []⟩
abbrev D_LI : He.DefD := ⟨("Links", some "__init__"), "__init__", "Links.__init__", defArgs (inClass (topS 60) 0), defBody (inClass (topS 60) 0), defScope (inClass (topS 60) 0), [], []⟩
abbrev D_FB : He.DefD := ⟨("Members", some "_find_bases"), "_find_bases", "Members._find_bases", defArgs (inClass (topS 64) 2), defBody (inClass (topS 64) 2), defScope (inClass (topS 64) 2), [], []⟩
abbrev D_JR : He.DefD := ⟨("Members", some "_join_related"), "_join_related", "Members._join_related", defArgs (inClass (topS 64) 4), defBody (inClass (topS 64) 4), defScope (inClass (topS 64) 4), [], []⟩
abbrev D_FM : He.DefD := ⟨("Members", some "_find_members"), "_find_members", "Members._find_members", defArgs (inClass (topS 64) 5), defBody (inClass (topS 64) 5), defScope (inClass (topS 64) 5), [], []⟩
abbrev D_ME : He.DefD := ⟨("Members", some "__init__"), "__init__", "Members.__init__", defArgs (inClass (topS 64) 0), defBody (inClass (topS 64) 0), defScope (inClass (topS 64) 0), [], []⟩
abbrev D_IM : He.DefD := ⟨("Naming", some "_look_at_imported"), "_look_at_imported", "Naming._look_at_imported", defArgs (inClass (topS 66) 3), defBody (inClass (topS 66) 3), defScope (inClass (topS 66) 3), [], []⟩
abbrev D_CP : He.DefD := ⟨("Naming", some "_collect_places"), "_collect_places", "Naming._collect_places", defArgs (inClass (topS 66) 1), defBody (inClass (topS 66) 1), defScope (inClass (topS 66) 1), [], []⟩
abbrev D_NA : He.DefD := ⟨("Naming", some "__init__"), "__init__", "Naming.__init__", defArgs (inClass (topS 66) 0), defBody (inClass (topS 66) 0), defScope (inClass (topS 66) 0), [], []⟩
abbrev D_PI : He.DefD := ⟨("Project", some "__init__"), "__init__", "Project.__init__", defArgs (inClass (topS 137) 0), defBody (inClass (topS 137) 0), defScope (inClass (topS 137) 0), [], []⟩
abbrev D_HA : He.DefD := ⟨("Project", some "has"), "has", "Project.has", defArgs (inClass (topS 137) 6), defBody (inClass (topS 137) 6), defScope (inClass (topS 137) 6), [], []⟩
abbrev D_TO : He.DefD := ⟨("Project", some "text_of"), "text_of", "Project.text_of", defArgs (inClass (topS 137) 4), defBody (inClass (topS 137) 4), defScope (inClass (topS 137) 4), [], []⟩
abbrev D_II : He.DefD := ⟨("is_integer", none), "is_integer", "is_integer", defArgs (topS 2), defBody (topS 2), defScope (topS 2), [], []⟩
abbrev D_IR : He.DefD := ⟨("is_row", none), "is_row", "is_row", defArgs (topS 3), defBody (topS 3), defScope (topS 3), [], []⟩
abbrev D_IT : He.DefD := ⟨("is_tuple_of", none), "is_tuple_of", "is_tuple_of", defArgs (topS 4), defBody (topS 4), defScope (topS 4), [], []⟩
abbrev D_IP : He.DefD := ⟨("_is_piece", none), "_is_piece", "_is_piece", defArgs (topS 7), defBody (topS 7), defScope (topS 7), [], []⟩
abbrev D_SL : He.DefD := ⟨("same_layout", none), "same_layout", "same_layout", defArgs (topS 6), defBody (topS 6), defScope (topS 6), [], []⟩
abbrev D_P : He.DefD := ⟨("_law_pool", none), "_law_pool", "_law_pool", defArgs (topS 139), defBody (topS 139), defScope (topS 139), [], []⟩
abbrev D_T : He.DefD := ⟨("_law_take", none), "_law_take", "_law_take", defArgs (topS 140), defBody (topS 140), defScope (topS 140), [], []⟩
abbrev D_LP : He.DefD := ⟨("_law_pieces", none), "_law_pieces", "_law_pieces", defArgs (topS 141), defBody (topS 141), defScope (topS 141), [], []⟩
abbrev D_PT : He.DefD := ⟨("_law_put", none), "_law_put", "_law_put", defArgs (topS 142), defBody (topS 142), defScope (topS 142), [], []⟩
abbrev D_L : He.DefD := ⟨("law", none), "law", "law", defArgs (topS 143), defBody (topS 143), defScope (topS 143), [], []⟩
def T_WORDS : List He.Dv := [.str "import", .str "from", .str "as", .str "def", .str "class", .str "global", .str "nonlocal", .str "if", .str "else", .str "while", .str "for", .str "in", .str "return", .str "break", .str "continue", .str "pass", .str "and", .str "or", .str "not", .str "fn", .str "none", .str "true", .str "false"]
def FA0 : List He.Fa := [.mkr "Cursor", .glo "Cursor", .cls "Cursor", .noat "Cursor" "end", .noat "Cursor" "_tokens", .noat "Cursor" "_length", .noat "Cursor" "_at", .noat "Cursor" "_opened", .noat "Cursor" "_first", .mkr "Scope", .glo "Scope", .cls "Scope", .noat "Scope" "module", .noat "Scope" "kind", .noat "Scope" "start", .noat "Scope" "outer", .noat "Scope" "node", .noat "Scope" "names", .noat "Scope" "words", .noat "Scope" "parameters", .noat "Scope" "links", .noat "Scope" "stars", .mkr "Finder", .glo "Finder", .cls "Finder"]
def FA1 : List He.Fa := [.noat "Finder" "module", .noat "Finder" "found", .noat "Finder" "sights", .noat "Finder" "broken", .noat "Finder" "calls", .mkr "Links", .glo "Links", .cls "Links", .noat "Links" "finders", .noat "Links" "roots", .noat "Links" "scopes", .noat "Links" "brought", .noat "Links" "_answers", .noat "Links" "_beyond", .noat "Links" "_rings", .mkr "Members", .glo "Members", .cls "Members", .noat "Members" "links", .noat "Members" "classes", .noat "Members" "opens", .noat "Members" "_members_of", .noat "Members" "_all", .mkr "Naming", .glo "Naming"]
def FA2 : List He.Fa := [.cls "Naming", .noat "Naming" "links", .noat "Naming" "members", .noat "Naming" "sights", .noat "Naming" "key_of", .noat "Naming" "broken", .noat "Naming" "places", .mkr "Project", .glo "Project", .cls "Project", .noat "Project" "_texts", .noat "Project" "_trees", .noat "Project" "_naming", .str "LETTERS" "abcdefghijklmnopqrstuvwxyz", .str "RUN" "abcdefghijklmnopqrstuvwxyz0123456789_", .str "BLANKS" " \n", .free "isinstance", .free "len", .free "all", .free "str", .free "int", .free "bool", .free "list", .free "tuple", .free "sorted"]
def FA3 : List He.Fa := [.free "range", .free "max", .free "min", .free "abs", .int "LONGEST_NAME" 20, .int "LONGEST_PROGRAM" 5000, .glo "WORDS", .glo "is_name", .glo "_line_end", .glo "tokens", .meth "Cursor" "next_text", .glo "read_module", .meth "Finder" "_begin", .meth "Finder" "_block", .meth "Links" "_collect_brought", .meth "Links" "_fill_stars", .meth "Links" "_find_rings", .meth "Members" "_find_bases", .meth "Members" "_join_related", .meth "Members" "_find_members", .meth "Naming" "_look_at_imported", .meth "Naming" "_collect_places", .meth "Project" "has", .meth "Project" "text_of", .glo "is_integer"]
def FA4 : List He.Fa := [.glo "is_row", .glo "is_tuple_of", .glo "_is_piece", .glo "same_layout", .glo "_law_pool", .glo "_law_take", .glo "_law_pieces", .glo "_law_put", .glo "law"]
def FA : List He.Fa := FA0 ++ FA1 ++ FA2 ++ FA3 ++ FA4
def FNa : List He.DefD := [D_IN, D_LE, D_TK, D_CI, D_NT, D_RM, D_SC, D_BG, D_BL]
def FNb : List He.DefD := [D_FI, D_CB, D_FS, D_FR, D_LI, D_FB, D_JR, D_FM, D_ME, D_IM, D_CP, D_NA, D_PI, D_HA, D_TO, D_II, D_IR, D_IT, D_IP, D_SL, D_P, D_T, D_LP, D_PT, D_L]
def FN : List He.DefD := FNa ++ FNb
def WN0 : List Str := ["is_name", "_line_end", "tokens", "Cursor", "__init__", "next_text", "read_module", "Scope", "Finder", "_begin", "_block", "Links", "_collect_brought", "_fill_stars", "_find_rings", "Members", "_find_bases", "_join_related", "_find_members", "Naming"]
def WN1 : List Str := ["_look_at_imported", "_collect_places", "Project", "has", "text_of", "is_integer", "is_row", "is_tuple_of", "_is_piece", "same_layout", "_law_pool", "_law_take", "_law_pieces", "_law_put", "law", "WORDS"]
def WN : List Str := WN0 ++ WN1
def TS : List He.Tab := []
def TF : List He.Defn := [("Finder", some "__init__")]
def EX (K : PySem.W.Frag) : Bool := He.tupB K "WORDS" T_WORDS
abbrev R : PySem.W.OpenRow := PySem.W.OpenLaw.row PySem.Challenge.rw_keptbindings_k14_layouts_compared
def loo0 : List PySem.Str := ["_wall", "is_integer", "is_row", "is_tuple_of", "same_layout", "_is_piece", "KeptError", "BadText", "BadSyntax", "BadName", "BadPlace", "BadProject", "Name", "Literal", "Group", "Listing", "Comprehension", "Member", "Index", "Argument"]
def loo1 : List PySem.Str := ["Call", "Unary", "Binary", "Parameter", "Fn", "Import", "ImportItem", "FromImport", "Assignment", "Def", "ClassBlock", "OuterNames", "If", "While", "For", "Return", "WordAlone", "Evaluation", "PLAIN_tables", "AHEAD"]
def loo2 : List PySem.Str := ["BROUGHT", "OUTER", "MODULE", "ASKED", "BASE", "POINT", "TARGET", "KEYWORD", "Scope", "Link", "Star", "Sight", "Finder", "BUILTINS", "Links", "START", "Kind", "Members", "Naming", "LETTERS"]
def loo3 : List PySem.Str := ["DIGITS", "RUN", "BLANKS", "SIGNS", "WORDS", "LONGEST_NAME", "LONGEST_NUMBER", "LONGEST_TEXT", "LONGEST_PROGRAM", "is_name", "tokens", "_line_end", "_token", "_text_end", "_run_end", "_run_kind", "_is_number", "OPENING", "CLOSING", "MOST_OPEN"]
def loo4 : List PySem.Str := ["MOST_TOKENS", "Cursor", "PLAIN_expressions", "STILL", "FREE", "CONSTANTS", "LEVELS", "LOOSEST", "NOT_LEVEL", "COMPARISON", "CLOSEST", "read_expression", "read_target", "is_target", "read_parameters", "_read_parameter", "_read_fn", "_read_signs", "_read_ahead", "_read_call"]
def loo5 : List PySem.Str := ["_read_arguments", "_read_argument", "_read_single", "_read_list", "_read_comprehension", "read_module", "_read_top", "_read_def_or_assignment", "_read_right_side", "_read_import", "_read_alias", "_read_from", "_read_items", "_read_item", "_read_class", "_read_def", "_read_block", "_read_statement", "_read_if", "_read_while"]
def loo6 : List PySem.Str := ["_read_for", "_read_return", "_read_outer_names", "_read_assignment_or_evaluation", "Project", "_law_pool", "_law_take", "_law_pieces", "_law_put"]
def loo : List PySem.Str := loo0 ++ loo1 ++ loo2 ++ loo3 ++ loo4 ++ loo5 ++ loo6
def gn0 : List PySem.Str := ["_wall", "is_integer", "is_row", "is_tuple_of", "same_layout", "_is_piece", "KeptError", "BadText", "BadSyntax", "BadName", "BadPlace", "BadProject", "Name", "Literal", "Group", "Listing", "Comprehension", "Member", "Index", "Argument"]
def gn1 : List PySem.Str := ["Call", "Unary", "Binary", "Parameter", "Fn", "Import", "ImportItem", "FromImport", "Assignment", "Def", "ClassBlock", "OuterNames", "If", "While", "For", "Return", "WordAlone", "Evaluation", "PLAIN_tables", "AHEAD"]
def gn2 : List PySem.Str := ["BROUGHT", "OUTER", "MODULE", "ASKED", "BASE", "POINT", "TARGET", "KEYWORD", "Scope", "Link", "Star", "Sight", "Finder", "BUILTINS", "Links", "START", "Kind", "Members", "Naming", "LETTERS"]
def gn3 : List PySem.Str := ["DIGITS", "RUN", "BLANKS", "SIGNS", "WORDS", "LONGEST_NAME", "LONGEST_NUMBER", "LONGEST_TEXT", "LONGEST_PROGRAM", "is_name", "tokens", "_line_end", "_token", "_text_end", "_run_end", "_run_kind", "_is_number", "OPENING", "CLOSING", "MOST_OPEN"]
def gn4 : List PySem.Str := ["MOST_TOKENS", "Cursor", "PLAIN_expressions", "STILL", "FREE", "CONSTANTS", "LEVELS", "LOOSEST", "NOT_LEVEL", "COMPARISON", "CLOSEST", "read_expression", "read_target", "is_target", "read_parameters", "_read_parameter", "_read_fn", "_read_signs", "_read_ahead", "_read_call"]
def gn5 : List PySem.Str := ["_read_arguments", "_read_argument", "_read_single", "_read_list", "_read_comprehension", "read_module", "_read_top", "_read_def_or_assignment", "_read_right_side", "_read_import", "_read_alias", "_read_from", "_read_items", "_read_item", "_read_class", "_read_def", "_read_block", "_read_statement", "_read_if", "_read_while"]
def gn6 : List PySem.Str := ["_read_for", "_read_return", "_read_outer_names", "_read_assignment_or_evaluation", "Project", "_law_pool", "_law_take", "_law_pieces", "_law_put", "law"]
def gn : List PySem.Str := gn0 ++ gn1 ++ gn2 ++ gn3 ++ gn4 ++ gn5 ++ gn6
abbrev hk : PySem.W.Hook := HdT.hookZ WN FA FN TS TF EX
def ob (s : PySem.W.SharedT) : HdF.AlY := HdT.obsZ WN FA FN TS TF EX (HandSHeadRun.getT s)
theorem ob_eq (s : PySem.W.SharedT) : ob s = hk.obs s.abs := HdT.obsZ_eq (HandSHeadRun.getT_eq s)
abbrev RunAt (w : World) : Prop := HandSHeadRun.RunEq R (PySem.W.view R.prog [143]) hk ob 19000 loo w
noncomputable def E0 (w : World) (os : OsState) : Option PySem.W.SharedT := HandSHeadRun.endF (HandSHeadRun.stepQ (HandSHeadRun.denQ HandSHeadRun.tabQ) R.prog w) 19000 R.prog w os
noncomputable def look1_ (w : World) (s : PySem.W.SharedT) : Bool := HandSHeadRun.looksF R.prog (PySem.W.boot_heap w.params) s.abs
noncomputable def look2_ (s : PySem.W.SharedT) := HandSHeadRun.seenQ (PySem.W.view R.prog [143]) loo (importedModules R.prog.main.body) (fun s => PySem.W.xlAt (PySem.W.view R.prog [143]) [] s && PySem.W.recOk R.toRowW.records s) s.abs
def factsOn (fa : List He.Fa) (fn : List He.DefD) (s : PySem.W.SharedT) : Bool := HdF.fK (He.frG (HandSHeadRun.getT s) (HdT.asW WN (HandSHeadRun.getT s))) fun K => (fa.all fun f => f.ok K) && (fn.all fun d => d.ok K)
noncomputable def lookA (w : World) (s : PySem.W.SharedT) : Bool := PySem.W.staticsOk (importedModules R.prog.main.body) (PySem.W.boot_heap w.params) s.abs.heap && (PySem.W.gensDone s.abs && (PySem.W.laidKept (PySem.W.boot_heap w.params) s.abs.heap && (s.abs.heap.isNs mainGlobals && decide (s.abs.heap.nsKeys mainGlobals = (PySem.W.boot_heap w.params).nsKeys mainGlobals ++ gn))))
theorem bootIn (P : PySem.Params) : ((PySem.W.boot_heap P).nsKeys mainGlobals).all (fun k => PySem.startupNames.contains k) = true := by kernel_rfl
theorem gnIn : gn.all (fun k => R.prog.boundNames.contains k) = true := by kernel_rfl
theorem look_of {w : World} {s : PySem.W.SharedT} (h : lookA w s = true) : look1_ w s = true := by
  obtain ⟨h1, h⟩ := He.ba h
  obtain ⟨h2, h⟩ := He.ba h
  obtain ⟨h3, h⟩ := He.ba h
  obtain ⟨h4, h5⟩ := He.ba h
  have h5 := of_decide_eq_true h5
  have nb : PySem.W.namesBound R.prog s.abs.heap = true := by
    unfold PySem.W.namesBound
    rw [h4, Bool.true_and, h5, List.all_append, Bool.and_eq_true_iff]
    refine ⟨List.all_eq_true.mpr fun k hk => ?_, List.all_eq_true.mpr fun k hk => ?_⟩
    · rw [Bool.or_eq_true]
      exact .inl (List.all_eq_true.mp (bootIn w.params) k hk)
    · rw [Bool.or_eq_true]
      exact .inr (List.all_eq_true.mp gnIn k hk)
  show (PySem.W.staticsOk (importedModules R.prog.main.body) (PySem.W.boot_heap w.params) s.abs.heap && PySem.W.namesBound R.prog s.abs.heap && PySem.W.gensDone s.abs && PySem.W.laidKept (PySem.W.boot_heap w.params) s.abs.heap) = true
  rw [h1, nb, h2, h3]
  rfl
/-! the run without the looks at each step: what it ends in, the run with them ends in, if it ends -/
def goU (st : PySem.W.SharedT → Thread → Option (PySem.W.SharedT × Thread)) : Nat → PySem.W.SharedT → Thread → Option PySem.W.SharedT
  | 0, _, _ => none
  | m + 1, s, t => match PySem.W.through t with
    | true => some s
    | false => match st s t with
      | some (s', t') => HandSHeadRun.frS s' fun s' => goU st m s' t'
      | none => none
theorem goU_of {st : PySem.W.SharedT → Thread → Option (PySem.W.SharedT × Thread)} {n0 : Nat} {ann : Option Value} : ∀ {m : Nat} {s s' : PySem.W.SharedT} {t : Thread}, HandSHeadRun.goF st n0 ann m s t = some s' → goU st m s t = some s'
  | 0, _, _, _, h => by cases h
  | m + 1, s, s', t, h => by
    have h1 : (match PySem.W.through t with
      | true => some s
      | false => match PySem.W.stepOk n0 ann t with
        | false => none
        | true => match st s t with
          | some (s', t') => HandSHeadRun.frS s' fun s' => HandSHeadRun.goF st n0 ann m s' t'
          | none => none) = some s' := h
    show (match PySem.W.through t with
      | true => some s
      | false => match st s t with
        | some (s', t') => HandSHeadRun.frS s' fun s' => goU st m s' t'
        | none => none) = some s'
    cases ht : PySem.W.through t with
    | true =>
      rw [ht] at h1
      exact h1
    | false =>
      rw [ht] at h1
      cases hk : PySem.W.stepOk n0 ann t with
      | false =>
        rw [hk] at h1
        cases h1
      | true =>
        rw [hk] at h1
        cases hs : st s t with
        | none =>
          rw [hs] at h1
          cases h1
        | some r =>
          obtain ⟨s2, t2⟩ := r
          rw [hs] at h1
          have h3 : (HandSHeadRun.frS s2 fun s' => HandSHeadRun.goF st n0 ann m s' t2) = some s' := h1
          rw [HandSHeadRun.frS_eq] at h3
          show (HandSHeadRun.frS s2 fun s' => goU st m s' t2) = some s'
          rw [HandSHeadRun.frS_eq]
          exact goU_of h3
noncomputable def U0 (w : World) (os : OsState) : Option PySem.W.SharedT := match HandSHeadRun.putAll (PySem.W.boot_heap w.params).objs.toList .nil 0 with
  | some (t, n) => HandSHeadRun.frNat n fun n0 => goU (HandSHeadRun.stepQ (HandSHeadRun.denQ HandSHeadRun.tabQ) R.prog w) 19000 (HandSHeadRun.bootT w os (t, n0)) (PySem.W.topStub R.prog)
  | none => none
theorem U0_of {w : World} {os : OsState} (h : (E0 w os).isSome = true) : E0 w os = U0 w os := by
  cases e : E0 w os with
  | none =>
    rw [e] at h
    cases h
  | some s =>
    unfold E0 HandSHeadRun.endF at e
    unfold U0
    cases q : HandSHeadRun.putAll (PySem.W.boot_heap w.params).objs.toList .nil 0 with
    | none =>
      rw [q] at e
      cases e
    | some r =>
      obtain ⟨t, n⟩ := r
      rw [q] at e
      have e1 : (HandSHeadRun.frNat n fun n0 => HandSHeadRun.goF (HandSHeadRun.stepQ (HandSHeadRun.denQ HandSHeadRun.tabQ) R.prog w) n0 (HandSHeadRun.bootAnn w) 19000 (HandSHeadRun.bootT w os (t, n0)) (PySem.W.topStub R.prog)) = some s := e
      rw [HandSHeadRun.frNat_eq] at e1
      show some s = HandSHeadRun.frNat n fun n0 => goU (HandSHeadRun.stepQ (HandSHeadRun.denQ HandSHeadRun.tabQ) R.prog w) 19000 (HandSHeadRun.bootT w os (t, n0)) (PySem.W.topStub R.prog)
      rw [HandSHeadRun.frNat_eq]
      exact (goU_of e1).symm
theorem run_of {w : World} {os : OsState} (h0 : (E0 w os).isSome = true) (ha : (U0 w os).map (fun s => ((look2_ s).2.2.1, (look2_ s).1, (look2_ s).2.1)) = some (true, PyProof.Rows.expectedOf (PySem.W.view R.prog [143]), PySem.bltViewBooted)) (hc : (U0 w os).map (fun s => (lookA w s, (look2_ s).2.2.2)) = some (true, (true, PySem.pinGoodD (PyProof.Rows.drecsOf (PySem.W.view R.prog [143])), PyProof.Rows.plainGoodE (PySem.W.view R.prog [143]) (PySem.W.looseW (PySem.W.view R.prog [143]) loo), PyProof.Rows.plainGoodD (PySem.W.view R.prog [143]) loo, PySem.W.wideGood (PySem.W.view R.prog [143]), PySem.W.clsGoodW (PySem.W.view R.prog [143]) loo)))
    (hd : (U0 w os).map (fun s => ((ob s).1.1.2, ((ob s).1.2, (ob s).2), factsOn FA FN s)) = some (FN.map He.DefD.val, (TS.map (fun t => some (He.keysIn w.params t.2)), true), true)) :
    (E0 w os).map (fun s => (look1_ w s, look2_ s, ob s)) = some (true, PySem.W.openGood (PySem.W.view R.prog [143]) loo, (((true, FN.map He.DefD.val), TS.map (fun t => some (He.keysIn w.params t.2))), true)) := by
  rw [← U0_of h0] at ha hc hd
  cases e : E0 w os with
  | none =>
    rw [e] at ha
    cases ha
  | some s =>
    rw [e] at ha hc hd
    have b := Option.some.inj ha
    have a2 : (look2_ s).2.2.1 = true := congrArg (fun z => z.1) b
    have c := Option.some.inj hc
    have d := Option.some.inj hd
    have a1 : lookA w s = true := congrArg (fun z => z.1) c
    have b1 := congrArg (fun z => z.2.1) b
    have b2 := congrArg (fun z => z.2.2) b
    have c1 := congrArg (fun z => z.2) c
    have d1 : (ob s).1.1.2 = FN.map He.DefD.val := congrArg (fun z => z.1) d
    have d2 : (ob s).1.2 = TS.map (fun t => some (He.keysIn w.params t.2)) := congrArg (fun z => z.2.1.1) d
    have d3 : (ob s).2 = true := congrArg (fun z => z.2.1.2) d
    have f0 : factsOn FA FN s = true := congrArg (fun z => z.2.2) d
    unfold factsOn at f0
    rw [HdF.fK_eq] at f0
    obtain ⟨t1, t2⟩ := He.ba f0
    have eo : ob s = ((((FA.all fun f => f.ok (He.frG (HandSHeadRun.getT s) (HdT.asW WN (HandSHeadRun.getT s)))) && (FN.all fun d => d.ok (He.frG (HandSHeadRun.getT s) (HdT.asW WN (HandSHeadRun.getT s)))), (ob s).1.1.2), (ob s).1.2), (ob s).2) := by
      unfold ob HdT.obsZ
      rw [HdF.fK_eq]
      rfl
    rw [t1, t2] at eo
    refine congrArg some (Prod.ext (look_of a1) (Prod.ext (Prod.ext b1 (Prod.ext b2 (Prod.ext a2 c1))) ?_))
    show ob s = _
    rw [eo]
    exact Prod.ext (Prod.ext (Prod.ext rfl d1) d2) d3
section
open PySem.W PySem.Calls
theorem fin (run : ∀ w, RunAt w) (call : WalkO (view (OpenLaw.row PySem.Challenge.rw_keptbindings_k14_layouts_compared).prog [143]) loo (XL (view (OpenLaw.row PySem.Challenge.rw_keptbindings_k14_layouts_compared).prog [143]) []) hk.says (OpenLaw.row PySem.Challenge.rw_keptbindings_k14_layouts_compared).toRowW (HandSHeadRun.topDef (OpenLaw.row PySem.Challenge.rw_keptbindings_k14_layouts_compared).prog 143) [] fun f vs => PySem.call f vs) : PySem.Challenge.rw_keptbindings_k14_layouts_compared.Holds := by
  w_on; o_law
  refine HandSHeadRun.head_any (r := OpenLaw.row PySem.Challenge.rw_keptbindings_k14_layouts_compared) (q := view (OpenLaw.row PySem.Challenge.rw_keptbindings_k14_layouts_compared).prog [143]) (H := hk) (ob := ob) (M := 19000) (loose := loo) (d := HandSHeadRun.topDef (OpenLaw.row PySem.Challenge.rw_keptbindings_k14_layouts_compared).prog 143) (kwd := []) ob_eq
    (by kernel_rfl) (fun s => by kernel_rfl) run (by kernel_rfl) (by kernel_rfl) (by kernel_rfl) (by rfl) (by first | assumption | decide +kernel) (by decide +kernel) ⟨rfl, rfl, rfl, rfl, rfl, by decide +kernel⟩ ?hw call
  case hw => w_witness2
end
theorem run_f0 (w : World) (os : OsState) : (E0 (w.withFollow "special-get-raises" false) os).isSome = true := by kernel_rfl
theorem run_f1 (w : World) (os : OsState) : (U0 (w.withFollow "special-get-raises" false) os).map (fun s => ((look2_ s).2.2.1, (look2_ s).1, (look2_ s).2.1)) = some (true, PyProof.Rows.expectedOf (PySem.W.view R.prog [143]), PySem.bltViewBooted) := by kernel_rfl
theorem run_f3 (w : World) (os : OsState) : (U0 (w.withFollow "special-get-raises" false) os).map (fun s => (lookA (w.withFollow "special-get-raises" false) s, (look2_ s).2.2.2)) = some (true, (true, PySem.pinGoodD (PyProof.Rows.drecsOf (PySem.W.view R.prog [143])), PyProof.Rows.plainGoodE (PySem.W.view R.prog [143]) (PySem.W.looseW (PySem.W.view R.prog [143]) loo), PyProof.Rows.plainGoodD (PySem.W.view R.prog [143]) loo, PySem.W.wideGood (PySem.W.view R.prog [143]), PySem.W.clsGoodW (PySem.W.view R.prog [143]) loo)) := by kernel_rfl
theorem run_f4 (w : World) (os : OsState) : (U0 (w.withFollow "special-get-raises" false) os).map (fun s => ((ob s).1.1.2, ((ob s).1.2, (ob s).2), factsOn FA FN s)) = some (FN.map He.DefD.val, (TS.map (fun t => some (He.keysIn (w.withFollow "special-get-raises" false).params t.2)), true), true) := by kernel_rfl
theorem run_f (w : World) : RunAt (w.withFollow "special-get-raises" false) := fun os => run_of (run_f0 w os) (run_f1 w os) (run_f3 w os) (run_f4 w os)
theorem run_t0 (w : World) (os : OsState) : (E0 (w.withFollow "special-get-raises" true) os).isSome = true := by kernel_rfl
theorem run_t1 (w : World) (os : OsState) : (U0 (w.withFollow "special-get-raises" true) os).map (fun s => ((look2_ s).2.2.1, (look2_ s).1, (look2_ s).2.1)) = some (true, PyProof.Rows.expectedOf (PySem.W.view R.prog [143]), PySem.bltViewBooted) := by kernel_rfl
theorem run_t3 (w : World) (os : OsState) : (U0 (w.withFollow "special-get-raises" true) os).map (fun s => (lookA (w.withFollow "special-get-raises" true) s, (look2_ s).2.2.2)) = some (true, (true, PySem.pinGoodD (PyProof.Rows.drecsOf (PySem.W.view R.prog [143])), PyProof.Rows.plainGoodE (PySem.W.view R.prog [143]) (PySem.W.looseW (PySem.W.view R.prog [143]) loo), PyProof.Rows.plainGoodD (PySem.W.view R.prog [143]) loo, PySem.W.wideGood (PySem.W.view R.prog [143]), PySem.W.clsGoodW (PySem.W.view R.prog [143]) loo)) := by kernel_rfl
theorem run_t4 (w : World) (os : OsState) : (U0 (w.withFollow "special-get-raises" true) os).map (fun s => ((ob s).1.1.2, ((ob s).1.2, (ob s).2), factsOn FA FN s)) = some (FN.map He.DefD.val, (TS.map (fun t => some (He.keysIn (w.withFollow "special-get-raises" true).params t.2)), true), true) := by kernel_rfl
theorem run_t (w : World) : RunAt (w.withFollow "special-get-raises" true) := fun os => run_of (run_t0 w os) (run_t1 w os) (run_t3 w os) (run_t4 w os)
theorem run (w : World) : RunAt w := PySem.W.byRow2 "special-get-raises" (P := RunAt) run_f run_t w
end KR
/-! Tokens over lists of code points: the mirror and its mathematics -/
namespace KB
/-! ### the mirror -/
def letL : List Nat := [97, 98, 99, 100, 101, 102, 103, 104, 105, 106, 107, 108, 109, 110, 111, 112, 113, 114, 115, 116, 117, 118, 119, 120, 121, 122]
def digL : List Nat := [48, 49, 50, 51, 52, 53, 54, 55, 56, 57]
def runL : List Nat := [97, 98, 99, 100, 101, 102, 103, 104, 105, 106, 107, 108, 109, 110, 111, 112, 113, 114, 115, 116, 117, 118, 119, 120, 121, 122, 48, 49, 50, 51, 52, 53, 54, 55, 56, 57, 95]
def wordsL : List (List Nat) := [[105, 109, 112, 111, 114, 116], [102, 114, 111, 109], [97, 115], [100, 101, 102], [99, 108, 97, 115, 115], [103, 108, 111, 98, 97, 108], [110, 111, 110, 108, 111, 99, 97, 108], [105, 102], [101, 108, 115, 101], [119, 104, 105, 108, 101], [102, 111, 114], [105, 110], [114, 101, 116, 117, 114, 110], [98, 114, 101, 97, 107], [99, 111, 110, 116, 105, 110, 117, 101], [112, 97, 115, 115], [97, 110, 100], [111, 114], [110, 111, 116], [102, 110], [110, 111, 110, 101], [116, 114, 117, 101], [102, 97, 108, 115, 101]]
def signsL : List (List Nat) := [[61, 61], [60, 61], [40], [41], [91], [93], [123], [125], [44], [59], [58], [46], [61], [60], [43], [45], [42]]
def isRun (c : Nat) : Bool := decide (c ∈ runL)
def isDig (c : Nat) : Bool := decide (c ∈ digL)
def isBlank (c : Nat) : Bool := decide (c ∈ [32, 10])
inductive Kind where
  | name | word | number | text | sign
  deriving DecidableEq
def isName (v : List Nat) : Bool := match v with
  | [] => false
  | c :: r => decide ((c :: r).length ≤ 20) && decide (c ∈ letL) && (c :: r).all isRun && !decide ((c :: r) ∈ wordsL)
def isNumber (v : List Nat) : Bool := !(decide (v.length > 18) || (decide (v[0]? = some 48) && decide (v.length > 1))) && v.all isDig
def runKind (v : List Nat) : Option Kind :=
  if v ∈ wordsL then some .word else if isName v = true then some .name else if isNumber v = true then some .number else none
/-- until a sign c, or to the end -/
def upTo (c : Nat) (l : List Nat) : List Nat := l.takeWhile fun d => d != c
/-- the length of the text that starts with the quote ahead of r -/
def textLen (r : List Nat) : Option Nat :=
  if (upTo 39 r).length = r.length ∨ (upTo 39 r).length > 40 ∨ 10 ∈ upTo 39 r then none else some ((upTo 39 r).length + 2)
/-- the token at the head of a text that is not empty: its kind and length -/
def tokenAt (l : List Nat) : Option (Kind × Nat) := match l with
  | [] => none
  | c :: r => if c = 39 then (textLen r).map fun n => (.text, n)
    else if isRun c = true then (runKind ((c :: r).takeWhile isRun)).map fun k => (k, ((c :: r).takeWhile isRun).length)
    else (signsL.find? fun s => s.isPrefixOf (c :: r)).map fun s => (.sign, s.length)
structure Tk where
  kind : Kind
  text : List Nat
  start : Nat
abbrev Res := Except Nat (List Tk)
def Res.add (t : Tk) : Res → Res
  | .ok l => .ok (t :: l)
  | .error e => .error e
def scan : Nat → List Nat → Nat → Res
  | 0, _, _ => .ok []
  | _ + 1, [], _ => .ok []
  | n + 1, c :: r, at_ => if isBlank c = true then scan n r (at_ + 1)
    else if c = 35 then scan n ((c :: r).drop (upTo 10 (c :: r)).length) (at_ + (upTo 10 (c :: r)).length)
    else match tokenAt (c :: r) with
      | none => .error at_
      | some (k, m) => (scan n ((c :: r).drop m) (at_ + m)).add ⟨k, (c :: r).take m, at_⟩
def sc (l : List Nat) (at_ : Nat) : Res := scan l.length l at_
/-! ### steps -/
theorem takeWhile_pos {p : Nat → Bool} {c : Nat} {r : List Nat} (h : p c = true) : 0 < ((c :: r).takeWhile p).length := by
  simp [List.takeWhile, h]
theorem upTo_pos {c d : Nat} {r : List Nat} (h : d ≠ c) : 0 < (upTo c (d :: r)).length := takeWhile_pos (by simpa using h)
theorem signs_pos : ∀ s ∈ signsL, 0 < s.length := by decide
theorem tokenAt_pos {l : List Nat} {k : Kind} {m : Nat} (h : tokenAt l = some (k, m)) : 0 < m := by
  unfold tokenAt at h
  split at h
  · cases h
  · rename_i c r
    split at h
    · unfold textLen at h
      split at h
      · cases h
      · simp at h
        omega
    · split at h
      · rename_i hc
        simp only [Option.map_eq_some_iff] at h
        obtain ⟨_, _, e⟩ := h
        cases e
        exact takeWhile_pos hc
      · simp only [Option.map_eq_some_iff] at h
        obtain ⟨s, hs, e⟩ := h
        cases e
        exact signs_pos s (List.mem_of_find?_eq_some hs)
/-- fuel beyond the length adds nothing -/
theorem scan_fuel : ∀ (n m : Nat) (l : List Nat) (a : Nat), l.length ≤ n → l.length ≤ m → scan n l a = scan m l a
  | 0, 0, _, _, _, _ => rfl
  | 0, m + 1, l, a, hn, _ => by
    have e : l = [] := List.length_eq_zero_iff.mp (by omega)
    subst e
    rfl
  | n + 1, 0, l, a, _, hm => by
    have e : l = [] := List.length_eq_zero_iff.mp (by omega)
    subst e
    rfl
  | n + 1, m + 1, [], a, _, _ => rfl
  | n + 1, m + 1, c :: r, a, hn, hm => by
    have hn' : r.length ≤ n := by simpa using hn
    have hm' : r.length ≤ m := by simpa using hm
    unfold scan
    by_cases h1 : isBlank c = true
    · rw [if_pos h1, if_pos h1]
      exact scan_fuel n m r _ hn' hm'
    · rw [if_neg h1, if_neg h1]
      by_cases h2 : c = 35
      · rw [if_pos h2, if_pos h2]
        have p := upTo_pos (c := 10) (d := c) (r := r) (by omega)
        have e : ((c :: r).drop (upTo 10 (c :: r)).length).length ≤ r.length := by
          rw [List.length_drop, List.length_cons]
          omega
        exact scan_fuel n m _ _ (by omega) (by omega)
      · rw [if_neg h2, if_neg h2]
        cases h3 : tokenAt (c :: r) with
        | none => rfl
        | some q =>
          obtain ⟨k, q⟩ := q
          have p := tokenAt_pos h3
          have e : ((c :: r).drop q).length ≤ r.length := by
            rw [List.length_drop, List.length_cons]
            omega
          show Res.add _ (scan n _ _) = Res.add _ (scan m _ _)
          rw [scan_fuel n m _ _ (by omega) (by omega)]
theorem sc_fuel {n : Nat} {l : List Nat} {a : Nat} (h : l.length ≤ n) : scan n l a = sc l a := scan_fuel _ _ _ _ h (Nat.le_refl _)
theorem sc_nil (a : Nat) : sc [] a = .ok [] := rfl
theorem sc_blank {c : Nat} (r : List Nat) (a : Nat) (h : isBlank c = true) : sc (c :: r) a = sc r (a + 1) := by
  show scan (r.length + 1) (c :: r) a = scan r.length r (a + 1)
  rw [scan, if_pos h]
theorem sc_hash (r : List Nat) (a : Nat) : sc (35 :: r) a = sc ((35 :: r).drop (upTo 10 (35 :: r)).length) (a + (upTo 10 (35 :: r)).length) := by
  show scan (r.length + 1) (35 :: r) a = _
  unfold scan
  rw [if_neg (by decide), if_pos rfl]
  have p := upTo_pos (c := 10) (d := 35) (r := r) (by omega)
  refine sc_fuel ?_
  rw [List.length_drop, List.length_cons]
  omega
theorem sc_tok {c : Nat} (r : List Nat) (a : Nat) (h1 : isBlank c = false) (h2 : c ≠ 35) : sc (c :: r) a = match tokenAt (c :: r) with
    | none => .error a
    | some (k, m) => (sc ((c :: r).drop m) (a + m)).add ⟨k, (c :: r).take m, a⟩ := by
  show scan (r.length + 1) (c :: r) a = _
  unfold scan
  rw [if_neg (by rw [h1]; decide), if_neg h2]
  cases h3 : tokenAt (c :: r) with
  | none => rfl
  | some q =>
    obtain ⟨k, q⟩ := q
    have p := tokenAt_pos h3
    show Res.add _ _ = Res.add _ _
    rw [sc_fuel]
    rw [List.length_drop, List.length_cons]
    omega
/-! ### a row of tokens with blanks between -/
/-- nothing that follows t makes it another token -/
def Sep (t rest : List Nat) : Prop := ∀ c r, rest = c :: r → ((∀ d, t.getLast? = some d → isRun d = true → isRun c = false) ∧ (t = [60] ∨ t = [61] → c ≠ 61))
structure Good (k : Kind) (t : List Nat) : Prop where
  head : ∃ c r, t = c :: r ∧ isBlank c = false ∧ c ≠ 35
  tok : ∀ rest, Sep t rest → tokenAt (t ++ rest) = some (k, t.length)
  ok : ∀ c ∈ t, c < 1114112
/-- what may stand between two tokens -/
def blanksL : List (List Nat) := [[], [32], [10], [32, 32, 32], [35, 32, 97, 32, 39, 98, 10], [32, 35, 32, 105, 102, 32, 120, 10, 32, 32], [35, 10, 10]]
theorem upTo_stop {c : Nat} : ∀ (a r : List Nat), c ∉ a → upTo c (a ++ c :: r) = a
  | [], r, _ => by simp [upTo]
  | d :: a, r, h => by
    have hd : d ≠ c := fun e => h (by simp [e])
    have ih := upTo_stop a r (fun m => h (List.mem_cons_of_mem _ m))
    unfold upTo at ih ⊢
    rw [List.cons_append, List.takeWhile_cons, if_pos (by simpa using hd), ih]
theorem upTo_end {c : Nat} : ∀ (a : List Nat), c ∉ a → upTo c a = a
  | [], _ => rfl
  | d :: a, h => by
    have hd : d ≠ c := fun e => h (by simp [e])
    have ih := upTo_end a (fun m => h (List.mem_cons_of_mem _ m))
    unfold upTo at ih ⊢
    rw [List.takeWhile_cons, if_pos (by simpa using hd), ih]
/-- a comment up to a line feed -/
theorem sc_comment (a r : List Nat) (n : Nat) (h : 10 ∉ a) : sc (35 :: a ++ 10 :: r) n = sc r (n + a.length + 2) := by
  have u : upTo 10 (35 :: a ++ 10 :: r) = 35 :: a := upTo_stop (35 :: a) r (by
    intro m
    rcases List.mem_cons.mp m with e | e
    · omega
    · exact h e)
  rw [List.cons_append, sc_hash, ← List.cons_append, u]
  have d : (35 :: a ++ 10 :: r).drop (35 :: a).length = 10 :: r := by simp
  rw [d, sc_blank _ _ (by decide)]
  congr 1
theorem sc_commentEnd (a : List Nat) (n : Nat) (h : 10 ∉ a) : sc (35 :: a) n = .ok [] := by
  have u : upTo 10 (35 :: a) = 35 :: a := upTo_end (35 :: a) (by
    intro m
    rcases List.mem_cons.mp m with e | e
    · omega
    · exact h e)
  rw [sc_hash, u]
  simp [sc_nil]
theorem sc_blanks : ∀ b ∈ blanksL, ∀ (r : List Nat) (n : Nat), sc (b ++ r) n = sc r (n + b.length) := by
  intro b hb r n
  simp only [blanksL, List.mem_cons, List.not_mem_nil, or_false] at hb
  rcases hb with rfl | rfl | rfl | rfl | rfl | rfl | rfl
  · rfl
  · exact sc_blank _ _ (by decide)
  · exact sc_blank _ _ (by decide)
  · show sc (32 :: 32 :: 32 :: r) n = _
    rw [sc_blank _ _ (by decide), sc_blank _ _ (by decide), sc_blank _ _ (by decide)]
    rfl
  · exact sc_comment [32, 97, 32, 39, 98] r n (by decide)
  · show sc (32 :: ((35 :: [32, 105, 102, 32, 120]) ++ 10 :: (32 :: 32 :: r))) n = _
    rw [sc_blank _ _ (by decide), sc_comment _ _ _ (by decide), sc_blank _ _ (by decide), sc_blank _ _ (by decide)]
    congr 1
  · show sc ((35 :: []) ++ 10 :: (10 :: r)) n = _
    rw [sc_comment _ _ _ (by decide), sc_blank _ _ (by decide)]
    congr 1
theorem sc_good {k : Kind} {t : List Nat} (g : Good k t) (rest : List Nat) (n : Nat) (s : Sep t rest) : sc (t ++ rest) n = (sc rest (n + t.length)).add ⟨k, t, n⟩ := by
  obtain ⟨c, r, e, h1, h2⟩ := g.head
  have h := g.tok rest s
  subst e
  rw [List.cons_append] at h ⊢
  rw [sc_tok _ _ h1 h2, h]
  show Res.add _ _ = _
  have d : (c :: (r ++ rest)).drop (c :: r).length = rest := by
    rw [← List.cons_append]
    simp
  have t : (c :: (r ++ rest)).take (c :: r).length = c :: r := by
    rw [← List.cons_append]
    simp
  rw [d, t]
/-- a written row: its text, its tokens, the last one -/
def must (one other : List Nat) : Bool := match other with
  | [] => false
  | c :: _ => if one = [] then false else if (one = [60] ∨ one = [61] ∨ one = [60, 61]) ∧ c = 61 then true else (match one.getLast? with | some d => isRun d | none => false) && isRun c
inductive Wr : List Nat → List Tk → List Nat → Prop
  | nil : Wr [] [] []
  | snoc {x : List Nat} {ts : List Tk} {last b t : List Nat} {k : Kind} (w : Wr x ts last) (g : Good k t) (hb : b ∈ blanksL) (hm : b = [] → must last t = false) :
      Wr (x ++ b ++ t) (ts ++ [⟨k, t, (x ++ b).length⟩]) t
def Res.pre (ts : List Tk) : Res → Res
  | .ok l => .ok (ts ++ l)
  | .error e => .error e
theorem pre_add (ts : List Tk) (t : Tk) (r : Res) : (r.add t).pre ts = r.pre (ts ++ [t]) := by
  cases r with
  | ok l => simp [Res.add, Res.pre]
  | error e => rfl
theorem pre_nil (r : Res) : r.pre [] = r := by
  cases r <;> rfl
theorem blank_heads : ∀ b ∈ blanksL, ∀ c r, b = c :: r → isRun c = false ∧ c ≠ 61 := by
  intro b hb c r e
  simp only [blanksL, List.mem_cons, List.not_mem_nil, or_false] at hb
  rcases hb with rfl | rfl | rfl | rfl | rfl | rfl | rfl <;> cases e <;> decide
theorem sep_blank {t b rest : List Nat} (hb : b ∈ blanksL) (hne : b ≠ []) : Sep t (b ++ rest) := by
  intro c r e
  cases b with
  | nil => exact absurd rfl hne
  | cons d b' =>
    obtain ⟨h1, h2⟩ := blank_heads _ hb d b' rfl
    have e' : d = c := by
      rw [List.cons_append] at e
      exact (List.cons.inj e).1
    subst e'
    exact ⟨fun _ _ _ => h1, fun _ => h2⟩
theorem sep_must {one t rest : List Nat} (ht : t ≠ []) (h1 : one ≠ []) (h : must one t = false) : Sep one (t ++ rest) := by
  intro c r e
  cases t with
  | nil => exact absurd rfl ht
  | cons d t' =>
    have e' : d = c := by
      rw [List.cons_append] at e
      exact (List.cons.inj e).1
    subst e'
    unfold must at h
    simp only [if_neg h1] at h
    split at h
    · cases h
    · rename_i hn
      refine ⟨fun z hz hr => ?_, fun ho hc => hn ⟨?_, hc⟩⟩
      · rw [hz] at h
        simp only [hr, Bool.true_and] at h
        exact h
      · rcases ho with ho | ho
        · exact .inl ho
        · exact .inr (.inl ho)
theorem wr_scan {x : List Nat} {ts : List Tk} {last : List Nat} (w : Wr x ts last) : ∀ rest, (last = [] ∨ Sep last rest) → sc (x ++ rest) 0 = (sc rest x.length).pre ts := by
  induction w with
  | nil => intro rest _; exact (pre_nil _).symm
  | @snoc x ts last b t k w g hb hm ih =>
    intro rest hs
    have ht : t ≠ [] := by
      obtain ⟨c, r, e, _⟩ := g.head
      rw [e]
      simp
    have hs' : Sep t rest := by
      rcases hs with z | z
      · exact absurd z ht
      · exact z
    have sep : last = [] ∨ Sep last (b ++ (t ++ rest)) := by
      by_cases h0 : last = []
      · exact .inl h0
      · refine .inr ?_
        by_cases hb0 : b = []
        · subst hb0
          show Sep last (t ++ rest)
          exact sep_must ht h0 (hm rfl)
        · exact sep_blank hb hb0
    have e : x ++ b ++ t ++ rest = x ++ (b ++ (t ++ rest)) := by simp
    rw [e, ih _ sep, sc_blanks b hb, sc_good g rest _ hs', pre_add]
    congr 2
    · simp
    · simp
      omega
/-! ### the tokens that the law draws -/
theorem takeWhile_stop {p : Nat → Bool} : ∀ (a r : List Nat), (∀ c ∈ a, p c = true) → (∀ c s, r = c :: s → p c = false) → (a ++ r).takeWhile p = a
  | [], [], _, _ => rfl
  | [], c :: s, _, h => by
    rw [List.nil_append, List.takeWhile_cons, if_neg (by rw [h c s rfl]; decide)]
  | d :: a, r, h, h2 => by
    rw [List.cons_append, List.takeWhile_cons, if_pos (h d (by simp)), takeWhile_stop a r (fun c m => h c (List.mem_cons_of_mem _ m)) h2]
theorem run_small : ∀ c ∈ runL, c < 1114112 := by decide
theorem run_head : ∀ c ∈ runL, isBlank c = false ∧ c ≠ 35 ∧ c ≠ 39 := by decide
theorem good_run {k : Kind} {t : List Nat} (hne : t ≠ []) (hr : ∀ c ∈ t, isRun c = true) (hk : runKind t = some k) : Good k t := by
  have hd : ∃ c r, t = c :: r := by
    cases t with
    | nil => exact absurd rfl hne
    | cons c r => exact ⟨c, r, rfl⟩
  obtain ⟨c, r, e⟩ := hd
  have hc : isRun c = true := hr c (by simp [e])
  obtain ⟨h1, h2, h3⟩ := run_head c (of_decide_eq_true hc)
  refine ⟨⟨c, r, e, h1, h2⟩, fun rest hs => ?_, fun d hd => run_small d (of_decide_eq_true (hr d hd))⟩
  have tw : (t ++ rest).takeWhile isRun = t := takeWhile_stop t rest hr fun d s e2 => by
    refine (hs d s e2).1 (t.getLast hne) (List.getLast?_eq_some_getLast hne) (hr _ (List.getLast_mem hne))
  have e3 : t ++ rest = c :: (r ++ rest) := by simp [e]
  rw [e3] at tw ⊢
  unfold tokenAt
  simp only [if_neg h3, hc, if_true, tw, hk, Option.map_some]
theorem words_head : ∀ v ∈ wordsL, v.head? ≠ some 120 ∧ v.head? ≠ some 113 := by decide
theorem good_name {c : Nat} {w : List Nat} (hc : c = 120 ∨ c = 113) (hw : ∀ d ∈ w, d ∈ [97, 98, 122, 57, 95]) (hl : w.length ≤ 18) : Good .name (c :: w) := by
  have hr : ∀ d ∈ c :: w, isRun d = true := by
    intro d hd
    rcases List.mem_cons.mp hd with e | m
    · subst e
      rcases hc with rfl | rfl <;> decide
    · have := hw d m
      simp only [List.mem_cons, List.not_mem_nil, or_false] at this
      rcases this with rfl | rfl | rfl | rfl | rfl <;> decide
  have hn : (c :: w) ∉ wordsL := fun m => by
    obtain ⟨h1, h2⟩ := words_head _ m
    rcases hc with rfl | rfl
    · exact h1 rfl
    · exact h2 rfl
  refine good_run (by simp) hr ?_
  unfold runKind
  rw [if_neg hn, if_pos]
  unfold isName
  have h1 : (c :: w).length ≤ 20 := by
    rw [List.length_cons]
    omega
  have h2 : c ∈ letL := by rcases hc with rfl | rfl <;> decide
  have h3 : (c :: w).all isRun = true := List.all_eq_true.mpr hr
  simp only [decide_eq_true h1, decide_eq_true h2, h3, decide_eq_false hn, Bool.and_true, Bool.not_false]
theorem good_words : ∀ t ∈ [[105, 109, 112, 111, 114, 116], [97, 115], [110, 111, 110, 108, 111, 99, 97, 108], [102, 110], [110, 111, 110, 101], [111, 114], [99, 111, 110, 116, 105, 110, 117, 101], [100, 101, 102]], Good .word t := by
  intro t ht
  simp only [List.mem_cons, List.not_mem_nil, or_false] at ht
  rcases ht with rfl | rfl | rfl | rfl | rfl | rfl | rfl | rfl <;> exact good_run (by simp) (by decide) (by decide)
theorem good_numbers : ∀ t ∈ [[48], [55], [49, 48], List.replicate 18 57, 49 :: List.replicate 17 48], Good .number t := by
  intro t ht
  simp only [List.mem_cons, List.not_mem_nil, or_false] at ht
  rcases ht with rfl | rfl | rfl | rfl | rfl <;> exact good_run (by simp) (by decide) (by decide)
theorem good_text {w : List Nat} (h1 : 39 ∉ w) (h2 : 10 ∉ w) (h3 : w.length ≤ 40) (h4 : ∀ c ∈ w, c < 1114112) : Good .text (39 :: w ++ [39]) := by
  refine ⟨⟨39, w ++ [39], rfl, by decide, by decide⟩, fun rest _ => ?_, fun c hc => ?_⟩
  rotate_left
  · have hc' : c = 39 ∨ c ∈ w := by
      simp only [List.cons_append, List.mem_cons, List.mem_append, List.not_mem_nil, or_false] at hc
      rcases hc with e | e | e
      · exact .inl e
      · exact .inr e
      · exact .inl e
    rcases hc' with e | e
    · omega
    · exact h4 c e
  have e : 39 :: w ++ [39] ++ rest = 39 :: (w ++ 39 :: rest) := by simp
  have u : upTo 39 (w ++ 39 :: rest) = w := upTo_stop w rest h1
  have hn : ¬ (w.length = (w ++ 39 :: rest).length ∨ w.length > 40 ∨ 10 ∈ w) := by
    rintro (h | h | h)
    · simp at h
    · omega
    · exact h2 h
  rw [e]
  unfold tokenAt textLen
  simp only [if_true, u, if_neg hn, Option.map_some]
  simp
theorem good_signs : ∀ t ∈ signsL, Good .sign t := by
  intro t ht
  simp only [signsL, List.mem_cons, List.not_mem_nil, or_false] at ht
  rcases ht with rfl | rfl | rfl | rfl | rfl | rfl | rfl | rfl | rfl | rfl | rfl | rfl | rfl | rfl | rfl | rfl | rfl
  all_goals refine ⟨⟨_, _, rfl, by decide, by decide⟩, fun rest hs => ?_, by decide⟩
  · rfl
  · rfl
  · rfl
  · rfl
  · rfl
  · rfl
  · rfl
  · rfl
  · rfl
  · rfl
  · rfl
  · rfl
  · cases rest with
    | nil => rfl
    | cons c r =>
      have hc : (61 == c) = false := by
        have := (hs c r rfl).2 (.inr rfl)
        simpa using fun e => this (Eq.symm e)
      show (signsL.find? fun s => s.isPrefixOf (61 :: c :: r)).map (fun s => (Kind.sign, s.length)) = _
      simp [signsL, List.find?, List.isPrefixOf, hc]
  · cases rest with
    | nil => rfl
    | cons c r =>
      have hc : (61 == c) = false := by
        have := (hs c r rfl).2 (.inl rfl)
        simpa using fun e => this (Eq.symm e)
      show (signsL.find? fun s => s.isPrefixOf (60 :: c :: r)).map (fun s => (Kind.sign, s.length)) = _
      simp [signsL, List.find?, List.isPrefixOf, hc]
  · rfl
  · rfl
  · rfl
/-! ### the pieces that are no tokens -/
def wrongL : List (List Nat) := [[65], [36], [39, 97], 39 :: List.replicate 41 97 ++ [39], List.replicate 19 57, [48, 49], [49, 97], [95, 97], List.replicate 21 97, [33], [9], [39, 97, 10, 39], [34]]
theorem wrong_sc : ∀ w ∈ wrongL, ∀ a, sc w a = .error a ∧ sc (w ++ [32]) a = .error a := by
  intro w hw a
  simp only [wrongL, List.mem_cons, List.not_mem_nil, or_false] at hw
  rcases hw with rfl | rfl | rfl | rfl | rfl | rfl | rfl | rfl | rfl | rfl | rfl | rfl | rfl <;> exact ⟨rfl, rfl⟩
theorem sc_spaces : ∀ (n a : Nat), sc (List.replicate n 32) a = .ok []
  | 0, _ => rfl
  | n + 1, a => by
    rw [List.replicate_succ, sc_blank _ _ (by decide)]
    exact sc_spaces n _
theorem sc_a (n : Nat) : sc (97 :: List.replicate (n + 1) 32) 0 = .ok [⟨.name, [97], 0⟩] := by
  have g : Good .name [97] := good_run (by simp) (by decide) (by decide)
  have z := sc_good g (List.replicate (n + 1) 32) 0 (by
    intro c r e
    rw [List.replicate_succ] at e
    have := (List.cons.inj e).1
    subst this
    exact ⟨fun _ _ _ => by decide, fun _ => by decide⟩)
  rw [sc_spaces] at z
  exact z
theorem sc_ab : sc [97, 60, 61, 61, 98] 0 = .ok [⟨.name, [97], 0⟩, ⟨.sign, [60, 61], 1⟩, ⟨.sign, [61], 3⟩, ⟨.name, [98], 4⟩] := rfl
theorem wr_ok {x : List Nat} {ts : List Tk} {last : List Nat} (w : Wr x ts last) : ∀ t ∈ ts, ∀ c ∈ t.text, c < 1114112 := by
  induction w with
  | nil => intro t h; exact absurd h List.not_mem_nil
  | snoc w g hb hm ih =>
    intro t h
    rcases List.mem_append.mp h with h | h
    · exact ih t h
    · rw [List.mem_singleton.mp h]
      exact g.ok
/-- what the law asks of a written row -/
theorem row_end {x : List Nat} {ts : List Tk} {last : List Nat} (w : Wr x ts last) : sc x 0 = .ok ts ∧ sc (x ++ [10, 35, 32, 101, 110, 100]) 0 = .ok ts ∧
    ∀ v ∈ wrongL, sc (x ++ [10] ++ v) 0 = .error (x.length + 1) ∧ sc (x ++ [10] ++ v ++ [32]) 0 = .error (x.length + 1) := by
  have line : ∀ r, Sep last (10 :: r) := fun r c s e => by
    have := (List.cons.inj e).1
    subst this
    exact ⟨fun _ _ _ => by decide, fun _ => by decide⟩
  refine ⟨?_, ?_, fun v hv => ⟨?_, ?_⟩⟩
  · have z := wr_scan w [] (.inr fun c r e => nomatch e)
    rw [List.append_nil] at z
    rw [z, sc_nil]
    simp [Res.pre]
  · rw [wr_scan w _ (.inr (line _)), sc_blank _ _ (by decide), sc_commentEnd _ _ (by decide)]
    simp [Res.pre]
  · have z := wr_scan w (10 :: v) (.inr (line _))
    rw [sc_blank _ _ (by decide), (wrong_sc v hv _).1] at z
    simpa [Res.pre] using z
  · have z := wr_scan w (10 :: (v ++ [32])) (.inr (line _))
    rw [sc_blank _ _ (by decide), (wrong_sc v hv _).2] at z
    simpa [Res.pre] using z
end KB
/-! The syntax over tokens: the mirror of the program's reading, by fuel, without the trees -/
namespace KB
structure PS where
  i : Nat
  o : Int
  f : Option Nat
  e : Nat
abbrev Rs (α : Type) := Option (Except Nat (α × PS))
abbrev M (α : Type) := PS → Rs α
def M.ret {α} (a : α) : M α := fun s => some (.ok (a, s))
def M.bnd {α β} (x : M α) (f : α → M β) : M β := fun s => match x s with
  | none => none
  | some (.error e) => some (.error e)
  | some (.ok (a, s')) => f a s'
/-- what the result of an expression is: a name, a member, or something else -/
inductive Sh where
  | name (t : List Nat) | member | other
def Sh.target : Sh → Bool
  | .name _ => true
  | .member => true
  | .other => false
section
variable (ts : List Tk) (n : Nat)
def tx (k : Nat) (s : PS) : List Nat := match ts[s.i + k]? with
  | some t => t.text
  | none => []
def kd (s : PS) : Option Kind := ts[s.i]?.map Tk.kind
def st (s : PS) : Nat := match ts[s.i]? with
  | some t => t.start
  | none => n
def refuse {α} : M α := fun s => some (.error (st ts n s))
def beyond (s : PS) : Bool := (decide (tx ts 0 s ∈ ([[40], [91], [123]] : List (List Nat))) && decide (s.o = 30)) || (match s.f with
  | none => false
  | some f => decide ((s.i : Int) - f = 100))
def take : M Nat := fun s => if beyond ts s = true then refuse ts n s else
  some (.ok (st ts n s, { s with
    i := s.i + 1
    o := if tx ts 0 s ∈ ([[40], [91], [123]] : List (List Nat)) then s.o + 1 else if tx ts 0 s ∈ ([[41], [93], [125]] : List (List Nat)) then s.o - 1 else s.o
    e := st ts n s + (tx ts 0 s).length }))
def expect (w : List Nat) : M Nat := fun s => if tx ts 0 s = w then take ts n s else refuse ts n s
def takeIf (w : List Nat) : M Bool := fun s => if tx ts 0 s = w then (take ts n).bnd (fun _ => M.ret true) s else some (.ok (false, s))
def takeName (taken : List (List Nat)) : M (List Nat) := fun s => if kd ts s = some .name ∧ tx ts 0 s ∉ taken then (take ts n).bnd (fun _ => M.ret (tx ts 0 s)) s else refuse ts n s
def begin : M Bool := fun s => match s.f with
  | some _ => some (.ok (false, s))
  | none => some (.ok (true, { s with f := some s.i }))
def endE : M Unit := fun s => some (.ok ((), { s with f := none }))
def addO (z : Int) : M Unit := fun s => some (.ok ((), { s with o := s.o + z }))
def level (w : List Nat) : Nat := if w = ([111, 114] : List Nat) then 1 else if w = ([97, 110, 100] : List Nat) then 2 else if w = ([61, 61] : List Nat) then 4 else if w = ([60] : List Nat) then 4 else if w = ([60, 61] : List Nat) then 4 else if w = ([43] : List Nat) then 5 else if w = ([45] : List Nat) then 5 else if w = ([42] : List Nat) then 6 else 0
/-- the readers that call each other, of one depth -/
structure Par where
  expr : Nat → M Sh
  signs : Nat → Nat → M Sh
/-! expressions, by the readers one deeper -/
section
variable (p : Par)
/-- parameters behind the first look; the names ahead, whether the last one has a default -/
def paramS (ahead : List (List Nat)) (dflt : Bool) : M (List Nat × Bool) := (takeName ts n ahead).bnd fun a => (takeIf ts n ([61] : List Nat)).bnd fun b =>
  if b = true then (p.expr 0).bnd fun _ => M.ret (a, true)
  else if dflt = true then refuse ts n else M.ret (a, false)
def paramsL (cl : List Nat) : Nat → List (List Nat) → Bool → M Unit
  | 0, _, _ => fun _ => none
  | m + 1, ahead, dflt => (paramS ts n p ahead dflt).bnd fun (a, d) => (takeIf ts n cl).bnd fun b =>
    if b = true then M.ret () else (expect ts n ([44] : List Nat)).bnd fun _ => paramsL cl m (ahead ++ [a]) d
def paramsS (cl : List Nat) : M Unit := (takeIf ts n cl).bnd fun b => if b = true then M.ret () else paramsL ts n p cl (ts.length + 1) [] false
def fnS : M Sh := (expect ts n ([102, 110] : List Nat)).bnd fun _ => (paramsS ts n p ([58] : List Nat)).bnd fun _ => (p.expr 2).bnd fun _ => M.ret .other
def argS (keys : List (List Nat)) : M (Option (List Nat)) := fun s =>
  if keys ≠ [] ∨ (kd ts s = some .name ∧ tx ts 1 s = ([61] : List Nat)) then ((takeName ts n keys).bnd fun a => (expect ts n ([61] : List Nat)).bnd fun _ => (p.expr 2).bnd fun _ => M.ret (some a)) s
  else ((p.expr 2).bnd fun _ => M.ret none) s
def argsL : Nat → List (List Nat) → M Unit
  | 0, _ => fun _ => none
  | m + 1, keys => (argS ts n p keys).bnd fun a => (takeIf ts n ([41] : List Nat)).bnd fun b =>
    if b = true then M.ret () else (expect ts n ([44] : List Nat)).bnd fun _ => argsL m (match a with | none => keys | some k => keys ++ [k])
def argsS : M Unit := (takeIf ts n ([41] : List Nat)).bnd fun b => if b = true then M.ret () else argsL ts n p (ts.length + 1) []
def compS (mode : Nat) : M Sh := (expect ts n ([102, 111, 114] : List Nat)).bnd fun _ => (takeName ts n []).bnd fun _ => (expect ts n ([105, 110] : List Nat)).bnd fun _ => (p.expr mode).bnd fun _ =>
  (takeIf ts n ([105, 102] : List Nat)).bnd fun b => (if b = true then (p.expr mode).bnd fun _ => M.ret () else M.ret ()).bnd fun _ => (expect ts n ([93] : List Nat)).bnd fun _ => M.ret .other
def rowsL (mode : Nat) : Nat → M Unit
  | 0 => fun _ => none
  | m + 1 => (takeIf ts n ([44] : List Nat)).bnd fun b => if b = true then (p.expr mode).bnd fun _ => rowsL mode m else M.ret ()
def listS (mode : Nat) : M Sh := (expect ts n ([91] : List Nat)).bnd fun _ => (takeIf ts n ([93] : List Nat)).bnd fun b => if b = true then M.ret .other else (p.expr mode).bnd fun _ => fun s =>
  if tx ts 0 s = ([102, 111, 114] : List Nat) then compS ts n p mode s else ((rowsL ts n p mode (ts.length + 1)).bnd fun _ => (expect ts n ([93] : List Nat)).bnd fun _ => M.ret .other) s
def singleS (mode : Nat) : M Sh := fun s =>
  if kd ts s = some .name then ((takeName ts n []).bnd fun a => M.ret (.name a)) s
  else if kd ts s = some .number ∨ kd ts s = some .text ∨ tx ts 0 s ∈ ([[110, 111, 110, 101], [116, 114, 117, 101], [102, 97, 108, 115, 101]] : List (List Nat)) then ((take ts n).bnd fun _ => M.ret .other) s
  else if tx ts 0 s = ([91] : List Nat) then listS ts n p mode s
  else ((expect ts n ([40] : List Nat)).bnd fun _ => (p.expr mode).bnd fun _ => (expect ts n ([41] : List Nat)).bnd fun _ => M.ret .other) s
def callL (mode : Nat) : Nat → Sh → M Sh
  | 0, _ => fun _ => none
  | m + 1, x => (takeIf ts n ([46] : List Nat)).bnd fun b => if b = true then (takeName ts n []).bnd fun _ => callL mode m .member else
    (takeIf ts n ([91] : List Nat)).bnd fun b => if b = true then (p.expr mode).bnd fun _ => (expect ts n ([93] : List Nat)).bnd fun _ => callL mode m .other else
    if mode = 2 then (takeIf ts n ([40] : List Nat)).bnd fun b => if b = true then (argsS ts n p).bnd fun _ => callL mode m .other else M.ret x
    else M.ret x
def callS (mode : Nat) : M Sh := (singleS ts n p mode).bnd fun x => callL ts n p mode (ts.length + 1) x
def minus (w : List Nat) : Nat → Nat → M Nat
  | 0, _ => fun _ => none
  | m + 1, k => fun s => if tx ts 0 s = w then (take ts n).bnd (fun _ => minus w m (k + 1)) s else some (.ok (k, s))
def aheadS (mode lv : Nat) : M (Sh × Nat) := fun s =>
  if lv ≤ 3 ∧ tx ts 0 s = ([110, 111, 116] : List Nat) then ((minus ts n ([110, 111, 116] : List Nat) (ts.length + 1) 0).bnd fun k => (p.signs mode 4).bnd fun x => M.ret (if k = 0 then x else .other, 3)) s
  else ((minus ts n ([45] : List Nat) (ts.length + 1) 0).bnd fun k => (callS ts n p mode).bnd fun x => M.ret (if k = 0 then x else .other, 6)) s
def sgnL (mode lv : Nat) : Nat → Sh → Nat → M Sh
  | 0, _, _ => fun _ => none
  | m + 1, x, closest => fun s => let l := level (tx ts 0 s)
    if lv ≤ l ∧ l ≤ closest then ((take ts n).bnd fun _ => (p.signs mode (l + 1)).bnd fun _ => sgnL mode lv m .other (if l = 4 then 3 else l)) s
    else some (.ok (x, s))
def signsS (mode lv : Nat) : M Sh := (aheadS ts n p mode lv).bnd fun (x, c) => sgnL ts n p mode lv (ts.length + 1) x c
def exprS (mode : Nat) : M Sh := begin.bnd fun out => M.bnd (fun s => if tx ts 0 s = ([102, 110] : List Nat) ∧ mode ≠ 0 then fnS ts n p s else signsS ts n p mode 1 s) fun x =>
  if out = true then endE.bnd fun _ => M.ret x else M.ret x
def step : Par := ⟨exprS ts n p, signsS ts n p⟩
end
def par : Nat → Par
  | 0 => ⟨fun _ _ => none, fun _ _ _ => none⟩
  | d + 1 => step ts n (par d)
/-! statements -/
section
variable (p : Par)
def targetS : M Unit := begin.bnd fun _ => (callS ts n p 2).bnd fun x => endE.bnd fun _ => if x.target = true then M.ret () else refuse ts n
def rightS (mode : Nat) : M Unit := (p.expr mode).bnd fun _ => (expect ts n ([59] : List Nat)).bnd fun _ => M.ret ()
def targetsL : Nat → M Unit
  | 0 => fun _ => none
  | m + 1 => (takeIf ts n ([44] : List Nat)).bnd fun b => if b = true then (targetS ts n p).bnd fun _ => targetsL m else M.ret ()
def assignS : M Unit := (p.expr 2).bnd fun x => fun s => if x.target = false ∨ ¬ (tx ts 0 s = ([44] : List Nat) ∨ tx ts 0 s = ([61] : List Nat)) then ((expect ts n ([59] : List Nat)).bnd fun _ => M.ret ()) s
  else ((targetsL ts n p (ts.length + 1)).bnd fun _ => (expect ts n ([61] : List Nat)).bnd fun _ => rightS ts n p 2) s
def namesL : Nat → M Unit
  | 0 => fun _ => none
  | m + 1 => (takeIf ts n ([44] : List Nat)).bnd fun b => if b = true then (takeName ts n []).bnd fun _ => namesL m else M.ret ()
def outerS : M Unit := (take ts n).bnd fun _ => (takeName ts n []).bnd fun _ => (namesL ts n (ts.length + 1)).bnd fun _ => (expect ts n ([59] : List Nat)).bnd fun _ => M.ret ()
def returnS : M Unit := (expect ts n ([114, 101, 116, 117, 114, 110] : List Nat)).bnd fun _ => M.bnd (fun s => if tx ts 0 s = ([59] : List Nat) then M.ret () s else ((p.expr 2).bnd fun _ => M.ret ()) s) fun (_ : Unit) => (expect ts n ([59] : List Nat)).bnd fun _ => M.ret ()
structure Par2 where
  block : Bool → M Unit
  ifs : Bool → M Unit
  defs : M Unit
variable (q : Par2)
def whileS : M Unit := (expect ts n ([119, 104, 105, 108, 101] : List Nat)).bnd fun _ => (p.expr 2).bnd fun _ => q.block true
def forS : M Unit := (expect ts n ([102, 111, 114] : List Nat)).bnd fun _ => (takeName ts n []).bnd fun _ => (expect ts n ([105, 110] : List Nat)).bnd fun _ => (p.expr 2).bnd fun _ => q.block true
def stmtS (looped : Bool) : M Unit := fun s => let w := tx ts 0 s
  if w = ([100, 101, 102] : List Nat) then q.defs s else if w = ([105, 102] : List Nat) then q.ifs looped s else if w = ([119, 104, 105, 108, 101] : List Nat) then whileS ts n p q s else if w = ([102, 111, 114] : List Nat) then forS ts n p q s
  else if w = ([114, 101, 116, 117, 114, 110] : List Nat) then returnS ts n p s else if w = ([103, 108, 111, 98, 97, 108] : List Nat) ∨ w = ([110, 111, 110, 108, 111, 99, 97, 108] : List Nat) then outerS ts n s
  else if w = ([112, 97, 115, 115] : List Nat) ∨ (looped = true ∧ (w = ([98, 114, 101, 97, 107] : List Nat) ∨ w = ([99, 111, 110, 116, 105, 110, 117, 101] : List Nat))) then ((take ts n).bnd fun _ => (expect ts n ([59] : List Nat)).bnd fun _ => M.ret ()) s
  else assignS ts n p s
def blockL (looped : Bool) : Nat → M Unit
  | 0 => fun _ => none
  | m + 1 => (takeIf ts n ([125] : List Nat)).bnd fun b => if b = true then M.ret () else (stmtS ts n p q looped).bnd fun _ => blockL looped m
def blockS (looped : Bool) : M Unit := (expect ts n ([123] : List Nat)).bnd fun _ => blockL ts n p q looped (ts.length + 1)
def ifS (looped : Bool) : M Unit := (expect ts n ([105, 102] : List Nat)).bnd fun _ => (p.expr 2).bnd fun _ => (q.block looped).bnd fun _ => (takeIf ts n ([101, 108, 115, 101] : List Nat)).bnd fun b =>
  if b = true then fun s => if tx ts 0 s = ([105, 102] : List Nat) then ((addO 1).bnd fun _ => (q.ifs looped).bnd fun _ => addO (-1)) s else q.block looped s
  else M.ret ()
def defS : M Unit := (expect ts n ([100, 101, 102] : List Nat)).bnd fun _ => (takeName ts n []).bnd fun _ => (expect ts n ([40] : List Nat)).bnd fun _ => (paramsS ts n p ([41] : List Nat)).bnd fun _ => q.block false
def step2 : Par2 := ⟨blockS ts n p q, ifS ts n p q, defS ts n p q⟩
end
def par2 (p : Par) : Nat → Par2
  | 0 => ⟨fun _ _ => none, fun _ _ => none, fun _ => none⟩
  | d + 1 => step2 ts n p (par2 p d)
/-! modules -/
section
variable (p : Par) (q : Par2)
def aliasS : M Unit := (takeIf ts n ([97, 115] : List Nat)).bnd fun b => if b = true then (takeName ts n []).bnd fun _ => M.ret () else M.ret ()
def importS : M Unit := (expect ts n ([105, 109, 112, 111, 114, 116] : List Nat)).bnd fun _ => (takeName ts n []).bnd fun _ => (aliasS ts n).bnd fun _ => (expect ts n ([59] : List Nat)).bnd fun _ => M.ret ()
def itemS : M Unit := (takeName ts n []).bnd fun _ => aliasS ts n
def itemsL : Nat → M Unit
  | 0 => fun _ => none
  | m + 1 => (takeIf ts n ([44] : List Nat)).bnd fun b => if b = true then (itemS ts n).bnd fun _ => itemsL m else M.ret ()
def fromS : M Unit := (expect ts n ([102, 114, 111, 109] : List Nat)).bnd fun _ => (takeName ts n []).bnd fun _ => (expect ts n ([105, 109, 112, 111, 114, 116] : List Nat)).bnd fun _ =>
  M.bnd (fun s => if tx ts 0 s = ([42] : List Nat) then ((take ts n).bnd fun _ => M.ret ()) s else ((itemS ts n).bnd fun _ => itemsL ts n (ts.length + 1)) s) fun (_ : Unit) => (expect ts n ([59] : List Nat)).bnd fun _ => M.ret ()
def doaS : M Unit := fun s => if tx ts 0 s = ([100, 101, 102] : List Nat) then q.defs s else ((takeName ts n []).bnd fun _ => (expect ts n ([61] : List Nat)).bnd fun _ => rightS ts n p 1) s
def classL : Nat → M Unit
  | 0 => fun _ => none
  | m + 1 => (takeIf ts n ([125] : List Nat)).bnd fun b => if b = true then M.ret () else (doaS ts n p q).bnd fun _ => classL m
def classS : M Unit := (expect ts n ([99, 108, 97, 115, 115] : List Nat)).bnd fun _ => (takeName ts n []).bnd fun _ => (takeIf ts n ([40] : List Nat)).bnd fun b =>
  (if b = true then (takeName ts n []).bnd fun _ => (takeIf ts n ([46] : List Nat)).bnd fun c => (if c = true then (takeName ts n []).bnd fun _ => M.ret () else M.ret ()).bnd fun _ => (expect ts n ([41] : List Nat)).bnd fun _ => M.ret () else M.ret ()).bnd fun _ =>
  (expect ts n ([123] : List Nat)).bnd fun _ => classL ts n p q (ts.length + 1)
def topS1 : M Unit := fun s => let w := tx ts 0 s
  if w = ([105, 109, 112, 111, 114, 116] : List Nat) then importS ts n s else if w = ([102, 114, 111, 109] : List Nat) then fromS ts n s else if w = ([99, 108, 97, 115, 115] : List Nat) then classS ts n p q s else doaS ts n p q s
def topL : Nat → M Unit
  | 0 => fun _ => none
  | m + 1 => fun s => if tx ts 0 s = [] then some (.ok ((), s)) else (topS1 ts n p q).bnd (fun _ => topL m) s
end
end
/-- what check_syntax does with a text: none = fuel out, some none = taken, some (some (true, at)) = no token there, some (some (false, at)) = the syntax -/
def check (d : Nat) (x : List Nat) : Option (Option (Bool × Nat)) := match sc x 0 with
  | .error e => some (some (true, e))
  | .ok ts => match topL ts x.length (par ts x.length d) (par2 ts x.length (par ts x.length d) d) (ts.length + 1) ⟨0, 0, none, 0⟩ with
    | none => none
    | some (.error e) => some (some (false, e))
    | some (.ok _) => some none
end KB
set_option maxHeartbeats 4000000
namespace KB
open PySem PySem.Spec PyProof.Rows L2
open TL (tl len_tl ext_tl tl_append mk_tl)
/-! ### texts as lists of code points -/
def S (l : List Nat) : Str := ⟨l.toArray⟩
theorem tl_S (l : List Nat) : tl (S l) = l := rfl
theorem S_tl (x : Str) : S (tl x) = x := mk_tl x
theorem S_len (l : List Nat) : (S l).length = l.length := by
  rw [len_tl]
  rfl
theorem S_inj {a b : List Nat} (h : S a = S b) : a = b := congrArg tl h
theorem S_add (a b : List Nat) : S a ++ S b = S (a ++ b) := ext_tl (by rw [tl_append]; rfl)
theorem S_eq (a b : List Nat) : decide (V.str (S a) = V.str (S b)) = decide (a = b) := by
  rw [Bool.eq_iff_iff, decide_eq_true_eq, decide_eq_true_eq]
  exact ⟨fun h => S_inj (V.str.inj h), fun h => by rw [h]⟩
theorem fromI (n i : Nat) : PySem.fromIndex n (i : Int) = i := by
  unfold PySem.fromIndex
  rw [if_neg (by omega)]
  omega
theorem upTo_get {c : Nat} : ∀ (l : List Nat), (upTo c l).length < l.length → l[(upTo c l).length]? = some c
  | [], h => by simp at h
  | d :: l, h => by
    unfold upTo at h ⊢
    by_cases e : d = c
    · subst e
      rw [List.takeWhile_cons, if_neg (by simp)]
      rfl
    · have e' : (d != c) = true := by simpa using e
      rw [List.takeWhile_cons, if_pos e'] at h ⊢
      have ih := upTo_get (c := c) l (by
        unfold upTo
        simpa using h)
      unfold upTo at ih
      simpa using ih
theorem upTo_below {c : Nat} : ∀ (l : List Nat) (i : Nat), i < (upTo c l).length → l[i]? ≠ some c
  | [], i, h => by simp [upTo] at h
  | d :: l, i, h => by
    unfold upTo at h
    by_cases e : d = c
    · subst e
      rw [List.takeWhile_cons, if_neg (by simp)] at h
      simp at h
    · have e' : (d != c) = true := by simpa using e
      rw [List.takeWhile_cons, if_pos e'] at h
      cases i with
      | zero =>
        intro z
        exact e (Option.some.inj z)
      | succ i =>
        have ih := upTo_below (c := c) l i (by
          unfold upTo
          simpa using h)
        simpa using ih
theorem upTo_le {c : Nat} (l : List Nat) : (upTo c l).length ≤ l.length := by
  unfold upTo
  exact (List.takeWhile_sublist _).length_le
open PySem.StrLaws in
/-- text.find(sign, i) -/
theorem find_one (l : List Nat) (c i : Nat) (hi : i ≤ l.length) : Txt.find3 (S l) ⟨#[c]⟩ (i : Int) =
    if (upTo c (l.drop i)).length = (l.drop i).length then -1 else ((i + (upTo c (l.drop i)).length : Nat) : Int) := by
  have one : (⟨#[c]⟩ : Str).length = 1 := rfl
  have n : (S l).length = l.length := S_len l
  have at_ : ∀ j, At (S l) ⟨#[c]⟩ (S l).length j ↔ l[j]? = some c := fun j => by
    unfold At
    rw [one, n]
    constructor
    · exact fun h => ((subAt_one (S l) c j).mp (by simpa [one, n] using h)).trans rfl
    · exact fun h => by
        have z := (subAt_one (S l) c j).mpr h
        simpa [one, n] using z
  unfold Txt.find3
  rw [fromI, occ_eq]
  have lt : (upTo c (l.drop i)).length ≤ (l.drop i).length := upTo_le _
  rcases occ_first (S l) ⟨#[c]⟩ (S l).length 1 (by decide) (List.range' i ((S l).length + 1 - i)) i (fun j hj => by
      rw [List.mem_range'_1] at hj
      exact hj.1) with ⟨h0, hn⟩ | ⟨pre, a, post, e, h0, ha, hn⟩
  · rw [h0]
    by_cases full : (upTo c (l.drop i)).length = (l.drop i).length
    · rw [if_pos full]
    · have z := upTo_get (c := c) (l.drop i) (by omega)
      rw [List.getElem?_drop] at z
      have hl := (List.getElem?_eq_some_iff.mp z).1
      exact absurd ((at_ _).mpr z) (hn _ (by
        rw [List.mem_range'_1, n]
        omega))
  · have la : l[a]? = some c := (at_ a).mp ha
    have mem : a ∈ List.range' i ((S l).length + 1 - i) := by
      rw [e]
      simp
    rw [List.mem_range'_1] at mem
    have la' : (l.drop i)[a - i]? = some c := by
      rw [List.getElem?_drop, show i + (a - i) = a by omega]
      exact la
    have nfull : (upTo c (l.drop i)).length ≠ (l.drop i).length := fun z => by
      have hh := (List.getElem?_eq_some_iff.mp la').1
      exact upTo_below (l.drop i) (a - i) (by omega) la'
    have first : a = i + (upTo c (l.drop i)).length := by
      have g1 : (upTo c (l.drop i)).length ≤ a - i := by
        by_cases q : (upTo c (l.drop i)).length ≤ a - i
        · exact q
        · exact absurd la' (upTo_below _ _ (by omega))
      have z := upTo_get (c := c) (l.drop i) (by omega)
      rw [List.getElem?_drop] at z
      by_cases q : a = i + (upTo c (l.drop i)).length
      · exact q
      · have before : i + (upTo c (l.drop i)).length ∈ pre := by
          have sorted : (List.range' i ((S l).length + 1 - i)).Pairwise (· < ·) := List.pairwise_lt_range'
          have m2 : i + (upTo c (l.drop i)).length ∈ List.range' i ((S l).length + 1 - i) := by
            rw [List.mem_range'_1]
            omega
          rw [e] at m2 sorted
          rcases List.mem_append.mp m2 with m | m
          · exact m
          · rcases List.mem_cons.mp m with m | m
            · omega
            · have := (List.pairwise_cons.mp (List.pairwise_append.mp sorted).2.1).1 _ m
              omega
        exact absurd ((at_ _).mpr z) (hn _ before)
    rw [if_neg nfull]
    generalize (forIn (List.range' i ((S l).length + 1 - i)) ((#[] : Array Nat), i) (occBody (S l) ⟨#[c]⟩ (S l).length 1)).run.fst = arr at h0
    have h1 : arr.toList[0]? = some a := by simpa using h0
    cases hL : arr.toList with
    | nil => rw [hL] at h1; cases h1
    | cons b t =>
      rw [hL] at h1
      have : b = a := Option.some.inj h1
      show ((b : Nat) : Int) = _
      rw [this, first]
theorem isPrefix_take : ∀ (s l : List Nat), s.isPrefixOf l = decide (l.take s.length = s)
  | [], l => by simp [List.isPrefixOf]
  | c :: s, [] => by simp [List.isPrefixOf]
  | c :: s, d :: l => by
    rw [List.isPrefixOf, isPrefix_take s l]
    by_cases e : c = d
    · subst e
      simp
    · have e' : (c == d) = false := by simpa using e
      simp [e', Ne.symm e]
theorem starts_at (l s : List Nat) (i : Nat) (hi : i ≤ l.length) : Txt.startswith3 (S l) (S s) (i : Int) = s.isPrefixOf (l.drop i) := by
  unfold Txt.startswith3
  rw [fromI, S_len, S_len, isPrefix_take]
  have e : Builtin.Str.subAt (S l) (S s) i = decide ((l.drop i).take s.length = s) := by
    unfold Builtin.Str.subAt
    rw [Bool.eq_iff_iff, decide_eq_true_eq]
    have z : ((S l).cps.extract i (i + (S s).length)).toList = (l.drop i).take s.length := by
      rw [Array.toList_extract, S_len]
      show List.take (i + s.length - i) (l.drop i) = _ <;> simp [List.extract]
    constructor
    · intro h
      have h2 : (S l).cps.extract i (i + (S s).length) = (S s).cps := by simpa using h
      rw [← z, h2]
      rfl
    · intro h
      have h2 : (S l).cps.extract i (i + (S s).length) = (S s).cps := Array.toList_inj.mp (by rw [z, h]; rfl)
      simpa using h2
  rw [e]
  by_cases q : (l.drop i).take s.length = s
  · have := congrArg List.length q
    rw [List.length_take, List.length_drop] at this
    simp [q]
    omega
  · simp [q]
theorem cut_at (l : List Nat) (i j : Nat) (hi : i ≤ j) (hj : j ≤ l.length) : cutS (S l) (some (i : Int)) (some (j : Int)) = S ((l.drop i).take (j - i)) := by
  unfold cutS
  rw [HT.sIx_nat, HT.sIx_nat, S_len, Nat.min_eq_left hj, Nat.min_eq_left (show i ≤ l.length by omega)]
  rfl
/-! ### the texts of the program -/
theorem tLET : (Str.ofString "abcdefghijklmnopqrstuvwxyz") = S letL := by decide +kernel
theorem tDIG : (Str.ofString "0123456789") = S digL := by decide +kernel
theorem tRUN : (Str.ofString "abcdefghijklmnopqrstuvwxyz0123456789_") = S runL := by decide +kernel
theorem tBLA : (Str.ofString " \n") = S [32, 10] := by decide +kernel
end KB
namespace KB
open PySem PySem.Spec PyProof.Rows L2
abbrev sPool : Stmt := topS 139
abbrev sTake : Stmt := topS 140
/-! ### the draws -/
/-- what is known of a pool's two numbers -/
structure PoolOk (a b : Int) : Prop where
  a0 : 0 ≤ a
  ab : Builtin.Int.intBits a ≤ 1048576
  b0 : 0 ≤ b
  bb : b < 2147483647
def PoolAt (H : Hp) (p : Addr) : Prop := ∃ a b, PoolOk a b ∧ H p = some (.lst [.int a, .int b])
section
variable {X : Cx}
/-- * of ints of any size that a model carries -/
theorem op_mulB : OpR X (binaryOp .Mult) (rI (fun i j => Builtin.Int.intBits i + Builtin.Int.intBits j ≤ 100000000) fun i j => .int (i * j)) := opI fun i j _ _ _ _ _ hc q => mul_int q (by
  unfold IntMulOk
  intro z
  rw [Bool.and_eq_true] at z
  have z2 := z.2
  unfold Builtin.Int.intTooBig at z2
  have z3 := of_decide_eq_true z2
  rw [show bitsLine = 134217728 by decide] at z3
  omega)
end
theorem bits_le {i : Int} {n : Nat} (hn : 0 < n) (h : i.natAbs < 2 ^ n) : Builtin.Int.intBits i ≤ n := by
  unfold Builtin.Int.intBits
  split
  · omega
  · have := PySem.Flt.log2_lt_of hn h
    omega
theorem bits_mono {i j : Int} (h0 : 0 ≤ i) (h : i ≤ j) : Builtin.Int.intBits i ≤ Builtin.Int.intBits j := by
  unfold Builtin.Int.intBits
  by_cases hi : i = 0
  · rw [if_pos (by rw [hi]; rfl)]
    exact Nat.zero_le _
  · have hj : j ≠ 0 := by omega
    rw [if_neg (by simpa using hi), if_neg (by simpa using hj)]
    have h1 : i.natAbs ≤ j.natAbs := by omega
    have h2 : j.natAbs.log2 < j.natAbs.log2 + 1 := Nat.lt_succ_self _
    have h3 : j.natAbs < 2 ^ (j.natAbs.log2 + 1) := (Nat.log2_lt (by omega)).mp h2
    have h4 : i.natAbs.log2 < j.natAbs.log2 + 1 := (Nat.log2_lt (by omega)).mpr (Nat.lt_of_le_of_lt h1 h3)
    omega
section
variable {P : Program} {w : World} {K : PySem.W.Frag} {mg : Str → Option Value} {base : Heap}
theorem scTake : FnScope ["_law_pool_here", "_law_many", "_law_found"] ["_law_pool_here", "_law_many"] (defScope sTake) := ⟨rfl, rfl, rfl, by decide +kernel, rfl, by decide +kernel, by decide +kernel⟩
theorem scPool : FnScope ["_law_script", "_law_k", "_law_cell", "_law_size", "_law_seed"] ["_law_script", "_law_k"] (defScope sPool) := ⟨rfl, rfl, rfl, by decide +kernel, rfl, by decide +kernel, by decide +kernel⟩
/-- _law_take(pool, n): a number below n; the pool goes on -/
def spTake : Sp := fun vs H Q _ => ∃ (p : Addr) (a b n : Int), vs = [.ref p, .int n] ∧ H p = some (.lst [.int a, .int b]) ∧ PoolOk a b ∧ 0 < n ∧ n < 1000 ∧
  ∀ (r a' b' : Int), 0 ≤ r → r < n → PoolOk a' b' → Q (.int r) (upd H p (.lst [.int a', .int b']))
theorem ok_take {f : Addr} {fd : FuncData} {k : Nat} (F : Fun K "_law_take" "_law_take" sTake f fd) : FnOk P w K mg base CX0 (k + 1) f fd ["_law_pool_here", "_law_many"] spTake := by
  refine F.ok scTake (fun vs H Q E h => ?_) (fun cdv A outer s H vs Q E hr h => ?_)
  · obtain ⟨p, a, b, n, rfl, _⟩ := h
    rfl
  · obtain ⟨p, a, b, n, rfl, hp, ok, n0, n1, q⟩ := h
    refine ⟨_, pss_cons (ps_if (pt_cmpR op_gt (pe_ix ix_list (pv 0) pe_int (fun _ _ => rfl)) pe_int (nomark _))
        (pss_cons (ps_set (i := 2) scTake.nd rfl (.inl rfl) (pe_op op_mod (pe_ix ix_list (pv 0) pe_int (fun _ _ => rfl)) (pv 1)))
        (pss_cons (ps_asg (pe_op op_fdivW (pe_ix ix_list (pv 0) pe_int (fun _ _ => rfl)) (pv 1)) (pg_sub (pv 0) pe_int set_list))
        (pss_one (ps_ret (pv 2))))) pss_nil)
      (pss_cons (ps_asg (pe_op op_mod (pe_op op_add (pe_op op_mul (pe_ix ix_list (pv 0) pe_int (fun _ _ => rfl)) pe_int) pe_int) pe_int) (pg_sub (pv 0) pe_int set_list))
      (pss_one (ps_ret (pe_op op_mod (pe_op op_fdiv (pe_op op_mod (pe_op op_mul (pe_ix ix_list (pv 0) pe_int (fun _ _ => rfl)) (pe_ix ix_list (pv 0) pe_int (fun _ _ => rfl))) pe_int) pe_int) (pv 1))))), ?_⟩
    have hl : SqL K H p [.int a, .int b] := .inl (.inl hp)
    refine ⟨_, rfl, p, _, _, _, rfl, rfl, hl, atI_nat (j := 0) rfl, _, _, rfl, rfl, _, rfl, ite2 (fun e => ?_) (fun e => ?_)⟩
    · have ha : 0 < a := of_decide_eq_true e
      refine ⟨_, rfl, p, _, _, _, rfl, rfl, hl, atI_nat (j := 0) rfl, _, rfl, _, _, rfl, rfl, n0, ?_⟩
      refine ⟨_, rfl, p, _, _, _, rfl, rfl, hl, atI_nat (j := 0) rfl, _, rfl, _, _, rfl, rfl, wide_div (b := 10) n0 (by omega) (by decide) (by decide), ?_⟩
      refine ⟨_, rfl, p, _, _, _, rfl, rfl, hp, rfl, ?_⟩
      refine ⟨_, rfl, ?_⟩
      have h1 : a / n ≤ a := Int.ediv_le_self n ok.a0
      have h2 : 0 ≤ a / n := Int.ediv_nonneg ok.a0 (by omega)
      exact q _ _ _ (Int.emod_nonneg _ (by omega)) (Int.emod_lt_of_pos _ n0) ⟨h2, Nat.le_trans (bits_mono h2 h1) ok.ab, ok.b0, ok.bb⟩
    · refine ⟨_, rfl, p, _, _, _, rfl, rfl, hl, atI_nat (j := 1) rfl, _, _, rfl, rfl, .inl ⟨?_, ?_⟩, _, _, rfl, rfl, _, _, rfl, rfl, (by show (0 : Int) < 2147483647; decide), ?_⟩
      · have := ok.b0; omega
      · have := ok.bb; omega
      refine ⟨_, rfl, p, _, _, _, rfl, rfl, hp, rfl, ?_⟩
      have hb0 := Int.emod_nonneg (b * 48271 + 11) (show (2147483647 : Int) ≠ 0 by decide)
      have hb1 := Int.emod_lt_of_pos (b * 48271 + 11) (show (0 : Int) < 2147483647 by decide)
      generalize hB : (b * 48271 + 11) % 2147483647 = B at hb0 hb1
      have hl2 : SqL K (upd H p (.lst [.int a, .int B])) p [.int a, .int B] := .inl (.inl upd_same)
      refine ⟨_, rfl, p, _, _, _, rfl, rfl, (by rw [← hB] at hl2; exact hl2), atI_nat (j := 1) rfl, _, rfl, p, _, _, _, rfl, rfl, (by rw [← hB] at hl2; exact hl2), atI_nat (j := 1) rfl, _, _, rfl, rfl, .inl ⟨?_, ?_⟩, _, _, rfl, rfl, (by show (0 : Int) < 2147483629; decide), _, _, rfl, rfl, ⟨by decide, by decide⟩, _, rfl, _, _, rfl, rfl, n0, ?_⟩
      · rw [hB]; omega
      · rw [hB]; omega
      · rw [hB]
        exact q _ _ _ (Int.emod_nonneg _ (by omega)) (Int.emod_lt_of_pos _ n0) ⟨ok.a0, ok.ab, by rw [hB]; exact hb0, by rw [hB]; exact hb1⟩
/-- _law_pool(script, k): a pool -/
def spPool (K : PySem.W.Frag) : Sp := fun vs H Q _ => ∃ (a : Addr) (ns : List Int) (k : Int), vs = [.ref a, .int k] ∧ SqL K H a (ns.map V.int) ∧ ns.length ≤ 63 ∧ (∀ z ∈ ns, Builtin.Int.intBits z ≤ 1048576) ∧ 0 ≤ k ∧ k < 100 ∧
  ∀ (p : Addr) (a' b' : Int), H p = none → PoolOk a' b' → Q (.ref p) (upd H p (.lst [.int a', .int b']))
theorem poolA {c : Int} (hc : Builtin.Int.intBits c ≤ 1048576) (t : Bool) : 0 ≤ (if c < 0 then -c else c) * (if t then 1 else 0) ∧ Builtin.Int.intBits ((if c < 0 then -c else c) * (if t then 1 else 0)) ≤ 1048576 := by
  have h0 : 0 ≤ (if c < 0 then -c else c) := by split <;> omega
  have h1 : Builtin.Int.intBits (if c < 0 then -c else c) ≤ 1048576 := by
    split
    · have e : Builtin.Int.intBits (-c) = Builtin.Int.intBits c := by
        unfold Builtin.Int.intBits
        rw [Int.natAbs_neg]
        by_cases z : c = 0
        · rw [z]; rfl
        · rw [if_neg (by simpa using z), if_neg (by simpa using z)]
      omega
    · exact hc
  cases t
  · simp [Builtin.Int.intBits]
  · simp only [if_true, Int.mul_one]
    exact ⟨h0, h1⟩
theorem ok_pool {f : Addr} {fd : FuncData} {k : Nat} (F : Fun K "_law_pool" "_law_pool" sPool f fd) (ml : mg "len" = none) (ma : mg "abs" = none) (mi : mg "int" = none) : FnOk P w K mg base CX0 (k + 1) f fd ["_law_script", "_law_k"] (spPool K) := by
  refine F.ok scPool (fun vs H Q E h => ?_) (fun cdv A outer s H vs Q E hr h => ?_)
  · obtain ⟨a, ns, k, rfl, _⟩ := h
    rfl
  · obtain ⟨a, ns, j, rfl, hS, hlen, hbits, j0, j1, q⟩ := h
    refine ⟨_, pss_cons (ps_set (i := 2) scPool.nd rfl (.inl rfl) pe_int)
      (Evl.pss_cut (ps_if (pt_cmpR op_lt (pv 1) (pe_callB call_len_seq (by rfl) ml PySem.boot_len (pa_cons (pv 0) pa_nil)) (nomark _))
        (pss_one (ps_set (i := 2) scPool.nd rfl (.inl rfl) (pe_ix ix_list (pv 0) (pv 1) (fun _ _ => rfl)))) pss_nil)
      (pss_cons (ps_set (i := 3) scPool.nd rfl (.inl rfl) (pe_callB call_abs (by rfl) ma (by decide +kernel) (pa_cons (pv 2) pa_nil)))
      (pss_cons (ps_set (i := 4) scPool.nd rfl (.inl rfl) (pe_op op_mod (pe_op op_pow (pe_op op_add (pe_op op_add (pe_op op_add (pe_op op_mod (pv 2) pe_int) (pe_op op_mul (pe_op op_mul pe_int (pv 1)) (pv 1))) (pe_op op_mul pe_int (pv 1))) pe_int) pe_int) pe_int))
      (pss_one (ps_ret (pe_lst (pa_cons (pe_op op_mulB (pv 3) (pe_callTy call_int1 (by rfl) mi (by decide +kernel) (pa_cons (pe_cmpR op_ge (pv 3) (pe_op op_pow pe_int pe_int) (nomark _)) pa_nil))) (pa_cons (pv 4) pa_nil)))))))), ?_⟩
    refine ⟨fun σ' H' => ∃ c : Int, Builtin.Int.intBits c ≤ 1048576 ∧ σ' = [some (.ref a), some (.int j), some (.int c), none, none] ∧ H' = H, ?_, ?_⟩
    · refine ⟨_, rfl, _, rfl, a, _, rfl, .inl hS, _, _, rfl, rfl, _, rfl, ?_⟩
      refine ite2 (fun e => ?_) (fun e => ?_)
      · have e1 : j < ((ns.map V.int).length : Int) := of_decide_eq_true e
        rw [List.length_map] at e1
        obtain ⟨m, rfl⟩ : ∃ m : Nat, j = (m : Int) := ⟨j.toNat, by omega⟩
        have hm : m < ns.length := by omega
        have g1 : (ns.map V.int)[m]? = some (.int ns[m]) := by
          rw [List.getElem?_map, List.getElem?_eq_getElem hm]
          rfl
        exact ⟨_, rfl, _, rfl, a, _, _, _, rfl, rfl, hS, atI_nat g1, ns[m], hbits _ (List.getElem_mem hm), rfl, rfl⟩
      · exact ⟨0, by decide, rfl, rfl⟩
    · rintro σ' H' ⟨c, hc, rfl, rfl⟩
      refine ⟨_, rfl, _, rfl, ?_⟩
      have m0 := Int.emod_nonneg c (show (2147483629 : Int) ≠ 0 by decide)
      have m1 := Int.emod_lt_of_pos c (show (0 : Int) < 2147483629 by decide)
      have k0 : 0 ≤ 104729 * j * j := Int.mul_nonneg (by omega) j0
      have k1 : 104729 * j * j ≤ 104729 * 100 * 100 := Int.mul_le_mul (by omega) (by omega) j0 (by omega)
      refine ⟨_, rfl, _, _, rfl, rfl, (by show (0 : Int) < 2147483629; decide), _, rfl, _, _, rfl, rfl, .inl ⟨by decide, by decide⟩, _, rfl, _, _, rfl, rfl, .inl ⟨by omega, by omega⟩, _, _, rfl, rfl, _, rfl, _, _, rfl, rfl, .inl ⟨by decide, by decide⟩, _, _, rfl, rfl, _, _, rfl, rfl, _, _, rfl, rfl, ⟨by decide, by decide, ?_⟩, _, _, rfl, rfl, (by show (0 : Int) < 2147483647; decide), ?_⟩
      · omega
      have s0 := Int.emod_nonneg ((c % 2147483629 + 104729 * j * j + 7919 * j + 11) ^ (3 : Int).toNat) (show (2147483647 : Int) ≠ 0 by decide)
      have s1 := Int.emod_lt_of_pos ((c % 2147483629 + 104729 * j * j + 7919 * j + 11) ^ (3 : Int).toNat) (show (0 : Int) < 2147483647 by decide)
      refine ⟨_, rfl, _, rfl, _, _, rfl, rfl, ⟨by decide, by decide, by decide⟩, _, _, rfl, rfl, .inr ⟨_, rfl, _, _, rfl, rfl, ?_, _, rfl, (by show 2 ≤ sizeLine; decide), fun p hp => ?_⟩⟩
      · obtain ⟨h0, h1⟩ := poolA hc true
        simp only [if_true, Int.mul_one] at h1
        have b1 : ∀ t : Bool, Builtin.Int.intBits (if t then 1 else 0) ≤ 1 := by decide
        exact Nat.le_trans (Nat.add_le_add h1 (b1 _)) (by decide)
      · obtain ⟨h0, h1⟩ := poolA hc (decide ((10 : Int) ^ (18 : Int).toNat ≤ (if c < 0 then -c else c)))
        exact q p _ _ hp ⟨h0, h1, s0, s1⟩
end
end KB
namespace KB
open PySem PySem.Spec PyProof.Rows L2
section
variable {X : Cx}
theorem fold_rep (c : Nat) : ∀ (k : Nat) (acc : Array Nat), (List.replicate k (#[c] : Array Nat)).foldl (· ++ ·) acc = acc ++ (List.replicate k c).toArray
  | 0, acc => by simp
  | k + 1, acc => by
    rw [List.replicate_succ, List.foldl_cons, fold_rep c k]
    apply Array.toList_inj.mp
    simp [List.replicate_succ]
/-- one sign, many times -/
theorem op_repS : OpR X (binaryOp .Mult) (fun x y H Q => ∃ c k : Nat, x = .str (S [c]) ∧ y = .int (k : Int) ∧ 2 ≤ k ∧ k ≤ 100000 ∧ Q (.str (S (List.replicate k c))) H) := by
  intro pins s σ H x y v u Q I rx ry want
  obtain ⟨c, k, rfl, rfl, k2, k1, q⟩ := want
  obtain ⟨t, rfl⟩ := rx
  obtain ⟨t', rfl⟩ := ry
  have one : (S [c]).length = 1 := rfl
  have n1 : ¬ ((k : Int) < 1) := by omega
  have n2 : ((k : Int) == 1 || (S [c]).length == 0) = false := by
    rw [one]
    simp
    omega
  refine PySem.P.mul_str (x := S [c]) (n := (k : Int)) ?_ ?_ ?_ ?_
  · rw [decide_eq_false (by omega), decide_eq_false (by omega)]
    rfl
  · intro _ _ z
    rw [one] at z
    have h : (1 : Int) ≤ (2 ^ 63 - 1) / (k : Int) := by
      rw [Int.le_ediv_iff_mul_le (by omega)]
      omega
    omega
  · intro _ _
    rw [one, Int.toNat_natCast, Nat.one_mul]
    have big : 100000 ≤ sizeLine := by decide
    exact decide_eq_false (by omega)
  · rw [if_neg n1, n2, if_neg Bool.false_ne_true, Int.toNat_natCast]
    have e : (⟨(List.replicate k (S [c]).cps).foldl (· ++ ·) #[]⟩ : Str) = S (List.replicate k c) := by
      show (⟨(List.replicate k (#[c] : Array Nat)).foldl (· ++ ·) #[]⟩ : Str) = _
      rw [fold_rep]
      simp [S]
    rw [e]
    refine ⟨?_, .str _, H, I.tok _, ⟨_, rfl⟩, q⟩
    rw [S_len, List.length_replicate]
    exact Nat.le_trans k1 (by decide)
end
end KB
namespace KB
open PySem PySem.Spec PyProof.Rows L2
abbrev sIN : Stmt := topS 78
abbrev sTK : Stmt := topS 79
abbrev sLE : Stmt := topS 80
theorem same_new {H : Hp} {p : Addr} {o : HO} (h : H p = none) : Same H (upd H p o) := fun b x e => by
  rw [upd_ne (ne_of_none e h)]
  exact e
structure T4 (K : PySem.W.Frag) (mg : Str → Option Value) (aW : Addr) : Prop where
  isinstance : mg "isinstance" = none
  len : mg "len" = none
  all : mg "all" = none
  str : mg "str" = none
  int : mg "int" = none
  bool : mg "bool" = none
  list : mg "list" = none
  tuple : mg "tuple" = none
  sorted : mg "sorted" = none
  range : mg "range" = none
  max : mg "max" = none
  min : mg "min" = none
  abs : mg "abs" = none
  LET : ∃ t, mg "LETTERS" = some (.str (S letL) t)
  RUN : ∃ t, mg "RUN" = some (.str (S runL) t)
  BLA : ∃ t, mg "BLANKS" = some (.str (S [32, 10]) t)
  LN : ∃ t, mg "LONGEST_NAME" = some (.int 20 t)
  LP : ∃ t, mg "LONGEST_PROGRAM" = some (.int 5000 t)
  gWRD : mg "WORDS" = some (.ref aW)
  sWRD : ∀ H, SqT K H aW (wordsL.map fun s => .str (S s))
theorem small {n : Nat} (h : n ≤ 10000) : n ≤ sizeLine := Nat.le_trans h (by decide)
theorem str_type {K : PySem.W.Frag} : PySem.W.kitOne K (.type "str") (.type "str") = some true := kit_ty (by decide +kernel)
theorem inV_words (v : List Nat) (l : List (List Nat)) : inV (.str (S v)) (l.map fun s => .str (S s)) = decide (v ∈ l) := by
  unfold inV
  rw [List.any_map, Bool.eq_iff_iff, List.any_eq_true, decide_eq_true_eq]
  constructor
  · rintro ⟨s, hs, h⟩
    have e : S s = S v := by
      have h' : eqV (.str (S s)) (.str (S v)) = true := h
      simpa [eqV] using h'
    rw [S_inj e.symm]
    exact hs
  · intro h
    exact ⟨v, h, by simp [eqV]⟩
theorem flat_words (l : List (List Nat)) : (l.map fun s => V.str (S s)).all flatV = true := by
  rw [List.all_map, List.all_eq_true]
  intro s _
  rfl
theorem isName_cons (c : Nat) (r : List Nat) : isName (c :: r) = (decide ((c :: r).length ≤ 20) && decide (c ∈ letL) && (c :: r).all isRun && !decide ((c :: r) ∈ wordsL)) := rfl
theorem is_empty (v : List Nat) : decide (V.str (S v) = V.str (Str.ofString "")) = decide (v = []) := by
  have e : Str.ofString "" = S [] := by decide +kernel
  rw [e, S_eq]
theorem bool_if {b : Bool} {A B : Prop} (h1 : b = true → A) (h2 : b = false → B) : if b = true then A else B := by
  cases b with
  | true => exact iteT (h1 rfl)
  | false => exact iteF (h2 rfl)
section
variable {P : Program} {w : World} {K : PySem.W.Frag} {mg : Str → Option Value} {base : Heap} {fIN fTK fLE aW : Addr}
/-! ### is_name -/
theorem scIN : FnScope ["value", "char"] ["value"] (defScope sIN) := ⟨rfl, rfl, rfl, by decide +kernel, rfl, by decide +kernel, by decide +kernel⟩
def spIN : Sp := fun vs H Q _ => ∃ v : List Nat, vs = [.str (S v)] ∧ v.length ≤ 5000 ∧ ∀ H', Same H H' → Q (.bl (isName v)) H'
/-- all([sign in SIGNS for sign in text]) -/
theorem all_in {σ : L2.St} {H : Hp} {Q : VK} (v z : List Nat) (j : Nat) (hσ : σ[0]? = some (some (.str (S v)))) (hj : ∀ x, wipe ((wipe σ [j]).set j (some x)) [j] = wipe σ [j]) (hs : (wipe σ [j]).length > j) (small : v.length ≤ 5000)
    (k : ∀ H', Same H H' → Q (.bl (v.all fun c => decide (c ∈ z))) H') :
    tCB (rAll K) (tCons (tLc (iStr (tVar 0)) (gName j) tYes (tOp (fun x y H Q => ∃ (c : Nat) (z : Str), x = .str ⟨#[c]⟩ ∧ y = .str z ∧ Q (.bl (decide (c ∈ z.cps.toList))) H) (tVar j) (tC (.str (S z)))) [j]) tNil) σ H Q := by
  refine ⟨_, hσ, S v, rfl, fun D hD => lc_it (walk_str (z := S v)) (fun i H' => H' D = some (.lst ((v.take i).map fun c => .bl (decide (c ∈ z)))) ∧ Same H H') ⟨upd_same, same_new hD⟩ (fun _ _ _ _ => trivial) ?_ ?_⟩
  · rintro i x H1 H2 hi ⟨hD1, sm⟩ ⟨rfl, c, hc, rfl⟩
    have hc' : v[i]? = some c := by
      have z : (S v).cps[i]? = v[i]? := by simp [S]
      rw [← z]
      exact hc
    refine ⟨hj _, .str ⟨#[c]⟩, ?_, c, S z, rfl, rfl, _, hD1, ?_, ?_, fun b o q => ?_⟩
    · rw [List.getElem?_set_self (by omega)]
    · rw [List.length_map, List.length_take]
      exact Nat.lt_of_le_of_lt (Nat.min_le_right _ _) (Nat.lt_of_le_of_lt small (by decide))
    · rw [upd_same, List.take_add_one, hc', List.map_append]
      rfl
    · have nb : b ≠ D := fun z => by
        subst z
        rw [hD] at q
        cases q
      rw [upd_ne nb]
      exact sm _ _ q
  · rintro H1 ⟨hD1, sm⟩
    have e : (v.take (S v).cps.size) = v := List.take_of_length_le (by simp [S])
    rw [e] at hD1
    refine ⟨D, v.map fun c => decide (c ∈ z), rfl, .inl (.inl (by rw [List.map_map]; exact hD1)), ?_⟩
    rw [List.all_map]
    exact k _ sm
theorem ok_IN {fd : FuncData} {k : Nat} (F : Fun K "is_name" "is_name" sIN fIN fd) (T : T4 K mg aW) : FnOk P w K mg base CX0 (k + 1) fIN fd ["value"] spIN := by
  refine F.ok scIN (fun vs H Q E h => ?_) (fun cdv A outer s H vs Q E hr h => ?_)
  · obtain ⟨v, rfl, _⟩ := h
    rfl
  · obtain ⟨v, rfl, hl', q⟩ := h
    obtain ⟨t1, gLET⟩ := T.LET
    obtain ⟨t2, gRUN⟩ := T.RUN
    obtain ⟨t3, gLN⟩ := T.LN
    refine ⟨_,
(pss_cons (ps_if (PW.pt (pw_or (pt_not (pt_val (pe_callB call_isi (by rfl) T.isinstance (by decide +kernel) (pa_cons (pv 0) (pa_cons (pe_bltn (v := .ty "str") (by rfl) T.str (by decide +kernel) rfl) pa_nil))))) (pw_or (pt_cmpR op_eq (pv 0) pe_str (nomark _)) (pw_or1 (pt_cmpR op_gt (pe_callB call_len_str (by rfl) T.len (by decide +kernel) (pa_cons (pv 0) pa_nil)) (pe_glob (v := .int 20) rfl gLN ⟨_, rfl⟩) (nomark _))))))
 (pss_one (ps_ret pe_bl))
 pss_nil)
 (pss_one (ps_ret (pe_and (pe_cmpR op_in_sign (pe_ix ix_str (pv 0) pe_int (fun _ _ => rfl)) (pe_glob (v := .str (S letL)) rfl gLET ⟨_, rfl⟩) (by rfl)) (pe_and (pe_callB (cr_all rfl) (by rfl) T.all (by decide +kernel) (pa_cons (pe_lc (own := [("char", 1)]) (g := gName 1) (tt := tYes) rfl scIN.nd (pi_str (pv 0)) (blkOk_by (own := [("char", 1)]) (N := ["value", "char"]) (sc := defScope sIN) (by decide +kernel)) (fun _ _ _ _ _ => pg_name (i := 1) scIN.nd rfl (Or.inl rfl)) (fun _ _ _ _ _ => pts_nil) (fun _ _ _ _ _ => (pe_cmpR op_in_sign (pv 1) (pe_glob (v := .str (S runL)) rfl gRUN ⟨_, rfl⟩) (by rfl)))) pa_nil)) (pe_one (pe_cmpR op_notIn_seq (pv 0) (pe_glob (v := .ref aW) rfl T.gWRD rfl) (by rfl)))))))), ?_⟩
    refine ⟨_, rfl, .str (S v), .ty "str", _, _, true, rfl, .ty _, .base (.str _), str_type, true, rfl, iteF ?_⟩
    refine ⟨_, rfl, rfl, _, rfl, ?_⟩
    rw [is_empty]
    cases v with
    | nil =>
      refine bool_if (fun _ => ?_) (fun h => absurd h (by decide))
      exact q H (Same.refl H)
    | cons c r =>
      refine bool_if (fun h => absurd h (by simp)) (fun _ => ?_)
      refine ⟨_, rfl, S (c :: r), rfl, by rw [S_len]; exact small (by omega), _, _, rfl, rfl, _, rfl, ?_⟩
      rw [S_len]
      refine bool_if (fun h => ?_) (fun h => ?_)
      · have hl : ¬ (c :: r).length ≤ 20 := by
          have := of_decide_eq_true h
          omega
        have e : isName (c :: r) = false := by
          rw [isName_cons, decide_eq_false hl]
          rfl
        rw [← e]
        exact q H (Same.refl H)
      · have hl : (c :: r).length ≤ 20 := by
          have := of_decide_eq_false h
          omega
        have e : isName (c :: r) = (decide (c ∈ letL) && ((c :: r).all isRun && !decide ((c :: r) ∈ wordsL))) := by
          rw [isName_cons, decide_eq_true hl, Bool.true_and, Bool.and_assoc]
        rw [e] at q
        refine ⟨_, rfl, S (c :: r), 0, c, rfl, rfl, by rw [S_len]; exact small (by omega), atI_nat (j := 0) rfl, c, S letL, rfl, rfl, _, rfl, bool_if (fun h1 => ?_) (fun h1 => ?_)⟩
        · have h1' : decide (c ∈ letL) = true := h1
          rw [h1', Bool.true_and] at q
          refine all_in (c :: r) runL 1 rfl (fun _ => rfl) (by show 2 > 1; decide) hl' fun H' sm => ⟨_, rfl, bool_if (fun h2 => ?_) (fun h2 => ?_)⟩
          · have h2' : (c :: r).all isRun = true := h2
            rw [h2', Bool.true_and] at q
            refine ⟨_, rfl, aW, _, rfl, .inr (T.sWRD _), rfl, flat_words _, ?_⟩
            have z := q H' sm
            rw [← inV_words] at z
            exact z
          · have h2' : (c :: r).all isRun = false := h2
            rw [h2', Bool.false_and] at q
            exact q H' sm
        · have h1' : decide (c ∈ letL) = false := h1
          rw [h1', Bool.false_and] at q
          exact q H (Same.refl H)
theorem scLE : FnScope ["text", "at", "end"] ["text", "at"] (defScope sLE) := ⟨rfl, rfl, rfl, by decide +kernel, rfl, by decide +kernel, by decide +kernel⟩
def spLE : Sp := fun vs H Q _ => ∃ (l : List Nat) (n : Nat), vs = [.str (S l), .int n] ∧ n ≤ l.length ∧ l.length ≤ 5000 ∧ Q (.int ((n + (upTo 10 (l.drop n)).length : Nat) : Int)) H
theorem ok_LE {fd : FuncData} {k : Nat} (F : Fun K "_line_end" "_line_end" sLE fLE fd) (T : T4 K mg aW) : FnOk P w K mg base CX0 (k + 1) fLE fd ["text", "at"] spLE := by
  refine F.ok scLE (fun vs H Q E h => ?_) (fun cdv A outer s H vs Q E hr h => ?_)
  · obtain ⟨l, n, rfl, _⟩ := h
    rfl
  · obtain ⟨l, n, rfl, hn, hl, q⟩ := h
    refine ⟨_,
(pss_cons (ps_set (i := 2) scLE.nd rfl (.inl rfl) (pe_bm PySem.F.plainAttrs_str PySem.F.slot_str_find PySem.F.type_str_find mt_find3 (pv 0) (pa_cons pe_str (pa_cons (pv 1) pa_nil))))
 (pss_one (ps_ret (pe_ifExp (pt_cmpR op_lt (pv 2) pe_int (nomark _)) (pe_callB call_len_str (by rfl) T.len (by decide +kernel) (pa_cons (pv 0) pa_nil)) (pv 2))))), ?_⟩
    have one : Str.ofString "\n" = ⟨#[10]⟩ := by decide +kernel
    refine ⟨_, rfl, rfl, _, rfl, S l, _, _, rfl, rfl, ?_⟩
    rw [one, find_one l 10 n hn]
    by_cases full : (upTo 10 (l.drop n)).length = (l.drop n).length
    · rw [if_pos full]
      have e : n + (upTo 10 (l.drop n)).length = l.length := by
        rw [full, List.length_drop]
        omega
      rw [e] at q
      refine ⟨_, rfl, _, _, rfl, rfl, _, rfl, iteT ⟨_, rfl, S l, rfl, by rw [S_len]; exact small (by omega), ?_⟩⟩
      rw [S_len]
      exact q
    · rw [if_neg full]
      refine ⟨_, rfl, _, _, rfl, rfl, _, rfl, bool_if (fun h => ?_) (fun _ => ⟨_, rfl, q⟩)⟩
      have := of_decide_eq_true h
      omega
theorem drop_cons {l : List Nat} {n : Nat} (h : n < l.length) : l.drop n = l[n] :: l.drop (n + 1) := List.drop_eq_getElem_cons h
theorem blank_in (c : Nat) : decide (c ∈ (S [32, 10]).cps.toList) = isBlank c := rfl
theorem is_hash (c : Nat) : decide (V.str ⟨#[c]⟩ = V.str (Str.ofString "#")) = decide (c = 35) := by
  have e : Str.ofString "#" = S [35] := by decide +kernel
  rw [e]
  refine Eq.trans (S_eq [c] [35]) ?_
  rw [Bool.eq_iff_iff]
  simp
/-! ### texts of comments -/
/-- each line begins with # -/
structure Cmt (l : List Nat) : Prop where
  hd : l = [] ∨ l[0]? = some 35
  nl : ∀ i, l[i]? = some 10 → l[i + 1]? = some 35
theorem upTo_fin {c : Nat} (l : List Nat) : (upTo c l).length = l.length ∨ l[(upTo c l).length]? = some c := by
  have := upTo_le (c := c) l
  by_cases h : (upTo c l).length < l.length
  · exact .inr (upTo_get l h)
  · exact .inl (by omega)
theorem upTo_pos' {l : List Nat} {c d : Nat} (h : l[0]? = some d) (n : d ≠ c) : 0 < (upTo c l).length := by
  cases l with
  | nil => cases h
  | cons e r =>
    cases h
    unfold upTo
    rw [List.takeWhile_cons, if_pos (by simpa using n)]
    simp
theorem scTK : FnScope ["text", "found", "at", "kind", "end"] ["text"] (defScope sTK) := ⟨rfl, rfl, rfl, by decide +kernel, rfl, by decide +kernel, by decide +kernel⟩
def spTK : Sp := fun vs H Q _ => ∃ l, vs = [.str (S l)] ∧ Cmt l ∧ l.length ≤ 5000 ∧ ∀ p H', Same H H' → H p = none → H' p = some (.lst []) → Q (.ref p) H'
theorem ok_TK {fd fdL : FuncData} {k : Nat} (F : Fun K "tokens" "tokens" sTK fTK fd) (T : T4 K mg aW) (GL : FnOk P w K mg base CX0 (k + 1) fLE fdL ["text", "at"] spLE) (gLE : mg "_line_end" = some (.ref fLE)) (kLE : PySem.W.keepIn K (.ref fLE) = true) (bL : Binds K fdL ["text", "at"] []) :
    FnOk P w K mg base CX0 (k + 2) fTK fd ["text"] spTK := by
  refine F.ok scTK (fun vs H Q E h => ?_) (fun cdv A outer s H vs Q E hr h => ?_)
  · obtain ⟨x, rfl, _⟩ := h
    rfl
  · obtain ⟨l, rfl, cm, hl, q⟩ := h
    obtain ⟨t2, gBLA⟩ := T.BLA
    obtain ⟨t3, gLP⟩ := T.LP
    refine ⟨_,
(pss_cons (ps_if (PW.pt (pw_or (pt_not (pt_val (pe_callB call_isi (by rfl) T.isinstance (by decide +kernel) (pa_cons (pv 0) (pa_cons (pe_bltn (v := .ty "str") (by rfl) T.str (by decide +kernel) rfl) pa_nil))))) (pw_or1 (pt_cmpR op_gt (pe_callB call_len_str (by rfl) T.len (by decide +kernel) (pa_cons (pv 0) pa_nil)) (pe_glob (v := .int 5000) rfl gLP ⟨_, rfl⟩) (nomark _)))))
 (pss_one ps_never)
 pss_nil)
 (pss_cons (ps_set (i := 1) scTK.nd rfl (.inl rfl) (pe_lst pa_nil))
 (pss_cons (ps_set (i := 2) scTK.nd rfl (.inl rfl) pe_int)
 (pss_cons (ps_while PassesOwn.never (pt_cmpR op_lt (pv 2) (pe_callB call_len_str (by rfl) T.len (by decide +kernel) (pa_cons (pv 0) pa_nil)) (nomark _))
 (pss_one (ps_if (pt_cmpR op_in_sign (pe_ix ix_str (pv 0) (pv 2) (fun _ _ => rfl)) (pe_glob (v := .str (S [32, 10])) rfl gBLA ⟨_, rfl⟩) (by rfl))
 (pss_one (ps_aug (i := 2) scTK.nd rfl (.inl rfl) pe_int ip_add))
 (pss_one (ps_if (pt_cmpR op_eq (pe_ix ix_str (pv 0) (pv 2) (fun _ _ => rfl)) pe_str (nomark _))
 (pss_one (ps_set (i := 2) scTK.nd rfl (.inl rfl) (pe_call GL hr (by rfl) gLE kLE bL .nil pass0 (pa_cons (pv 0) (pa_cons (pv 2) pa_nil)))))
 (pss_cons ps_never
 (pss_cons ps_never
 (pss_one ps_never))))))))
 (pss_one (ps_ret (pv 1))))))), ?_⟩
    refine ⟨_, rfl, .str (S l), .ty "str", _, _, true, rfl, .ty _, .base (.str _), str_type, true, rfl, iteF ?_⟩
    refine ⟨_, rfl, S l, rfl, by rw [S_len]; exact small (by omega), _, _, rfl, rfl, _, rfl, ?_⟩
    rw [S_len]
    refine bool_if (fun h => ?_) (fun _ => ?_)
    · have := of_decide_eq_true h
      omega
    refine ⟨Nat.zero_le _, fun p hp => ?_⟩
    have s1 := same_new (o := .lst []) hp
    refine ⟨fun m σ H' => ∃ (n : Nat) (y3 y4 : Option L2.V), σ = [some (.str (S l)), some (.ref p), some (.int n), y3, y4] ∧ n ≤ l.length ∧ m = l.length - n ∧ (n = l.length ∨ l[n]? = some 35 ∨ l[n]? = some 10) ∧ H' = upd H p (.lst []),
      ⟨_, 0, _, _, rfl, Nat.zero_le _, rfl, (by
        rcases cm.hd with h | h
        · left
          rw [h]
          rfl
        · exact .inr (.inl h)), rfl⟩, ?_⟩
    rintro m σ H' ⟨n, y3, y4, rfl, hn, rfl, wh, rfl⟩
    refine ⟨_, rfl, _, rfl, S l, rfl, by rw [S_len]; exact small (by omega), _, _, rfl, rfl, _, rfl, ?_⟩
    rw [S_len]
    refine bool_if (fun h => ?_) (fun h => ?_)
    · have hlt : n < l.length := by
        have := of_decide_eq_true h
        omega
      have hg := List.getElem?_eq_getElem hlt
      refine ⟨fun σ H'' => ∃ (n' : Nat) (y3 y4 : Option L2.V), σ = [some (.str (S l)), some (.ref p), some (.int n'), y3, y4] ∧ n' ≤ l.length ∧ n < n' ∧ (n' = l.length ∨ l[n']? = some 35 ∨ l[n']? = some 10) ∧ H'' = upd H p (.lst []),
        fun σ H'' ⟨n', y3, y4, z1, z2, z3, z4, z5⟩ => ⟨l.length - n', by omega, n', y3, y4, z1, z2, rfl, z4, z5⟩, ?_⟩
      refine ⟨_, rfl, _, rfl, S l, _, l[n], rfl, rfl, by rw [S_len]; exact small (by omega), atI_nat hg, l[n], S [32, 10], rfl, rfl, _, rfl, ?_⟩
      rw [blank_in]
      rcases wh with wh | wh | wh
      · omega
      · have e : l[n] = 35 := Option.some.inj (hg.symm.trans wh)
        rw [e]
        refine iteF ?_
        refine ⟨_, rfl, _, rfl, S l, _, 35, rfl, rfl, by rw [S_len]; exact small (by omega), atI_nat (show l[n]? = some 35 from wh), rfl, _, rfl, iteT ?_⟩
        refine ⟨_, rfl, _, rfl, l, n, rfl, hn, hl, ?_⟩
        have le := upTo_le (c := 10) (l.drop n)
        have h0 : (l.drop n)[0]? = some 35 := by
          rw [List.getElem?_drop]
          simpa using wh
        have pos := upTo_pos' (c := 10) h0 (by decide)
        have en := upTo_fin (c := 10) (l.drop n)
        rw [List.length_drop] at le en
        rw [List.getElem?_drop] at en
        refine ⟨n + (upTo 10 (l.drop n)).length, _, _, rfl, by omega, by omega, ?_, rfl⟩
        rcases en with en | en
        · left
          omega
        · exact .inr (.inr en)
      · have e : l[n] = 10 := Option.some.inj (hg.symm.trans wh)
        rw [e]
        refine iteT ?_
        have nx := cm.nl n wh
        have hlt2 := (List.getElem?_eq_some_iff.mp nx).1
        exact ⟨_, rfl, _, _, rfl, rfl, n + 1, _, _, rfl, by omega, by omega, .inr (.inl nx), rfl⟩
    · exact ⟨_, rfl, q p _ s1 hp upd_same⟩
end
end KB
/-! sorted(xs, key=lambda one: one.f), the items instances whose f is an int -/
namespace SL
open PySem PySem.Spec PyProof.Rows L2 LamX PySem.W
section
variable {P : Program} {w : World} {K : PySem.W.Frag} {mg : Str → Option Value} {base : Heap} {A : Around} {outer : List Env} {s : Shared} {H : Hp}
theorem lam_key {f c' a C dx : Addr} {fs : List (Str × V)} {pm ctv : Value} {qual one at_ : Str} {params : Arguments} {scope : Scope} {p1 p2 : Pos} {k : Int}
    (e0 : Env0 P w K mg base A outer s H) (hr : Room 1 A)
    (hf : s.heap.get? f = some (kla_obj "<lambda>" qual params (.Attribute (.Name one p1) at_ p2) scope [] pm c' ctv))
    (hco : H c' = some (CodeO c' qual)) (S : FnScope [one] [one] scope) (hloc : scope.names.lookup one = some .local)
    (hbind : ∀ v, bindArgs (kla_fn "<lambda>" qual params (.Attribute (.Name one p1) at_ p2) scope [] pm (.ref c') ctv) ⟨[v], []⟩ = pure [(one, v)])
    (hb : ∀ env : Env, attributeBase (.Name one p1) at_ env (eval (.Name one p1) env) = eval (.Name one p1) env)
    (hA : H a = some (.ins C dx fs)) (c : Cls K C) (n : NoAttr K C at_) (l : fs.lookup at_ = some (.int k)) (hd : (one == ("__debug__" : Str)) = false) :
    wpAny (model P w) A (call (.ref f) [.ref a]) (KeyPure (.int k) s) (fun _ _ => False) s := by
  obtain ⟨⟨oc, vs, t, hoc, hdc, hvc⟩, _, _⟩ := e0.hok c' _ hco
  have KX : K.In s.heap := e0.mod.kin.keeps fun b o e => (e0.bs b o e).1
  have lim : s.heap.NoLimit := e0.mod.nolimit.keeps fun b o e => (e0.bs b o e).1
  refine wpAny_call ?_
  refine kla_callFunE hr.depth hf rfl S.co S.gen rfl ⟨c', oc, vs, t, rfl, hoc, hdc, hvc⟩ ?_
  rw [hbind]
  refine wpAny_pure ?_
  have hkind : ∀ y ∈ [(one, Value.ref a)], scope.names.lookup y.1 = some .local ∨ (scope.names.lookup y.1 = some .cell ∧ ((cellsFrom (s.heap.objs.size + 1) scope.names []).lookup y.1).isSome = true) := fun y hy => by
    rw [List.mem_singleton.mp hy]
    exact .inl hloc
  refine wpAny_newFunctionEnv_cells S.kind hkind fun env he s1 x => ?_
  subst he
  refine ⟨lim.keeps x.toInCall.keep, ?_⟩
  refine kla_codeExpr ?_
  obtain ⟨h1, tk, e1, hk⟩ := x.done
  have hns := x.toInCall.ns
  subst e1
  have hok1 := e0.hok.kept hk
  obtain ⟨mA, O, r, _, _, _⟩ := ins_get hok1 hA
  obtain ⟨u, hu, ru⟩ := RelO.some_of (v := V.int k) (o := mA at_) (by rw [← l]; exact r at_)
  obtain ⟨tu, rfl⟩ := ru
  refine attr_of (hb _) (wpAny_Name (wpAny_loadName_local S.kind hloc hns (bindL_get (P := [one]) (vs := [Value.ref a]) (i := 0) (List.nodup_cons.mpr ⟨List.not_mem_nil, List.nodup_nil⟩) rfl rfl hloc) ?_) hd)
  refine get_map (KX.keeps hk) O (c.get at_) c.hd n hu (handed_of (v := V.int k) (show RelV (V.int k) (Value.int k tu) from ⟨tu, rfl⟩)) ?_
  exact ⟨_, _, rfl, hk, .int _ _⟩
/-- each item an instance whose attribute f is the int k x -/
def KeyIs (K : PySem.W.Frag) (H : Hp) (f : Str) (xs : List V) (k : V → Int) : Prop := ∀ x ∈ xs, ∃ a C dx fs, x = .ref a ∧ H a = some (.ins C dx fs) ∧ Cls K C ∧ NoAttr K C f ∧ fs.lookup f = some (.int (k x))
def le (k : V → Int) : V → V → Bool := dataLe false fun x => .int (k x)
def tSortLam (K : PySem.W.Frag) (T : List (Addr × Str)) (f : Str) (te : TE) : TE := fun σ H Q => te σ H fun v H1 => Tabs T H1 ∧ ∃ (a : Addr) (xs : List V) (k : V → Int), v = .ref a ∧ SqL K H1 a xs ∧ KeyIs K H1 f xs k ∧
  ∀ (H2 : Hp) (p : Addr), ExtN H1 H2 → Tabs T H2 → H2 p = none → Q (.ref p) (upd H2 p (.lst (xs.mergeSort (le k))))
theorem vals_each : ∀ {out : List Value} {ys : List V}, EachIs (fun (u : Value) (v : V) => RelV v u) out ys → Vals ys out
  | _, _, .nil => .nil
  | _, _, .cons r e => .cons r (vals_each e)
theorem each_vals : ∀ {ys : List V} {out : List Value}, Vals ys out → EachIs (fun (u : Value) (v : V) => RelV v u) out ys
  | _, _, .nil => .nil
  | _, _, .cons r e => .cons r (each_vals e)
theorem sql_ext {K : PySem.W.Frag} {H H2 : Hp} {a : Addr} {xs : List V} (h : SqL K H a xs) (e : ExtN H H2) : SqL K H2 a xs := by
  rcases h with (h | ⟨o, h⟩) | h
  · exact .inl (.inl (e _ _ h (fun ps z => by cases z)))
  · exact .inl (.inr ⟨o, e _ _ h (fun ps z => by cases z)⟩)
  · exact .inr h
theorem pe_sortLam {X : Cx} {T : List (Addr × Str)} {c P : Addr} {x one at_ : Str} {e : Expr} {te : TE} {params : Arguments} {scope : Scope} {p pos p1 p2 lpos kpos : Pos} (he : PE X e te) (hg : Gl X x) (hm : X.mg x = none) (hv : bootBuiltins x = some (.builtin "sorted"))
    (TB : TabB X.base X.mg c P) (hcode : X.env.code = .ref c) (hmT : (P, X.env.qual ++ "<lambda>") ∈ T) (hu : ∀ p ∈ T, p.1 = P → p.2 = X.env.qual ++ "<lambda>") (hr : Room 3 X.A) (hl : X.A.units + 3 < cLine)
    (S : FnScope [one] [one] scope) (hloc : scope.names.lookup one = some .local) (hclo : ∀ cells, cloFrom cells scope.names [] = []) (hdef : defaultsOf params X.env = ([], []))
    (hbind : ∀ (q : Str) (cl : List (Str × Addr)) (pm cv ctv v : Value), bindArgs (PySem.W.kla_fn "<lambda>" q params (.Attribute (.Name one p1) at_ p2) scope cl pm cv ctv) ⟨[v], []⟩ = pure [(one, v)])
    (hb : ∀ env : Env, attributeBase (.Name one p1) at_ env (eval (.Name one p1) env) = eval (.Name one p1) env) (hd : (one == ("__debug__" : Str)) = false)
    (hn : x ≠ "__name__" := by decide) (hdb : (x == ("__debug__" : Str)) = false := by decide)
    (hes : backTo pos (starEach (e :: []) X.env) = (false, eval e X.env) :: backTo pos (starEach [] X.env) := by rfl) (hpl : (backTo pos (starEach (e :: []) X.env)).any (·.1) = false := by rfl) :
    PE X (.Call (.Name x p) [e] [⟨some "key", .Lambda params (.Attribute (.Name one p1) at_ p2) scope lpos, kpos⟩] pos) (tSortLam X.K T at_ te) := by
  refine ⟨fun pins s σ H Q I h => ?_⟩
  refine wpAny_Call_Name_kw (ld_blt I hg hm hv ?_ hn hdb)
  refine PyProof.Rows.callWith_kw ?_ hes hpl rfl rfl
  rw [hes]
  refine Calls.spliced_cons (thn (he.run pins s σ H _ I h) fun u s1 ⟨v, H1, I1, r1, hT, a, xs, k, ev, hs, hk, q⟩ => ?_)
  subst ev
  obtain rfl : u = Value.ref a := r1
  refine Calls.spliced_nil ?_
  show wpAny _ _ (evalAll ((do let v ← eval (.Lambda params (.Attribute (.Name one p1) at_ p2) scope lpos) X.env; standAt pos; pure v) :: (backToKw pos (keywordEach [] X.env)).map (·.2))) _ _ s1
  refine wpAny_evalAll_cons (wpAny_bind (lam_make2 I1 TB hcode hmT hu hT hdef (fun y hy z => absurd z (S.nofree y hy)) fun f c' pm' ctv H2 s2 I2 eN T2 hf hfn hfr hco => wpAny_bind (wpAny_standAt (wpAny_pure (wpAny_evalAll_nil ?_)))))
  have hs2 : SqL X.K H2 a xs := sql_ext hs eN
  obtain ⟨its, rv, hL, hz⟩ := I2.list hs2
  rw [hclo] at hf
  refine sorted_key_data (b := false) (R := fun (u : Value) (v : V) => RelV v u) (bs := xs) (fun x => .int (k x)) hL.isList (each_vals rv) (AllAlike.of fun _ _ => rfl) (Sortable.others fun _ => ⟨(fun z => by cases z), fun _ z => by cases z⟩) hz
    (fun _ _ => by simp only [PyData.depth]; omega) (PyProof.Rows.ksk_s1 _ _) (fun _ => PyProof.Rows.ksk_l1 _ _) (fun _ => PyProof.Rows.ksk_t1 _ _) (fun v x rx mx h tk kp => ?_) fun out c h' tk kp hfre hat hlen hout => ?_
  · obtain ⟨b, C, dx, fs, ex, hb1, cl, na, lk⟩ := hk x mx
    subst ex
    obtain rfl : v = Value.ref b := rx
    have e0 := (I2.kept (h' := h) (t' := tk) kp).env0.in1.in1
    exact lam_key (s := { s2 with heap := h, toks := tk }) e0 hr.in1.in1 (kp _ _ hf) hco S hloc (hbind _ _ _ _ _) hb (eN _ _ hb1 (fun ps z => by cases z)) cl na lk hd
  · have rv2 := vals_each hout
    have hfr2 : H2 (s2.heap.objs.size + 1) = none := I2.hok.fresh (Nat.le_succ _)
    refine ⟨.ref _, upd H2 (s2.heap.objs.size + 1) (.lst (xs.mergeSort (le k))), I2.laid (t' := tk) kp (Nat.le_succ _) ⟨?_, out, c, rv2, hat⟩, rfl, q _ _ eN T2 hfr2⟩
    show (xs.mergeSort (dataLe false fun x => PyData.int (k x))).length ≤ sizeLine
    rw [rv2.length, hlen]
    exact hz
end
end SL
/-! for k, v in d.items(), the keys of d tuples -/
namespace ItT
open PySem PySem.Spec PyProof.Rows L2
def ItiT (d : Addr) (o : Obj) (kvs : List (List Key × V)) : It :=
  ⟨fun i H => H d = some (.frz o (.dT kvs)) ∧ i < kvs.length, fun i H x H' => ∃ T k v q, kvs[i]? = some (k, v) ∧ x = .ref T ∧ H q = some (.tup (k.map kV)) ∧ H T = none ∧ H' = upd H T (.tup [.ref q, v]), fun i H => H d = some (.frz o (.dT kvs)) ∧ kvs.length ≤ i⟩
section
variable {X : Cx} {pins : List (Addr × Obj)} {σ : L2.St} {H : Hp} {s : Shared} {d : Addr} {o : Obj}
theorem frzT2 {kvs : List (List Key × V)} (I : Inv X pins σ H s) (h : H d = some (.frz o (.dT kvs))) :
    (d == sysModules) = false ∧ s.heap.get? d = some o ∧ o.ExactDict ∧ ∃ (es : Array DictEntry) (ep : Nat), o.data = .dict es ep ∧ es.size = kvs.length ∧
      ∀ (i : Nat) (k : List Key) (v : V), kvs[i]? = some (k, v) → ∃ (en : DictEntry) (q : Addr), es[i]? = some en ∧ en.key = .ref q ∧ H q = some (.tup (k.map kV)) ∧ RelV v en.val := by
  obtain ⟨hd, z, hs, xs, pr, o', es, ep, ho, hx, hdt, he, _⟩ := I.hok d _ h
  rw [hd] at ho
  cases ho
  refine ⟨hs, hd, hx, es, ep, hdt, ?_, fun i k v e => ?_⟩
  · have l1 : es.size = xs.length := size_of_entries he
    have l2 : kvs.length = xs.length := Paired.length pr
    omega
  · obtain ⟨b, hb, e1, e2, e3⟩ := paired_get pr e
    have q := entry_at he i
    rw [hb] at q
    exact ⟨_, b.2.1, q, rfl, e2, e3⟩
end
section
variable {P : Program} {w : World} {K : PySem.W.Frag} {tg : Expr} {d : Addr} {o : Obj} {es : Array DictEntry} {ep : Nat}
theorem turn_itemsT {kvs : List (List Key × V)} {elts : List Expr} {kk : Nat} {tpos : Pos} (it : Addr) (hod : o.data = .dict es ep) :
    Turn P w K (.Tuple elts kk tpos) (ItiT d o kvs) [it] it (fun i h => ∃ ok ov, IsItemIter h it d i kvs.length ep ok ov) where
  mem := by simp
  obj := fun i h st b hb => by
    have e : b = it := by simpa using hb
    subst e
    obtain ⟨ok, ov, e⟩ := st
    exact ⟨_, e, fun v z => nomatch z⟩
  keep := fun i h h' st k => let ⟨ok, ov, e⟩ := st; ⟨ok, ov, k it (by simp) _ e⟩
  item := by
    intro X hP hw hK hc i pins s σ H E I hf st hg
    subst hP hw hK
    obtain ⟨hd, hi⟩ := hg
    obtain ⟨hs, hgd, hx, es', ep', hdt, hsz, ent⟩ := frzT2 I hd
    obtain ⟨rfl, rfl⟩ := dict_ep hod hdt
    obtain ⟨⟨k, v⟩, hkv⟩ : ∃ p, kvs[i]? = some p := ⟨kvs[i], List.getElem?_eq_getElem hi⟩
    obtain ⟨en, q, hen, hkey, hq, ru⟩ := ent i k v hkv
    obtain ⟨hlt', hen'⟩ := Array.getElem?_eq_some_iff.mp hen
    obtain ⟨ok, ov, he⟩ := st
    rw [← hsz] at he
    have hlt : it < s.heap.objs.size := Heap.lt_size he
    refine wpAny_pyNext_items_item_raw he ⟨_, hgd, hx, hdt⟩ hlt' fun h' ho hT hz hk => ?_
    rw [hen', hkey] at ho hT
    refine ⟨_, rfl, wpAny_letOwnedTupleGo_items (s := { s with heap := h' }) ho fun h'' he' sb => ?_⟩
    have hT2 : h''.get? s.heap.objs.size = some { cls := .type "tuple", data := .seq #[.ref q, en.val] } := (sb.2 _ (Nat.ne_of_gt hlt)).trans hT
    have new : ObjOk X.prog X.w (upd H s.heap.objs.size (.tup [.ref q, v])) h'' s.heap.objs.size (.tup [.ref q, v]) :=
      ⟨by show 2 ≤ sizeLine; decide, [.ref q, en.val], .cons rfl (.cons ru .nil), ⟨_, hT2, rfl, _, rfl⟩⟩
    have I1 : Inv X pins σ (upd H s.heap.objs.size (.tup [.ref q, v])) { s with heap := h'' } :=
      I.turnedNew (t' := s.toks) (ch := [it]) (fun b ob hb e => (sb.2 b (by simpa using hb)).trans (hk b ob (by simpa using hb) e)) hf (Nat.le_refl _) new
    refine ⟨.ref s.heap.objs.size, _, I1, rfl, ⟨_, k, v, q, hkv, rfl, hq, I.hok.fresh (Nat.le_refl _), rfl⟩, ⟨.ref q, en.val, ?_⟩, fun b hb => ?_⟩
    · rw [← hsz]; exact he'
    · have e : b = it := by simpa using hb
      rw [e, upd_ne (Nat.ne_of_lt hlt)]
      exact (hf it (by simp)).1
  done := by
    intro X hP hw hK hc i pins s σ H E I hf st hg
    subst hP hw hK
    obtain ⟨hd, hi⟩ := hg
    obtain ⟨f0, f1, f2, f3, f4, f5⟩ := hf it (by simp)
    obtain ⟨hs, hgd, hx, es', ep', hdt, hsz, ent⟩ := frzT2 I hd
    obtain ⟨rfl, rfl⟩ := dict_ep hod hdt
    obtain ⟨ok, ov, he⟩ := st
    rw [← hsz] at he
    exact wpAny_pyNext_items_end_raw (I.ok.hd hc) he ⟨_, hgd, hx, hdt⟩ (by omega) fun h' eb => ⟨rfl, I.turned (t' := s.toks) (fun b ob hb e => eb b ob hb e) f0 f1 f3 f4 f5⟩
  self := fun A i s Q E st h => let ⟨_, _, e⟩ := st; PySem.W.kcp_self e h
end
def iItemsT (td : TE) : TI := fun σ H R => td σ H fun x H1 => ∃ d o kvs, x = .ref d ∧ H1 d = some (.frz o (.dT kvs)) ∧ R (ItiT d o kvs) H1
section
variable {X : Cx} {tg e : Expr} {td : TE} {apos cpos : Pos}
theorem pi_itemsT {elts : List Expr} {kk : Nat} {tpos : Pos} (he : PE X e td) (hbase : attributeBase e "items" X.env (eval e X.env) = eval e X.env := by rfl) (hline : (apos.endLine == cpos.line) = true := by rfl) :
    PI X (.Tuple elts kk tpos) (.Call (.Attribute e "items" apos) [] [] cpos) (iItemsT td) := by
  refine ⟨fun pins s σ H R I h => ?_⟩
  refine wpAny_Call_method (T := "dict") (id := "dict.items") hbase rfl hline F.plainAttrs_dict F.slot_dict_items F.type_dict_items (thn (he.run pins s σ H _ I h) fun u s1 ⟨x, H1, I1, rx, d, o, kvs, ex, hd, q⟩ => ?_)
  subst ex
  obtain rfl : u = Value.ref d := rx
  obtain ⟨hs, hgd, hx, es, ep, hdt, hsz, ent⟩ := frzT2 I1 hd
  have hm : s1.heap.DictRaw d es ep := ⟨_, hgd, hx, hdt⟩
  have ty : s1.TypeIs (.ref d) "dict" := hm.typeIs
  refine ⟨ty, fun a e => ⟨o, (by cases e; exact hgd), hx.2.1⟩, ?_⟩
  have I2 : Inv X pins σ H1 { s1 with heap := s1.heap.push { cls := .type "dict_items", data := .fields #[.ref d] } } := I1.kept (t' := s1.toks) fun b ob q => Heap.get?_push_of_some _ q
  have fin : wpAny (model X.prog X.w) X.A (pyIter (.ref s1.heap.objs.size)) (PIE X pins σ (.Tuple elts kk tpos) R) X.xe { s1 with heap := s1.heap.push { cls := .type "dict_items", data := .fields #[.ref d] } } := by
    refine wpAny_pyIter_items_raw (d := d) ⟨_, Heap.get?_push_size _ rfl, rfl, rfl⟩ ⟨_, Heap.get?_push_of_some _ hgd, hx, hdt⟩ (pi_one (tk := s1.toks) I2 _ (turn_itemsT _ hdt) ⟨.none, .none, ?_⟩ q)
    rw [← hsz]
    exact Heap.get?_push_size _ rfl
  show wpAny _ _ (callWith cpos (.builtin "dict.items") [.ref d] [] []) _ X.xe s1
  exact method_meetsIn F.slot_dict_items F.entry_dict_items rfl (PySem.evalArgs_none ⟨rfl, ty, F.args_dict_items_1 _, _, meets_dict_items_raw d hs, ⟨es, ep, hm⟩, fin⟩)
end
end ItT
/-! a <= b <= c <= d -/
namespace Ch3
open PySem PySem.Spec PyProof.Rows L2
section
variable {X : Cx} {a b c d : Expr} {ta tb tc td : TE} {pos : Pos}
def tChain3 (r r' r2 : R2) (ta tb tc td : TE) : TE := fun σ H Q => ta σ H fun x H1 => tb σ H1 fun y H2 => r x y H2 fun z H3 => ∃ k, z = .bl k ∧
  (if k = true then tc σ H3 fun w' H4 => r' y w' H4 fun z H5 => ∃ k, z = .bl k ∧ (if k = true then td σ H5 fun v' H6 => r2 w' v' H6 Q else Q (.bl false) H5) else Q (.bl false) H3)
theorem pe_chain3 {op op' op2 : CmpOp} {r r' r2 : R2} (ho : OpR X (compareOp op) r) (ho' : OpR X (compareOp op') r') (ho2 : OpR X (compareOp op2) r2) (ha : PE X a ta) (hb : PE X b tb) (hc : PE X c tc) (hd : PE X d td)
    (hm : lastMarks [op, op', op2] [b, c, d] = false := by with_unfolding_all rfl) : PE X (.Compare a [op, op', op2] [b, c, d] pos) (tChain3 r r' r2 ta tb tc td) := by
  refine ⟨fun pins s σ H Q I h => ?_⟩
  refine Compare_chain (thn (ha.run pins s σ H _ I h) fun v s1 ⟨x, H1, I1, r1, q1⟩ => chain_link (thn (hb.run pins s1 σ H1 _ I1 q1) fun u s2 ⟨y, H2, I2, r2, q2⟩ =>
    thn (ho pins s2 σ H2 x y v u _ I2 r1 r2 q2) fun d s3 ⟨z, H3, I3, r3, k, e, q3⟩ => ?_)) hm
  subst e
  cases r3
  refine wpAny_truthy_bool ?_
  cases k with
  | false => exact ite_ff ⟨.bl false, H3, I3, rfl, q3⟩
  | true =>
    refine ite_tt (chain_link (thn (hc.run pins s3 σ H3 _ I3 q3) fun w' s4 ⟨z', H4, I4, r4, q4⟩ => thn (ho' pins s4 σ H4 y z' u w' _ I4 r2 r4 q4) fun d2 s5 ⟨z5, H5, I5, r5, k5, e5, q5⟩ => ?_))
    subst e5
    cases r5
    refine wpAny_truthy_bool ?_
    cases k5 with
    | false => exact ite_ff ⟨.bl false, H5, I5, rfl, q5⟩
    | true => exact ite_tt (chain_last (thn (hd.run pins s5 σ H5 _ I5 q5) fun v' s6 ⟨z6, H6, I6, r6, q6⟩ => ho2 pins s6 σ H6 z' z6 w' v' Q I6 r4 r6 q6))
end
end Ch3
namespace KB
open PySem PySem.Spec PyProof.Rows L2
def KeepBut (p : Addr) (H H' : Hp) : Prop := ∀ b o, b ≠ p → H b = some o → H' b = some o
theorem KeepBut.refl (p : Addr) (H : Hp) : KeepBut p H H := fun _ _ _ h => h
theorem KeepBut.trans {p : Addr} {H H1 H2 : Hp} (a : KeepBut p H H1) (b : KeepBut p H1 H2) : KeepBut p H H2 := fun c o n h => b c o n (a c o n h)
theorem KeepBut.same {p : Addr} {H H' : Hp} (a : Same H H') : KeepBut p H H' := fun b o _ h => a b o h
theorem KeepBut.upd {p : Addr} {H : Hp} {o : HO} : KeepBut p H (upd H p o) := fun b x n h => by
  rw [upd_ne n]
  exact h
theorem KeepBut.new {p l : Addr} {H : Hp} {o : HO} (h : H l = none) : KeepBut p H (L2.upd H l o) := .same (same_new h)
/-- a new instance, then all but it kept: all that was is kept -/
theorem made {H H2 : Hp} {x dx : Addr} {o : HO} (nx : H x = none) (nd : H dx = none) (k : KeepBut x (upd (upd H dx (.own x)) x o) H2) : Same H H2 := fun b o' h => by
  have n1 := ne_of_none h nx
  have n2 := ne_of_none h nd
  refine k b o' n1 ?_
  rw [upd_ne n1, upd_ne n2]
  exact h
theorem iteT' {b : Bool} {A B : Prop} (e : b = true) (h : A) : if b = true then A else B := by
  rw [if_pos e]
  exact h
theorem iteF' {b : Bool} {A B : Prop} (e : b = false) (h : B) : if b = true then A else B := by
  rw [if_neg (by rw [e]; decide)]
  exact h
structure NcT (K : PySem.W.Frag) (C : Addr) (fs : List Str) : Prop where
  cl : Cls K C
  no : ∀ f ∈ fs, NoAttr K C f
/-- a class of the program: made by its name, with these fields -/
structure C4 (K : PySem.W.Frag) (mg : Str → Option Value) (name : Str) (C f : Addr) (fs : List Str) : Prop where
  M : Mk K C f
  g : mg name = some (.ref C)
  N : NcT K C fs
abbrev sCu (i : Nat) : Stmt := inClass (topS 91) i
abbrev sCI : Stmt := sCu 0
abbrev sNT : Stmt := sCu 1
abbrev sRM : Stmt := topS 117
abbrev cuFs : List Str := ["end", "_tokens", "_length", "_at", "_opened", "_first"]
section
variable {P : Program} {w : World} {K : PySem.W.Frag} {mg : Str → Option Value} {base : Heap} {aW fTK CC fCI fNT fRM : Addr}
theorem scCI : FnScope ["self", "text"] ["self", "text"] (defScope sCI) := ⟨rfl, rfl, rfl, by decide +kernel, rfl, by decide +kernel, by decide +kernel⟩
theorem scNT : FnScope ["self", "further", "at"] ["self", "further"] (defScope sNT) := ⟨rfl, rfl, rfl, by decide +kernel, rfl, by decide +kernel, by decide +kernel⟩
theorem scRM : FnScope ["text", "cursor", "found"] ["text"] (defScope sRM) := ⟨rfl, rfl, rfl, by decide +kernel, rfl, by decide +kernel, by decide +kernel⟩
/-- a cursor over no tokens -/
def CuE (C : Addr) (H : Hp) (p : Addr) : Prop := ∃ dx a n, H p = some (.ins C dx [("end", .int 0), ("_tokens", .ref a), ("_length", .int n), ("_at", .int 0), ("_opened", .int 0), ("_first", .non)]) ∧ H a = some (.lst [])
def spCI (C : Addr) : Sp := fun vs H Q _ => ∃ (p dx : Addr) (l : List Nat), vs = [.ref p, .str (S l)] ∧ Cmt l ∧ l.length ≤ 5000 ∧ H p = some (.ins C dx []) ∧ ∀ H', KeepBut p H H' → CuE C H' p → Q .non H'
theorem ok_CI {fd fdTK : FuncData} {k : Nat} (F : Fun K "__init__" "Cursor.__init__" sCI fCI fd) (T : T4 K mg aW) (N : NcT K CC cuFs) (GTK : FnOk P w K mg base CX0 k fTK fdTK ["text"] spTK) (gTK : mg "tokens" = some (.ref fTK)) (kTK : PySem.W.keepIn K (.ref fTK) = true) (bTK : Binds K fdTK ["text"] []) :
    FnOk P w K mg base CX0 (k + 1) fCI fd ["self", "text"] (spCI CC) := by
  refine F.ok scCI (fun vs H Q E h => ?_) (fun cdv A outer s H vs Q E hr h => ?_)
  · obtain ⟨p, dx, x, rfl, _⟩ := h
    rfl
  · obtain ⟨p, dx, x, rfl, cm, hx, hp, q⟩ := h
    refine ⟨_,
(pss_cons (ps_fld (pv 0) pe_int rfl)
 (pss_cons (ps_fld (pv 0) (pe_call GTK hr (by rfl) gTK kTK bTK .nil pass0 (pa_cons (pv 1) pa_nil)) rfl)
 (pss_cons (ps_fld (pv 0) (pe_callB call_len_str (by rfl) T.len (by decide +kernel) (pa_cons (pv 1) pa_nil)) rfl)
 (pss_cons (ps_fld (pv 0) pe_int rfl)
 (pss_cons (ps_fld (pv 0) pe_int rfl)
 (pss_one (ps_fld (pv 0) pe_non rfl))))))), ?_⟩
    have no := N.no
    refine ⟨_, rfl, p, CC, dx, _, rfl, hp, N.cl, no _ (by simp), (by show 0 < 1000; decide), ?_⟩
    have k1 : KeepBut p H (upd H p (.ins CC dx (putF "end" (.int 0) []))) := .upd
    refine ⟨_, rfl, x, rfl, cm, hx, fun a H2 sm na ha => ?_⟩
    have h2 : H2 p = some (.ins CC dx (putF "end" (.int 0) [])) := sm _ _ upd_same
    have nap : a ≠ p := (ne_of_none upd_same na).symm
    refine ⟨_, rfl, p, CC, dx, _, rfl, h2, N.cl, no _ (by simp), (by show 1 < 1000; decide), _, rfl, S x, rfl, (by rw [S_len]; exact small (by omega)), _, rfl, p, CC, dx, _, rfl, upd_same, N.cl, no _ (by simp), (by show 2 < 1000; decide),
      _, rfl, p, CC, dx, _, rfl, upd_same, N.cl, no _ (by simp), (by show 3 < 1000; decide), _, rfl, p, CC, dx, _, rfl, upd_same, N.cl, no _ (by simp), (by show 4 < 1000; decide), _, rfl, p, CC, dx, _, rfl, upd_same, N.cl, no _ (by simp), (by show 5 < 1000; decide), ?_⟩
    have kk : ∀ o1 o2 o3 o4 o5, KeepBut p H2 (upd (upd (upd (upd (upd H2 p o1) p o2) p o3) p o4) p o5) := fun _ _ _ _ _ => (((KeepBut.upd.trans .upd).trans .upd).trans .upd).trans .upd
    exact q _ ((k1.trans (.same sm)).trans (kk _ _ _ _ _)) ⟨dx, a, _, upd_same, kk _ _ _ _ _ a _ nap ha⟩
def spNT (C : Addr) : Sp := fun vs H Q _ => ∃ p, vs = [.ref p, .int 0] ∧ CuE C H p ∧ Q (.str (S [])) H
theorem ok_NT {fd : FuncData} {k : Nat} (F : FunD K "next_text" "Cursor.next_text" (defArgs sNT) (defBody sNT) (defScope sNT) [.int 0] [] fNT fd) (T : T4 K mg aW) (N : NcT K CC cuFs) : FnOk P w K mg base CX0 (k + 1) fNT fd ["self", "further"] (spNT CC) := by
  refine F.ok scNT (fun vs H Q E h => ?_) (fun cdv A outer s H vs Q E hr h => ?_)
  · obtain ⟨p, rfl, _⟩ := h
    rfl
  · obtain ⟨p, rfl, ⟨dx, a, n, hp, ha⟩, q⟩ := h
    have no := N.no
    refine ⟨_,
(pss_cons (ps_set (i := 2) scNT.nd rfl (.inl rfl) (pe_op op_add (pe_fld (pv 0) rfl) (pv 1)))
 (pss_one (ps_ret (pe_ifExp (pt_cmpR op_lt (pv 2) (pe_callB call_len_seq (by rfl) T.len (by decide +kernel) (pa_cons (pe_fld (pv 0) rfl) pa_nil)) (nomark _)) (pe_ix ix_tup (pe_ix ix_list (pe_fld (pv 0) rfl) (pv 2) (fun _ _ => rfl)) pe_int (fun _ _ => rfl)) pe_str)))), ?_⟩
    refine ⟨_, rfl, p, CC, dx, _, _, rfl, hp, N.cl, no _ (by simp), rfl, _, rfl, _, _, rfl, rfl, ?_⟩
    refine ⟨_, rfl, _, rfl, p, CC, dx, _, _, rfl, hp, N.cl, no _ (by simp), rfl, a, _, rfl, .inl (.inl (.inl ha)), _, _, rfl, rfl, _, rfl, iteF ?_⟩
    have e : Str.ofString "" = S [] := by decide +kernel
    show Q (.str (Str.ofString "")) H
    rw [e]
    exact q
def spRM : Sp := fun vs H Q _ => ∃ l, vs = [.str (S l)] ∧ Cmt l ∧ l.length ≤ 5000 ∧ ∀ p H', Same H H' → H p = none → H' p = some (.lst []) → Q (.ref p) H'
theorem ok_RM {fd fdCI fdNT : FuncData} {d0 : List Value} {k : Nat} (F : Fun K "read_module" "read_module" sRM fRM fd) (CU : C4 K mg "Cursor" CC fCI cuFs) (GCI : FnOk P w K mg base CX0 k fCI fdCI ["self", "text"] (spCI CC)) (bCI : Binds K fdCI ["self", "text"] [])
    (mNT : Meth K CC "next_text" fNT) (GNT : FnOk P w K mg base CX0 1 fNT fdNT ["self", "further"] (spNT CC)) (bNT : Binds K fdNT ["self", "further"] d0) (dNT : Vals [.int 0] d0) :
    FnOk P w K mg base CX0 (k + 2) fRM fd ["text"] spRM := by
  refine F.ok scRM (fun vs H Q E h => ?_) (fun cdv A outer s H vs Q E hr h => ?_)
  · obtain ⟨l, rfl, _⟩ := h
    rfl
  · obtain ⟨l, rfl, cm, hl, q⟩ := h
    refine ⟨_,
(pss_cons (ps_set (i := 1) scRM.nd rfl (.inl rfl) (pe_make CU.M GCI hr (by rfl) CU.g bCI .nil pass0 (pa_cons (pv 0) pa_nil)))
 (pss_cons (ps_set (i := 2) scRM.nd rfl (.inl rfl) (pe_lst pa_nil))
 (pss_cons (ps_while PassesOwn.never (pt_cmpR op_ne (pe_meth0 (pv 1) CU.N.cl mNT GNT (hr.mono (by omega)) bNT dNT pass0) pe_str (nomark _))
 (pss_one ps_never))
 (pss_one (ps_ret (pv 2)))))), ?_⟩
    refine ⟨_, rfl, fun x dx nx ndx _ => ?_⟩
    refine ⟨x, dx, l, rfl, cm, hl, upd_same, fun H2 k2 c2 => ⟨rfl, ?_⟩⟩
    have sm := made nx ndx k2
    refine ⟨(by show 0 ≤ sizeLine; decide), fun f nf => ?_⟩
    have c2' := c2
    obtain ⟨dx2, a, n, hx, ha⟩ := c2
    have s3 : Same H2 (upd H2 f (.lst [])) := same_new nf
    refine ⟨fun m σ H' => σ = [some (.str (S l)), some (.ref x), some (.ref f)] ∧ H' = upd H2 f (.lst []), ⟨0, rfl, rfl⟩, ?_⟩
    rintro m σ H' ⟨rfl, rfl⟩
    refine ⟨_, rfl, x, dx2, _, rfl, s3 _ _ hx, rfl, x, rfl, ⟨dx2, a, n, s3 _ _ hx, s3 _ _ ha⟩, rfl, _, rfl, ?_⟩
    have e : Str.ofString "" = S [] := by decide +kernel
    rw [e, S_eq]
    refine iteF' (by simp) ?_
    exact ⟨_, rfl, q f _ (sm.trans s3) (sm.free nf) upd_same⟩
end
end KB
namespace KB
open PySem PySem.Spec PyProof.Rows L2 LamX
abbrev sSC : Stmt := inClass (topS 53) 0
abbrev sFi (i : Nat) : Stmt := inClass (topS 57) i
abbrev sFI : Stmt := sFi 0
abbrev sBG : Stmt := sFi 1
abbrev sBL : Stmt := sFi 4
abbrev scFs : List Str := ["module", "kind", "start", "outer", "node", "names", "words", "parameters", "links", "stars"]
abbrev fiFs : List Str := ["module", "found", "sights", "broken", "calls"]
/-- a def whose code object stands at c -/
structure FunC (K : PySem.W.Frag) (x qual : Str) (st : Stmt) (f : Addr) (fd : FuncData) (c : Addr) : Prop where
  ex : ∃ (oc : Value) (od : Option Addr) (kV doc pm : Value) (an : Option Addr) (ct : Value) (osl : Array (Option Value)),
    fd = PySem.W.fnOf x qual (defArgs st) (defBody st) (defScope st) .none kV doc pm an (.ref c) ct ∧ K.lookup f = some ⟨oc, od, .func fd, osl⟩ ∧ PySem.W.codeIn K (.ref c) qual = true
  kp : PySem.W.keepIn K (.ref f) = true
theorem FunC.fun {K : PySem.W.Frag} {x qual : Str} {st : Stmt} {f : Addr} {fd : FuncData} {c : Addr} (F : FunC K x qual st f fd c) : Fun K x qual st f fd := by
  obtain ⟨oc, od, kV, doc, pm, an, ct, osl, e, lk, hcd⟩ := F.ex
  exact ⟨⟨oc, od, kV, doc, pm, an, _, ct, osl, e, lk, hcd⟩, F.kp⟩
theorem FunC.ok {P : Program} {w : World} {K : PySem.W.Frag} {mg : Str → Option Value} {base : Heap} {x qual : Str} {st : Stmt} {f c : Addr} {fd : FuncData} {N ps : List Str} {k : Nat} {sp : Sp} (F : FunC K x qual st f fd c) (S : FnScope N ps (defScope st)) (len : ∀ vs H Q E, sp vs H Q E → vs.length = ps.length)
    (hbody : ∀ (A : Around) (outer : List Env) (s : Shared) (H : Hp) (vs : List V) (Q : VK) (E : XK), Room k (A.deeper (envOfC qual (defScope st) s.heap.objs.size f (.ref c))) → sp vs H Q E →
      ∃ t, PSs (cxOf CX0 P w K mg base N qual (defScope st) f (.ref c) A outer s H E).nox (defBody st) t ∧ t { nx := fun _ H' => Q .non H', rt := Q } (L2.start N vs) H) : FnOk P w K mg base CX0 (k + 1) f fd ps sp := by
  obtain ⟨oc, od, kV, doc, pm, an, ct, osl, rfl, lk, hcd⟩ := F.ex
  refine fn_of lk hcd S len fun A outer s H vs Q E hr hsp => ?_
  obtain ⟨t, h, q⟩ := hbody A outer s H vs Q E hr hsp
  exact ⟨t, h.nox, q⟩
theorem hu3 {A : Around} {k : Nat} (hr : Room k A) : A.units + 3 < cLine := Nat.lt_of_le_of_lt (Nat.add_le_add_left (by decide : 3 ≤ 64) _) hr.units
/-- all but p and the tables is kept -/
def ExtB (p : Addr) (H H' : Hp) : Prop := ∀ b o, b ≠ p → H b = some o → (∀ ps, o ≠ .tbl ps) → H' b = some o
theorem ExtB.of {p : Addr} {H H' : Hp} (k : KeepBut p H H') : ExtB p H H' := fun b o n h _ => k b o n h
theorem ExtB.ext {p : Addr} {H H' : Hp} (k : ExtN H H') : ExtB p H H' := fun b o _ h t => k b o h t
theorem ExtB.trans {p : Addr} {H H1 H2 : Hp} (a : ExtB p H H1) (b : ExtB p H1 H2) : ExtB p H H2 := fun c o n h t => b c o n (a c o n h t) t
theorem ExtN.same {H H' : Hp} (a : Same H H') : ExtN H H' := fun b o h _ => a b o h
theorem KeepBut.new2 {p l : Addr} {H H1 H2 : Hp} (a : KeepBut p H H1) (b : KeepBut l H1 H2) (n : H l = none) : KeepBut p H H2 := fun c o hc h => b c o (ne_of_none h n) (a c o hc h)
theorem KeepBut.free {p b : Addr} {H H1 : Hp} (k : KeepBut p H H1) (e : H1 b = none) (n : b ≠ p) : H b = none := by
  cases z : H b with
  | none => rfl
  | some o =>
    rw [k b o n z] at e
    cases e
theorem tabs_but {T : List (Addr × Str)} {H H' : Hp} {p : Addr} {u : HO} (t : Tabs T H) (k : KeepBut p H H') (hp : H p = some u) (nu : ∀ ps, u ≠ .tbl ps) (hq : ∀ q, u ≠ CodeO p q) : Tabs T H' := fun z hz => by
  obtain ⟨ps, h1, h2, h3⟩ := t z hz
  refine ⟨ps, k _ _ (fun e => nu ps (by rw [← e] at hp; exact Option.some.inj (hp.symm.trans h1))) h1, h2, fun pos cv hc => ?_⟩
  obtain ⟨c, e1, e2⟩ := h3 pos cv hc
  exact ⟨c, e1, k _ _ (fun e => hq z.2 (by
    subst e
    exact Option.some.inj (hp.symm.trans e2))) e2⟩
theorem tabs_put {T : List (Addr × Str)} {H : Hp} {p : Addr} {o u : HO} (t : Tabs T H) (hp : H p = some u) (nu : ∀ ps, u ≠ .tbl ps) (hq : ∀ q, u ≠ CodeO p q) : Tabs T (L2.upd H p o) := fun z hz => by
  obtain ⟨ps, h1, h2, h3⟩ := t z hz
  refine ⟨ps, ?_, h2, fun pos cv hc => ?_⟩
  · rw [upd_ne fun e => nu ps (by rw [← e] at hp; exact Option.some.inj (hp.symm.trans h1))]
    exact h1
  · obtain ⟨c, e1, e2⟩ := h3 pos cv hc
    refine ⟨c, e1, ?_⟩
    rw [upd_ne fun e => hq z.2 (by
      subst e
      exact Option.some.inj (hp.symm.trans e2))]
    exact e2
theorem tabs_new {T : List (Addr × Str)} {H : Hp} {p : Addr} {o : HO} (t : Tabs T H) (hp : H p = none) : Tabs T (L2.upd H p o) := t.ext (same_new hp)
theorem ins_tbl {C dx : Addr} {fs : List (Str × V)} : ∀ ps, HO.ins C dx fs ≠ .tbl ps := fun _ z => by cases z
theorem ins_code {C dx : Addr} {fs : List (Str × V)} {p : Addr} : ∀ q, HO.ins C dx fs ≠ CodeO p q := fun _ z => by
  unfold CodeO at z
  cases z
theorem lst_code {xs : List V} {p : Addr} : ∀ q, HO.lst xs ≠ CodeO p q := fun _ z => by
  unfold CodeO at z
  cases z
theorem lst_tbl {xs : List V} : ∀ ps, HO.lst xs ≠ .tbl ps := fun _ z => by cases z
theorem dk_tbl {xs : List (Key × V)} : ∀ ps, HO.dK xs ≠ .tbl ps := fun _ z => by cases z
theorem dt_tbl {xs : List (List Key × V)} : ∀ ps, HO.dT xs ≠ .tbl ps := fun _ z => by cases z
theorem tup_tbl {xs : List V} : ∀ ps, HO.tup xs ≠ .tbl ps := fun _ z => by cases z
section
variable {P : Program} {w : World} {K : PySem.W.Frag} {mg : Str → Option Value} {base : Heap} {aW CS fSC CF fFI fBG fBL cF pF : Addr}
theorem scSC : FnScope ["self", "module", "kind", "start", "outer", "node"] ["self", "module", "kind", "start", "outer", "node"] (defScope sSC) := ⟨rfl, rfl, rfl, by decide +kernel, rfl, by decide +kernel, by decide +kernel⟩
theorem scBG : FnScope ["self", "kind", "start", "outer", "node", "scope"] ["self", "kind", "start", "outer", "node"] (defScope sBG) := ⟨rfl, rfl, rfl, by decide +kernel, rfl, by decide +kernel, by decide +kernel⟩
theorem scBL : FnScope ["self", "rows", "scope", "row"] ["self", "rows", "scope"] (defScope sBL) := ⟨rfl, rfl, rfl, by decide +kernel, rfl, by decide +kernel, by decide +kernel⟩
theorem scFI : FnScope ["self", "module", "tree"] ["self", "module", "tree"] (defScope sFI) := ⟨rfl, rfl, rfl, by decide +kernel, rfl, by decide +kernel, by decide +kernel⟩
def scF (m k s o n : V) (d1 d2 l1 d3 l2 : Addr) : List (Str × V) := [("module", m), ("kind", k), ("start", s), ("outer", o), ("node", n), ("names", .ref d1), ("words", .ref d2), ("parameters", .ref l1), ("links", .ref d3), ("stars", .ref l2)]
/-- a module's scope that brings nothing -/
def ScW (C : Addr) (H : Hp) (s : Addr) (m : Str) (d3 l2 : Addr) : Prop := ∃ dx d1 d2 l1, H s = some (.ins C dx (scF (.str m) (.str "module") (.int (-1)) .non .non d1 d2 l1 d3 l2)) ∧ H d3 = some (.dK []) ∧ H l2 = some (.lst [])
def ScAt (C : Addr) (H : Hp) (s : Addr) (m : Str) : Prop := ∃ d3 l2, ScW C H s m d3 l2
theorem ScAt.ext {C : Addr} {H H' : Hp} {s : Addr} {m : Str} (a : ScAt C H s m) (k : ExtN H H') : ScAt C H' s m := by
  obtain ⟨d3, l2, dx, d1, d2, l1, h1, h2, h3⟩ := a
  exact ⟨d3, l2, dx, d1, d2, l1, k _ _ h1 ins_tbl, k _ _ h2 dk_tbl, k _ _ h3 lst_tbl⟩
theorem ScW.extB {C p : Addr} {H H' : Hp} {s : Addr} {m : Str} {C' dx d3 l2 : Addr} {fs : List (Str × V)} (a : ScW C H s m d3 l2) (k : ExtB p H H') (hp : H p = some (.ins C' dx fs)) (n : s ≠ p) : ScW C H' s m d3 l2 := by
  obtain ⟨dx, d1, d2, l1, h1, h2, h3⟩ := a
  refine ⟨dx, d1, d2, l1, k _ _ n h1 ins_tbl, k _ _ (fun e => ?_) h2 dk_tbl, k _ _ (fun e => ?_) h3 lst_tbl⟩
  · rw [e, hp] at h2
    cases h2
  · rw [e, hp] at h3
    cases h3
theorem ScAt.extB {C p : Addr} {H H' : Hp} {s : Addr} {m : Str} {C' dx : Addr} {fs : List (Str × V)} (a : ScAt C H s m) (k : ExtB p H H') (hp : H p = some (.ins C' dx fs)) (n : s ≠ p) : ScAt C H' s m := by
  obtain ⟨d3, l2, dx, d1, d2, l1, h1, h2, h3⟩ := a
  refine ⟨d3, l2, dx, d1, d2, l1, k _ _ n h1 ins_tbl, k _ _ (fun e => ?_) h2 dk_tbl, k _ _ (fun e => ?_) h3 lst_tbl⟩
  · rw [e, hp] at h2
    cases h2
  · rw [e, hp] at h3
    cases h3
def spSC (C : Addr) : Sp := fun vs H Q _ => ∃ (p dx : Addr) (m : Str), vs = [.ref p, .str m, .str "module", .int (-1), .non, .non] ∧ H p = some (.ins C dx []) ∧ ∀ H' d3 l2, KeepBut p H H' → ScW C H' p m d3 l2 → H d3 = none → H l2 = none → Q .non H'
theorem ok_SC {fd : FuncData} {k : Nat} (F : Fun K "__init__" "Scope.__init__" sSC fSC fd) (N : NcT K CS scFs) : FnOk P w K mg base CX0 (k + 1) fSC fd ["self", "module", "kind", "start", "outer", "node"] (spSC CS) := by
  refine F.ok scSC (fun vs H Q E h => ?_) (fun cdv A outer s H vs Q E hr h => ?_)
  · obtain ⟨p, dx, m, rfl, _⟩ := h
    rfl
  · obtain ⟨p, dx, m, rfl, hp, q⟩ := h
    have no := N.no
    refine ⟨_,
(pss_cons (ps_fld (pv 0) (pv 1) rfl)
 (pss_cons (ps_fld (pv 0) (pv 2) rfl)
 (pss_cons (ps_fld (pv 0) (pv 3) rfl)
 (pss_cons (ps_fld (pv 0) (pv 4) rfl)
 (pss_cons (ps_fld (pv 0) (pv 5) rfl)
 (pss_cons (ps_fld (pv 0) pe_dnewK rfl)
 (pss_cons (ps_fld (pv 0) pe_dnewK rfl)
 (pss_cons (ps_fld (pv 0) (pe_lst pa_nil) rfl)
 (pss_cons (ps_fld (pv 0) pe_dnewK rfl)
 (pss_one (ps_fld (pv 0) (pe_lst pa_nil) rfl))))))))))), ?_⟩
    refine ⟨_, rfl, _, rfl, p, CS, dx, _, rfl, hp, N.cl, no _ (by simp), (by show 0 < 1000; decide), ?_⟩
    refine ⟨_, rfl, _, rfl, p, CS, dx, _, rfl, upd_same, N.cl, no _ (by simp), (by show 1 < 1000; decide), ?_⟩
    refine ⟨_, rfl, _, rfl, p, CS, dx, _, rfl, upd_same, N.cl, no _ (by simp), (by show 2 < 1000; decide), ?_⟩
    refine ⟨_, rfl, _, rfl, p, CS, dx, _, rfl, upd_same, N.cl, no _ (by simp), (by show 3 < 1000; decide), ?_⟩
    refine ⟨_, rfl, _, rfl, p, CS, dx, _, rfl, upd_same, N.cl, no _ (by simp), (by show 4 < 1000; decide), ?_⟩
    have pk : ∀ {H1 : Hp} {o : HO} {b : Addr}, H1 p = some o → H1 b = none → p ≠ b := fun h1 h2 => ne_of_none h1 h2
    refine fun d1 n1 => ⟨_, rfl, p, CS, dx, _, rfl, (by rw [upd_ne (pk upd_same n1)]; exact upd_same), N.cl, no _ (by simp), (by show 5 < 1000; decide), ?_⟩
    refine fun d2 n2 => ⟨_, rfl, p, CS, dx, _, rfl, (by rw [upd_ne (pk upd_same n2)]; exact upd_same), N.cl, no _ (by simp), (by show 6 < 1000; decide), ?_⟩
    refine ⟨(by show 0 ≤ sizeLine; decide), fun l1 n3 => ⟨_, rfl, p, CS, dx, _, rfl, (by rw [upd_ne (pk upd_same n3)]; exact upd_same), N.cl, no _ (by simp), (by show 7 < 1000; decide), ?_⟩⟩
    refine fun d3 n4 => ⟨_, rfl, p, CS, dx, _, rfl, (by rw [upd_ne (pk upd_same n4)]; exact upd_same), N.cl, no _ (by simp), (by show 8 < 1000; decide), ?_⟩
    refine ⟨(by show 0 ≤ sizeLine; decide), fun l2 n5 => ⟨_, rfl, p, CS, dx, _, rfl, (by rw [upd_ne (pk upd_same n5)]; exact upd_same), N.cl, no _ (by simp), (by show 9 < 1000; decide), ?_⟩⟩
    have fr : ∀ {H1 : Hp} {b : Addr}, KeepBut p H H1 → H1 b = none → b ≠ p → H b = none := fun {H1 b} k e n => by
      cases z : H b with
      | none => rfl
      | some o =>
        rw [k b o n z] at e
        cases e
    refine q _ d3 l2 (.trans (.trans (.trans (.trans (.trans (.trans (.trans (.trans (.trans (.trans (.trans (.trans (.trans (.trans .upd .upd) .upd) .upd) .upd) (.new n1)) .upd) (.new n2)) .upd) (.new n3)) .upd) (.new n4)) .upd) (.new n5)) .upd) ⟨dx, d1, d2, l1, upd_same, ?_, ?_⟩ (fr ?_ n4 (pk upd_same n4).symm) (fr ?_ n5 (pk upd_same n5).symm)
    · have a1 : d3 ≠ p := (pk upd_same n4).symm
      rw [upd_ne a1]
      exact same_new n5 _ _ (by rw [upd_ne a1, upd_same])
    · rw [upd_ne (pk upd_same n5).symm, upd_same]
    · exact (.trans (.trans (.trans (.trans (.trans (.trans (.trans (.trans (.trans (.trans .upd .upd) .upd) .upd) .upd) (.new n1)) .upd) (.new n2)) .upd) (.new n3)) .upd)
    · exact (.trans (.trans (.trans (.trans (.trans (.trans (.trans (.trans (.trans (.trans (.trans (.trans .upd .upd) .upd) .upd) .upd) (.new n1)) .upd) (.new n2)) .upd) (.new n3)) .upd) (.new n4)) .upd)
def spBG (CS CF : Addr) : Sp := fun vs H Q _ => ∃ (p dx lf : Addr) (fs : List (Str × V)) (m : Str), vs = [.ref p, .str "module", .int (-1), .non, .non] ∧ H p = some (.ins CF dx fs) ∧ fs.lookup ("module" : Str) = some (.str m) ∧ fs.lookup ("found" : Str) = some (.ref lf) ∧ H lf = some (.lst []) ∧
  ∀ H' s d3 l2, KeepBut lf H H' → H' lf = some (.lst [.ref s]) → H s = none → ScW CS H' s m d3 l2 → H d3 = none → Q (.ref s) H'
theorem ok_BG {fd fdSC : FuncData} {k : Nat} (F : Fun K "_begin" "Finder._begin" sBG fBG fd) (N : NcT K CF fiFs) (SC : C4 K mg "Scope" CS fSC scFs) (GSC : FnOk P w K mg base CX0 1 fSC fdSC ["self", "module", "kind", "start", "outer", "node"] (spSC CS)) (bSC : Binds K fdSC ["self", "module", "kind", "start", "outer", "node"] []) :
    FnOk P w K mg base CX0 (k + 3) fBG fd ["self", "kind", "start", "outer", "node"] (spBG CS CF) := by
  refine F.ok scBG (fun vs H Q E h => ?_) (fun cdv A outer s H vs Q E hr h => ?_)
  · obtain ⟨p, dx, lf, fs, m, rfl, _⟩ := h
    rfl
  · obtain ⟨p, dx, lf, fs, m, rfl, hp, hm, hf, hl, q⟩ := h
    have no := N.no
    refine ⟨_,
(pss_cons (ps_set (i := 5) scBG.nd rfl (.inl rfl) (pe_make SC.M GSC (hr.mono (by omega)) (by rfl) SC.g bSC .nil pass0 (pa_cons (pe_fld (pv 0) rfl) (pa_cons (pv 1) (pa_cons (pv 2) (pa_cons (pv 3) (pa_cons (pv 4) pa_nil)))))))
 (pss_cons (ps_expr (pe_bm PySem.F.plainAttrs_list PySem.F.slot_list_append PySem.F.type_list_append mt_append (pe_fld (pv 0) rfl) (pa_cons (pv 5) pa_nil)))
 (pss_one (ps_ret (pv 5))))), ?_⟩
    refine ⟨_, rfl, p, CF, dx, _, _, rfl, hp, N.cl, no _ (by simp), hm, _, rfl, _, rfl, _, rfl, _, rfl, ?_⟩
    intro x dx2 nx ndx _
    refine ⟨x, dx2, m, rfl, upd_same, fun H2 d3 l2 k2 sc w3 w2 => ⟨rfl, ?_⟩⟩
    have sm := made nx ndx k2
    refine ⟨_, rfl, p, CF, dx, _, _, rfl, sm _ _ hp, N.cl, no _ (by simp), hf, .inl ⟨rfl, _, .inl (.inl (sm _ _ hl))⟩, _, rfl, lf, _, _, rfl, rfl, sm _ _ hl, (by show 0 < sizeLine; decide), ?_⟩
    have ne : x ≠ lf := (ne_of_none hl nx).symm
    have old : ∀ b, (L2.upd (L2.upd H dx2 (.own x)) x (.ins CS dx2 [])) b = none → b ≠ lf := fun b z e => by
      rw [e, upd_ne (ne_of_none hl nx), upd_ne (ne_of_none hl ndx), hl] at z
      cases z
    have nH : ∀ b, (L2.upd (L2.upd H dx2 (.own x)) x (.ins CS dx2 [])) b = none → H b = none := fun b z => (made nx ndx (.refl _ _)).free z
    refine ⟨_, rfl, q _ x d3 l2 (.trans (.same sm) .upd) upd_same nx ?_ (nH _ w3)⟩
    obtain ⟨ex, d1, d2, l1, h1, h2, h3⟩ := sc
    exact ⟨ex, d1, d2, l1, by rw [upd_ne ne]; exact h1, by rw [upd_ne (old _ w3)]; exact h2, by rw [upd_ne (old _ w2)]; exact h3⟩
/-- a walk over nothing -/
theorem for0 {J : It} {g : TG} {tb : TS} {D : Ends} {σ : L2.St} {H : Hp} (hs : J.stop 0 H) (hd : D.nx σ H) :
    ∃ W : Nat → Nat → L2.St → Hp → Prop, (∃ m, W 0 m σ H) ∧ ∀ i m σ H, W i m σ H →
      (J.stop i H ∧ D.nx σ H) ∨ (J.go i H ∧ ∃ N : L2.St → Hp → Prop, (∀ σ' H', N σ' H' → ∃ m', m' < m ∧ W (i + 1) m' σ' H') ∧ ∀ x H', J.yld i H x H' → g x σ H' fun σ2 H2 => tb { D with nx := N, ct := N, bk := D.nx } σ2 H2) :=
  ⟨fun i _ σ' H' => i = 0 ∧ σ' = σ ∧ H' = H, ⟨0, rfl, rfl, rfl⟩, fun i m σ' H' h => by
    obtain ⟨rfl, rfl, rfl⟩ := h
    exact .inl ⟨hs, hd⟩⟩
theorem stopL {K : PySem.W.Frag} {a : Addr} {H : Hp} (h : SqL K H a []) : (Itl K a).stop 0 H := ⟨[], h, Nat.le_refl _⟩
def spBL : Sp := fun vs H Q _ => ∃ (p r : Addr) (v : V), vs = [.ref p, .ref r, v] ∧ H r = some (.lst []) ∧ Q .non H
theorem ok_BL {fd : FuncData} {k : Nat} (F : Fun K "_block" "Finder._block" sBL fBL fd) : FnOk P w K mg base CX0 (k + 1) fBL fd ["self", "rows", "scope"] spBL := by
  refine F.ok scBL (fun vs H Q E h => ?_) (fun cdv A outer s H vs Q E hr h => ?_)
  · obtain ⟨p, r, v, rfl, _⟩ := h
    rfl
  · obtain ⟨p, r, v, rfl, hl, q⟩ := h
    refine ⟨_,
(pss_one (ps_for PassesOwn.never rfl (pi_list (pv 1)) (pg_name (i := 3) scBL.nd rfl (.inl rfl))
 (pss_one ps_never))), ?_⟩
    exact ⟨_, rfl, r, rfl, ⟨_, .inl (.inl hl)⟩, for0 (stopL (.inl (.inl hl))) q⟩
/-- what Finder is, of a module without statements; d3: its scope's links -/
def FnD (CF CS : Addr) (H : Hp) (f : Addr) (m : Str) (d3 : Addr) : Prop := ∃ dx lf ls lb dc s l2, H f = some (.ins CF dx [("module", .str m), ("found", .ref lf), ("sights", .ref ls), ("broken", .ref lb), ("calls", .ref dc)]) ∧ H lf = some (.lst [.ref s]) ∧ H ls = some (.lst []) ∧ H lb = some (.lst []) ∧ ScW CS H s m d3 l2
def FnAt (CF CS : Addr) (H : Hp) (f : Addr) (m : Str) : Prop := ∃ d3, FnD CF CS H f m d3
theorem ScW.ext {C : Addr} {H H' : Hp} {s : Addr} {m : Str} {d3 l2 : Addr} (a : ScW C H s m d3 l2) (k : ExtN H H') : ScW C H' s m d3 l2 := by
  obtain ⟨dx, d1, d2, l1, h1, h2, h3⟩ := a
  exact ⟨dx, d1, d2, l1, k _ _ h1 ins_tbl, k _ _ h2 dk_tbl, k _ _ h3 lst_tbl⟩
theorem FnD.ext {CF CS : Addr} {H H' : Hp} {f : Addr} {m : Str} {d3 : Addr} (a : FnD CF CS H f m d3) (k : ExtN H H') : FnD CF CS H' f m d3 := by
  obtain ⟨dx, lf, ls, lb, dc, s, l2, h1, h2, h3, h4, h5⟩ := a
  exact ⟨dx, lf, ls, lb, dc, s, l2, k _ _ h1 ins_tbl, k _ _ h2 lst_tbl, k _ _ h3 lst_tbl, k _ _ h4 lst_tbl, h5.ext k⟩
theorem FnAt.ext {CF CS : Addr} {H H' : Hp} {f : Addr} {m : Str} (a : FnAt CF CS H f m) (k : ExtN H H') : FnAt CF CS H' f m := let ⟨d3, h⟩ := a; ⟨d3, h.ext k⟩
abbrev qF : Str := "Finder.__init__.<locals>.<lambda>"
abbrev TTb (pF : Addr) : List (Addr × Str) := [(pF, qF)]
def spFI (CS CF pF : Addr) : Sp := fun vs H Q _ => ∃ (p dx r : Addr) (m : Str), vs = [.ref p, .str m, .ref r] ∧ H p = some (.ins CF dx []) ∧ H r = some (.lst []) ∧ Tabs (TTb pF) H ∧ ∀ H' d3, ExtB p H H' → Tabs (TTb pF) H' → FnD CF CS H' p m d3 → H d3 = none → Q .non H'
theorem ok_FI {fd fdBG fdBL : FuncData} {k : Nat} (F : FunC K "__init__" "Finder.__init__" sFI fFI fd cF) (T : T4 K mg aW) (N : NcT K CF fiFs) (NS : NcT K CS scFs) (TB : TabB base mg cF pF) (mBG : Meth K CF "_begin" fBG) (mBL : Meth K CF "_block" fBL)
    (GBG : FnOk P w K mg base CX0 3 fBG fdBG ["self", "kind", "start", "outer", "node"] (spBG CS CF)) (bBG : Binds K fdBG ["self", "kind", "start", "outer", "node"] []) (GBL : FnOk P w K mg base CX0 1 fBL fdBL ["self", "rows", "scope"] spBL) (bBL : Binds K fdBL ["self", "rows", "scope"] []) :
    FnOk P w K mg base CX0 (k + 4) fFI fd ["self", "module", "tree"] (spFI CS CF pF) := by
  refine F.ok scFI (fun vs H Q E h => ?_) (fun A outer s H vs Q E hr h => ?_)
  · obtain ⟨p, dx, r, m, rfl, _⟩ := h
    rfl
  · obtain ⟨p, dx, r, m, rfl, hp, hr0, hT, q⟩ := h
    have no := N.no
    refine ⟨_,
(pss_cons (ps_fld (pv 0) (pv 1) rfl)
 (pss_cons (ps_fld (pv 0) (pe_lst pa_nil) rfl)
 (pss_cons (ps_fld (pv 0) (pe_lst pa_nil) rfl)
 (pss_cons (ps_fld (pv 0) (pe_lst pa_nil) rfl)
 (pss_cons (ps_fld (pv 0) pe_dnewK rfl)
 (pss_cons (ps_expr (pe_meth (pv 0) N.cl mBL GBL (hr.mono (by omega)) bBL .nil pass0 (pa_cons (pv 2) (pa_cons (pe_meth (pv 0) N.cl mBG GBG (hr.mono (by omega)) bBG .nil pass0 (pa_cons pe_str (pa_cons (pe_un un_neg pe_int) (pa_cons pe_non (pa_cons pe_non pa_nil))))) pa_nil))))
 (pss_cons (ps_fld (pv 0) (SL.pe_sortLam (T := TTb pF) (pe_fld (pv 0) rfl) rfl T.sorted (by decide +kernel) TB rfl (List.mem_singleton.mpr rfl) (fun p hp _ => by rw [List.mem_singleton.mp hp] <;> rfl) (hr.mono (by omega)) (hu3 hr) ⟨rfl, rfl, rfl, by decide +kernel, rfl, by decide +kernel, by decide +kernel⟩ (by decide +kernel) (fun _ => rfl) rfl (fun _ _ _ _ _ _ => rfl) (fun _ => rfl) (by decide +kernel)) rfl)
 (pss_one (ps_fld (pv 0) (SL.pe_sortLam (T := TTb pF) (pe_fld (pv 0) rfl) rfl T.sorted (by decide +kernel) TB rfl (List.mem_singleton.mpr rfl) (fun p hp _ => by rw [List.mem_singleton.mp hp] <;> rfl) (hr.mono (by omega)) (hu3 hr) ⟨rfl, rfl, rfl, by decide +kernel, rfl, by decide +kernel, by decide +kernel⟩ (by decide +kernel) (fun _ => rfl) rfl (fun _ _ _ _ _ _ => rfl) (fun _ => rfl) (by decide +kernel)) rfl))))))))), ?_⟩
    have pk : ∀ {H1 : Hp} {o : HO} {b : Addr}, H1 p = some o → H1 b = none → p ≠ b := fun h1 h2 => ne_of_none h1 h2
    refine ⟨_, rfl, _, rfl, p, CF, dx, _, rfl, hp, N.cl, no _ (by simp), (by show 0 < 1000; decide), ?_⟩
    have t1 := tabs_put (o := .ins CF dx (putF "module" (.str m) [])) hT hp ins_tbl ins_code
    refine ⟨(by show 0 ≤ sizeLine; decide), fun lf nf => ⟨_, rfl, p, CF, dx, _, rfl, (by rw [upd_ne (pk upd_same nf)]; exact upd_same), N.cl, no _ (by simp), (by show 1 < 1000; decide), ?_⟩⟩
    have pf := (pk upd_same nf).symm
    have t2 := tabs_put (o := .ins CF dx (putF "found" (.ref lf) (putF "module" (.str m) []))) (tabs_new (o := .lst []) t1 nf) (by rw [upd_ne pf.symm]; exact upd_same) ins_tbl ins_code
    refine ⟨(by show 0 ≤ sizeLine; decide), fun ls ns => ⟨_, rfl, p, CF, dx, _, rfl, (by rw [upd_ne (pk upd_same ns)]; exact upd_same), N.cl, no _ (by simp), (by show 2 < 1000; decide), ?_⟩⟩
    have ps := (pk upd_same ns).symm
    have t3 := tabs_put (o := .ins CF dx (putF "sights" (.ref ls) (putF "found" (.ref lf) (putF "module" (.str m) [])))) (tabs_new (o := .lst []) t2 ns) (by rw [upd_ne ps.symm]; exact upd_same) ins_tbl ins_code
    refine ⟨(by show 0 ≤ sizeLine; decide), fun lb nb => ⟨_, rfl, p, CF, dx, _, rfl, (by rw [upd_ne (pk upd_same nb)]; exact upd_same), N.cl, no _ (by simp), (by show 3 < 1000; decide), ?_⟩⟩
    have pb := (pk upd_same nb).symm
    have t4 := tabs_put (o := .ins CF dx (putF "broken" (.ref lb) (putF "sights" (.ref ls) (putF "found" (.ref lf) (putF "module" (.str m) []))))) (tabs_new (o := .lst []) t3 nb) (by rw [upd_ne pb.symm]; exact upd_same) ins_tbl ins_code
    refine fun dc nc => ⟨_, rfl, p, CF, dx, _, rfl, (by rw [upd_ne (pk upd_same nc)]; exact upd_same), N.cl, no _ (by simp), (by show 4 < 1000; decide), ?_⟩
    have pc := (pk upd_same nc).symm
    have t5 := tabs_put (o := .ins CF dx (putF "calls" (.ref dc) (putF "broken" (.ref lb) (putF "sights" (.ref ls) (putF "found" (.ref lf) (putF "module" (.str m) [])))))) (tabs_new (o := .dK []) t4 nc) (by rw [upd_ne pc.symm]; exact upd_same) ins_tbl ins_code
    -- what stands where
    have k1 : KeepBut p H (L2.upd H p (.ins CF dx (putF "module" (.str m) []))) := .upd
    have wf := k1.free nf pf
    have k2 := (k1.trans (.new (o := .lst []) nf)).trans (KeepBut.upd (o := .ins CF dx (putF "found" (.ref lf) (putF "module" (.str m) []))))
    have ws := k2.free ns ps
    have k3 := (k2.trans (.new (o := .lst []) ns)).trans (KeepBut.upd (o := .ins CF dx (putF "sights" (.ref ls) (putF "found" (.ref lf) (putF "module" (.str m) [])))))
    have wb := k3.free nb pb
    have k4 := (k3.trans (.new (o := .lst []) nb)).trans (KeepBut.upd (o := .ins CF dx (putF "broken" (.ref lb) (putF "sights" (.ref ls) (putF "found" (.ref lf) (putF "module" (.str m) []))))))
    have wc := k4.free nc pc
    have k5 := (k4.trans (.new (o := .dK []) nc)).trans (KeepBut.upd (o := .ins CF dx (putF "calls" (.ref dc) (putF "broken" (.ref lb) (putF "sights" (.ref ls) (putF "found" (.ref lf) (putF "module" (.str m) [])))))))
    have af : L2.upd (L2.upd (L2.upd H p (.ins CF dx (putF "module" (.str m) []))) lf (.lst [])) p (.ins CF dx (putF "found" (.ref lf) (putF "module" (.str m) []))) lf = some (.lst []) := by rw [upd_ne pf, upd_same]
    have af3 := ((KeepBut.new (p := p) (o := .lst []) ns).trans (KeepBut.upd (o := .ins CF dx (putF "sights" (.ref ls) (putF "found" (.ref lf) (putF "module" (.str m) [])))))) lf _ pf af
    have as3 : ∀ {H0 : Hp} {o : HO}, (L2.upd (L2.upd H0 ls (.lst [])) p o) ls = some (.lst []) := fun {H0 o} => by rw [upd_ne ps, upd_same]
    have k34 := (KeepBut.new (p := p) (o := .lst []) nb).trans (KeepBut.upd (o := .ins CF dx (putF "broken" (.ref lb) (putF "sights" (.ref ls) (putF "found" (.ref lf) (putF "module" (.str m) []))))))
    have k45 := (KeepBut.new (p := p) (o := .dK []) nc).trans (KeepBut.upd (o := .ins CF dx (putF "calls" (.ref dc) (putF "broken" (.ref lb) (putF "sights" (.ref ls) (putF "found" (.ref lf) (putF "module" (.str m) [])))))))
    have af5 := k45 lf _ pf (k34 lf _ pf af3)
    have as5 := k45 ls _ ps (k34 ls _ ps as3)
    have ab5 := k45 lb _ pb (by rw [upd_ne pb, upd_same] : L2.upd (L2.upd _ lb (.lst [])) p _ lb = some (.lst []))
    have nrp : r ≠ p := fun e => by
      rw [e, hp] at hr0
      cases hr0
    have ar5 := k5 r _ nrp hr0
    have ap5 : ∀ {H0 : Hp} {o : HO}, (L2.upd H0 p o) p = some o := upd_same
    have nsf : ls ≠ lf := (ne_of_none af ns).symm
    have nbf : lb ≠ lf := (ne_of_none af3 nb).symm
    have nrf : r ≠ lf := ne_of_none hr0 wf
    refine ⟨_, rfl, p, dx, _, rfl, upd_same, rfl, _, rfl, _, rfl, p, dx, _, rfl, upd_same, rfl, _, rfl, p, dx, lf, _, m, rfl, upd_same, rfl, rfl, af5, fun H6 s d3 l2 k6 hl6 ns6 sc6 w3 => ?_⟩
    have hp6 := k6 _ _ pf.symm upd_same
    have as6 := k6 ls _ nsf as5
    have ab6 := k6 lb _ nbf ab5
    have ar6 := k6 r _ nrf ar5
    have t6 := tabs_but t5 k6 af5 lst_tbl lst_code
    have kp6 := k5.new2 k6 wf
    refine ⟨p, r, .ref s, rfl, ar6, ?_⟩
    refine ⟨_, rfl, p, CF, dx, _, _, rfl, hp6, N.cl, no _ (by simp), rfl, t6, lf, [.ref s], fun _ => -1, rfl, .inl (.inl hl6), ?key, fun H7 pq e7 t7 n7 => ?_⟩
    case key =>
      intro x hx
      obtain ⟨ex, d1, d2, l1, h1, _, _⟩ := sc6
      rw [List.mem_singleton.mp hx]
      exact ⟨s, CS, ex, _, rfl, h1, NS.cl, NS.no _ (by simp), rfl⟩
    rw [List.mergeSort_singleton]
    have hp7 := e7 _ _ hp6 ins_tbl
    have npq : pq ≠ p := (pk hp7 n7).symm
    refine ⟨_, rfl, p, CF, dx, _, rfl, (by rw [upd_ne npq.symm]; exact hp7), N.cl, no _ (by simp), (by show 5 < 1000; decide), ?_⟩
    have t8 := tabs_put (o := .ins CF dx (putF "found" (.ref pq) (putF "calls" (.ref dc) (putF "broken" (.ref lb) (putF "sights" (.ref ls) (putF "found" (.ref lf) (putF "module" (.str m) []))))))) (tabs_new (o := .lst [.ref s]) t7 n7) (by rw [upd_ne npq.symm]; exact hp7) ins_tbl ins_code
    have k78 := (KeepBut.new (p := p) (o := .lst [.ref s]) n7).trans (KeepBut.upd (o := .ins CF dx (putF "found" (.ref pq) (putF "calls" (.ref dc) (putF "broken" (.ref lb) (putF "sights" (.ref ls) (putF "found" (.ref lf) (putF "module" (.str m) []))))))))
    have as8 := k78 ls _ ps (e7 _ _ as6 lst_tbl)
    have ab8 := k78 lb _ pb (e7 _ _ ab6 lst_tbl)
    have aq8 : L2.upd (L2.upd H7 pq (.lst [.ref s])) p (.ins CF dx (putF "found" (.ref pq) (putF "calls" (.ref dc) (putF "broken" (.ref lb) (putF "sights" (.ref ls) (putF "found" (.ref lf) (putF "module" (.str m) []))))))) pq = some (.lst [.ref s]) := by rw [upd_ne npq, upd_same]
    have e78 : ExtB p H7 _ := .of k78
    refine ⟨_, rfl, p, CF, dx, _, _, rfl, upd_same, N.cl, no _ (by simp), rfl, t8, ls, [], fun _ => 0, rfl, .inl (.inl as8), (fun x hx => absurd hx List.not_mem_nil), fun H9 pr e9 t9 n9 => ?_⟩
    rw [List.mergeSort_nil]
    have hp9 := e9 _ _ upd_same ins_tbl
    have npr : pr ≠ p := (pk hp9 n9).symm
    refine ⟨_, rfl, p, CF, dx, _, rfl, (by rw [upd_ne npr.symm]; exact hp9), N.cl, no _ (by simp), (by show 5 < 1000; decide), ?_⟩
    have k910 := (KeepBut.new (p := p) (o := .lst []) n9).trans (KeepBut.upd (o := .ins CF dx (putF "sights" (.ref pr) (putF "found" (.ref pq) (putF "calls" (.ref dc) (putF "broken" (.ref lb) (putF "sights" (.ref ls) (putF "found" (.ref lf) (putF "module" (.str m) [])))))))))
    have t10 := tabs_put (o := .ins CF dx (putF "sights" (.ref pr) (putF "found" (.ref pq) (putF "calls" (.ref dc) (putF "broken" (.ref lb) (putF "sights" (.ref ls) (putF "found" (.ref lf) (putF "module" (.str m) [])))))))) (tabs_new (o := .lst []) t9 n9) (by rw [upd_ne npr.symm]; exact hp9) ins_tbl ins_code
    have n3 : d3 ≠ p := (ne_of_none upd_same w3).symm
    refine q _ d3 ((((ExtB.of kp6).trans (.ext e7)).trans e78).trans ((ExtB.ext e9).trans (.of k910))) t10 ⟨dx, pq, pr, lb, dc, s, l2, upd_same, ?_, ?_, ?_, ?_⟩ (k5.free w3 n3)
    · exact k910 pq _ npq (e9 _ _ aq8 lst_tbl)
    · rw [upd_ne npr, upd_same]
    · exact k910 lb _ pb (e9 _ _ ab8 lst_tbl)
    · exact sc6.extB ((((ExtB.ext e7).trans e78).trans ((ExtB.ext e9).trans (.of k910)))) hp6 (ne_of_none upd_same ns6).symm
end
end KB
namespace KB
open PySem PySem.Spec PyProof.Rows L2 LamX
abbrev sLi (i : Nat) : Stmt := inClass (topS 60) i
abbrev sLI : Stmt := sLi 0
abbrev sCB : Stmt := sLi 1
abbrev sFS : Stmt := sLi 2
abbrev sFR : Stmt := sLi 3
abbrev liFs : List Str := ["finders", "roots", "scopes", "brought", "_answers", "_beyond", "_rings"]
theorem relock {H : Hp} {d : Addr} {u o : HO} (h : H d = some u) : L2.upd (L2.upd H d o) d u = H := by
  funext b
  by_cases e : b = d
  · rw [e, upd_same, h]
  · rw [upd_ne e, upd_ne e]
/-- a walk over one -/
theorem for1 {J : It} {g : TG} {tb : TS} {D : Ends} {σ : L2.St} {H : Hp} (N1 : L2.St → Hp → Prop) (hgo : J.go 0 H) (h1 : ∀ σ' H', N1 σ' H' → J.stop 1 H' ∧ D.nx σ' H')
    (hy : ∀ x H', J.yld 0 H x H' → g x σ H' fun σ2 H2 => tb { D with nx := N1, ct := N1, bk := D.nx } σ2 H2) :
    ∃ W : Nat → Nat → L2.St → Hp → Prop, (∃ m, W 0 m σ H) ∧ ∀ i m σ H, W i m σ H →
      (J.stop i H ∧ D.nx σ H) ∨ (J.go i H ∧ ∃ N : L2.St → Hp → Prop, (∀ σ' H', N σ' H' → ∃ m', m' < m ∧ W (i + 1) m' σ' H') ∧ ∀ x H', J.yld i H x H' → g x σ H' fun σ2 H2 => tb { D with nx := N, ct := N, bk := D.nx } σ2 H2) :=
  ⟨fun i m σ' H' => (i = 0 ∧ m = 1 ∧ σ' = σ ∧ H' = H) ∨ (i = 1 ∧ m = 0 ∧ N1 σ' H'), ⟨1, .inl ⟨rfl, rfl, rfl, rfl⟩⟩, fun i m σ' H' h => by
    rcases h with ⟨rfl, rfl, rfl, rfl⟩ | ⟨rfl, rfl, h⟩
    · exact .inr ⟨hgo, N1, fun σ2 H2 z => ⟨0, by decide, .inr ⟨rfl, rfl, z⟩⟩, hy⟩
    · exact .inl (h1 _ _ h)⟩
/-- a walk over two -/
theorem for2 {J : It} {g : TG} {tb : TS} {D : Ends} {σ : L2.St} {H : Hp} (N1 N2 : L2.St → Hp → Prop) (hgo : J.go 0 H)
    (h1 : ∀ σ' H', N1 σ' H' → J.go 1 H' ∧ ∀ x H'', J.yld 1 H' x H'' → g x σ' H'' fun σ2 H2 => tb { D with nx := N2, ct := N2, bk := D.nx } σ2 H2)
    (h2 : ∀ σ' H', N2 σ' H' → J.stop 2 H' ∧ D.nx σ' H')
    (hy : ∀ x H', J.yld 0 H x H' → g x σ H' fun σ2 H2 => tb { D with nx := N1, ct := N1, bk := D.nx } σ2 H2) :
    ∃ W : Nat → Nat → L2.St → Hp → Prop, (∃ m, W 0 m σ H) ∧ ∀ i m σ H, W i m σ H →
      (J.stop i H ∧ D.nx σ H) ∨ (J.go i H ∧ ∃ N : L2.St → Hp → Prop, (∀ σ' H', N σ' H' → ∃ m', m' < m ∧ W (i + 1) m' σ' H') ∧ ∀ x H', J.yld i H x H' → g x σ H' fun σ2 H2 => tb { D with nx := N, ct := N, bk := D.nx } σ2 H2) :=
  ⟨fun i m σ' H' => (i = 0 ∧ m = 2 ∧ σ' = σ ∧ H' = H) ∨ (i = 1 ∧ m = 1 ∧ N1 σ' H') ∨ (i = 2 ∧ m = 0 ∧ N2 σ' H'), ⟨2, .inl ⟨rfl, rfl, rfl, rfl⟩⟩, fun i m σ' H' h => by
    rcases h with ⟨rfl, rfl, rfl, rfl⟩ | ⟨rfl, rfl, h⟩ | ⟨rfl, rfl, h⟩
    · exact .inr ⟨hgo, N1, fun σ2 H2 z => ⟨1, by decide, .inr (.inl ⟨rfl, rfl, z⟩)⟩, hy⟩
    · obtain ⟨a, b⟩ := h1 _ _ h
      exact .inr ⟨a, N2, fun σ2 H2 z => ⟨0, by decide, .inr (.inr ⟨rfl, rfl, z⟩)⟩, b⟩
    · exact .inl (h2 _ _ h)⟩
/-- one turn of a dict comprehension -/
abbrev dcT (g : TG) (tt : TT) (tk tv : TE) (vs : List Nat) (σ : L2.St) (D : Addr) (Nx : Hp → Prop) (x : V) (H' : Hp) : Prop :=
  g x (wipe σ vs) H' fun σ2 H2 => wipe σ2 vs = wipe σ vs ∧ tt σ2 H2 fun b H3 => if b = true then tk σ2 H3 fun y H4 => tv σ2 H4 fun z H5 => ∃ kvs k, y = kV k ∧ H5 D = some (.dK kvs) ∧ kvs.length < sizeLine ∧ Nx (L2.upd H5 D (.dK (putK kvs k z))) else Nx H3
theorem dc0 {J : It} {g : TG} {tt : TT} {tk tv : TE} {vs : List Nat} {σ : L2.St} {H1 : Hp} {D : Addr} {Qd : Hp → Prop} (hs : J.stop 0 (L2.upd H1 D (.dK []))) (hq : Qd (L2.upd H1 D (.dK []))) :
    ∃ W : Nat → Nat → Hp → Prop, (∃ m, W 0 m (L2.upd H1 D (.dK []))) ∧ ∀ i m H, W i m H → (J.stop i H ∧ Qd H) ∨ (J.go i H ∧ ∃ Nx : Hp → Prop, (∀ H', Nx H' → ∃ m', m' < m ∧ W (i + 1) m' H') ∧ ∀ x H', J.yld i H x H' → dcT g tt tk tv vs σ D Nx x H') :=
  ⟨fun i _ H' => i = 0 ∧ H' = L2.upd H1 D (.dK []), ⟨0, rfl, rfl⟩, fun i m H' h => by
    obtain ⟨rfl, rfl⟩ := h
    exact .inl ⟨hs, hq⟩⟩
theorem dc2 {J : It} {g : TG} {tt : TT} {tk tv : TE} {vs : List Nat} {σ : L2.St} {H1 : Hp} {D : Addr} {Qd : Hp → Prop} (N1 N2 : Hp → Prop) (hgo : J.go 0 (L2.upd H1 D (.dK [])))
    (h1 : ∀ H', N1 H' → J.go 1 H' ∧ ∀ x H'', J.yld 1 H' x H'' → dcT g tt tk tv vs σ D N2 x H'') (h2 : ∀ H', N2 H' → J.stop 2 H' ∧ Qd H') (hy : ∀ x H', J.yld 0 (L2.upd H1 D (.dK [])) x H' → dcT g tt tk tv vs σ D N1 x H') :
    ∃ W : Nat → Nat → Hp → Prop, (∃ m, W 0 m (L2.upd H1 D (.dK []))) ∧ ∀ i m H, W i m H → (J.stop i H ∧ Qd H) ∨ (J.go i H ∧ ∃ Nx : Hp → Prop, (∀ H', Nx H' → ∃ m', m' < m ∧ W (i + 1) m' H') ∧ ∀ x H', J.yld i H x H' → dcT g tt tk tv vs σ D Nx x H') :=
  ⟨fun i m H' => (i = 0 ∧ m = 2 ∧ H' = L2.upd H1 D (.dK [])) ∨ (i = 1 ∧ m = 1 ∧ N1 H') ∨ (i = 2 ∧ m = 0 ∧ N2 H'), ⟨2, .inl ⟨rfl, rfl, rfl⟩⟩, fun i m H' h => by
    rcases h with ⟨rfl, rfl, rfl⟩ | ⟨rfl, rfl, h⟩ | ⟨rfl, rfl, h⟩
    · exact .inr ⟨hgo, N1, fun H2 z => ⟨1, by decide, .inr (.inl ⟨rfl, rfl, z⟩)⟩, hy⟩
    · obtain ⟨a, b⟩ := h1 _ h
      exact .inr ⟨a, N2, fun H2 z => ⟨0, by decide, .inr (.inr ⟨rfl, rfl, z⟩)⟩, b⟩
    · exact .inl (h2 _ h)⟩
/-- two entries by the names m and n -/
abbrev two (a b : V) : List (Key × V) := [(.inr "m", a), (.inr "n", b)]
theorem ScW.lockN {C d : Addr} {H : Hp} {s : Addr} {m : Str} {d3 l2 : Addr} {o : HO} {xs : List (Key × V)} (a : ScW C H s m d3 l2) (hd : H d = some (.dK xs)) (n : d3 ≠ d) : ScW C (L2.upd H d o) s m d3 l2 := by
  obtain ⟨dx, d1, d2, l1, h1, h2, h3⟩ := a
  refine ⟨dx, d1, d2, l1, ?_, ?_, ?_⟩
  · rw [upd_ne fun e => by
      rw [e, hd] at h1
      cases h1]
    exact h1
  · rw [upd_ne n]
    exact h2
  · rw [upd_ne fun e => by
      rw [e, hd] at h3
      cases h3]
    exact h3
theorem FnD.lockN {CF CS d : Addr} {H : Hp} {f : Addr} {m : Str} {d3 : Addr} {o : HO} {xs : List (Key × V)} (a : FnD CF CS H f m d3) (hd : H d = some (.dK xs)) (n : d3 ≠ d) : FnD CF CS (L2.upd H d o) f m d3 := by
  obtain ⟨dx, lf, ls, lb, dc, s, l2, h1, h2, h3, h4, h5⟩ := a
  refine ⟨dx, lf, ls, lb, dc, s, l2, ?_, ?_, ?_, ?_, h5.lockN hd n⟩
  · rw [upd_ne fun e => by
      rw [e, hd] at h1
      cases h1]
    exact h1
  · rw [upd_ne fun e => by
      rw [e, hd] at h2
      cases h2]
    exact h2
  · rw [upd_ne fun e => by
      rw [e, hd] at h3
      cases h3]
    exact h3
  · rw [upd_ne fun e => by
      rw [e, hd] at h4
      cases h4]
    exact h4
theorem ScW.n3 {C d : Addr} {H : Hp} {s : Addr} {m : Str} {d3 l2 : Addr} {x : Key × V} {xs : List (Key × V)} (a : ScW C H s m d3 l2) (hd : H d = some (.dK (x :: xs))) : d3 ≠ d := fun e => by
  obtain ⟨dx, d1, d2, l1, h1, h2, h3⟩ := a
  rw [e, hd] at h2
  cases h2
theorem ScAt.lock {C d : Addr} {H : Hp} {s : Addr} {m : Str} {o : HO} {x : Key × V} {xs : List (Key × V)} (a : ScAt C H s m) (hd : H d = some (.dK (x :: xs))) : ScAt C (L2.upd H d o) s m :=
  let ⟨d3, l2, h⟩ := a; ⟨d3, l2, h.lockN hd (h.n3 hd)⟩
theorem FnD.lock {CF CS d : Addr} {H : Hp} {f : Addr} {m : Str} {d3 : Addr} {o : HO} {x : Key × V} {xs : List (Key × V)} (a : FnD CF CS H f m d3) (hd : H d = some (.dK (x :: xs))) : FnD CF CS (L2.upd H d o) f m d3 :=
  a.lockN hd (by obtain ⟨dx, lf, ls, lb, dc, s, l2, h1, h2, h3, h4, h5⟩ := a; exact h5.n3 hd)
theorem FnAt.lock {CF CS d : Addr} {H : Hp} {f : Addr} {m : Str} {o : HO} {x : Key × V} {xs : List (Key × V)} (a : FnAt CF CS H f m) (hd : H d = some (.dK (x :: xs))) : FnAt CF CS (L2.upd H d o) f m :=
  let ⟨d3, h⟩ := a; ⟨d3, h.lock hd⟩
section
variable {P : Program} {w : World} {K : PySem.W.Frag} {mg : Str → Option Value} {base : Heap} {aW CS CF CL fFI fLI fCB fFS fFR cF pF : Addr}
theorem scLI : FnScope ["self", "trees", "finder", "scope", "module"] ["self", "trees"] (defScope sLI) := ⟨rfl, rfl, rfl, by decide +kernel, rfl, by decide +kernel, by decide +kernel⟩
theorem scCB : FnScope ["self", "finder", "sight", "spot"] ["self", "finder"] (defScope sCB) := ⟨rfl, rfl, rfl, by decide +kernel, rfl, by decide +kernel, by decide +kernel⟩
theorem scFS : FnScope ["self", "root", "star", "source"] ["self"] (defScope sFS) := ⟨rfl, rfl, rfl, by decide +kernel, rfl, by decide +kernel, by decide +kernel⟩
theorem scFR : FnScope ["self", "found", "root", "name", "at", "path", "one"] ["self"] (defScope sFR) := ⟨rfl, rfl, rfl, by decide +kernel, rfl, by decide +kernel, by decide +kernel⟩
def spCB (CF CS : Addr) : Sp := fun vs H Q _ => ∃ (p f : Addr) (m : Str), vs = [.ref p, .ref f] ∧ FnAt CF CS H f m ∧ Q .non H
theorem ok_CB {fd : FuncData} {k : Nat} (F : Fun K "_collect_brought" "Links._collect_brought" sCB fCB fd) (NF : NcT K CF fiFs) : FnOk P w K mg base CX0 (k + 1) fCB fd ["self", "finder"] (spCB CF CS) := by
  refine F.ok scCB (fun vs H Q E h => ?_) (fun cdv A outer s H vs Q E hr h => ?_)
  · obtain ⟨p, f, m, rfl, _⟩ := h
    rfl
  · obtain ⟨p, f, m, rfl, ⟨d3, dx, lf, ls, lb, dc, s, l2, h1, h2, h3, h4, h5⟩, q⟩ := h
    refine ⟨_,
(pss_one (ps_for PassesOwn.never rfl (pi_list (pe_fld (pv 1) rfl)) (pg_name (i := 2) scCB.nd rfl (.inl rfl))
 (pss_one ps_never))), ?_⟩
    exact ⟨_, rfl, f, CF, dx, _, _, rfl, h1, NF.cl, NF.no _ (by simp), rfl, ls, rfl, ⟨_, .inl (.inl h3)⟩, for0 (stopL (.inl (.inl h3))) q⟩
/-- the two modules' scopes stand in a dict -/
structure RtAt (CS : Addr) (H : Hp) (dr s1 s2 : Addr) : Prop where
  at_ : H dr = some (.dK (two (.ref s1) (.ref s2)))
  a1 : ScAt CS H s1 "m"
  a2 : ScAt CS H s2 "n"
theorem vals_go {d : Addr} {o : Obj} {kvs : List (Key × V)} {i : Nat} {H : Hp} (h : H d = some (.frz o (.dK kvs))) (hi : i < kvs.length) : (Itd d o kvs).go i H := ⟨h, hi⟩
theorem vals_stop {d : Addr} {o : Obj} {kvs : List (Key × V)} {i : Nat} {H : Hp} (h : H d = some (.frz o (.dK kvs))) (hi : kvs.length ≤ i) : (Itd d o kvs).stop i H := ⟨h, hi⟩
def spFS (CS CL : Addr) : Sp := fun vs H Q _ => ∃ (p dx dr s1 s2 : Addr) (fs : List (Str × V)), vs = [.ref p] ∧ H p = some (.ins CL dx fs) ∧ fs.lookup ("roots" : Str) = some (.ref dr) ∧ RtAt CS H dr s1 s2 ∧ Q .non H
theorem ok_FS {fd : FuncData} {k : Nat} (F : Fun K "_fill_stars" "Links._fill_stars" sFS fFS fd) (N : NcT K CL liFs) (NS : NcT K CS scFs) : FnOk P w K mg base CX0 (k + 1) fFS fd ["self"] (spFS CS CL) := by
  refine F.ok scFS (fun vs H Q E h => ?_) (fun cdv A outer s H vs Q E hr h => ?_)
  · obtain ⟨p, dx, dr, s1, s2, fs, rfl, _⟩ := h
    rfl
  · obtain ⟨p, dx, dr, s1, s2, fs, rfl, hp, hf, R, q⟩ := h
    refine ⟨_,
(pss_one (ps_lock (ps_for PassesOwn.never rfl (pi_values (pe_fld (pv 0) rfl)) (pg_name (i := 1) scFS.nd rfl (.inl rfl))
 (pss_one (ps_for PassesOwn.never rfl (pi_list (pe_fld (pv 1) rfl)) (pg_name (i := 2) scFS.nd rfl (.inl rfl))
 (pss_one ps_never)))))), ?_⟩
    refine ⟨dr, _, R.at_, trivial, fun od => ?_⟩
    have pn : p ≠ dr := fun e => by
      have z := R.at_
      rw [← e, hp] at z
      cases z
    have b1 := R.a1.lock (o := .frz od (.dK (two (.ref s1) (.ref s2)))) R.at_
    have b2 := R.a2.lock (o := .frz od (.dK (two (.ref s1) (.ref s2)))) R.at_
    refine ⟨_, rfl, p, CL, dx, _, _, rfl, (by rw [upd_ne pn]; exact hp), N.cl, N.no _ (by simp), hf, dr, od, _, rfl, upd_same, ?_⟩
    refine for2 (fun σ' H' => (∃ y1 y2 y3, σ' = [some (.ref p), y1, y2, y3]) ∧ H' = L2.upd H dr (.frz od (.dK (two (.ref s1) (.ref s2))))) (fun σ' H' => (∃ y1 y2 y3, σ' = [some (.ref p), y1, y2, y3]) ∧ H' = L2.upd H dr (.frz od (.dK (two (.ref s1) (.ref s2))))) (vals_go upd_same (by show 0 < 2; decide)) ?_ ?_ ?_
    · rintro σ' H' ⟨⟨y1, y2, y3, rfl⟩, rfl⟩
      refine ⟨vals_go upd_same (by show 1 < 2; decide), fun x H'' y => ?_⟩
      obtain ⟨e, kx, ex⟩ := y
      subst e
      cases ex
      obtain ⟨d3, l2, ex, d1, d2, l1, h1, h2, h3⟩ := b2
      exact ⟨_, rfl, s2, CS, ex, _, _, rfl, h1, NS.cl, NS.no _ (by simp), rfl, l2, rfl, ⟨_, .inl (.inl h3)⟩, for0 (stopL (.inl (.inl h3))) ⟨⟨_, _, _, rfl⟩, rfl⟩⟩
    · rintro σ' H' ⟨_, rfl⟩
      refine ⟨vals_stop upd_same (by show 2 ≤ 2; decide), upd_same, ?_⟩
      rw [relock R.at_]
      exact q
    · rintro x H' ⟨e, kx, ex⟩
      subst e
      cases ex
      obtain ⟨d3, l2, ex, d1, d2, l1, h1, h2, h3⟩ := b1
      exact ⟨_, rfl, s1, CS, ex, _, _, rfl, h1, NS.cl, NS.no _ (by simp), rfl, l2, rfl, ⟨_, .inl (.inl h3)⟩, for0 (stopL (.inl (.inl h3))) ⟨⟨_, _, _, rfl⟩, rfl⟩⟩
def spFR (CS CL : Addr) : Sp := fun vs H Q _ => ∃ (p dx dr s1 s2 : Addr) (fs : List (Str × V)), vs = [.ref p] ∧ H p = some (.ins CL dx fs) ∧ fs.lookup ("roots" : Str) = some (.ref dr) ∧ RtAt CS H dr s1 s2 ∧ ∀ g, H g = none → Q (.ref g) (L2.upd H g (.dK []))
theorem ok_FR {fd : FuncData} {k : Nat} (F : Fun K "_find_rings" "Links._find_rings" sFR fFR fd) (N : NcT K CL liFs) (NS : NcT K CS scFs) : FnOk P w K mg base CX0 (k + 1) fFR fd ["self"] (spFR CS CL) := by
  refine F.ok scFR (fun vs H Q E h => ?_) (fun cdv A outer s H vs Q E hr h => ?_)
  · obtain ⟨p, dx, dr, s1, s2, fs, rfl, _⟩ := h
    rfl
  · obtain ⟨p, dx, dr, s1, s2, fs, rfl, hp, hf, R, q⟩ := h
    refine ⟨_,
(pss_cons (ps_set (i := 1) scFR.nd rfl (.inl rfl) pe_dnewK)
 (pss_cons (ps_lock (ps_for PassesOwn.never rfl (pi_values (pe_fld (pv 0) rfl)) (pg_name (i := 2) scFR.nd rfl (.inl rfl))
 (pss_one (ps_lock (ps_for PassesOwn.never rfl (pi_keys (pe_fld (pv 2) rfl)) (pg_name (i := 3) scFR.nd rfl (.inl rfl))
 (pss_cons ps_never
 (pss_cons ps_never
 (pss_cons ps_never
 (pss_one ps_never)))))))))
 (pss_one (ps_ret (pv 1))))), ?_⟩
    refine fun g ng => ?_
    have sg := same_new (o := .dK []) ng
    have q := q g ng
    have hp := sg _ _ hp
    have Ra := sg _ _ R.at_
    have c1 := R.a1.ext (ExtN.same sg)
    have c2 := R.a2.ext (ExtN.same sg)
    obtain ⟨H1, eH⟩ : ∃ H1, H1 = L2.upd H g (.dK []) := ⟨_, rfl⟩
    rw [← eH] at hp Ra c1 c2 q ⊢
    refine ⟨dr, _, Ra, trivial, fun od => ?_⟩
    have pn : p ≠ dr := fun e => by
      rw [← e, hp] at Ra
      cases Ra
    have b1 := c1.lock (o := .frz od (.dK (two (.ref s1) (.ref s2)))) Ra
    have b2 := c2.lock (o := .frz od (.dK (two (.ref s1) (.ref s2)))) Ra
    refine ⟨_, rfl, p, CL, dx, _, _, rfl, (by rw [upd_ne pn]; exact hp), N.cl, N.no _ (by simp), hf, dr, od, _, rfl, upd_same, ?_⟩
    refine for2 (fun σ' H' => (∃ y2 y3 y4 y5 y6, σ' = [some (.ref p), some (.ref g), y2, y3, y4, y5, y6]) ∧ H' = L2.upd H1 dr (.frz od (.dK (two (.ref s1) (.ref s2))))) (fun σ' H' => (∃ y2 y3 y4 y5 y6, σ' = [some (.ref p), some (.ref g), y2, y3, y4, y5, y6]) ∧ H' = L2.upd H1 dr (.frz od (.dK (two (.ref s1) (.ref s2))))) (vals_go upd_same (by show 0 < 2; decide)) ?_ ?_ ?_
    · rintro σ' H' ⟨⟨y2, y3, y4, y5, y6, rfl⟩, rfl⟩
      refine ⟨vals_go upd_same (by show 1 < 2; decide), fun x H'' y => ?_⟩
      obtain ⟨e, kx, ex⟩ := y
      subst e
      cases ex
      obtain ⟨d3, l2, ex, d1, d2, l1, h1, h2, h3⟩ := b2
      have n13 : s2 ≠ d3 := ne_of h1 h2 (by intro z; cases z)
      refine ⟨d3, _, h2, trivial, fun od2 => ⟨_, rfl, s2, CS, ex, _, _, rfl, (by rw [upd_ne n13]; exact h1), NS.cl, NS.no _ (by simp), rfl, d3, od2, rfl, .inl ⟨_, upd_same, for0 ⟨upd_same, Nat.le_refl _⟩ ⟨upd_same, ⟨_, _, _, _, _, rfl⟩, relock h2⟩⟩⟩⟩
    · rintro σ' H' ⟨⟨y2, y3, y4, y5, y6, rfl⟩, rfl⟩
      refine ⟨vals_stop upd_same (by show 2 ≤ 2; decide), upd_same, _, rfl, ?_⟩
      rw [relock Ra]
      exact q
    · rintro x H' ⟨e, kx, ex⟩
      subst e
      cases ex
      obtain ⟨d3, l2, ex, d1, d2, l1, h1, h2, h3⟩ := b1
      have n13 : s1 ≠ d3 := ne_of h1 h2 (by intro z; cases z)
      refine ⟨d3, _, h2, trivial, fun od2 => ⟨_, rfl, s1, CS, ex, _, _, rfl, (by rw [upd_ne n13]; exact h1), NS.cl, NS.no _ (by simp), rfl, d3, od2, rfl, .inl ⟨_, upd_same, for0 ⟨upd_same, Nat.le_refl _⟩ ⟨upd_same, ⟨_, _, _, _, _, rfl⟩, relock h2⟩⟩⟩⟩
end
end KB
namespace KB
open PySem PySem.Spec PyProof.Rows L2 LamX
theorem upd2 {H : Hp} {a : Addr} {o u : HO} : L2.upd (L2.upd H a o) a u = L2.upd H a u := by
  funext b
  by_cases e : b = a
  · rw [e, upd_same, upd_same]
  · rw [upd_ne e, upd_ne e, upd_ne e]
theorem made_ext {H H2 : Hp} {x dx : Addr} {o : HO} (nx : H x = none) (nd : H dx = none) (k : ExtB x (L2.upd (L2.upd H dx (.own x)) x o) H2) : ExtN H H2 := fun b u h t => by
  have n1 := ne_of_none h nx
  have n2 := ne_of_none h nd
  refine k b u n1 ?_ t
  rw [upd_ne n1, upd_ne n2]
  exact h
theorem ExtN.to {p : Addr} {H H' : Hp} (k : ExtN H H') : ExtB p H H' := .ext k
/-- an object that is no part of what Finder made -/
structure Oth (u : HO) : Prop where
  i : ∀ C dx v fs, u ≠ .ins C dx (("module", v) :: fs)
  l : ∀ xs, u ≠ .lst xs
  d : u ≠ .dK []
theorem Oth.ins {C dx : Addr} {g : Str} {v : V} {fs : List (Str × V)} (h : g ≠ "module") : Oth (.ins C dx ((g, v) :: fs)) := ⟨fun _ _ _ _ z => by
  injection z with _ _ z
  injection z with z _
  injection z with z _
  exact h z, (fun _ z => by cases z), (fun z => by cases z)⟩
theorem Oth.ins0 {C dx : Addr} : Oth (.ins C dx []) := ⟨(fun _ _ _ _ z => by cases z), (fun _ z => by cases z), (fun z => by cases z)⟩
theorem Oth.frz {o : Obj} {u : HO} : Oth (.frz o u) := ⟨(fun _ _ _ _ z => by cases z), (fun _ z => by cases z), (fun z => by cases z)⟩
theorem Oth.dk {x : Key × V} {xs : List (Key × V)} : Oth (.dK (x :: xs)) := ⟨(fun _ _ _ _ z => by cases z), (fun _ z => by cases z), (fun z => by cases z)⟩
theorem Oth.dt {xs : List (List Key × V)} : Oth (.dT xs) := ⟨(fun _ _ _ _ z => by cases z), (fun _ z => by cases z), (fun z => by cases z)⟩
theorem Oth.tup {xs : List V} : Oth (.tup xs) := ⟨(fun _ _ _ _ z => by cases z), (fun _ z => by cases z), (fun z => by cases z)⟩
theorem ScW.but {C d : Addr} {H H' : Hp} {s : Addr} {m : Str} {d3 l2 : Addr} {u : HO} (a : ScW C H s m d3 l2) (k : ExtB d H H') (hd : H d = some u) (o : Oth u) : ScW C H' s m d3 l2 := by
  obtain ⟨dx, d1, d2, l1, h1, h2, h3⟩ := a
  exact ⟨dx, d1, d2, l1, k _ _ (ne_of h1 hd fun z => o.i _ _ _ _ z.symm) h1 ins_tbl, k _ _ (ne_of h2 hd fun z => o.d z.symm) h2 dk_tbl, k _ _ (ne_of h3 hd fun z => o.l _ z.symm) h3 lst_tbl⟩
theorem ScAt.but {C d : Addr} {H H' : Hp} {s : Addr} {m : Str} {u : HO} (a : ScAt C H s m) (k : ExtB d H H') (hd : H d = some u) (o : Oth u) : ScAt C H' s m := let ⟨d3, l2, h⟩ := a; ⟨d3, l2, h.but k hd o⟩
theorem FnD.but {CF CS d : Addr} {H H' : Hp} {f : Addr} {m : Str} {d3 : Addr} {u : HO} (a : FnD CF CS H f m d3) (k : ExtB d H H') (hd : H d = some u) (o : Oth u) : FnD CF CS H' f m d3 := by
  obtain ⟨dx, lf, ls, lb, dc, s, l2, h1, h2, h3, h4, h5⟩ := a
  exact ⟨dx, lf, ls, lb, dc, s, l2, k _ _ (ne_of h1 hd fun z => o.i _ _ _ _ z.symm) h1 ins_tbl, k _ _ (ne_of h2 hd fun z => o.l _ z.symm) h2 lst_tbl, k _ _ (ne_of h3 hd fun z => o.l _ z.symm) h3 lst_tbl, k _ _ (ne_of h4 hd fun z => o.l _ z.symm) h4 lst_tbl, h5.but k hd o⟩
theorem FnAt.but {CF CS d : Addr} {H H' : Hp} {f : Addr} {m : Str} {u : HO} (a : FnAt CF CS H f m) (k : ExtB d H H') (hd : H d = some u) (o : Oth u) : FnAt CF CS H' f m := let ⟨d3, h⟩ := a; ⟨d3, h.but k hd o⟩
theorem ExtB.upd {p : Addr} {H : Hp} {o : HO} : ExtB p H (L2.upd H p o) := .of .upd
theorem FnAt.put {CF CS d : Addr} {H : Hp} {f : Addr} {m : Str} {u v : HO} (a : FnAt CF CS H f m) (hd : H d = some u) (o : Oth u) : FnAt CF CS (L2.upd H d v) f m := a.but .upd hd o
theorem ScAt.put {C d : Addr} {H : Hp} {s : Addr} {m : Str} {u v : HO} (a : ScAt C H s m) (hd : H d = some u) (o : Oth u) : ScAt C (L2.upd H d v) s m := a.but .upd hd o
theorem FnAt.new {CF CS d : Addr} {H : Hp} {f : Addr} {m : Str} {v : HO} (a : FnAt CF CS H f m) (hd : H d = none) : FnAt CF CS (L2.upd H d v) f m := a.ext (KB.ExtN.same (same_new hd))
theorem ScAt.new {C d : Addr} {H : Hp} {s : Addr} {m : Str} {v : HO} (a : ScAt C H s m) (hd : H d = none) : ScAt C (L2.upd H d v) s m := a.ext (KB.ExtN.same (same_new hd))
theorem tabs_same {T : List (Addr × Str)} {H H' : Hp} (t : Tabs T H) (s : Same H H') : Tabs T H' := t.ext s
theorem tabs_dk {T : List (Addr × Str)} {H : Hp} {d : Addr} {u o : HO} (t : Tabs T H) (hd : H d = some u) (n : ∀ ps, u ≠ .tbl ps) (n2 : ∀ q, u ≠ CodeO d q) : Tabs T (L2.upd H d o) := tabs_put t hd n n2
theorem dk_code {xs : List (Key × V)} {p : Addr} : ∀ q, HO.dK xs ≠ CodeO p q := fun _ z => by
  unfold CodeO at z
  cases z
theorem dt_code {xs : List (List Key × V)} {p : Addr} : ∀ q, HO.dT xs ≠ CodeO p q := fun _ z => by
  unfold CodeO at z
  cases z
theorem frz_code {o : Obj} {u : HO} {p : Addr} : ∀ q, HO.frz o u ≠ CodeO p q := fun _ z => by
  unfold CodeO at z
  cases z
theorem frz_tbl {o : Obj} {u : HO} : ∀ ps, HO.frz o u ≠ .tbl ps := fun _ z => by cases z
theorem put_one (a b : V) : putK [((.inr "m" : Key), a)] (.inr "n") b = two a b := by kernel_rfl
theorem put_nil {κ : Type} [DecidableEq κ] (k : κ) (a : V) : putK ([] : List (κ × V)) k a = [(k, a)] := rfl
abbrev kM : List Key := [.inr "m", .inl (-1)]
abbrev kN : List Key := [.inr "n", .inl (-1)]
theorem put_oneT (a b : V) : putK [(kM, a)] kN b = [(kM, a), (kN, b)] := by kernel_rfl
theorem get_m (a b : V) : valV (two a b) (.inr "m") = some a := by
  unfold valV
  rfl
theorem get_n (a b : V) : valV (two a b) (.inr "n") = some b := by kernel_rfl
section
variable {P : Program} {w : World} {K : PySem.W.Frag} {mg : Str → Option Value} {base : Heap} {aW CS CF CL fFI fLI fCB fFS fFR cF pF : Addr}
/-- what Links is, of two modules without statements -/
def LkAt (CF CS CL : Addr) (H : Hp) (p : Addr) : Prop := ∃ dx df dr ds db da de dg f1 f2 s1 s2, H p = some (.ins CL dx [("finders", .ref df), ("roots", .ref dr), ("scopes", .ref ds), ("brought", .ref db), ("_answers", .ref da), ("_beyond", .ref de), ("_rings", .ref dg)]) ∧
  H df = some (.dK (two (.ref f1) (.ref f2))) ∧ FnAt CF CS H f1 "m" ∧ FnAt CF CS H f2 "n" ∧ H ds = some (.dT [(kM, .ref s1), (kN, .ref s2)]) ∧ ScAt CS H s1 "m" ∧ ScAt CS H s2 "n" ∧ H db = some (.dK [])
def spLI (CF CS CL pF : Addr) : Sp := fun vs H Q _ => ∃ (p dx d r1 r2 : Addr), vs = [.ref p, .ref d] ∧ H p = some (.ins CL dx []) ∧ H d = some (.dK (two (.ref r1) (.ref r2))) ∧ H r1 = some (.lst []) ∧ H r2 = some (.lst []) ∧ Tabs (TTb pF) H ∧
  ∀ H', ExtB p H H' → Tabs (TTb pF) H' → LkAt CF CS CL H' p → Q .non H'
theorem ok_LI {fd fdFI fdCB fdFS fdFR : FuncData} {k : Nat} (F : Fun K "__init__" "Links.__init__" sLI fLI fd) (CLi : NcT K CL liFs) (CFi : C4 K mg "Finder" CF fFI fiFs) (NS : NcT K CS scFs) (mCB : Meth K CL "_collect_brought" fCB) (mFS : Meth K CL "_fill_stars" fFS) (mFR : Meth K CL "_find_rings" fFR)
    (GFI : FnOk P w K mg base CX0 4 fFI fdFI ["self", "module", "tree"] (spFI CS CF pF)) (bFI : Binds K fdFI ["self", "module", "tree"] []) (GCB : FnOk P w K mg base CX0 1 fCB fdCB ["self", "finder"] (spCB CF CS)) (bCB : Binds K fdCB ["self", "finder"] [])
    (GFS : FnOk P w K mg base CX0 1 fFS fdFS ["self"] (spFS CS CL)) (bFS : Binds K fdFS ["self"] []) (GFR : FnOk P w K mg base CX0 1 fFR fdFR ["self"] (spFR CS CL)) (bFR : Binds K fdFR ["self"] []) :
    FnOk P w K mg base CX0 (k + 6) fLI fd ["self", "trees"] (spLI CF CS CL pF) := by
  refine F.ok scLI (fun vs H Q E h => ?_) (fun cdv A outer s H vs Q E hr h => ?_)
  · obtain ⟨p, dx, d, r1, r2, rfl, _⟩ := h
    rfl
  · obtain ⟨p, dx, d, r1, r2, rfl, hp, hd, hr1, hr2, hT, q⟩ := h
    have no := CLi.no
    have NF := CFi.N
    refine ⟨_,
(pss_cons (ps_fld (pv 0) (pe_lock (pe_dc (own := [("module", 4)]) rfl scLI.nd (pi_keys (pv 1)) (blkOk_by (own := [("module", 4)]) (N := ["self", "trees", "finder", "scope", "module"]) (sc := defScope sLI) (by decide +kernel)) (fun _ _ _ _ _ => pg_name (i := 4) scLI.nd rfl (Or.inl rfl)) (fun _ _ _ _ _ => pts_nil) (fun _ _ _ _ _ => pv 4) (fun _ _ _ _ _ => (pe_make CFi.M GFI (hr.mono (by omega)) (by rfl) CFi.g bFI .nil pass0 (pa_cons (pv 4) (pa_cons (pe_dget (hu_of hr) (pv 1) (pv 4) (fun _ _ => rfl)) pa_nil)))))) rfl)
 (pss_cons (ps_fld (pv 0) (pe_lock (pe_dc (tv := (tOp (rIxL K) (tFld K (tDGet (tFld K (tVar 0) "finders") (tVar 4)) "found") (tC (.int 0)))) (own := [("module", 4)]) rfl scLI.nd (pi_keys (pv 1)) (blkOk_by (own := [("module", 4)]) (N := ["self", "trees", "finder", "scope", "module"]) (sc := defScope sLI) (by decide +kernel)) (fun _ _ _ _ _ => pg_name (i := 4) scLI.nd rfl (Or.inl rfl)) (fun _ _ _ _ _ => pts_nil) (fun _ _ _ _ _ => pv 4) (fun _ _ _ _ _ => pe_ix ix_list (pe_fld (pe_dget (hu_of hr) (pe_fld (pv 0) (by rfl)) (pv 4) (fun _ _ => rfl)) (by rfl)) pe_int (fun _ _ => rfl)))) rfl)
 (pss_cons (ps_fld (pv 0) pe_dnewT rfl)
 (pss_cons (ps_fld (pv 0) pe_dnewK rfl)
 (pss_cons (ps_fld (pv 0) pe_dnewK rfl)
 (pss_cons (ps_fld (pv 0) pe_dnewK rfl)
 (pss_cons (ps_lock (ps_for PassesOwn.never rfl (pi_values (pe_fld (pv 0) rfl)) (pg_name (i := 2) scLI.nd rfl (.inl rfl))
 (pss_cons (ps_for PassesOwn.never rfl (pi_list (pe_fld (pv 2) rfl)) (pg_name (i := 3) scLI.nd rfl (.inl rfl))
 (pss_one (ps_dput (hu_of hr) (pe_fld (pv 0) rfl) (pe_tup (pa_cons (pe_fld (pv 3) rfl) (pa_cons (pe_fld (pv 3) rfl) pa_nil))) (pv 3) rfl)))
 (pss_one (ps_expr (pe_meth (pv 0) CLi.cl mCB GCB (hr.mono (by omega)) bCB .nil pass0 (pa_cons (pv 2) pa_nil)))))))
 (pss_cons (ps_expr (pe_meth0 (pv 0) CLi.cl mFS GFS (hr.mono (by omega)) bFS .nil pass0))
 (pss_one (ps_fld (pv 0) (pe_meth0 (pv 0) CLi.cl mFR GFR (hr.mono (by omega)) bFR .nil pass0) rfl)))))))))), ?_⟩
    have npd : p ≠ d := ne_of hp hd (by intro z; cases z)
    have nr1 : r1 ≠ d := ne_of hr1 hd (by intro z; cases z)
    have nr2 : r2 ≠ d := ne_of hr2 hd (by intro z; cases z)
    -- the finders
    refine ⟨d, _, hd, trivial, fun od => ⟨_, rfl, d, od, rfl, .inl ⟨_, upd_same, fun D hD => ?_⟩⟩⟩
    obtain ⟨HL, eL⟩ : ∃ HL, HL = L2.upd H d (.frz od (.dK (two (.ref r1) (.ref r2)))) := ⟨_, rfl⟩
    have Ld : HL d = some (.frz od (.dK (two (.ref r1) (.ref r2)))) := by rw [eL]; exact upd_same
    have Lp : HL p = some (.ins CL dx []) := by rw [eL, upd_ne npd]; exact hp
    have L1 : HL r1 = some (.lst []) := by rw [eL, upd_ne nr1]; exact hr1
    have L2' : HL r2 = some (.lst []) := by rw [eL, upd_ne nr2]; exact hr2
    have LT : Tabs (TTb pF) HL := by rw [eL]; exact tabs_put hT hd dk_tbl dk_code
    have Le : ∀ b o, b ≠ d → H b = some o → HL b = some o := fun b o n h => by rw [eL, upd_ne n]; exact h
    rw [← eL] at hD ⊢
    refine dc2 (fun H' => ∃ x, H' D = some (.dK [(.inr "m", .ref x)]) ∧ FnAt CF CS H' x "m" ∧ Tabs (TTb pF) H' ∧ ExtN HL H')
      (fun H' => ∃ x1 x2, H' D = some (.dK (two (.ref x1) (.ref x2))) ∧ FnAt CF CS H' x1 "m" ∧ FnAt CF CS H' x2 "n" ∧ Tabs (TTb pF) H' ∧ ExtN HL H') ⟨by rw [upd_ne (ne_of_none Ld hD)]; exact Ld, by show 0 < 2; decide⟩ ?_ ?_ ?_
    · rintro H1 ⟨x1, h1D, h1f, h1t, h1e⟩
      refine ⟨⟨h1e _ _ Ld frz_tbl, by show 1 < 2; decide⟩, ?_⟩
      rintro x H'' ⟨e, k, v, ek, ex⟩
      subst e
      cases ek
      subst ex
      refine ⟨rfl, _, rfl, _, rfl, _, rfl, _, rfl, d, .ref r2, rfl, .inl ⟨_, .inr "n", .inr ⟨_, h1e _ _ Ld frz_tbl⟩, rfl, (get_n _ _).symm⟩, ?_⟩
      intro x2 dx2 nx ndx _
      refine ⟨x2, dx2, r2, "n", rfl, upd_same, made nx ndx (.refl _ _) _ _ (h1e _ _ L2' lst_tbl), tabs_same h1t (made nx ndx (.refl _ _)), fun H2 d3 eb t2 fd w3 => ⟨rfl, ?_⟩⟩
      have eN := made_ext nx ndx eb
      have hD2 := eN _ _ h1D dk_tbl
      refine ⟨_, .inr "n", rfl, hD2, (by show 1 < sizeLine; decide), x1, x2, ?_, (h1f.ext eN).put hD2 .dk, ⟨d3, fd.lock hD2⟩, tabs_put t2 hD2 dk_tbl dk_code, fun b o h n => ?_⟩
      · rw [upd_same, put_one]
      · rw [upd_ne (ne_of_none h hD)]
        exact eN _ _ (h1e _ _ h n) n
    · rintro H1 ⟨x1, x2, h1D, f1, f2, h1t, h1e⟩
      refine ⟨⟨h1e _ _ Ld frz_tbl, by show 2 ≤ 2; decide⟩, h1e _ _ Ld frz_tbl, ?_⟩
      have h1d := h1e _ _ Ld frz_tbl
      refine ⟨_, rfl, p, CL, dx, _, rfl, (by rw [upd_ne npd]; exact h1e _ _ Lp ins_tbl), CLi.cl, no _ (by simp), (by show 0 < 1000; decide), ?_⟩
      obtain ⟨HB, eB⟩ : ∃ HB, HB = L2.upd (L2.upd H1 d (.dK (two (.ref r1) (.ref r2)))) p (.ins CL dx (putF "finders" (.ref D) [])) := ⟨_, rfl⟩
      have hp1 : L2.upd H1 d (.dK (two (.ref r1) (.ref r2))) p = some (.ins CL dx []) := by rw [upd_ne npd]; exact h1e _ _ Lp ins_tbl
      have nDd : D ≠ d := ne_of h1D h1d (by intro z; cases z)
      have nDp : D ≠ p := ne_of h1D (h1e _ _ Lp ins_tbl) (by intro z; cases z)
      have Bp : HB p = some (.ins CL dx (putF "finders" (.ref D) [])) := by rw [eB]; exact upd_same
      have Bd : HB d = some (.dK (two (.ref r1) (.ref r2))) := by rw [eB, upd_ne npd.symm]; exact upd_same
      have BD : HB D = some (.dK (two (.ref x1) (.ref x2))) := by rw [eB, upd_ne nDp, upd_ne nDd]; exact h1D
      have Bf1 : FnAt CF CS HB x1 "m" := by rw [eB]; exact (f1.put h1d .frz).put hp1 .ins0
      have Bf2 : FnAt CF CS HB x2 "n" := by rw [eB]; exact (f2.put h1d .frz).put hp1 .ins0
      have BT : Tabs (TTb pF) HB := by rw [eB]; exact tabs_put (tabs_put h1t h1d frz_tbl frz_code) hp1 ins_tbl ins_code
      have Be : ExtB p H HB := fun b o n h nt => by
        rw [eB, upd_ne n]
        by_cases hb : b = d
        · rw [hb, upd_same]
          rw [hb, hd] at h
          exact h
        · rw [upd_ne hb]
          exact h1e _ _ (Le b o hb h) nt
      rw [← eB]
      clear eB hp1 f1 f2 h1t h1e h1d h1D
      -- the roots
      refine ⟨d, _, Bd, trivial, fun od2 => ⟨_, rfl, d, od2, rfl, .inl ⟨_, upd_same, fun D2 hD2 => ?_⟩⟩⟩
      obtain ⟨HM, eM⟩ : ∃ HM, HM = L2.upd HB d (.frz od2 (.dK (two (.ref r1) (.ref r2)))) := ⟨_, rfl⟩
      have Md : HM d = some (.frz od2 (.dK (two (.ref r1) (.ref r2)))) := by rw [eM]; exact upd_same
      have Mp : HM p = some (.ins CL dx (putF "finders" (.ref D) [])) := by rw [eM, upd_ne npd]; exact Bp
      have MD : HM D = some (.dK (two (.ref x1) (.ref x2))) := by rw [eM, upd_ne nDd]; exact BD
      have Mf1 : FnAt CF CS HM x1 "m" := by rw [eM]; exact Bf1.put Bd .dk
      have Mf2 : FnAt CF CS HM x2 "n" := by rw [eM]; exact Bf2.put Bd .dk
      rw [← eM] at hD2 ⊢
      obtain ⟨d31, ex1, lf1, ls1, lb1, dc1, s1, l21, a11, a12, a13, a14, a15⟩ := Mf1
      obtain ⟨d32, ex2, lf2, ls2, lb2, dc2_, s2, l22, a21, a22, a23, a24, a25⟩ := Mf2
      have sM : ∀ o, Same HM (L2.upd HM D2 o) := fun o => same_new hD2
      refine dc2 (fun H' => H' = L2.upd HM D2 (.dK [(.inr "m", .ref s1)])) (fun H' => H' = L2.upd HM D2 (.dK (two (.ref s1) (.ref s2)))) ⟨sM _ _ _ Md, by show 0 < 2; decide⟩ ?_ ?_ ?_
      · rintro H1 rfl
        refine ⟨⟨sM _ _ _ Md, by show 1 < 2; decide⟩, ?_⟩
        rintro x H'' ⟨e, k, v, ek, ex⟩
        subst e
        cases ek
        subst ex
        refine ⟨rfl, _, rfl, _, rfl, p, CL, dx, _, _, rfl, sM _ _ _ Mp, CLi.cl, no _ (by simp), rfl, _, rfl, D, .ref x2, rfl, .inl ⟨_, .inr "n", .inl (sM _ _ _ MD), rfl, (get_n _ _).symm⟩, x2, CF, ex2, _, _, rfl, sM _ _ _ a21, NF.cl, NF.no _ (by simp), rfl, lf2, _, 0, .ref s2, rfl, rfl, .inl (.inl (sM _ _ _ a22)), atI_nat (j := 0) rfl,
          _, .inr "n", rfl, upd_same, (by show 1 < sizeLine; decide), ?_⟩
        rw [upd2, put_one]
      · rintro H1 rfl
        refine ⟨⟨sM _ _ _ Md, by show 2 ≤ 2; decide⟩, sM _ _ _ Md, ?_⟩
        have nD2d : D2 ≠ d := (ne_of_none Md hD2).symm
        have nD2p : D2 ≠ p := (ne_of_none Mp hD2).symm
        have nD2D : D2 ≠ D := (ne_of_none MD hD2).symm
        refine ⟨_, rfl, p, CL, dx, _, rfl, (by rw [upd_ne npd]; exact sM _ _ _ Mp), CLi.cl, no _ (by simp), (by show 1 < 1000; decide), ?_⟩
        obtain ⟨HC, eC⟩ : ∃ HC, HC = L2.upd (L2.upd (L2.upd HM D2 (.dK (two (.ref s1) (.ref s2)))) d (.dK (two (.ref r1) (.ref r2)))) p (.ins CL dx (putF "roots" (.ref D2) (putF "finders" (.ref D) []))) := ⟨_, rfl⟩
        have hp1 : L2.upd (L2.upd HM D2 (.dK (two (.ref s1) (.ref s2)))) d (.dK (two (.ref r1) (.ref r2))) p = some (.ins CL dx (putF "finders" (.ref D) [])) := by rw [upd_ne npd]; exact sM _ _ _ Mp
        have Cp : HC p = some (.ins CL dx (putF "roots" (.ref D2) (putF "finders" (.ref D) []))) := by rw [eC]; exact upd_same
        have CD : HC D = some (.dK (two (.ref x1) (.ref x2))) := by rw [eC, upd_ne nDp, upd_ne nDd]; exact sM _ _ _ MD
        have CD2 : HC D2 = some (.dK (two (.ref s1) (.ref s2))) := by rw [eC, upd_ne nD2p, upd_ne nD2d]; exact upd_same
        have Mf1 : FnD CF CS HM x1 "m" d31 := ⟨ex1, lf1, ls1, lb1, dc1, s1, l21, a11, a12, a13, a14, a15⟩
        have Mf2 : FnD CF CS HM x2 "n" d32 := ⟨ex2, lf2, ls2, lb2, dc2_, s2, l22, a21, a22, a23, a24, a25⟩
        have og : (Oth (.ins CL dx (putF "finders" (.ref D) []))) := .ins (by decide +kernel)
        have Cf1 : FnAt CF CS HC x1 "m" := by rw [eC]; exact ((FnAt.new ⟨_, Mf1⟩ hD2).put (sM _ _ _ Md) .frz).put hp1 og
        have Cf2 : FnAt CF CS HC x2 "n" := by rw [eC]; exact ((FnAt.new ⟨_, Mf2⟩ hD2).put (sM _ _ _ Md) .frz).put hp1 og
        have Cs1 : ScAt CS HC s1 "m" := by rw [eC]; exact ((ScAt.new ⟨_, _, a15⟩ hD2).put (sM _ _ _ Md) .frz).put hp1 og
        have Cs2 : ScAt CS HC s2 "n" := by rw [eC]; exact ((ScAt.new ⟨_, _, a25⟩ hD2).put (sM _ _ _ Md) .frz).put hp1 og
        have MT : Tabs (TTb pF) HM := by rw [eM]; exact tabs_put BT Bd dk_tbl dk_code
        have CT : Tabs (TTb pF) HC := by rw [eC]; exact tabs_put (tabs_put (tabs_new MT hD2) (sM _ _ _ Md) frz_tbl frz_code) hp1 ins_tbl ins_code
        have Ce : ExtB p H HC := fun b o n h nt => by
          have z := Be b o n h nt
          rw [eC, upd_ne n]
          by_cases hb : b = d
          · rw [hb, upd_same]
            rw [hb, Bd] at z
            exact z
          · rw [upd_ne hb]
            refine sM _ _ _ ?_
            rw [eM, upd_ne hb]
            exact z
        rw [← eC]
        clear eC hp1 Mf1 Mf2 a11 a12 a13 a14 a15 a21 a22 a23 a24 a25 MT sM hD2 Md Mp MD eM HM Bp Bd BD Bf1 Bf2 BT Be HB og
        -- the empty dicts
        refine fun ds nds => ⟨_, rfl, p, CL, dx, _, rfl, same_new nds _ _ Cp, CLi.cl, no _ (by simp), (by show 2 < 1000; decide), ?_⟩
        refine fun db ndb => ⟨_, rfl, p, CL, dx, _, rfl, same_new ndb _ _ upd_same, CLi.cl, no _ (by simp), (by show 3 < 1000; decide), ?_⟩
        refine fun da nda => ⟨_, rfl, p, CL, dx, _, rfl, same_new nda _ _ upd_same, CLi.cl, no _ (by simp), (by show 4 < 1000; decide), ?_⟩
        refine fun de nde => ⟨_, rfl, p, CL, dx, _, rfl, same_new nde _ _ upd_same, CLi.cl, no _ (by simp), (by show 5 < 1000; decide), ?_⟩
        have i1 : L2.upd HC ds (.dT []) p = some (.ins CL dx (putF "roots" (.ref D2) (putF "finders" (.ref D) []))) := same_new nds _ _ Cp
        have nsp : ds ≠ p := (ne_of_none Cp nds).symm
        have nbp : db ≠ p := (ne_of_none upd_same ndb).symm
        have nap : da ≠ p := (ne_of_none upd_same nda).symm
        have nep : de ≠ p := (ne_of_none upd_same nde).symm
        obtain ⟨F2, eF2⟩ : ∃ F2, F2 = putF "roots" (.ref D2) (putF "finders" (.ref D) []) := ⟨_, rfl⟩
        obtain ⟨HD, eD⟩ : ∃ HD, HD = L2.upd (L2.upd (L2.upd (L2.upd (L2.upd (L2.upd (L2.upd (L2.upd HC ds (.dT [])) p (.ins CL dx (putF "scopes" (.ref ds) (putF "roots" (.ref D2) (putF "finders" (.ref D) []))))) db (.dK [])) p (.ins CL dx (putF "brought" (.ref db) (putF "scopes" (.ref ds) (putF "roots" (.ref D2) (putF "finders" (.ref D) [])))))) da (.dK [])) p (.ins CL dx (putF "_answers" (.ref da) (putF "brought" (.ref db) (putF "scopes" (.ref ds) (putF "roots" (.ref D2) (putF "finders" (.ref D) []))))))) de (.dK [])) p (.ins CL dx (putF "_beyond" (.ref de) (putF "_answers" (.ref da) (putF "brought" (.ref db) (putF "scopes" (.ref ds) (putF "roots" (.ref D2) (putF "finders" (.ref D) [])))))))  := ⟨_, rfl⟩
        have kD : KeepBut p HC HD := by rw [eD]; exact .trans (.trans (.trans (.trans (.trans (.trans (.trans (.new nds) .upd) (.new ndb)) .upd) (.new nda)) .upd) (.new nde)) .upd
        have Dp : HD p = some (.ins CL dx [("finders", .ref D), ("roots", .ref D2), ("scopes", .ref ds), ("brought", .ref db), ("_answers", .ref da), ("_beyond", .ref de)]) := by rw [eD]; exact upd_same
        have Dds : HD ds = some (.dT []) := by
          rw [eD]
          exact (KeepBut.trans (.trans (.trans (.trans (.trans (.trans .upd (.new ndb)) .upd) (.new nda)) .upd) (.new nde)) .upd) _ _ nsp upd_same
        have Ddb : HD db = some (.dK []) := by
          rw [eD]
          exact (KeepBut.trans (.trans (.trans (.trans .upd (.new nda)) .upd) (.new nde)) .upd) _ _ nbp upd_same
        have DD := kD _ _ nDp CD
        have DD2 := kD _ _ nD2p CD2
        have og : (Oth (.ins CL dx (putF "roots" (.ref D2) (putF "finders" (.ref D) [])))) := .ins (by decide +kernel)
        have Df1 := Cf1.but (.of kD) Cp og
        have Df2 := Cf2.but (.of kD) Cp og
        have Ds1 := Cs1.but (.of kD) Cp og
        have Ds2 := Cs2.but (.of kD) Cp og
        have DT := tabs_but CT kD Cp ins_tbl ins_code
        have De : ExtB p H HD := Ce.trans (.of kD)
        have ww : ∀ b o, b ≠ p → H b = some o → (∀ ps, o ≠ .tbl ps) → b ≠ ds := fun b o n h nt e => by
          have z := Ce b o n h nt
          rw [e, nds] at z
          cases z
        rw [← eD]
        clear eD kD Cp CD CD2 Cf1 Cf2 Cs1 Cs2 CT Ce i1 nds ndb nda nde HC og eF2 F2
        -- the loop over the finders
        refine ⟨D, _, DD, trivial, fun od3 => ?_⟩
        obtain ⟨HG, eG⟩ : ∃ HG, HG = L2.upd HD D (.frz od3 (.dK (two (.ref x1) (.ref x2)))) := ⟨_, rfl⟩
        have nsD : ds ≠ D := ne_of Dds DD (by intro z; cases z)
        have nbD : db ≠ D := ne_of Ddb DD (by intro z; cases z)
        have GD : HG D = some (.frz od3 (.dK (two (.ref x1) (.ref x2)))) := by rw [eG]; exact upd_same
        have Gp : HG p = some (.ins CL dx [("finders", .ref D), ("roots", .ref D2), ("scopes", .ref ds), ("brought", .ref db), ("_answers", .ref da), ("_beyond", .ref de)]) := by rw [eG, upd_ne nDp.symm]; exact Dp
        have Gds : HG ds = some (.dT []) := by rw [eG, upd_ne nsD]; exact Dds
        have Gf1 : FnAt CF CS HG x1 "m" := by rw [eG]; exact Df1.put DD .dk
        have Gf2 : FnAt CF CS HG x2 "n" := by rw [eG]; exact Df2.put DD .dk
        have GT : Tabs (TTb pF) HG := by rw [eG]; exact tabs_put DT DD dk_tbl dk_code
        rw [← eG]
        refine ⟨_, rfl, p, CL, dx, _, _, rfl, Gp, CLi.cl, no _ (by simp), rfl, D, od3, _, rfl, GD, ?_⟩
        have npds : p ≠ ds := ne_of Gp Gds (by intro z; cases z)
        have nDds : D ≠ ds := nsD.symm
        refine for2 (fun σ' H' => (∃ y3 y4 y5, σ' = [some (.ref p), some (.ref d), y3, y4, y5]) ∧ ∃ s, ScAt CS HG s "m" ∧ H' ds = some (.dT [(kM, .ref s)]) ∧ ExtB ds HG H' ∧ Tabs (TTb pF) H')
          (fun σ' H' => (∃ y3 y4 y5, σ' = [some (.ref p), some (.ref d), y3, y4, y5]) ∧ ∃ s s', ScAt CS HG s "m" ∧ ScAt CS HG s' "n" ∧ H' ds = some (.dT [(kM, .ref s), (kN, .ref s')]) ∧ ExtB ds HG H' ∧ Tabs (TTb pF) H') (vals_go GD (by show 0 < 2; decide)) ?_ ?_ ?_
        · rintro σ' H1 ⟨⟨y3, y4, y5, rfl⟩, s0, hs0, h1, e1, t1⟩
          refine ⟨vals_go (e1 _ _ nDds GD frz_tbl) (by show 1 < 2; decide), fun x H2 y => ?_⟩
          obtain ⟨e, kx, ex⟩ := y
          subst e
          cases ex
          obtain ⟨d3, hf⟩ := Gf2
          have hf1 := hf.but e1 Gds .dt
          obtain ⟨exx, lf, ls, lb, dc, s, l2, b1, b2, b3, b4, b5⟩ := hf1
          obtain ⟨_, lf', _, _, _, s', _, c1, c2, _, _, c5⟩ := hf
          have b1' := e1 _ _ (ne_of c1 Gds (by intro z; cases z)) c1 ins_tbl
          rw [b1] at b1'
          injection b1' with b1'
          injection b1' with _ _ b1'
          injection b1' with _ b1'
          injection b1' with b1' _
          injection b1' with _ b1'
          injection b1' with b1'
          subst b1'
          have b2' := e1 _ _ (ne_of c2 Gds (by intro z; cases z)) c2 lst_tbl
          rw [b2] at b2'
          injection b2' with b2'
          injection b2' with b2'
          injection b2' with b2' _
          injection b2' with b2'
          subst b2'
          obtain ⟨es, q1, q2, q3, g1, g2, g3⟩ := b5
          refine ⟨_, rfl, x2, CF, exx, _, _, rfl, b1, NF.cl, NF.no _ (by simp), rfl, lf, rfl, ⟨_, .inl (.inl b2)⟩,
            for1 (fun σ' H' => σ' = [some (.ref p), some (.ref d), some (.ref x2), some (.ref s), y5] ∧ ∃ T, H2 T = none ∧ H' = L2.upd (L2.upd H2 T (.tup [.str "n", .int (-1)])) ds (.dT [(kM, .ref s0), (kN, .ref s)])) ⟨_, _, .inl (.inl b2), rfl⟩ ?_ ?_⟩
          · rintro σ' H' ⟨rfl, T, nT, rfl⟩
            have sT : Same H2 (L2.upd H2 T (.tup [.str "n", .int (-1)])) := same_new nT
            have e2 : ExtB ds H2 (L2.upd (L2.upd H2 T (.tup [.str "n", .int (-1)])) ds (.dT [(kM, .ref s0), (kN, .ref s)])) := .of (.trans (.same sT) .upd)
            have nlf : lf ≠ ds := ne_of b2 h1 (by intro z; cases z)
            refine ⟨⟨_, .inl (.inl (e2 _ _ nlf b2 lst_tbl)), Nat.le_refl _⟩, ?_⟩
            have hp2 := e2 _ _ npds (e1 _ _ npds Gp ins_tbl) ins_tbl
            refine ⟨_, rfl, p, dx, _, rfl, hp2, rfl, _, rfl, p, x2, "n", rfl, ?_, ⟨_, _, _, rfl⟩, s0, s, hs0, ⟨_, _, c5⟩, upd_same, e1.trans e2, tabs_put (tabs_new t1 nT) (sT _ _ h1) dt_tbl dt_code⟩
            exact (FnAt.but ⟨d3, exx, lf, ls, lb, dc, s, l2, b1, b2, b3, b4, es, q1, q2, q3, g1, g2, g3⟩ e2 h1 .dt)
          · rintro x H3 ⟨e, y⟩
            subst e
            have ex := y _ (.inl (.inl b2))
            cases ex
            refine ⟨_, rfl, _, rfl, p, CL, dx, _, _, rfl, e1 _ _ npds Gp ins_tbl, CLi.cl, no _ (by simp), rfl, _, rfl, s, CS, es, _, _, rfl, g1, NS.cl, NS.no _ (by simp), rfl, _, rfl, s, CS, es, _, _, rfl, g1, NS.cl, NS.no _ (by simp), rfl, (by show 2 ≤ sizeLine; decide), fun T nT => ?_⟩
            refine ⟨ds, _, rfl, .inr ⟨_, kN, T, same_new nT _ _ h1, rfl, upd_same, (by show 1 < sizeLine; decide), rfl⟩, rfl, T, nT, ?_⟩
            rw [put_oneT]
        · rintro σ' H1 ⟨⟨y3, y4, y5, rfl⟩, t1, t2, hs1, hs2, h1, e1, tt1⟩
          have l1D := e1 _ _ nDds GD frz_tbl
          refine ⟨vals_stop l1D (by show 2 ≤ 2; decide), l1D, ?_⟩
          have h1p := e1 _ _ npds Gp ins_tbl
          obtain ⟨HE, eE⟩ : ∃ HE, HE = L2.upd H1 D (.dK (two (.ref x1) (.ref x2))) := ⟨_, rfl⟩
          have nD2s : D2 ≠ ds := ne_of DD2 Dds (by intro z; cases z)
          have Ep : HE p = some (.ins CL dx [("finders", .ref D), ("roots", .ref D2), ("scopes", .ref ds), ("brought", .ref db), ("_answers", .ref da), ("_beyond", .ref de)]) := by rw [eE, upd_ne nDp.symm]; exact h1p
          have ED : HE D = some (.dK (two (.ref x1) (.ref x2))) := by rw [eE]; exact upd_same
          have ED2 : HE D2 = some (.dK (two (.ref s1) (.ref s2))) := by
            rw [eE, upd_ne nD2D]
            exact e1 _ _ nD2s (by rw [eG, upd_ne nD2D]; exact DD2) dk_tbl
          have Eds : HE ds = some (.dT [(kM, .ref t1), (kN, .ref t2)]) := by rw [eE, upd_ne nsD]; exact h1
          have nbs : db ≠ ds := ne_of Ddb Dds (by intro z; cases z)
          have Edb : HE db = some (.dK []) := by
            rw [eE, upd_ne nbD]
            exact e1 _ _ nbs (by rw [eG, upd_ne nbD]; exact Ddb) dk_tbl
          have Ef1 : FnAt CF CS HE x1 "m" := by rw [eE]; exact (Gf1.but e1 Gds .dt).put l1D .frz
          have Ef2 : FnAt CF CS HE x2 "n" := by rw [eE]; exact (Gf2.but e1 Gds .dt).put l1D .frz
          have Gs1 : ScAt CS HG s1 "m" := by rw [eG]; exact Ds1.put DD .dk
          have Gs2 : ScAt CS HG s2 "n" := by rw [eG]; exact Ds2.put DD .dk
          have Es1 : ScAt CS HE s1 "m" := by rw [eE]; exact (Gs1.but e1 Gds .dt).put l1D .frz
          have Es2 : ScAt CS HE s2 "n" := by rw [eE]; exact (Gs2.but e1 Gds .dt).put l1D .frz
          have Et1 : ScAt CS HE t1 "m" := by rw [eE]; exact (hs1.but e1 Gds .dt).put l1D .frz
          have Et2 : ScAt CS HE t2 "n" := by rw [eE]; exact (hs2.but e1 Gds .dt).put l1D .frz
          have ET : Tabs (TTb pF) HE := by rw [eE]; exact tabs_put tt1 l1D frz_tbl frz_code
          have Ee : ExtB p H HE := fun b o n h nt => by
            have z := De b o n h nt
            have zs := ww b o n h nt
            rw [eE]
            by_cases hb : b = D
            · rw [hb, upd_same]
              rw [hb, DD] at z
              exact z
            · rw [upd_ne hb]
              refine e1 _ _ zs ?_ nt
              rw [eG, upd_ne hb]
              exact z
          rw [← eE]
          refine ⟨_, rfl, p, dx, _, rfl, Ep, rfl, p, dx, D2, s1, s2, _, rfl, Ep, rfl, ⟨ED2, Es1, Es2⟩, ?_⟩
          refine ⟨_, rfl, p, dx, _, rfl, Ep, rfl, p, dx, D2, s1, s2, _, rfl, Ep, rfl, ⟨ED2, Es1, Es2⟩, fun g ng => ?_⟩
          have sg := same_new (o := .dK []) ng
          refine ⟨_, rfl, p, CL, dx, _, rfl, sg _ _ Ep, CLi.cl, no _ (by simp), (by show 6 < 1000; decide), ?_⟩
          have og : (Oth (.ins CL dx [("finders", .ref D), ("roots", .ref D2), ("scopes", .ref ds), ("brought", .ref db), ("_answers", .ref da), ("_beyond", .ref de)])) := .ins (by decide +kernel)
          refine q _ (Ee.trans (.of (.trans (.same sg) .upd))) (tabs_put (tabs_same ET sg) (sg _ _ Ep) ins_tbl ins_code) ⟨dx, D, D2, ds, db, da, de, g, x1, x2, t1, t2, upd_same, ?_, (Ef1.ext (KB.ExtN.same sg)).put (sg _ _ Ep) og, (Ef2.ext (KB.ExtN.same sg)).put (sg _ _ Ep) og, ?_, (Et1.ext (KB.ExtN.same sg)).put (sg _ _ Ep) og, (Et2.ext (KB.ExtN.same sg)).put (sg _ _ Ep) og, ?_⟩
          · rw [upd_ne nDp]
            exact sg _ _ ED
          · rw [upd_ne npds.symm]
            exact sg _ _ Eds
          · rw [upd_ne nbp]
            exact sg _ _ Edb
        · rintro x H2 ⟨e, kx, ex⟩
          subst e
          cases ex
          obtain ⟨d3, hf⟩ := Gf1
          have c5 := hf
          obtain ⟨exx, lf, ls, lb, dc, s, l2, b1, b2, b3, b4, b5⟩ := hf
          have b50 := b5
          obtain ⟨es, q1, q2, q3, g1, g2, g3⟩ := b5
          refine ⟨_, rfl, x1, CF, exx, _, _, rfl, b1, NF.cl, NF.no _ (by simp), rfl, lf, rfl, ⟨_, .inl (.inl b2)⟩,
            for1 (fun σ' H' => (∃ y5, σ' = [some (.ref p), some (.ref d), some (.ref x1), some (.ref s), y5]) ∧ ∃ T, H2 T = none ∧ H' = L2.upd (L2.upd H2 T (.tup [.str "m", .int (-1)])) ds (.dT [(kM, .ref s)])) ⟨_, _, .inl (.inl b2), rfl⟩ ?_ ?_⟩
          · rintro σ' H' ⟨⟨y5, rfl⟩, T, nT, rfl⟩
            have sT : Same H2 (L2.upd H2 T (.tup [.str "m", .int (-1)])) := same_new nT
            have e2 : ExtB ds H2 (L2.upd (L2.upd H2 T (.tup [.str "m", .int (-1)])) ds (.dT [(kM, .ref s)])) := .of (.trans (.same sT) .upd)
            have nlf : lf ≠ ds := ne_of b2 Gds (by intro z; cases z)
            refine ⟨⟨_, .inl (.inl (e2 _ _ nlf b2 lst_tbl)), Nat.le_refl _⟩, ?_⟩
            have hp2 := e2 _ _ npds Gp ins_tbl
            exact ⟨_, rfl, p, dx, _, rfl, hp2, rfl, _, rfl, p, x1, "m", rfl, ⟨d3, c5.but e2 Gds .dt⟩, ⟨_, _, _, rfl⟩, s, ⟨_, _, b50⟩, upd_same, e2, tabs_put (tabs_new GT nT) (sT _ _ Gds) dt_tbl dt_code⟩
          · rintro x H3 ⟨e, y⟩
            subst e
            have ex := y _ (.inl (.inl b2))
            cases ex
            refine ⟨_, rfl, _, rfl, p, CL, dx, _, _, rfl, Gp, CLi.cl, no _ (by simp), rfl, _, rfl, s, CS, es, _, _, rfl, g1, NS.cl, NS.no _ (by simp), rfl, _, rfl, s, CS, es, _, _, rfl, g1, NS.cl, NS.no _ (by simp), rfl, (by show 2 ≤ sizeLine; decide), fun T nT => ?_⟩
            exact ⟨ds, _, rfl, .inr ⟨_, kM, T, same_new nT _ _ Gds, rfl, upd_same, (by show 0 < sizeLine; decide), rfl⟩, ⟨_, rfl⟩, T, nT, rfl⟩
      · rintro x H'' ⟨e, k, v, ek, ex⟩
        subst e
        cases ek
        subst ex
        refine ⟨rfl, _, rfl, _, rfl, p, CL, dx, _, _, rfl, sM _ _ _ Mp, CLi.cl, no _ (by simp), rfl, _, rfl, D, .ref x1, rfl, .inl ⟨_, .inr "m", .inl (sM _ _ _ MD), rfl, (get_m _ _).symm⟩, x1, CF, ex1, _, _, rfl, sM _ _ _ a11, NF.cl, NF.no _ (by simp), rfl, lf1, _, 0, .ref s1, rfl, rfl, .inl (.inl (sM _ _ _ a12)), atI_nat (j := 0) rfl,
          _, .inr "m", rfl, upd_same, (by show 0 < sizeLine; decide), ?_⟩
        rw [upd2]
        rfl
    · rintro x H'' ⟨e, k, v, ek, ex⟩
      subst e
      cases ek
      subst ex
      have h1D : L2.upd HL D (.dK []) D = some (.dK []) := upd_same
      have sL : Same HL (L2.upd HL D (.dK [])) := same_new hD
      refine ⟨rfl, _, rfl, _, rfl, _, rfl, _, rfl, d, .ref r1, rfl, .inl ⟨_, .inr "m", .inr ⟨_, sL _ _ Ld⟩, rfl, (get_m _ _).symm⟩, ?_⟩
      intro x1 dx2 nx ndx _
      have mk := made nx ndx (.refl _ _) (o := .ins CF dx2 [])
      refine ⟨x1, dx2, r1, "m", rfl, upd_same, mk _ _ (sL _ _ L1), tabs_same (tabs_same LT sL) mk, fun H2 d3 eb t2 fd w3 => ⟨rfl, ?_⟩⟩
      have eN := made_ext nx ndx eb
      have hD2 := eN _ _ h1D dk_tbl
      refine ⟨_, .inr "m", rfl, hD2, (by show 0 < sizeLine; decide), x1, upd_same, ⟨d3, fd.lockN hD2 (ne_of_none (mk _ _ h1D) w3).symm⟩, tabs_put t2 hD2 dk_tbl dk_code, fun b o h n => ?_⟩
      rw [upd_ne (ne_of_none h hD)]
      exact eN _ _ (sL _ _ h) n
end
end KB
/-! name = {k: v for ..} on one line, the name a local -/
namespace SDc
open PySem PySem.Spec PyProof.Rows L2
section
variable {X : Cx}
theorem ps_setDc {i : Nat} {y : Str} {py : Pos} {kx vx tg iter : Expr} {ifs : List Expr} {scope : Scope} {own : List (Str × Nat)} {pos spos : Pos} {wi : TI} {g : TG} {tt : TT} {tk tv : TE} (hc : X.calm = true) (hN : X.N.Nodup) (hy : X.N[i]? = some y) (hyl : X.env.scope.names.lookup y = some .local)
    (hsw : swapsWith (.DictComp kx vx [⟨tg, iter, ifs, 0⟩] scope pos) (some (.Name y py)) spos.line X.env = pure true) (hi : PI X tg iter wi) (ok : BlkOk X.N X.env.scope scope own)
    (hg : ∀ (s : Shared) (H : Hp) (C : Addr) (cl : List (Str × Addr)) (fp : List Addr), PG (X.blk s H scope (compEnvC scope cl C X.env) fp) tg g) (ht : ∀ (s : Shared) (H : Hp) (C : Addr) (cl : List (Str × Addr)) (fp : List Addr), PTs (X.blk s H scope (compEnvC scope cl C X.env) fp) ifs tt)
    (hk : ∀ (s : Shared) (H : Hp) (C : Addr) (cl : List (Str × Addr)) (fp : List Addr), PE (X.blk s H scope (compEnvC scope cl C X.env) fp) kx tk)
    (he : ∀ (s : Shared) (H : Hp) (C : Addr) (cl : List (Str × Addr)) (fp : List Addr), PE (X.blk s H scope (compEnvC scope cl C X.env) fp) vx tv) (hs : ∀ x, foldedSetIterable iter X.env x = pure x := by intro _; rfl) :
    PS X (.Assign [.Name y py] (.DictComp kx vx [⟨tg, iter, ifs, 0⟩] scope pos) spos) (tAsg (tDc wi g tt tk tv (own.map (·.2))) (gName i)) := by
  refine ⟨fun pins s σ H D I h => ?_⟩
  rw [exec_Assign_Name_used _ _ _ _ hsw]
  refine wpAny_bind (wpAny_standAt (wpAny_bind ?_))
  show wpAny _ X.A (do let _ ← comprehension (.DictComp kx vx [⟨tg, iter, ifs, 0⟩] scope pos) scope X.env (firstIterPos [⟨tg, iter, ifs, 0⟩] pos) newDict false (eval iter X.env) (some (assign (.Name y py) X.env))) _ _ s
  have h : tDc wi g tt tk tv (own.map (·.2)) σ H (fun x H1 => gName i x σ H1 D.nx) := h
  refine wpAny_bind (thn (dc_core (Qf := fun _ s' => SP X pins D .next s') hc hN I hi ok hg ht hk he hs h fun L C s' m H' I' q hn f => ?_) fun _ s' hq => wpAny_pure (wpAny_pure hq))
  show wpAny _ _ (assign (.Name y py) X.env (.ref L)) _ _ _
  refine wpAny_assign_Name (store_ok2 (v := V.ref L) I' hN hy (.inl hyl) rfl (fun s2 I2 ⟨a, sb, ha⟩ => ?_) (.inr hyl))
  obtain ⟨f0, f1, f2, f3, f4, f5⟩ := f
  have haC : C ≠ a := by
    rcases ha with z | z
    · rw [z]; exact f1
    · exact fun e => f4 y a z e.symm
  refine ⟨m, hn.sameBut sb haC, fun h3 sb3 => ?_⟩
  exact ⟨_, H', I2.turned (t' := s2.toks) (fun b o hb e => (sb3.2 b hb).trans e) f0 f1 f3 f4 f5, q⟩
theorem sw_trueD {kx vx : Expr} {gs : List Comprehension} {scope : Scope} {pos py : Pos} {y : Str} {l : Nat} {env : Env} (hk : env.scope.kind = .function) (hy : env.scope.names.lookup y = some .local) (hl : (py.line == pos.line) = true)
    (ha : (scope.names.any fun (n, k) => n == y && (k == .local || k == .cell)) = false) : swapsWith (.DictComp kx vx gs scope pos) (some (.Name y py)) l env = pure true := by
  have ky : env.kindOf y = some .local := hy
  have hb : env.blockKind = .function := by unfold Env.blockKind; rw [hk]; rfl
  unfold swapsWith
  simp only [hb, ky, ha, Expr.pos, hl]
  rfl
end
end SDc
namespace KB
open PySem PySem.Spec PyProof.Rows L2 LamX ItT SDc
abbrev sMe (i : Nat) : Stmt := inClass (topS 64) i
abbrev sME : Stmt := sMe 0
abbrev sFB : Stmt := sMe 2
abbrev sJR : Stmt := sMe 4
abbrev sFM : Stmt := sMe 5
abbrev meFs : List Str := ["links", "classes", "opens", "_members_of", "_all"]
theorem LkAt.ext {CF CS CL : Addr} {H H' : Hp} {p : Addr} (a : LkAt CF CS CL H p) (k : ExtN H H') : LkAt CF CS CL H' p := by
  obtain ⟨dx, df, dr, ds, db, da, de, dg, f1, f2, s1, s2, h0, h1, h2, h3, h4, h5, h6, h7⟩ := a
  exact ⟨dx, df, dr, ds, db, da, de, dg, f1, f2, s1, s2, k _ _ h0 ins_tbl, k _ _ h1 dk_tbl, h2.ext k, h3.ext k, k _ _ h4 dt_tbl, h5.ext k, h6.ext k, k _ _ h7 dk_tbl⟩
theorem LkAt.ins {CF CS CL q C' dx' : Addr} {H H' : Hp} {p : Addr} {fs : List (Str × V)} (a : LkAt CF CS CL H p) (k : ExtB q H H') (hq : H q = some (.ins C' dx' fs)) (n : p ≠ q) (o : Oth (.ins C' dx' fs)) : LkAt CF CS CL H' p := by
  obtain ⟨dx, df, dr, ds, db, da, de, dg, f1, f2, s1, s2, h0, h1, h2, h3, h4, h5, h6, h7⟩ := a
  exact ⟨dx, df, dr, ds, db, da, de, dg, f1, f2, s1, s2, k _ _ n h0 ins_tbl, k _ _ (ne_of h1 hq (by intro z; cases z)) h1 dk_tbl, h2.but k hq o, h3.but k hq o, k _ _ (ne_of h4 hq (by intro z; cases z)) h4 dt_tbl, h5.but k hq o, h6.but k hq o, k _ _ (ne_of h7 hq (by intro z; cases z)) h7 dk_tbl⟩
section
variable {P : Program} {w : World} {K : PySem.W.Frag} {mg : Str → Option Value} {base : Heap} {aW CS CF CL CM fME fFB fJR fFM : Addr}
theorem scME : FnScope ["self", "links", "place", "scope", "kind"] ["self", "links"] (defScope sME) := ⟨rfl, rfl, rfl, by decide +kernel, rfl, by decide +kernel, by decide +kernel⟩
theorem scFB : FnScope ["self", "finder", "sight", "kind"] ["self"] (defScope sFB) := ⟨rfl, rfl, rfl, by decide +kernel, rfl, by decide +kernel, by decide +kernel⟩
theorem scFM : FnScope ["self", "finder", "sight"] ["self"] (defScope sFM) := ⟨rfl, rfl, rfl, by decide +kernel, rfl, by decide +kernel, by decide +kernel⟩
theorem scJR : FnScope ["self", "near", "place", "kind", "done", "waiting", "other"] ["self"] (defScope sJR) := ⟨rfl, rfl, rfl, by decide +kernel, rfl, by decide +kernel, by decide +kernel⟩
def spFB (CF CS CL CM : Addr) : Sp := fun vs H Q _ => ∃ (p dx lk : Addr) (fs : List (Str × V)), vs = [.ref p] ∧ H p = some (.ins CM dx fs) ∧ fs.lookup ("links" : Str) = some (.ref lk) ∧ LkAt CF CS CL H lk ∧ Q .non H
theorem ok_FB {fd : FuncData} {k : Nat} (F : Fun K "_find_bases" "Members._find_bases" sFB fFB fd) (NM : NcT K CM meFs) (NL : NcT K CL liFs) (NF : NcT K CF fiFs) : FnOk P w K mg base CX0 (k + 1) fFB fd ["self"] (spFB CF CS CL CM) := by
  refine F.ok scFB (fun vs H Q E h => ?_) (fun cdv A outer s H vs Q E hr h => ?_)
  · obtain ⟨p, dx, lk, fs, rfl, _⟩ := h
    rfl
  · obtain ⟨p, dx, lk, fs, rfl, hp, hf, ⟨dxl, df, dr, ds, db, da, de, dg, f1, f2, s1, s2, h0, h1, h2, h3, h4, h5, h6, h7⟩, q⟩ := h
    refine ⟨_,
(pss_one (ps_lock (ps_for PassesOwn.never rfl (pi_values (pe_fld (pe_fld (pv 0) rfl) rfl)) (pg_name (i := 1) scFB.nd rfl (.inl rfl))
 (pss_one (ps_for PassesOwn.never rfl (pi_list (pe_fld (pv 1) rfl)) (pg_name (i := 2) scFB.nd rfl (.inl rfl))
 (pss_one ps_never)))))), ?_⟩
    refine ⟨df, _, h1, trivial, fun od => ?_⟩
    have n1 : p ≠ df := ne_of hp h1 (by intro z; cases z)
    have n2 : lk ≠ df := ne_of h0 h1 (by intro z; cases z)
    have b1 := h2.put (v := .frz od (.dK (two (.ref f1) (.ref f2)))) h1 .dk
    have b2 := h3.put (v := .frz od (.dK (two (.ref f1) (.ref f2)))) h1 .dk
    refine ⟨_, rfl, p, CM, dx, _, _, rfl, (by rw [upd_ne n1]; exact hp), NM.cl, NM.no _ (by simp), hf, lk, CL, dxl, _, _, rfl, (by rw [upd_ne n2]; exact h0), NL.cl, NL.no _ (by simp), rfl, df, od, _, rfl, upd_same, ?_⟩
    refine for2 (fun σ' H' => (∃ y1 y2 y3, σ' = [some (.ref p), y1, y2, y3]) ∧ H' = L2.upd H df (.frz od (.dK (two (.ref f1) (.ref f2))))) (fun σ' H' => (∃ y1 y2 y3, σ' = [some (.ref p), y1, y2, y3]) ∧ H' = L2.upd H df (.frz od (.dK (two (.ref f1) (.ref f2))))) (vals_go upd_same (by show 0 < 2; decide)) ?_ ?_ ?_
    · rintro σ' H' ⟨⟨y1, y2, y3, rfl⟩, rfl⟩
      refine ⟨vals_go upd_same (by show 1 < 2; decide), fun x H'' y => ?_⟩
      obtain ⟨e, kx, ex⟩ := y
      subst e
      cases ex
      obtain ⟨d3, ex, lf, ls, lb, dc, s, l2, a1, a2, a3, a4, a5⟩ := b2
      exact ⟨_, rfl, f2, CF, ex, _, _, rfl, a1, NF.cl, NF.no _ (by simp), rfl, ls, rfl, ⟨_, .inl (.inl a3)⟩, for0 (stopL (.inl (.inl a3))) ⟨⟨_, _, _, rfl⟩, rfl⟩⟩
    · rintro σ' H' ⟨_, rfl⟩
      refine ⟨vals_stop upd_same (by show 2 ≤ 2; decide), upd_same, ?_⟩
      rw [relock h1]
      exact q
    · rintro x H' ⟨e, kx, ex⟩
      subst e
      cases ex
      obtain ⟨d3, ex, lf, ls, lb, dc, s, l2, a1, a2, a3, a4, a5⟩ := b1
      exact ⟨_, rfl, f1, CF, ex, _, _, rfl, a1, NF.cl, NF.no _ (by simp), rfl, ls, rfl, ⟨_, .inl (.inl a3)⟩, for0 (stopL (.inl (.inl a3))) ⟨⟨_, _, _, rfl⟩, rfl⟩⟩
theorem ok_FM {fd : FuncData} {k : Nat} (F : Fun K "_find_members" "Members._find_members" sFM fFM fd) (NM : NcT K CM meFs) (NL : NcT K CL liFs) (NF : NcT K CF fiFs) : FnOk P w K mg base CX0 (k + 1) fFM fd ["self"] (spFB CF CS CL CM) := by
  refine F.ok scFM (fun vs H Q E h => ?_) (fun cdv A outer s H vs Q E hr h => ?_)
  · obtain ⟨p, dx, lk, fs, rfl, _⟩ := h
    rfl
  · obtain ⟨p, dx, lk, fs, rfl, hp, hf, ⟨dxl, df, dr, ds, db, da, de, dg, f1, f2, s1, s2, h0, h1, h2, h3, h4, h5, h6, h7⟩, q⟩ := h
    refine ⟨_,
(pss_one (ps_lock (ps_for PassesOwn.never rfl (pi_values (pe_fld (pe_fld (pv 0) rfl) rfl)) (pg_name (i := 1) scFM.nd rfl (.inl rfl))
 (pss_one (ps_for PassesOwn.never rfl (pi_list (pe_fld (pv 1) rfl)) (pg_name (i := 2) scFM.nd rfl (.inl rfl))
 (pss_one ps_never)))))), ?_⟩
    refine ⟨df, _, h1, trivial, fun od => ?_⟩
    have n1 : p ≠ df := ne_of hp h1 (by intro z; cases z)
    have n2 : lk ≠ df := ne_of h0 h1 (by intro z; cases z)
    have b1 := h2.put (v := .frz od (.dK (two (.ref f1) (.ref f2)))) h1 .dk
    have b2 := h3.put (v := .frz od (.dK (two (.ref f1) (.ref f2)))) h1 .dk
    refine ⟨_, rfl, p, CM, dx, _, _, rfl, (by rw [upd_ne n1]; exact hp), NM.cl, NM.no _ (by simp), hf, lk, CL, dxl, _, _, rfl, (by rw [upd_ne n2]; exact h0), NL.cl, NL.no _ (by simp), rfl, df, od, _, rfl, upd_same, ?_⟩
    refine for2 (fun σ' H' => (∃ y1 y2, σ' = [some (.ref p), y1, y2]) ∧ H' = L2.upd H df (.frz od (.dK (two (.ref f1) (.ref f2))))) (fun σ' H' => (∃ y1 y2, σ' = [some (.ref p), y1, y2]) ∧ H' = L2.upd H df (.frz od (.dK (two (.ref f1) (.ref f2))))) (vals_go upd_same (by show 0 < 2; decide)) ?_ ?_ ?_
    · rintro σ' H' ⟨⟨y1, y2, rfl⟩, rfl⟩
      refine ⟨vals_go upd_same (by show 1 < 2; decide), fun x H'' y => ?_⟩
      obtain ⟨e, kx, ex⟩ := y
      subst e
      cases ex
      obtain ⟨d3, ex, lf, ls, lb, dc, s, l2, a1, a2, a3, a4, a5⟩ := b2
      exact ⟨_, rfl, f2, CF, ex, _, _, rfl, a1, NF.cl, NF.no _ (by simp), rfl, ls, rfl, ⟨_, .inl (.inl a3)⟩, for0 (stopL (.inl (.inl a3))) ⟨⟨_, _, rfl⟩, rfl⟩⟩
    · rintro σ' H' ⟨_, rfl⟩
      refine ⟨vals_stop upd_same (by show 2 ≤ 2; decide), upd_same, ?_⟩
      rw [relock h1]
      exact q
    · rintro x H' ⟨e, kx, ex⟩
      subst e
      cases ex
      obtain ⟨d3, ex, lf, ls, lb, dc, s, l2, a1, a2, a3, a4, a5⟩ := b1
      exact ⟨_, rfl, f1, CF, ex, _, _, rfl, a1, NF.cl, NF.no _ (by simp), rfl, ls, rfl, ⟨_, .inl (.inl a3)⟩, for0 (stopL (.inl (.inl a3))) ⟨⟨_, _, rfl⟩, rfl⟩⟩
def spJR (CM : Addr) : Sp := fun vs H Q _ => ∃ (p dx dc : Addr) (fs : List (Str × V)), vs = [.ref p] ∧ H p = some (.ins CM dx fs) ∧ fs.lookup ("classes" : Str) = some (.ref dc) ∧ H dc = some (.dK []) ∧ ∀ H', Same H H' → Q .non H'
theorem ok_JR {fd : FuncData} {k : Nat} (F : Fun K "_join_related" "Members._join_related" sJR fJR fd) (T : T4 K mg aW) (NM : NcT K CM meFs) : FnOk P w K mg base CX0 (k + 1) fJR fd ["self"] (spJR CM) := by
  refine F.ok scJR (fun vs H Q E h => ?_) (fun cdv A outer s H vs Q E hr h => ?_)
  · obtain ⟨p, dx, dc, fs, rfl, _⟩ := h
    rfl
  · obtain ⟨p, dx, dc, fs, rfl, hp, hf, hc, q⟩ := h
    refine ⟨_,
(pss_cons (ps_lock (ps_setDc (i := 1) (own := [("place", 2)]) rfl scJR.nd rfl rfl (sw_trueD rfl rfl rfl (by decide +kernel)) (pi_keys (pe_fld (pv 0) rfl)) (blkOk_by (own := [("place", 2)]) (N := ["self", "near", "place", "kind", "done", "waiting", "other"]) (sc := defScope sJR) (by decide +kernel)) (fun _ _ _ _ _ => pg_name (i := 2) scJR.nd rfl (Or.inl rfl)) (fun _ _ _ _ _ => pts_nil) (fun _ _ _ _ _ => pv 2) (fun _ _ _ _ _ => pe_lst pa_nil)))
 (pss_cons (ps_lock (ps_for PassesOwn.never rfl (pi_items (pe_fld (pv 0) rfl)) (pg_tup rfl (pgs_cons (pg_name (i := 2) scJR.nd rfl (.inl rfl)) (pgs_cons (pg_name (i := 3) scJR.nd rfl (.inl rfl)) pgs_nil)))
 (pss_one ps_never)))
 (pss_cons (ps_set (i := 4) scJR.nd rfl (.inl rfl) pe_dnewK)
 (pss_one (ps_for PassesOwn.never rfl (pi_list (pe_callB (call_sortedD rfl) (by rfl) T.sorted (by decide +kernel) (pa_cons (pv 1) pa_nil))) (pg_name (i := 2) scJR.nd rfl (.inl rfl))
 (pss_cons ps_never
 (pss_one ps_never))))))), ?_⟩
    have n1 : p ≠ dc := ne_of hp hc (by intro z; cases z)
    refine ⟨dc, _, hc, trivial, fun od => ⟨_, rfl, p, CM, dx, _, _, rfl, (by rw [upd_ne n1]; exact hp), NM.cl, NM.no _ (by simp), hf, dc, od, rfl, .inl ⟨_, upd_same, fun D hD => ?_⟩⟩⟩
    have nD : dc ≠ D := ne_of_none upd_same hD
    refine dc0 ⟨by rw [upd_ne nD]; exact upd_same, Nat.le_refl _⟩ ⟨by rw [upd_ne nD]; exact upd_same, ?_⟩
    have hD0 : H D = none := by rw [upd_ne nD.symm] at hD; exact hD
    obtain ⟨H1, e1⟩ : ∃ H1, H1 = L2.upd (L2.upd (L2.upd H dc (.frz od (.dK []))) D (.dK [])) dc (.dK []) := ⟨_, rfl⟩
    have s1 : Same H H1 := fun b o h => by
      rw [e1]
      by_cases hb : b = dc
      · rw [hb, upd_same]
        rw [hb, hc] at h
        exact h
      · rw [upd_ne hb, upd_ne (ne_of_none h hD0), upd_ne hb]
        exact h
    have d1 : H1 D = some (.dK []) := by
      rw [e1, upd_ne nD.symm]
      exact upd_same
    rw [← e1]
    have hp1 := s1 _ _ hp
    have hc1 := s1 _ _ hc
    refine ⟨dc, _, hc1, trivial, fun od2 => ⟨_, rfl, p, CM, dx, _, _, rfl, (by rw [upd_ne n1]; exact hp1), NM.cl, NM.no _ (by simp), hf, dc, od2, _, rfl, upd_same, for0 ⟨upd_same, Nat.le_refl _⟩ ⟨upd_same, ?_⟩⟩⟩
    rw [relock hc1]
    refine fun dn ndn => ?_
    have s2 := same_new (o := .dK []) ndn
    refine ⟨_, rfl, D, [], [], rfl, .inl (s2 _ _ d1), rfl, by decide, fun ys pl pm so npl => ?_⟩
    have ey : ys = [] := List.Perm.eq_nil pm
    subst ey
    exact ⟨pl, rfl, ⟨_, .inl (.inl upd_same)⟩, for0 (stopL (.inl (.inl upd_same))) (q _ ((s1.trans s2).trans (same_new npl)))⟩
end
end KB
namespace KB
open PySem PySem.Spec PyProof.Rows L2 LamX ItT SDc
abbrev sNa (i : Nat) : Stmt := inClass (topS 66) i
abbrev sNA : Stmt := sNa 0
abbrev sCP : Stmt := sNa 1
abbrev sIM : Stmt := sNa 3
abbrev naFs : List Str := ["links", "members", "sights", "key_of", "broken", "places"]
theorem same_relock {H H' : Hp} {d : Addr} {u o : HO} (hd : H d = some u) (s : Same (L2.upd H d o) H') : Same H (L2.upd H' d u) := fun b x h => by
  by_cases e : b = d
  · rw [e, upd_same]
    rw [e, hd] at h
    exact h
  · rw [upd_ne e]
    exact s _ _ (by rw [upd_ne e]; exact h)
theorem lc0 {J : It} {g : TG} {tt : TT} {te : TE} {vs : List Nat} {σ : L2.St} {H1 : Hp} {D : Addr} {Qd : Hp → Prop} (hs : J.stop 0 (L2.upd H1 D (.lst []))) (hq : Qd (L2.upd H1 D (.lst []))) :
    ∃ W : Nat → Nat → Hp → Prop, (∃ m, W 0 m (L2.upd H1 D (.lst []))) ∧ ∀ i m H, W i m H →
      (J.stop i H ∧ Qd H) ∨ (J.go i H ∧ ∃ Nx : Hp → Prop, (∀ H', Nx H' → ∃ m', m' < m ∧ W (i + 1) m' H') ∧ ∀ x H', J.yld i H x H' → g x (wipe σ vs) H' fun σ2 H2 => wipe σ2 vs = wipe σ vs ∧ tt σ2 H2 fun b H3 =>
        if b = true then te σ2 H3 fun y H4 => ∃ acc, H4 D = some (.lst acc) ∧ acc.length < sizeLine ∧ Nx (L2.upd H4 D (.lst (acc ++ [y]))) else Nx H3) :=
  ⟨fun i _ H' => i = 0 ∧ H' = L2.upd H1 D (.lst []), ⟨0, rfl, rfl⟩, fun i m H' h => by
    obtain ⟨rfl, rfl⟩ := h
    exact .inl ⟨hs, hq⟩⟩
section
variable {P : Program} {w : World} {K : PySem.W.Frag} {mg : Str → Option Value} {base : Heap} {aW CS CF CL CM CN fLI fME fFB fJR fFM fNA fIM fCP pF : Addr}
theorem scNA : FnScope ["self", "trees", "module", "finder", "sight", "start"] ["self", "trees"] (defScope sNA) := ⟨rfl, rfl, rfl, by decide +kernel, rfl, by decide +kernel, by decide +kernel⟩
theorem scIM : FnScope ["self", "spot", "sights", "sight"] ["self"] (defScope sIM) := ⟨rfl, rfl, rfl, by decide +kernel, rfl, by decide +kernel, by decide +kernel⟩
theorem scCP : FnScope ["self", "found", "place", "key"] ["self"] (defScope sCP) := ⟨rfl, rfl, rfl, by decide +kernel, rfl, by decide +kernel, by decide +kernel⟩
def spME (CF CS CL CM : Addr) : Sp := fun vs H Q _ => ∃ (p dx lk : Addr), vs = [.ref p, .ref lk] ∧ H p = some (.ins CM dx []) ∧ LkAt CF CS CL H lk ∧ ∀ H', KeepBut p H H' → Q .non H'
theorem ok_ME {fd fdFB fdJR fdFM : FuncData} {k : Nat} (F : Fun K "__init__" "Members.__init__" sME fME fd) (NM : NcT K CM meFs) (NL : NcT K CL liFs) (NS : NcT K CS scFs) (mFB : Meth K CM "_find_bases" fFB) (mJR : Meth K CM "_join_related" fJR) (mFM : Meth K CM "_find_members" fFM)
    (GFB : FnOk P w K mg base CX0 1 fFB fdFB ["self"] (spFB CF CS CL CM)) (bFB : Binds K fdFB ["self"] []) (GJR : FnOk P w K mg base CX0 1 fJR fdJR ["self"] (spJR CM)) (bJR : Binds K fdJR ["self"] []) (GFM : FnOk P w K mg base CX0 1 fFM fdFM ["self"] (spFB CF CS CL CM)) (bFM : Binds K fdFM ["self"] []) :
    FnOk P w K mg base CX0 (k + 2) fME fd ["self", "links"] (spME CF CS CL CM) := by
  refine F.ok scME (fun vs H Q E h => ?_) (fun cdv A outer s H vs Q E hr h => ?_)
  · obtain ⟨p, dx, lk, rfl, _⟩ := h
    rfl
  · obtain ⟨p, dx, lk, rfl, hp, L, q⟩ := h
    have no := NM.no
    refine ⟨_,
(pss_cons (ps_fld (pv 0) (pv 1) rfl)
 (pss_cons (ps_fld (pv 0) pe_dnewK rfl)
 (pss_cons (ps_fld (pv 0) pe_dnewK rfl)
 (pss_cons (ps_fld (pv 0) pe_dnewK rfl)
 (pss_cons (ps_fld (pv 0) pe_dnewK rfl)
 (pss_cons (ps_lock (ps_for PassesOwn.never rfl (pi_itemsT (pe_fld (pv 1) rfl)) (pg_tup rfl (pgs_cons (pg_name (i := 2) scME.nd rfl (.inl rfl)) (pgs_cons (pg_name (i := 3) scME.nd rfl (.inl rfl)) pgs_nil)))
 (pss_one (ps_if (pt_cmpR op_eq (pe_fld (pv 3) rfl) pe_str (nomark _))
 (pss_one ps_never)
 pss_nil))))
 (pss_cons (ps_expr (pe_meth0 (pv 0) NM.cl mFB GFB (hr.mono (by omega)) bFB .nil pass0))
 (pss_cons (ps_expr (pe_meth0 (pv 0) NM.cl mJR GJR (hr.mono (by omega)) bJR .nil pass0))
 (pss_cons (ps_expr (pe_meth0 (pv 0) NM.cl mFM GFM (hr.mono (by omega)) bFM .nil pass0))
 (pss_one (ps_lock (ps_for PassesOwn.never rfl (pi_values (pe_fld (pv 0) rfl)) (pg_name (i := 4) scME.nd rfl (.inl rfl))
 (pss_one ps_never))))))))))))), ?_⟩
    have nlp : lk ≠ p := by
      obtain ⟨dxl, df, dr, ds, db, da, de, dg, f1, f2, s1, s2, h0, _⟩ := L
      exact ne_of h0 hp (by intro z; cases z)
    refine ⟨_, rfl, _, rfl, p, CM, dx, _, rfl, hp, NM.cl, no _ (by simp), (by show 0 < 1000; decide), ?_⟩
    refine fun dc nc => ⟨_, rfl, p, CM, dx, _, rfl, same_new nc _ _ upd_same, NM.cl, no _ (by simp), (by show 1 < 1000; decide), ?_⟩
    refine fun d2 n2 => ⟨_, rfl, p, CM, dx, _, rfl, same_new n2 _ _ upd_same, NM.cl, no _ (by simp), (by show 2 < 1000; decide), ?_⟩
    refine fun d3 n3 => ⟨_, rfl, p, CM, dx, _, rfl, same_new n3 _ _ upd_same, NM.cl, no _ (by simp), (by show 3 < 1000; decide), ?_⟩
    refine fun d4 n4 => ⟨_, rfl, p, CM, dx, _, rfl, same_new n4 _ _ upd_same, NM.cl, no _ (by simp), (by show 4 < 1000; decide), ?_⟩
    obtain ⟨H1, e1⟩ : ∃ H1, H1 = L2.upd (L2.upd (L2.upd (L2.upd (L2.upd (L2.upd (L2.upd (L2.upd (L2.upd H p (.ins CM dx (putF "links" (.ref lk) []))) dc (.dK [])) p (.ins CM dx (putF "classes" (.ref dc) (putF "links" (.ref lk) [])))) d2 (.dK [])) p (.ins CM dx (putF "opens" (.ref d2) (putF "classes" (.ref dc) (putF "links" (.ref lk) []))))) d3 (.dK [])) p (.ins CM dx (putF "_members_of" (.ref d3) (putF "opens" (.ref d2) (putF "classes" (.ref dc) (putF "links" (.ref lk) [])))))) d4 (.dK [])) p (.ins CM dx (putF "_all" (.ref d4) (putF "_members_of" (.ref d3) (putF "opens" (.ref d2) (putF "classes" (.ref dc) (putF "links" (.ref lk) [])))))) := ⟨_, rfl⟩
    have k1 : KeepBut p H H1 := by rw [e1]; exact .trans (.trans (.trans (.trans (.trans (.trans (.trans (.trans .upd (.new nc)) .upd) (.new n2)) .upd) (.new n3)) .upd) (.new n4)) .upd
    have hp1 : H1 p = some (.ins CM dx [("links", .ref lk), ("classes", .ref dc), ("opens", .ref d2), ("_members_of", .ref d3), ("_all", .ref d4)]) := by rw [e1]; exact upd_same
    have ncp : dc ≠ p := (ne_of_none upd_same nc).symm
    have hc1 : H1 dc = some (.dK []) := by
      rw [e1]
      exact (KeepBut.trans (.trans (.trans (.trans (.trans (.trans .upd (.new n2)) .upd) (.new n3)) .upd) (.new n4)) .upd) _ _ ncp upd_same
    have L1 := L.ins (.of k1) hp nlp .ins0
    rw [← e1]
    clear e1 nc n2 n3 n4
    have L1' := L1
    obtain ⟨dxl, df, dr, ds, db, da, de, dg, f1, f2, s1, s2, h0, h1, h2, h3, h4, h5, h6, h7⟩ := L1
    -- no scope is a class
    refine ⟨ds, _, h4, trivial, fun od => ?_⟩
    obtain ⟨HL, eL⟩ : ∃ HL, HL = L2.upd H1 ds (.frz od (.dT [(kM, .ref s1), (kN, .ref s2)])) := ⟨_, rfl⟩
    have Lds : HL ds = some (.frz od (.dT [(kM, .ref s1), (kN, .ref s2)])) := by rw [eL]; exact upd_same
    have Llk : HL lk = some (.ins CL dxl [("finders", .ref df), ("roots", .ref dr), ("scopes", .ref ds), ("brought", .ref db), ("_answers", .ref da), ("_beyond", .ref de), ("_rings", .ref dg)]) := by rw [eL, upd_ne (ne_of h0 h4 (by intro z; cases z))]; exact h0
    have Ls1 : ScAt CS HL s1 "m" := by rw [eL]; exact h5.put h4 .dt
    have Ls2 : ScAt CS HL s2 "n" := by rw [eL]; exact h6.put h4 .dt
    have isM : decide (V.str (Str.ofString "module") = V.str (Str.ofString "class")) = false := by decide +kernel
    rw [← eL]
    refine ⟨_, rfl, lk, CL, dxl, _, _, rfl, Llk, NL.cl, NL.no _ (by simp), rfl, ds, od, _, rfl, Lds, ?_⟩
    refine for2 (fun σ' H' => (∃ y2 y3 y4, σ' = [some (.ref p), some (.ref lk), y2, y3, y4]) ∧ Same HL H') (fun σ' H' => (∃ y2 y3 y4, σ' = [some (.ref p), some (.ref lk), y2, y3, y4]) ∧ Same HL H') ⟨Lds, by show 0 < 2; decide⟩ ?_ ?_ ?_
    · rintro σ' H2 ⟨⟨y2, y3, y4, rfl⟩, sm⟩
      refine ⟨⟨sm _ _ Lds, by show 1 < 2; decide⟩, ?_⟩
      rintro x H3 ⟨T, kk, v, q0, ek, rfl, hq0, nT, rfl⟩
      cases ek
      have sT := same_new (o := .tup [.ref q0, .ref s2]) nT
      obtain ⟨d3', l2, es, q1, q2, q3, g1, g2, g3⟩ := Ls2
      refine ⟨T, _, rfl, .inl (.inl upd_same), rfl, _, _, rfl, _, _, rfl, rfl, _, rfl, s2, CS, es, _, _, rfl, sT _ _ (sm _ _ g1), NS.cl, NS.no _ (by simp), rfl, rfl, _, rfl, iteF' isM ⟨⟨_, _, _, rfl⟩, sm.trans sT⟩⟩
    · rintro σ' H2 ⟨⟨y2, y3, y4, rfl⟩, sm⟩
      refine ⟨⟨sm _ _ Lds, by show 2 ≤ 2; decide⟩, sm _ _ Lds, ?_⟩
      have S2 : Same H1 (L2.upd H2 ds (.dT [(kM, .ref s1), (kN, .ref s2)])) := same_relock h4 (by rw [← eL]; exact sm)
      have hp2 := S2 _ _ hp1
      have LK2 := L1'.ext (KB.ExtN.same S2)
      refine ⟨_, rfl, p, dx, _, rfl, hp2, rfl, p, dx, lk, _, rfl, hp2, rfl, LK2, ?_⟩
      refine ⟨_, rfl, p, dx, _, rfl, hp2, rfl, p, dx, dc, _, rfl, hp2, rfl, S2 _ _ hc1, fun H3 S3 => ?_⟩
      have hp3 := S3 _ _ hp2
      have hc3 := S3 _ _ (S2 _ _ hc1)
      refine ⟨_, rfl, p, dx, _, rfl, hp3, rfl, p, dx, lk, _, rfl, hp3, rfl, LK2.ext (KB.ExtN.same S3), ?_⟩
      refine ⟨dc, _, hc3, trivial, fun od2 => ⟨_, rfl, p, CM, dx, _, _, rfl, (by rw [upd_ne ncp.symm]; exact hp3), NM.cl, no _ (by simp), rfl, dc, od2, _, rfl, upd_same, for0 ⟨upd_same, Nat.le_refl _⟩ ⟨upd_same, ?_⟩⟩⟩
      rw [relock hc3]
      exact q _ ((k1.trans (.same S2)).trans (.same S3))
    · rintro x H3 ⟨T, kk, v, q0, ek, rfl, hq0, nT, rfl⟩
      cases ek
      have sT := same_new (o := .tup [.ref q0, .ref s1]) nT
      obtain ⟨d3', l2, es, q1, q2, q3, g1, g2, g3⟩ := Ls1
      refine ⟨T, _, rfl, .inl (.inl upd_same), rfl, _, _, rfl, _, _, rfl, rfl, _, rfl, s1, CS, es, _, _, rfl, sT _ _ g1, NS.cl, NS.no _ (by simp), rfl, rfl, _, rfl, iteF' isM ⟨⟨_, _, _, rfl⟩, sT⟩⟩
def spIM (CF CS CL CN : Addr) : Sp := fun vs H Q _ => ∃ (p dx lk : Addr) (fs : List (Str × V)), vs = [.ref p] ∧ H p = some (.ins CN dx fs) ∧ fs.lookup ("links" : Str) = some (.ref lk) ∧ LkAt CF CS CL H lk ∧ Q .non H
theorem ok_IM {fd : FuncData} {k : Nat} (F : Fun K "_look_at_imported" "Naming._look_at_imported" sIM fIM fd) (NN : NcT K CN naFs) (NL : NcT K CL liFs) : FnOk P w K mg base CX0 (k + 1) fIM fd ["self"] (spIM CF CS CL CN) := by
  refine F.ok scIM (fun vs H Q E h => ?_) (fun cdv A outer s H vs Q E hr h => ?_)
  · obtain ⟨p, dx, lk, fs, rfl, _⟩ := h
    rfl
  · obtain ⟨p, dx, lk, fs, rfl, hp, hf, ⟨dxl, df, dr, ds, db, da, de, dg, f1, f2, s1, s2, h0, h1, h2, h3, h4, h5, h6, h7⟩, q⟩ := h
    refine ⟨_,
(pss_one (ps_lock (ps_for PassesOwn.never rfl (pi_items (pe_fld (pe_fld (pv 0) rfl) rfl)) (pg_tup rfl (pgs_cons (pg_name (i := 1) scIM.nd rfl (.inl rfl)) (pgs_cons (pg_name (i := 2) scIM.nd rfl (.inl rfl)) pgs_nil)))
 (pss_one ps_never)))), ?_⟩
    have n1 : p ≠ db := ne_of hp h7 (by intro z; cases z)
    have n2 : lk ≠ db := ne_of h0 h7 (by intro z; cases z)
    refine ⟨db, _, h7, trivial, fun od => ⟨_, rfl, p, CN, dx, _, _, rfl, (by rw [upd_ne n1]; exact hp), NN.cl, NN.no _ (by simp), hf, lk, CL, dxl, _, _, rfl, (by rw [upd_ne n2]; exact h0), NL.cl, NL.no _ (by simp), rfl, db, od, _, rfl, upd_same, for0 ⟨upd_same, Nat.le_refl _⟩ ⟨upd_same, ?_⟩⟩⟩
    rw [relock h7]
    exact q
def spCP (CN : Addr) : Sp := fun vs H Q _ => ∃ (p dx dk : Addr) (fs : List (Str × V)), vs = [.ref p] ∧ H p = some (.ins CN dx fs) ∧ fs.lookup ("key_of" : Str) = some (.ref dk) ∧ H dk = some (.dK []) ∧ ∀ g, H g = none → Q (.ref g) (L2.upd H g (.dK []))
theorem ok_CP {fd : FuncData} {k : Nat} (F : Fun K "_collect_places" "Naming._collect_places" sCP fCP fd) (NN : NcT K CN naFs) : FnOk P w K mg base CX0 (k + 1) fCP fd ["self"] (spCP CN) := by
  refine F.ok scCP (fun vs H Q E h => ?_) (fun cdv A outer s H vs Q E hr h => ?_)
  · obtain ⟨p, dx, dk, fs, rfl, _⟩ := h
    rfl
  · obtain ⟨p, dx, dk, fs, rfl, hp, hf, hk, q⟩ := h
    refine ⟨_,
(pss_cons (ps_set (i := 1) scCP.nd rfl (.inl rfl) pe_dnewK)
 (pss_cons (ps_lock (ps_for PassesOwn.never rfl (pi_items (pe_fld (pv 0) rfl)) (pg_tup rfl (pgs_cons (pg_name (i := 2) scCP.nd rfl (.inl rfl)) (pgs_cons (pg_name (i := 3) scCP.nd rfl (.inl rfl)) pgs_nil)))
 (pss_cons ps_never
 (pss_one ps_never))))
 (pss_one (ps_ret (pv 1))))), ?_⟩
    refine fun g ng => ?_
    have sg := same_new (o := .dK []) ng
    have hk1 := sg _ _ hk
    have n1 : p ≠ dk := ne_of hp hk (by intro z; cases z)
    refine ⟨dk, _, hk1, trivial, fun od => ⟨_, rfl, p, CN, dx, _, _, rfl, (by rw [upd_ne n1]; exact sg _ _ hp), NN.cl, NN.no _ (by simp), hf, dk, od, _, rfl, upd_same, for0 ⟨upd_same, Nat.le_refl _⟩ ⟨upd_same, _, rfl, ?_⟩⟩⟩
    rw [relock hk1]
    exact q g ng
def spNA (CN pF : Addr) : Sp := fun vs H Q _ => ∃ (p dx d r1 r2 : Addr), vs = [.ref p, .ref d] ∧ H p = some (.ins CN dx []) ∧ H d = some (.dK (two (.ref r1) (.ref r2))) ∧ H r1 = some (.lst []) ∧ H r2 = some (.lst []) ∧ Tabs (TTb pF) H ∧
  ∀ H' fs lb, ExtB p H H' → Tabs (TTb pF) H' → H' p = some (.ins CN dx fs) → fs.lookup ("broken" : Str) = some (.ref lb) → H' lb = some (.lst []) → Q .non H'
theorem ok_NA {fd fdLI fdME fdIM fdCP : FuncData} {k : Nat} (F : Fun K "__init__" "Naming.__init__" sNA fNA fd) (T : T4 K mg aW) (NN : NcT K CN naFs) (CLi : C4 K mg "Links" CL fLI liFs) (CMe : C4 K mg "Members" CM fME meFs) (NF : NcT K CF fiFs) (mIM : Meth K CN "_look_at_imported" fIM) (mCP : Meth K CN "_collect_places" fCP)
    (GLI : FnOk P w K mg base CX0 6 fLI fdLI ["self", "trees"] (spLI CF CS CL pF)) (bLI : Binds K fdLI ["self", "trees"] []) (GME : FnOk P w K mg base CX0 2 fME fdME ["self", "links"] (spME CF CS CL CM)) (bME : Binds K fdME ["self", "links"] [])
    (GIM : FnOk P w K mg base CX0 1 fIM fdIM ["self"] (spIM CF CS CL CN)) (bIM : Binds K fdIM ["self"] []) (GCP : FnOk P w K mg base CX0 1 fCP fdCP ["self"] (spCP CN)) (bCP : Binds K fdCP ["self"] []) :
    FnOk P w K mg base CX0 (k + 8) fNA fd ["self", "trees"] (spNA CN pF) := by
  refine F.ok scNA (fun vs H Q E h => ?_) (fun cdv A outer s H vs Q E hr h => ?_)
  · obtain ⟨p, dx, d, r1, r2, rfl, _⟩ := h
    rfl
  · obtain ⟨p, dx, d, r1, r2, rfl, hp, hd, hr1, hr2, hT, q⟩ := h
    have no := NN.no
    have NL := CLi.N
    refine ⟨_,
(pss_cons (ps_fld (pv 0) (pe_make CLi.M GLI (hr.mono (by omega)) (by rfl) CLi.g bLI .nil pass0 (pa_cons (pv 1) pa_nil)) rfl)
 (pss_cons (ps_fld (pv 0) (pe_make CMe.M GME (hr.mono (by omega)) (by rfl) CMe.g bME .nil pass0 (pa_cons (pe_fld (pv 0) rfl) pa_nil)) rfl)
 (pss_cons (ps_fld (pv 0) pe_dnewK rfl)
 (pss_cons (ps_fld (pv 0) pe_dnewK rfl)
 (pss_cons (ps_fld (pv 0) (pe_lst pa_nil) rfl)
 (pss_cons (ps_lock (ps_for PassesOwn.never rfl (pi_items (pe_fld (pe_fld (pv 0) rfl) rfl)) (pg_tup rfl (pgs_cons (pg_name (i := 2) scNA.nd rfl (.inr rfl)) (pgs_cons (pg_name (i := 3) scNA.nd rfl (.inl rfl)) pgs_nil)))
 (pss_cons (ps_expr (pe_bm PySem.F.plainAttrs_list PySem.F.slot_list_extend PySem.F.type_list_extend mt_extend (pe_fld (pv 0) rfl) (pa_cons (pe_lc (own := [("start", 5)]) (g := gName 5) (tt := tYes) rfl scNA.nd (pi_list (pe_fld (pv 3) rfl)) (blkOk_by (own := [("start", 5)]) (N := ["self", "trees", "module", "finder", "sight", "start"]) (sc := defScope sNA) (by decide +kernel)) (fun _ _ _ _ _ => pg_name (i := 5) scNA.nd rfl (Or.inl rfl)) (fun _ _ _ _ _ => pts_nil) (fun _ _ _ _ _ => (pe_tup (pa_cons (pv 2) (pa_cons (pv 5) pa_nil))))) pa_nil)))
 (pss_one (ps_for PassesOwn.never rfl (pi_list (pe_fld (pv 3) rfl)) (pg_name (i := 4) scNA.nd rfl (.inl rfl))
 (pss_cons ps_never
 (pss_one ps_never)))))))
 (pss_cons (ps_expr (pe_meth0 (pv 0) NN.cl mIM GIM (hr.mono (by omega)) bIM .nil pass0))
 (pss_cons (ps_fld (pv 0) (pe_callB cr_sorted (by rfl) T.sorted (by decide +kernel) (pa_cons (pe_fld (pv 0) rfl) pa_nil)) rfl)
 (pss_one (ps_fld (pv 0) (pe_meth0 (pv 0) NN.cl mCP GCP (hr.mono (by omega)) bCP .nil pass0) rfl)))))))))), ?_⟩
    -- the links
    refine ⟨_, rfl, fun lk dxl nx ndx _ => ?_⟩
    have mk := made nx ndx (.refl _ _) (o := .ins CL dxl [])
    refine ⟨lk, dxl, d, r1, r2, rfl, upd_same, mk _ _ hd, mk _ _ hr1, mk _ _ hr2, tabs_same hT mk, fun H2 e2 t2 L2_ => ⟨rfl, ?_⟩⟩
    have eN := made_ext nx ndx e2
    have hp2 := eN _ _ hp ins_tbl
    have nlp : lk ≠ p := (ne_of_none hp nx).symm
    refine ⟨_, rfl, p, CN, dx, _, rfl, hp2, NN.cl, no _ (by simp), (by show 0 < 1000; decide), ?_⟩
    have L3 := L2_.ins (H' := L2.upd H2 p (.ins CN dx (putF "links" (.ref lk) []))) .upd hp2 nlp .ins0
    have t3 := tabs_put (o := .ins CN dx (putF "links" (.ref lk) [])) t2 hp2 ins_tbl ins_code
    -- the members
    refine ⟨_, rfl, p, CN, dx, _, _, rfl, upd_same, NN.cl, no _ (by simp), rfl, fun me dxm nx3 ndx3 _ => ?_⟩
    have mk3 := made nx3 ndx3 (.refl _ _) (o := .ins CM dxm [])
    refine ⟨me, dxm, lk, rfl, upd_same, L3.ext (KB.ExtN.same mk3), fun H4 k4 => ⟨rfl, ?_⟩⟩
    have S4 := made nx3 ndx3 k4
    have hp4 := S4 _ _ upd_same
    refine ⟨_, rfl, p, CN, dx, _, rfl, hp4, NN.cl, no _ (by simp), (by show 1 < 1000; decide), ?_⟩
    have L5 := (L3.ext (KB.ExtN.same S4)).ins (H' := L2.upd H4 p (.ins CN dx (putF "members" (.ref me) (putF "links" (.ref lk) [])))) .upd hp4 nlp (.ins (by decide +kernel))
    have t5 := tabs_put (o := .ins CN dx (putF "members" (.ref me) (putF "links" (.ref lk) []))) (tabs_same t3 S4) hp4 ins_tbl ins_code
    have e5 : ExtB p H (L2.upd H4 p (.ins CN dx (putF "members" (.ref me) (putF "links" (.ref lk) [])))) := ((ExtB.ext eN).trans .upd).trans ((ExtB.of (.same S4)).trans .upd)
    obtain ⟨H5, h5e⟩ : ∃ H5, H5 = L2.upd H4 p (.ins CN dx (putF "members" (.ref me) (putF "links" (.ref lk) []))) := ⟨_, rfl⟩
    have hp5 : H5 p = some (.ins CN dx (putF "members" (.ref me) (putF "links" (.ref lk) []))) := by rw [h5e]; exact upd_same
    rw [← h5e] at L5 t5 e5 ⊢
    -- the empty ones
    refine fun ds nds => ⟨_, rfl, p, CN, dx, _, rfl, same_new nds _ _ hp5, NN.cl, no _ (by simp), (by show 2 < 1000; decide), ?_⟩
    refine fun dk ndk => ⟨_, rfl, p, CN, dx, _, rfl, same_new ndk _ _ upd_same, NN.cl, no _ (by simp), (by show 3 < 1000; decide), ?_⟩
    refine ⟨(by show 0 ≤ sizeLine; decide), fun lb nlb => ⟨_, rfl, p, CN, dx, _, rfl, same_new nlb _ _ upd_same, NN.cl, no _ (by simp), (by show 4 < 1000; decide), ?_⟩⟩
    obtain ⟨H6, e6⟩ : ∃ H6, H6 = L2.upd (L2.upd (L2.upd (L2.upd (L2.upd (L2.upd H5 ds (.dK [])) p (.ins CN dx (putF "sights" (.ref ds) (putF "members" (.ref me) (putF "links" (.ref lk) []))))) dk (.dK [])) p (.ins CN dx (putF "key_of" (.ref dk) (putF "sights" (.ref ds) (putF "members" (.ref me) (putF "links" (.ref lk) [])))))) lb (.lst [])) p (.ins CN dx (putF "broken" (.ref lb) (putF "key_of" (.ref dk) (putF "sights" (.ref ds) (putF "members" (.ref me) (putF "links" (.ref lk) [])))))) := ⟨_, rfl⟩
    have k6 : KeepBut p H5 H6 := by rw [e6]; exact .trans (.trans (.trans (.trans (.trans (.new nds) .upd) (.new ndk)) .upd) (.new nlb)) .upd
    have hp6 : H6 p = some (.ins CN dx [("links", .ref lk), ("members", .ref me), ("sights", .ref ds), ("key_of", .ref dk), ("broken", .ref lb)]) := by rw [e6]; exact upd_same
    have nkp : dk ≠ p := (ne_of_none upd_same ndk).symm
    have nbp : lb ≠ p := (ne_of_none upd_same nlb).symm
    have hk6 : H6 dk = some (.dK []) := by
      rw [e6]
      exact (KeepBut.trans (.trans .upd (.new nlb)) .upd) _ _ nkp upd_same
    have hb6 : H6 lb = some (.lst []) := by
      rw [e6, upd_ne nbp]
      exact upd_same
    have L6 := L5.ins (.of k6) hp5 nlp (.ins (by decide +kernel))
    have t6 := tabs_but t5 k6 hp5 ins_tbl ins_code
    have E6 : ExtB p H H6 := e5.trans (.of k6)
    rw [← e6]
    clear e6 k6 nds ndk nlb L5 t5 e5 h5e
    have L6' := L6
    obtain ⟨dxl2, df, dr, ds2, db, da, de, dg, f1, f2, s1, s2, h0, h1, h2, h3, h4, h5, h6, h7⟩ := L6
    -- the finders break nothing
    refine ⟨df, _, h1, trivial, fun od => ?_⟩
    obtain ⟨HL, eL⟩ : ∃ HL, HL = L2.upd H6 df (.frz od (.dK (two (.ref f1) (.ref f2)))) := ⟨_, rfl⟩
    have Ldf : HL df = some (.frz od (.dK (two (.ref f1) (.ref f2)))) := by rw [eL]; exact upd_same
    have Lp : HL p = some (.ins CN dx [("links", .ref lk), ("members", .ref me), ("sights", .ref ds), ("key_of", .ref dk), ("broken", .ref lb)]) := by rw [eL, upd_ne (ne_of hp6 h1 (by intro z; cases z))]; exact hp6
    have Llk : HL lk = some (.ins CL dxl2 [("finders", .ref df), ("roots", .ref dr), ("scopes", .ref ds2), ("brought", .ref db), ("_answers", .ref da), ("_beyond", .ref de), ("_rings", .ref dg)]) := by rw [eL, upd_ne (ne_of h0 h1 (by intro z; cases z))]; exact h0
    have Lb : HL lb = some (.lst []) := by rw [eL, upd_ne (ne_of hb6 h1 (by intro z; cases z))]; exact hb6
    have Lf1 : FnAt CF CS HL f1 "m" := by rw [eL]; exact h2.put h1 .dk
    have Lf2 : FnAt CF CS HL f2 "n" := by rw [eL]; exact h3.put h1 .dk
    rw [← eL]
    refine ⟨_, rfl, p, CN, dx, _, _, rfl, Lp, NN.cl, no _ (by simp), rfl, lk, CL, dxl2, _, _, rfl, Llk, NL.cl, NL.no _ (by simp), rfl, df, od, _, rfl, Ldf, ?_⟩
    refine for2 (fun σ' H' => (∃ y2 y3 y4 y5, σ' = [some (.ref p), some (.ref d), y2, y3, y4, y5]) ∧ Same HL H') (fun σ' H' => (∃ y2 y3 y4 y5, σ' = [some (.ref p), some (.ref d), y2, y3, y4, y5]) ∧ Same HL H') ⟨Ldf, by show 0 < 2; decide⟩ ?_ ?_ ?_
    · rintro σ' H7 ⟨⟨y2, y3, y4, y5, rfl⟩, sm⟩
      refine ⟨⟨sm _ _ Ldf, by show 1 < 2; decide⟩, ?_⟩
      rintro x H8 ⟨T0, kk, v, ek, rfl, nT, rfl⟩
      cases ek
      have sT := sm.trans (same_new (o := .tup [kV (.inr "n"), .ref f2]) nT)
      obtain ⟨d3, ex, lf, ls, lb2, dc, s0, l2, a1, a2, a3, a4, a5⟩ := Lf2
      refine ⟨T0, _, rfl, .inl (.inl upd_same), rfl, _, _, rfl, _, _, rfl, rfl, _, rfl, p, CN, dx, _, _, rfl, sT _ _ Lp, NN.cl, no _ (by simp), rfl, .inl ⟨rfl, _, .inl (.inl (sT _ _ Lb))⟩, _, rfl, f2, CF, ex, _, _, rfl, sT _ _ a1, NF.cl, NF.no _ (by simp), rfl, lb2, rfl, ⟨_, .inl (.inl (sT _ _ a4))⟩, fun D hD => ?_⟩
      have sD := sT.trans (same_new (o := .lst []) hD)
      refine lc0 (stopL (.inl (.inl (sD _ _ a4)))) ⟨lb, D, [], [], rfl, rfl, sD _ _ Lb, upd_same, (by show 0 ≤ sizeLine; decide), ?_⟩
      have sE : Same HL (L2.upd (L2.upd (L2.upd H7 T0 (.tup [kV (.inr "n"), .ref f2])) D (.lst [])) lb (.lst ([] ++ []))) := fun b o h => by
        by_cases e : b = lb
        · rw [e, upd_same]
          rw [e, Lb] at h
          exact h
        · rw [upd_ne e]
          exact sD _ _ h
      exact ⟨_, rfl, f2, CF, ex, _, _, rfl, sE _ _ a1, NF.cl, NF.no _ (by simp), rfl, ls, rfl, ⟨_, .inl (.inl (sE _ _ a3))⟩, for0 (stopL (.inl (.inl (sE _ _ a3)))) ⟨⟨_, _, _, _, rfl⟩, sE⟩⟩
    · rintro σ' H7 ⟨⟨y2, y3, y4, y5, rfl⟩, sm⟩
      refine ⟨⟨sm _ _ Ldf, by show 2 ≤ 2; decide⟩, sm _ _ Ldf, ?_⟩
      have S7 : Same H6 (L2.upd H7 df (.dK (two (.ref f1) (.ref f2)))) := same_relock h1 (by rw [← eL]; exact sm)
      obtain ⟨H8, e8⟩ : ∃ H8, H8 = L2.upd H7 df (.dK (two (.ref f1) (.ref f2))) := ⟨_, rfl⟩
      rw [← e8] at S7 ⊢
      have hp8 := S7 _ _ hp6
      refine ⟨_, rfl, p, dx, _, rfl, hp8, rfl, p, dx, lk, _, rfl, hp8, rfl, L6'.ext (KB.ExtN.same S7), ?_⟩
      refine ⟨_, rfl, p, CN, dx, _, _, rfl, hp8, NN.cl, no _ (by simp), rfl, lb, [], rfl, .inl (.inl (S7 _ _ hb6)), (by decide), fun ys ly pm so nly => ?_⟩
      have ey : ys = [] := List.Perm.eq_nil pm
      subst ey
      have s9 := same_new (o := .lst []) nly
      have nlyp : ly ≠ p := (ne_of_none hp8 nly).symm
      refine ⟨_, rfl, p, CN, dx, _, rfl, s9 _ _ hp8, NN.cl, no _ (by simp), (by show 5 < 1000; decide), ?_⟩
      have hk10 : L2.upd (L2.upd H8 ly (.lst [])) p (.ins CN dx [("links", .ref lk), ("members", .ref me), ("sights", .ref ds), ("key_of", .ref dk), ("broken", .ref ly)]) dk = some (.dK []) := by
        rw [upd_ne nkp]
        exact s9 _ _ (S7 _ _ hk6)
      refine ⟨_, rfl, p, dx, _, rfl, upd_same, rfl, p, dx, dk, _, rfl, upd_same, rfl, hk10, fun g ng => ?_⟩
      have sg := same_new (o := .dK []) ng
      refine ⟨_, rfl, p, CN, dx, _, rfl, sg _ _ upd_same, NN.cl, no _ (by simp), (by show 5 < 1000; decide), ?_⟩
      have kk : KeepBut p H8 (L2.upd (L2.upd (L2.upd (L2.upd H8 ly (.lst [])) p (.ins CN dx [("links", .ref lk), ("members", .ref me), ("sights", .ref ds), ("key_of", .ref dk), ("broken", .ref ly)])) g (.dK [])) p (.ins CN dx [("links", .ref lk), ("members", .ref me), ("sights", .ref ds), ("key_of", .ref dk), ("broken", .ref ly), ("places", .ref g)])) := ((KeepBut.same s9).trans .upd).trans ((KeepBut.same sg).trans .upd)
      refine q _ _ ly ((E6.trans (.of (.same S7))).trans (.of kk)) (tabs_but (tabs_same t6 S7) kk hp8 ins_tbl ins_code) upd_same rfl ?_
      rw [upd_ne nlyp]
      refine sg _ _ ?_
      rw [upd_ne nlyp]
      exact upd_same
    · rintro x H8 ⟨T0, kk, v, ek, rfl, nT, rfl⟩
      cases ek
      have sT := same_new (o := .tup [kV (.inr "m"), .ref f1]) nT
      obtain ⟨d3, ex, lf, ls, lb2, dc, s0, l2, a1, a2, a3, a4, a5⟩ := Lf1
      refine ⟨T0, _, rfl, .inl (.inl upd_same), rfl, _, _, rfl, _, _, rfl, rfl, _, rfl, p, CN, dx, _, _, rfl, sT _ _ Lp, NN.cl, no _ (by simp), rfl, .inl ⟨rfl, _, .inl (.inl (sT _ _ Lb))⟩, _, rfl, f1, CF, ex, _, _, rfl, sT _ _ a1, NF.cl, NF.no _ (by simp), rfl, lb2, rfl, ⟨_, .inl (.inl (sT _ _ a4))⟩, fun D hD => ?_⟩
      have sD := sT.trans (same_new (o := .lst []) hD)
      refine lc0 (stopL (.inl (.inl (sD _ _ a4)))) ⟨lb, D, [], [], rfl, rfl, sD _ _ Lb, upd_same, (by show 0 ≤ sizeLine; decide), ?_⟩
      have sE : Same HL (L2.upd (L2.upd (L2.upd HL T0 (.tup [kV (.inr "m"), .ref f1])) D (.lst [])) lb (.lst ([] ++ []))) := fun b o h => by
        by_cases e : b = lb
        · rw [e, upd_same]
          rw [e, Lb] at h
          exact h
        · rw [upd_ne e]
          exact sD _ _ h
      exact ⟨_, rfl, f1, CF, ex, _, _, rfl, sE _ _ a1, NF.cl, NF.no _ (by simp), rfl, ls, rfl, ⟨_, .inl (.inl (sE _ _ a3))⟩, for0 (stopL (.inl (.inl (sE _ _ a3)))) ⟨⟨_, _, _, _, rfl⟩, sE⟩⟩
end
end KB
namespace KB
open PySem PySem.Spec PyProof.Rows L2 LamX ItT SDc
abbrev sPr (i : Nat) : Stmt := inClass (topS 137) i
abbrev sPI : Stmt := sPr 0
abbrev sTO : Stmt := sPr 4
abbrev sHA : Stmt := sPr 6
abbrev prFs : List Str := ["_texts", "_trees", "_naming"]
abbrev mnL : List Str := ["m", "n"]
theorem sort_mn {ys : List Str} (p : ys.Perm mnL) (s : sortedS ys = true) : ys = mnL := by
  have hl := p.length_eq
  match ys, hl with
  | [a, b], _ =>
    have ha : a ∈ mnL := p.mem_iff.mp (by simp)
    have hb : b ∈ mnL := p.mem_iff.mp (by simp)
    have hm : ("m" : Str) ∈ [a, b] := p.mem_iff.mpr (by simp)
    have hn : ("n" : Str) ∈ [a, b] := p.mem_iff.mpr (by simp)
    have mn : ("m" : Str) ≠ "n" := by decide +kernel
    simp only [mnL, List.mem_cons, List.not_mem_nil, or_false] at ha hb hm hn
    rcases ha with rfl | rfl
    · rcases hn with z | z
      · exact absurd z.symm mn
      · rw [← z]
    · rcases hm with z | z
      · exact absurd z mn
      · rw [← z] at s
        exact absurd s (by decide +kernel)
theorem tM : Str.ofString "m" = S [109] := by decide +kernel
theorem tN : Str.ofString "n" = S [110] := by decide +kernel
section
variable {P : Program} {w : World} {K : PySem.W.Frag} {mg : Str → Option Value} {base : Heap} {aW CN CP fIN fRM fNA fPI fHA fTO pF : Addr}
theorem scPI : FnScope ["self", "modules", "name", "text"] ["self", "modules"] (defScope sPI) := ⟨rfl, rfl, rfl, by decide +kernel, rfl, by decide +kernel, by decide +kernel⟩
theorem scHA : FnScope ["self", "module"] ["self", "module"] (defScope sHA) := ⟨rfl, rfl, rfl, by decide +kernel, rfl, by decide +kernel, by decide +kernel⟩
theorem scTO : FnScope ["self", "module"] ["self", "module"] (defScope sTO) := ⟨rfl, rfl, rfl, by decide +kernel, rfl, by decide +kernel, by decide +kernel⟩
/-- a project of the two texts -/
def PjAt (CP : Addr) (H : Hp) (p : Addr) (l1 l2 : List Nat) : Prop := ∃ dx dt de na, H p = some (.ins CP dx [("_texts", .ref dt), ("_trees", .ref de), ("_naming", .ref na)]) ∧ H dt = some (.dK (two (.str (S l1)) (.str (S l2))))
theorem PjAt.ext {CP p : Addr} {H H' : Hp} {l1 l2 : List Nat} (a : PjAt CP H p l1 l2) (k : ExtN H H') : PjAt CP H' p l1 l2 := by
  obtain ⟨dx, dt, de, na, h1, h2⟩ := a
  exact ⟨dx, dt, de, na, k _ _ h1 ins_tbl, k _ _ h2 dk_tbl⟩
def spPI (CP pF : Addr) : Sp := fun vs H Q _ => ∃ (p dx d : Addr) (l1 l2 : List Nat), vs = [.ref p, .ref d] ∧ H p = some (.ins CP dx []) ∧ H d = some (.dK (two (.str (S l1)) (.str (S l2)))) ∧ Cmt l1 ∧ Cmt l2 ∧ l1.length ≤ 5000 ∧ l2.length ≤ 5000 ∧ Tabs (TTb pF) H ∧
  ∀ H', ExtB p H H' → Tabs (TTb pF) H' → PjAt CP H' p l1 l2 → Q .non H'
theorem ok_PI {fd fdIN fdRM fdNA : FuncData} {k : Nat} (F : Fun K "__init__" "Project.__init__" sPI fPI fd) (T : T4 K mg aW) (NP : NcT K CP prFs) (CNa : C4 K mg "Naming" CN fNA naFs)
    (GIN : FnOk P w K mg base CX0 1 fIN fdIN ["value"] spIN) (gIN : mg "is_name" = some (.ref fIN)) (kIN : PySem.W.keepIn K (.ref fIN) = true) (bIN : Binds K fdIN ["value"] [])
    (GRM : FnOk P w K mg base CX0 6 fRM fdRM ["text"] spRM) (gRM : mg "read_module" = some (.ref fRM)) (kRM : PySem.W.keepIn K (.ref fRM) = true) (bRM : Binds K fdRM ["text"] [])
    (GNA : FnOk P w K mg base CX0 8 fNA fdNA ["self", "trees"] (spNA CN pF)) (bNA : Binds K fdNA ["self", "trees"] []) (NN : NcT K CN naFs) :
    FnOk P w K mg base CX0 (k + 10) fPI fd ["self", "modules"] (spPI CP pF) := by
  refine F.ok scPI (fun vs H Q E h => ?_) (fun cdv A outer s H vs Q E hr h => ?_)
  · obtain ⟨p, dx, d, l1, l2, rfl, _⟩ := h
    rfl
  · obtain ⟨p, dx, d, l1, l2, rfl, hp, hd, c1, c2, n1, n2, hT, q⟩ := h
    have no := NP.no
    refine ⟨_,
(pss_cons (ps_lock (ps_for PassesOwn.never rfl (pi_keys (pv 1)) (pg_name (i := 2) scPI.nd rfl (.inl rfl))
 (pss_one (ps_if (pt_not (pt_val (pe_call GIN (hr.mono (by omega)) (by rfl) gIN kIN bIN .nil pass0 (pa_cons (pv 2) pa_nil))))
 (pss_one ps_never)
 pss_nil))))
 (pss_cons (ps_fld (pv 0) (pe_dc (own := [("name", 2)]) rfl scPI.nd (pi_list (pe_callB (call_sortedD rfl) (by rfl) T.sorted (by decide +kernel) (pa_cons (pv 1) pa_nil))) (blkOk_by (own := [("name", 2)]) (N := ["self", "modules", "name", "text"]) (sc := defScope sPI) (by decide +kernel)) (fun _ _ _ _ _ => pg_name (i := 2) scPI.nd rfl (Or.inl rfl)) (fun _ _ _ _ _ => pts_nil) (fun _ _ _ _ _ => pv 2) (fun _ _ _ _ _ => (pe_dget (hu_of hr) (pv 1) (pv 2) (fun _ _ => rfl)))) rfl)
 (pss_cons (ps_fld (pv 0) (pe_lock (pe_dc (g := gTup K 2 (gCons (gName 2) (gCons (gName 3) gNil))) (own := [("name", 2), ("text", 3)]) rfl scPI.nd (pi_items (pe_fld (pv 0) rfl)) (blkOk_by (own := [("name", 2), ("text", 3)]) (N := ["self", "modules", "name", "text"]) (sc := defScope sPI) (by decide +kernel)) (fun _ _ _ _ _ => by exact pg_tup rfl (by exact pgs_cons (by exact pg_name (i := 2) scPI.nd rfl (Or.inl rfl)) (by exact pgs_cons (by exact pg_name (i := 3) scPI.nd rfl (Or.inl rfl)) pgs_nil))) (fun _ _ _ _ _ => pts_nil) (fun _ _ _ _ _ => pv 2) (fun _ _ _ _ _ => (pe_call GRM (hr.mono (by omega)) (by rfl) gRM kRM bRM .nil pass0 (pa_cons (pv 3) pa_nil))))) rfl)
 (pss_cons (ps_fld (pv 0) (pe_make CNa.M GNA (hr.mono (by omega)) (by rfl) CNa.g bNA .nil pass0 (pa_cons (pe_fld (pv 0) rfl) pa_nil)) rfl)
 (pss_one (ps_if (pt_truth (pe_fld (pe_fld (pv 0) rfl) rfl) (by intro _; rfl))
 (pss_one ps_never)
 pss_nil)))))), ?_⟩
    have npd : p ≠ d := ne_of hp hd (by intro z; cases z)
    have iM : isName [109] = true := by decide +kernel
    have iN : isName [110] = true := by decide +kernel
    -- the names
    refine ⟨d, _, hd, trivial, fun od => ⟨_, rfl, d, od, rfl, .inl ⟨_, upd_same, ?_⟩⟩⟩
    obtain ⟨HL, eL⟩ : ∃ HL, HL = L2.upd H d (.frz od (.dK (two (.str (S l1)) (.str (S l2))))) := ⟨_, rfl⟩
    have Ld : HL d = some (.frz od (.dK (two (.str (S l1)) (.str (S l2))))) := by rw [eL]; exact upd_same
    rw [← eL]
    refine for2 (fun σ' H' => (∃ y2 y3, σ' = [some (.ref p), some (.ref d), y2, y3]) ∧ Same HL H') (fun σ' H' => (∃ y2 y3, σ' = [some (.ref p), some (.ref d), y2, y3]) ∧ Same HL H') ⟨Ld, by show 0 < 2; decide⟩ ?_ ?_ ?_
    · rintro σ' H1 ⟨⟨y2, y3, rfl⟩, sm⟩
      refine ⟨⟨sm _ _ Ld, by show 1 < 2; decide⟩, ?_⟩
      rintro x H2 ⟨e, k, v, ek, ex⟩
      subst e
      cases ek
      subst ex
      refine ⟨_, rfl, [110], (congrArg (fun z => [V.str z]) tN), by decide, fun H3 s3 => ⟨_, rfl, iteF' (by rw [iN]; rfl) ⟨⟨_, _, rfl⟩, sm.trans s3⟩⟩⟩
    · rintro σ' H1 ⟨⟨y2, y3, rfl⟩, sm⟩
      refine ⟨⟨sm _ _ Ld, by show 2 ≤ 2; decide⟩, sm _ _ Ld, ?_⟩
      have S1 : Same H (L2.upd H1 d (.dK (two (.str (S l1)) (.str (S l2))))) := same_relock hd (by rw [← eL]; exact sm)
      obtain ⟨H2, e2⟩ : ∃ H2, H2 = L2.upd H1 d (.dK (two (.str (S l1)) (.str (S l2)))) := ⟨_, rfl⟩
      rw [← e2] at S1 ⊢
      have hp2 := S1 _ _ hp
      have hd2 := S1 _ _ hd
      have T2 := tabs_same hT S1
      clear e2 sm Ld eL
      -- the texts
      refine ⟨_, rfl, d, _, mnL, rfl, .inl hd2, rfl, by decide, fun ys ly pm so nly => ?_⟩
      have ey := sort_mn pm so
      subst ey
      have S3 := same_new (o := .lst (mnL.map V.str)) nly
      obtain ⟨H3, e3⟩ : ∃ H3, H3 = L2.upd H2 ly (.lst (mnL.map V.str)) := ⟨_, rfl⟩
      have hly : H3 ly = some (.lst (mnL.map V.str)) := by rw [e3]; exact upd_same
      rw [← e3] at S3 ⊢
      refine ⟨ly, rfl, ⟨_, .inl (.inl hly)⟩, fun D hD => ?_⟩
      have sD : ∀ o, Same H3 (L2.upd H3 D o) := fun o => same_new hD
      have hl3 : ∀ o, SqL K (L2.upd H3 D o) ly (mnL.map V.str) := fun o => .inl (.inl (sD o _ _ hly))
      refine dc2 (fun H' => H' = L2.upd H3 D (.dK [(.inr "m", .str (S l1))])) (fun H' => H' = L2.upd H3 D (.dK (two (.str (S l1)) (.str (S l2))))) ⟨_, _, hl3 _, rfl⟩ ?_ ?_ ?_
      · rintro H4 rfl
        refine ⟨⟨_, _, hl3 _, rfl⟩, ?_⟩
        rintro x H5 ⟨e, y⟩
        subst e
        have ex := y _ (hl3 _)
        cases ex
        refine ⟨rfl, _, rfl, _, rfl, _, rfl, d, .str (S l2), rfl, .inl ⟨_, .inr "n", .inl (sD _ _ _ (S3 _ _ hd2)), rfl, (get_n _ _).symm⟩, _, .inr "n", rfl, upd_same, (by show 1 < sizeLine; decide), ?_⟩
        rw [upd2, put_one]
      · rintro H4 rfl
        refine ⟨⟨_, hl3 _, Nat.le_refl _⟩, ?_⟩
        have nDp : D ≠ p := (ne_of_none (S3 _ _ hp2) hD).symm
        refine ⟨_, rfl, p, CP, dx, _, rfl, sD _ _ _ (S3 _ _ hp2), NP.cl, no _ (by simp), (by show 0 < 1000; decide), ?_⟩
        obtain ⟨HA, eA⟩ : ∃ HA, HA = L2.upd (L2.upd H3 D (.dK (two (.str (S l1)) (.str (S l2))))) p (.ins CP dx (putF "_texts" (.ref D) [])) := ⟨_, rfl⟩
        have Ap : HA p = some (.ins CP dx (putF "_texts" (.ref D) [])) := by rw [eA]; exact upd_same
        have AD : HA D = some (.dK (two (.str (S l1)) (.str (S l2)))) := by rw [eA, upd_ne nDp]; exact upd_same
        have AT : Tabs (TTb pF) HA := by rw [eA]; exact tabs_put (tabs_same (tabs_same T2 S3) (sD _)) (sD _ _ _ (S3 _ _ hp2)) ins_tbl ins_code
        have Ae : ExtB p H HA := by rw [eA]; exact ((ExtB.of (.same S1)).trans (.of (.same S3))).trans ((ExtB.of (.same (sD _))).trans .upd)
        rw [← eA]
        clear eA e3 hly S3 hD sD hl3 nly pm so T2 hp2 hd2 S1
        -- the trees
        refine ⟨D, _, AD, trivial, fun od2 => ⟨_, rfl, p, CP, dx, _, _, rfl, (by rw [upd_ne nDp.symm]; exact Ap), NP.cl, no _ (by simp), rfl, D, od2, _, rfl, upd_same, fun D2 hD2 => ?_⟩⟩
        obtain ⟨HM, eM⟩ : ∃ HM, HM = L2.upd HA D (.frz od2 (.dK (two (.str (S l1)) (.str (S l2))))) := ⟨_, rfl⟩
        have MD : HM D = some (.frz od2 (.dK (two (.str (S l1)) (.str (S l2))))) := by rw [eM]; exact upd_same
        have Mp : HM p = some (.ins CP dx (putF "_texts" (.ref D) [])) := by rw [eM, upd_ne nDp.symm]; exact Ap
        rw [← eM] at hD2 ⊢
        have nD2 : D2 ≠ D := (ne_of_none MD hD2).symm
        have nD2p : D2 ≠ p := (ne_of_none Mp hD2).symm
        have cS : ∀ {H' : Hp} {o : HO}, Same HM H' → Same HM (L2.upd H' D2 o) := fun {H' o} s b u h => by
          rw [upd_ne (ne_of_none h hD2)]
          exact s _ _ h
        refine dc2 (fun H' => ∃ r1, H' D2 = some (.dK [(.inr "m", .ref r1)]) ∧ H' r1 = some (.lst []) ∧ Same HM H') (fun H' => ∃ r1 r2, H' D2 = some (.dK (two (.ref r1) (.ref r2))) ∧ H' r1 = some (.lst []) ∧ H' r2 = some (.lst []) ∧ Same HM H') ⟨by rw [upd_ne nD2.symm]; exact MD, by show 0 < 2; decide⟩ ?_ ?_ ?_
        · rintro H4 ⟨r1, a1, a2, a3⟩
          refine ⟨⟨a3 _ _ MD, by show 1 < 2; decide⟩, ?_⟩
          rintro x H5 ⟨T0, kk, v, ek, rfl, nT, rfl⟩
          cases ek
          have sT := same_new (o := .tup [kV (.inr "n"), .str (S l2)]) nT
          refine ⟨T0, _, rfl, .inl (.inl upd_same), rfl, _, _, rfl, _, _, rfl, rfl, rfl, _, rfl, _, rfl, l2, rfl, c2, n2, fun r2 H6 s6 nr h6 => ?_⟩
          have b1 := s6 _ _ (sT _ _ a1)
          have nr2 : r2 ≠ D2 := ne_of h6 b1 (by intro z; cases z)
          have nr1 : r1 ≠ D2 := ne_of a2 a1 (by intro z; cases z)
          refine ⟨_, .inr "n", rfl, b1, (by show 1 < sizeLine; decide), r1, r2, by rw [upd_same, put_one], by rw [upd_ne nr1]; exact s6 _ _ (sT _ _ a2), by rw [upd_ne nr2]; exact h6, cS ((a3.trans sT).trans s6)⟩
        · rintro H4 ⟨r1, r2, a1, a2, a3, a4⟩
          have a4D := a4 _ _ MD
          refine ⟨⟨a4D, by show 2 ≤ 2; decide⟩, a4D, ?_⟩
          have S5 : Same HA (L2.upd H4 D (.dK (two (.str (S l1)) (.str (S l2))))) := same_relock AD (by rw [← eM]; exact a4)
          have nr1 : r1 ≠ D := ne_of a2 a4D (by intro z; cases z)
          have nr2 : r2 ≠ D := ne_of a3 a4D (by intro z; cases z)
          have b0 : L2.upd H4 D (.dK (two (.str (S l1)) (.str (S l2)))) D2 = some (.dK (two (.ref r1) (.ref r2))) := by rw [upd_ne nD2]; exact a1
          have b1 : L2.upd H4 D (.dK (two (.str (S l1)) (.str (S l2)))) r1 = some (.lst []) := by rw [upd_ne nr1]; exact a2
          have b2 : L2.upd H4 D (.dK (two (.str (S l1)) (.str (S l2)))) r2 = some (.lst []) := by rw [upd_ne nr2]; exact a3
          obtain ⟨H5, e5⟩ : ∃ H5, H5 = L2.upd H4 D (.dK (two (.str (S l1)) (.str (S l2)))) := ⟨_, rfl⟩
          rw [← e5] at S5 b0 b1 b2 ⊢
          have hp5 := S5 _ _ Ap
          refine ⟨_, rfl, p, CP, dx, _, rfl, hp5, NP.cl, no _ (by simp), (by show 1 < 1000; decide), ?_⟩
          have k6 : KeepBut p H5 (L2.upd H5 p (.ins CP dx (putF "_trees" (.ref D2) (putF "_texts" (.ref D) [])))) := .upd
          have d0 := k6 _ _ nD2p b0
          have d1 := k6 _ _ (ne_of b1 hp5 (by intro z; cases z)) b1
          have d2 := k6 _ _ (ne_of b2 hp5 (by intro z; cases z)) b2
          have dD := k6 _ _ nDp (S5 _ _ AD)
          have dT := tabs_but (tabs_same AT S5) k6 hp5 ins_tbl ins_code
          have dE : ExtB p H _ := (Ae.trans (.of (.same S5))).trans (.of k6)
          obtain ⟨H6, e6⟩ : ∃ H6, H6 = L2.upd H5 p (.ins CP dx (putF "_trees" (.ref D2) (putF "_texts" (.ref D) []))) := ⟨_, rfl⟩
          have hp6 : H6 p = some (.ins CP dx (putF "_trees" (.ref D2) (putF "_texts" (.ref D) []))) := by rw [e6]; exact upd_same
          rw [← e6] at d0 d1 d2 dD dT dE ⊢
          clear k6 e6
          -- the naming
          refine ⟨_, rfl, p, CP, dx, _, _, rfl, hp6, NP.cl, no _ (by simp), rfl, fun na dxn nx ndx _ => ?_⟩
          have mk := made nx ndx (.refl _ _) (o := .ins CN dxn [])
          refine ⟨na, dxn, D2, r1, r2, rfl, upd_same, mk _ _ d0, mk _ _ d1, mk _ _ d2, tabs_same dT mk, fun H7 fs lb e7 t7 h7 f7 l7 => ⟨rfl, ?_⟩⟩
          have eN := made_ext nx ndx e7
          have hp7 := eN _ _ hp6 ins_tbl
          have nnp : na ≠ p := (ne_of_none hp6 nx).symm
          refine ⟨_, rfl, p, CP, dx, _, rfl, hp7, NP.cl, no _ (by simp), (by show 2 < 1000; decide), ?_⟩
          have nlp : lb ≠ p := ne_of l7 hp7 (by intro z; cases z)
          refine ⟨_, rfl, p, CP, dx, _, _, rfl, upd_same, NP.cl, no _ (by simp), rfl, na, CN, dxn, fs, _, rfl, (by rw [upd_ne nnp]; exact h7), NN.cl, NN.no _ (by simp), f7, false, .inl ⟨[], .inl (.inl (by rw [upd_ne nlp]; exact l7)), rfl⟩, iteF ?_⟩
          refine q _ ((dE.trans (.ext eN)).trans .upd) (tabs_put t7 hp7 ins_tbl ins_code) ⟨dx, D, D2, na, upd_same, ?_⟩
          rw [upd_ne nDp]
          exact eN _ _ dD dk_tbl
        · rintro x H5 ⟨T0, kk, v, ek, rfl, nT, rfl⟩
          cases ek
          have sT := same_new (o := .tup [kV (.inr "m"), .str (S l1)]) nT
          refine ⟨T0, _, rfl, .inl (.inl upd_same), rfl, _, _, rfl, _, _, rfl, rfl, rfl, _, rfl, _, rfl, l1, rfl, c1, n1, fun r1 H6 s6 nr h6 => ?_⟩
          have b1 := s6 _ _ (sT _ _ (upd_same : L2.upd HM D2 (.dK []) D2 = _))
          have nr1 : r1 ≠ D2 := ne_of h6 b1 (by intro z; cases z)
          refine ⟨_, .inr "m", rfl, b1, (by show 0 < sizeLine; decide), r1, upd_same, by rw [upd_ne nr1]; exact h6, cS (((same_new hD2).trans sT).trans s6)⟩
      · rintro x H5 ⟨e, y⟩
        subst e
        have ex := y _ (hl3 _)
        cases ex
        refine ⟨rfl, _, rfl, _, rfl, _, rfl, d, .str (S l1), rfl, .inl ⟨_, .inr "m", .inl (sD _ _ _ (S3 _ _ hd2)), rfl, (get_m _ _).symm⟩, _, .inr "m", rfl, upd_same, (by show 0 < sizeLine; decide), ?_⟩
        rw [upd2]
        rfl
    · rintro x H2 ⟨e, k, v, ek, ex⟩
      subst e
      cases ek
      subst ex
      refine ⟨_, rfl, [109], (congrArg (fun z => [V.str z]) tM), by decide, fun H3 s3 => ⟨_, rfl, iteF' (by rw [iM]; rfl) ⟨⟨_, _, rfl⟩, s3⟩⟩⟩
/-- has(m): m a text of the two, or none of them, or no text -/
def spHA (K : PySem.W.Frag) (CP : Addr) : Sp := fun vs H Q _ => ∃ (p : Addr) (l1 l2 : List Nat) (x : V), vs = [.ref p, x] ∧ PjAt CP H p l1 l2 ∧
  ((∃ z : Str, x = .str z ∧ Q (.bl (valV (two (.str (S l1)) (.str (S l2))) (.inr z)).isSome) H) ∨ ∃ t, TyX K H x t ∧ PySem.W.kitOne K t (.type "str") = some false ∧ Q (.bl false) H)
theorem ok_HA {fd : FuncData} {k : Nat} (F : Fun K "has" "Project.has" sHA fHA fd) (T : T4 K mg aW) (NP : NcT K CP prFs) : FnOk P w K mg base CX0 (k + 1) fHA fd ["self", "module"] (spHA K CP) := by
  refine F.ok scHA (fun vs H Q E h => ?_) (fun cdv A outer s H vs Q E hr h => ?_)
  · obtain ⟨p, l1, l2, x, rfl, _⟩ := h
    rfl
  · obtain ⟨p, l1, l2, x, rfl, ⟨dx, dt, de, na, h1, h2⟩, q⟩ := h
    refine ⟨_,
(pss_one (ps_ret (pe_and (pe_callB call_isi (by rfl) T.isinstance (by decide +kernel) (pa_cons (pv 1) (pa_cons (pe_bltn (v := .ty "str") (by rfl) T.str (by decide +kernel) rfl) pa_nil))) (pe_one (pe_cmp (pc_din (hu_of hr) (pv 1) (pe_fld (pv 0) rfl)) rfl))))), ?_⟩
    rcases q with ⟨z, rfl, q⟩ | ⟨t, ty, kt, q⟩
    · refine ⟨_, rfl, .str z, .ty "str", _, _, true, rfl, .ty _, .base (.str _), str_type, true, rfl, iteT ?_⟩
      exact ⟨_, rfl, _, rfl, p, CP, dx, _, _, rfl, h1, NP.cl, NP.no _ (by simp), rfl, dt, _, rfl, .inl ⟨_, .inr z, .inl h2, rfl, rfl⟩, q⟩
    · exact ⟨_, rfl, x, .ty "str", _, _, false, rfl, .ty _, ty, kt, false, rfl, iteF q⟩
/-- text_of("m"), text_of("n") -/
def spTO (CP : Addr) : Sp := fun vs H Q _ => ∃ (p : Addr) (l1 l2 l : List Nat) (z : Str), vs = [.ref p, .str z] ∧ PjAt CP H p l1 l2 ∧ valV (two (.str (S l1)) (.str (S l2))) (.inr z) = some (.str (S l)) ∧ Q (.str (S l)) H
theorem ok_TO {fd fdHA : FuncData} {k : Nat} (F : Fun K "text_of" "Project.text_of" sTO fTO fd) (NP : NcT K CP prFs) (mHA : Meth K CP "has" fHA) (GHA : FnOk P w K mg base CX0 1 fHA fdHA ["self", "module"] (spHA K CP)) (bHA : Binds K fdHA ["self", "module"] []) :
    FnOk P w K mg base CX0 (k + 2) fTO fd ["self", "module"] (spTO CP) := by
  refine F.ok scTO (fun vs H Q E h => ?_) (fun cdv A outer s H vs Q E hr h => ?_)
  · obtain ⟨p, l1, l2, l, z, rfl, _⟩ := h
    rfl
  · obtain ⟨p, l1, l2, l, z, rfl, pj, hv, q⟩ := h
    refine ⟨_,
(pss_cons (ps_if (pt_not (pt_val (pe_meth (pv 0) NP.cl mHA GHA (hr.mono (by omega)) bHA .nil pass0 (pa_cons (pv 1) pa_nil))))
 (pss_one ps_never)
 pss_nil)
 (pss_one (ps_ret (pe_dget (hu_of hr) (pe_fld (pv 0) rfl) (pv 1) (fun _ _ => rfl))))), ?_⟩
    have pj' := pj
    obtain ⟨dx, dt, de, na, h1, h2⟩ := pj'
    refine ⟨_, rfl, p, dx, _, rfl, h1, rfl, _, rfl, p, l1, l2, .str z, rfl, pj, .inl ⟨z, rfl, ?_⟩⟩
    rw [hv]
    refine ⟨true, rfl, iteF ?_⟩
    exact ⟨_, rfl, p, CP, dx, _, _, rfl, h1, NP.cl, NP.no _ (by simp), rfl, _, rfl, dt, _, rfl, .inl ⟨_, .inr z, .inl h2, rfl, hv.symm⟩, q⟩
end
end KB
namespace KB
open PySem PySem.Spec PyProof.Rows L2 LamX ItT SDc Ch3
abbrev sII : Stmt := topS 2
abbrev sIR : Stmt := topS 3
abbrev sIT : Stmt := topS 4
abbrev sSL : Stmt := topS 6
abbrev sIP : Stmt := topS 7
/-! ### the mathematics of the layout -/
inductive Pc where
  | good (a b : Int) (z : List Nat)
  | bad
def fits (l : List Nat) (at_ a b : Int) : Prop := at_ ≤ a ∧ a ≤ b ∧ b ≤ (l.length : Int)
instance (l : List Nat) (at_ a b : Int) : Decidable (fits l at_ a b) := by unfold fits; infer_instance
def lay (l : List Nat) : List Pc → Int → List (List Nat) → Option (List Nat)
  | [], at_, rows => some (rows.flatten ++ l.drop at_.toNat)
  | .good a b z :: r, at_, rows => if fits l at_ a b then lay l r b (rows ++ [(l.drop at_.toNat).take (a.toNat - at_.toNat) ++ z]) else none
  | .bad :: _, _, _ => none
theorem lay_good (l z : List Nat) (a b at_ : Int) (r : List Pc) (rows : List (List Nat)) : lay l (.good a b z :: r) at_ rows = if fits l at_ a b then lay l r b (rows ++ [(l.drop at_.toNat).take (a.toNat - at_.toNat) ++ z]) else none := rfl
theorem joinL_nil : ∀ w : List (List Nat), TL.joinL [] w = w.flatten
  | [] => rfl
  | [a] => by simp [TL.joinL]
  | a :: b :: r => by
    show a ++ ([] ++ TL.joinL [] (b :: r)) = _
    rw [joinL_nil (b :: r)]
    simp
theorem join_flat (w : List (List Nat)) : Txt.join (S []) (w.map S) = S w.flatten := by
  have z := SX.join_S [] w
  rw [joinL_nil] at z
  exact z
theorem cut_rest (l : List Nat) (i : Nat) (hi : i ≤ l.length) : cutS (S l) (some (i : Int)) none = S (l.drop i) := by
  have z := cut_at l i l.length hi (Nat.le_refl _)
  have e : cutS (S l) (some (i : Int)) none = cutS (S l) (some (i : Int)) (some (l.length : Int)) := by
    unfold cutS
    rw [HT.sIx_nat, HT.sIx_nat, S_len]
    try rw [Nat.min_self]
    rfl
  rw [e, z, List.take_of_length_le (by rw [List.length_drop]; omega)]
def PcAt (H : Hp) (x : V) : Pc → Prop
  | .good a b z => ∃ t, x = .ref t ∧ H t = some (.tup [.int a, .int b, .str (S z)])
  | .bad => x = .non ∨ (∃ t xs, x = .ref t ∧ H t = some (.tup xs) ∧ xs.length ≠ 3 ∧ xs.length ≤ 3) ∨ (∃ t a b c, x = .ref t ∧ H t = some (.tup [.int a, .int b, .int c])) ∨ ∃ t k a v, x = .ref t ∧ H t = some (.tup [.bl k, a, v])
theorem PcAt.same {H H' : Hp} {x : V} {c : Pc} (a : PcAt H x c) (s : Same H H') : PcAt H' x c := by
  cases c with
  | good i j z =>
    obtain ⟨t, e, h⟩ := a
    exact ⟨t, e, s _ _ h⟩
  | bad =>
    rcases a with h | ⟨t, xs, e, h, n, n2⟩ | ⟨t, i, j, c, e, h⟩ | ⟨t, k, i, v, e, h⟩
    · exact .inl h
    · exact .inr (.inl ⟨t, xs, e, s _ _ h, n, n2⟩)
    · exact .inr (.inr (.inl ⟨t, i, j, c, e, s _ _ h⟩))
    · exact .inr (.inr (.inr ⟨t, k, i, v, e, s _ _ h⟩))
def Pc.ok : Pc → Prop
  | .good _ _ z => z.length ≤ 1000
  | .bad => True
section
variable {P : Program} {w : World} {K : PySem.W.Frag} {mg : Str → Option Value} {base : Heap} {aW CP fII fIR fIT fIP fSL fHA fTO : Addr}
theorem scII : FnScope ["value"] ["value"] (defScope sII) := ⟨rfl, rfl, rfl, by decide +kernel, rfl, by decide +kernel, by decide +kernel⟩
theorem scIR : FnScope ["value"] ["value"] (defScope sIR) := ⟨rfl, rfl, rfl, by decide +kernel, rfl, by decide +kernel, by decide +kernel⟩
theorem scIT : FnScope ["value", "many"] ["value", "many"] (defScope sIT) := ⟨rfl, rfl, rfl, by decide +kernel, rfl, by decide +kernel, by decide +kernel⟩
theorem scIP : FnScope ["piece", "least", "most"] ["piece", "least", "most"] (defScope sIP) := ⟨rfl, rfl, rfl, by decide +kernel, rfl, by decide +kernel, by decide +kernel⟩
theorem scSL : FnScope ["old", "new", "module", "pieces", "text", "rows", "at", "piece"] ["old", "new", "module", "pieces"] (defScope sSL) := ⟨rfl, rfl, rfl, by decide +kernel, rfl, by decide +kernel, by decide +kernel⟩
def spII : Sp := fun vs H Q _ => (∃ n : Int, vs = [.int n] ∧ Q (.bl true) H) ∨ ∃ k : Bool, vs = [.bl k] ∧ Q (.bl false) H
theorem ok_II {fd : FuncData} {k : Nat} (F : Fun K "is_integer" "is_integer" sII fII fd) (T : T4 K mg aW) : FnOk P w K mg base CX0 (k + 1) fII fd ["value"] spII := by
  refine F.ok scII (fun vs H Q E h => ?_) (fun cdv A outer s H vs Q E hr h => ?_)
  · rcases h with ⟨n, rfl, _⟩ | ⟨k, rfl, _⟩ <;> rfl
  · refine ⟨_,
(pss_one (ps_ret (pe_and (pe_callB call_isi (by rfl) T.isinstance (by decide +kernel) (pa_cons (pv 0) (pa_cons (pe_bltn (v := .ty "int") (by rfl) T.int (by decide +kernel) rfl) pa_nil))) (pe_one (pe_not (pe_callB call_isi (by rfl) T.isinstance (by decide +kernel) (pa_cons (pv 0) (pa_cons (pe_bltn (v := .ty "bool") (by rfl) T.bool (by decide +kernel) rfl) pa_nil)))))))), ?_⟩
    rcases h with ⟨n, rfl, q⟩ | ⟨b, rfl, q⟩
    · exact ⟨_, rfl, .int n, .ty "int", _, _, true, rfl, .ty _, .base (.int _), kit_ty (by decide +kernel), true, rfl, iteT ⟨_, rfl, .int n, .ty "bool", _, _, false, rfl, .ty _, .base (.int _), kit_ty (by decide +kernel), false, rfl, q⟩⟩
    · exact ⟨_, rfl, .bl b, .ty "int", _, _, true, rfl, .ty _, .base (.bl _), kit_ty (by decide +kernel), true, rfl, iteT ⟨_, rfl, .bl b, .ty "bool", _, _, true, rfl, .ty _, .base (.bl _), kit_ty (by decide +kernel), true, rfl, q⟩⟩
def spIR (K : PySem.W.Frag) : Sp := fun vs H Q _ => ∃ (x : V) (n : String) (b : Bool), vs = [x] ∧ (∀ H', Same H H' → TyX K H' x (.type n)) ∧ PySem.W.kitAny K (.type n) [.type "list", .type "tuple"] = some b ∧ ∀ H', Same H H' → Q (.bl b) H'
theorem ok_IR {fd : FuncData} {k : Nat} (F : Fun K "is_row" "is_row" sIR fIR fd) (T : T4 K mg aW) : FnOk P w K mg base CX0 (k + 1) fIR fd ["value"] (spIR K) := by
  refine F.ok scIR (fun vs H Q E h => ?_) (fun cdv A outer s H vs Q E hr h => ?_)
  · obtain ⟨x, n, b, rfl, _⟩ := h
    rfl
  · obtain ⟨x, n, b, rfl, ty, kt, q⟩ := h
    refine ⟨_,
(pss_one (ps_ret (pe_callB call_isiT (by rfl) T.isinstance (by decide +kernel) (pa_cons (pv 0) (pa_cons (pe_tup (pa_cons (pe_bltn (v := .ty "list") (by rfl) T.list (by decide +kernel) rfl) (pa_cons (pe_bltn (v := .ty "tuple") (by rfl) T.tuple (by decide +kernel) rfl) pa_nil))) pa_nil))))), ?_⟩
    refine ⟨_, rfl, (by show 2 ≤ sizeLine; decide), fun t nt => ?_⟩
    exact ⟨x, t, _, _, _, b, rfl, upd_same, .cons (.ty _) (.cons (.ty _) .nil), ty _ (same_new nt), kt, q _ (same_new nt)⟩
def spIT : Sp := fun vs H Q _ => ∃ x : V, vs = [x, .int 3] ∧ ((x = .non ∧ Q (.bl false) H) ∨ ∃ t xs, x = .ref t ∧ H t = some (.tup xs) ∧ xs.length ≤ 3 ∧ Q (.bl (decide (xs.length = 3))) H)
theorem ok_IT {fd : FuncData} {k : Nat} (F : Fun K "is_tuple_of" "is_tuple_of" sIT fIT fd) (T : T4 K mg aW) : FnOk P w K mg base CX0 (k + 1) fIT fd ["value", "many"] spIT := by
  refine F.ok scIT (fun vs H Q E h => ?_) (fun cdv A outer s H vs Q E hr h => ?_)
  · obtain ⟨x, rfl, _⟩ := h
    rfl
  · obtain ⟨x, rfl, h⟩ := h
    refine ⟨_,
(pss_one (ps_ret (pe_and (pe_callB call_isi (by rfl) T.isinstance (by decide +kernel) (pa_cons (pv 0) (pa_cons (pe_bltn (v := .ty "tuple") (by rfl) T.tuple (by decide +kernel) rfl) pa_nil))) (pe_one (pe_cmpR op_eq (pe_callB call_len_seq (by rfl) T.len (by decide +kernel) (pa_cons (pv 0) pa_nil)) (pv 1) (nomark _)))))), ?_⟩
    rcases h with ⟨rfl, q⟩ | ⟨t, xs, rfl, ht, n, q⟩
    · exact ⟨_, rfl, .non, .ty "tuple", _, _, false, rfl, .ty _, .base .non, kit_ty (by decide +kernel), false, rfl, iteF q⟩
    · refine ⟨_, rfl, .ref t, .ty "tuple", _, _, true, rfl, .ty _, .base (.tup ht), kit_ty (by decide +kernel), true, rfl, iteT ?_⟩
      refine ⟨_, rfl, t, _, rfl, .inr (.inl (.inl ht)), _, rfl, rfl, ?_⟩
      have e : decide (V.int ((xs.length : Nat) : Int) = V.int 3) = decide (xs.length = 3) := by
        by_cases h : xs.length = 3
        · rw [decide_eq_true h, h]
          rfl
        · rw [decide_eq_false h, decide_eq_false]
          intro z
          have := V.int.inj z
          omega
      rw [e]
      exact q
def spIP : Sp := fun vs H Q _ => ∃ (x : V) (lo hi : Int) (c : Pc), vs = [x, .int lo, .int hi] ∧ PcAt H x c ∧ Q (.bl (match c with
  | .good a b _ => decide (lo ≤ a ∧ a ≤ b ∧ b ≤ hi)
  | .bad => false)) H
theorem ok_IP {fd fdIT fdII : FuncData} {k : Nat} (F : Fun K "_is_piece" "_is_piece" sIP fIP fd) (T : T4 K mg aW) (GIT : FnOk P w K mg base CX0 1 fIT fdIT ["value", "many"] spIT) (gIT : mg "is_tuple_of" = some (.ref fIT)) (kIT : PySem.W.keepIn K (.ref fIT) = true) (bIT : Binds K fdIT ["value", "many"] [])
    (GII : FnOk P w K mg base CX0 1 fII fdII ["value"] spII) (gII : mg "is_integer" = some (.ref fII)) (kII : PySem.W.keepIn K (.ref fII) = true) (bII : Binds K fdII ["value"] []) :
    FnOk P w K mg base CX0 (k + 2) fIP fd ["piece", "least", "most"] spIP := by
  refine F.ok scIP (fun vs H Q E h => ?_) (fun cdv A outer s H vs Q E hr h => ?_)
  · obtain ⟨x, lo, hi, c, rfl, _⟩ := h
    rfl
  · obtain ⟨x, lo, hi, c, rfl, hx, q⟩ := h
    refine ⟨_,
(pss_cons (ps_if (PW.pt (pw_or (pt_not (pt_val (pe_call GIT (hr.mono (by omega)) (by rfl) gIT kIT bIT .nil pass0 (pa_cons (pv 0) (pa_cons pe_int pa_nil))))) (pw_or (pt_not (pt_val (pe_call GII (hr.mono (by omega)) (by rfl) gII kII bII .nil pass0 (pa_cons (pe_ix ix_tup (pv 0) pe_int (fun _ _ => rfl)) pa_nil)))) (pw_or1 (pt_not (pt_val (pe_call GII (hr.mono (by omega)) (by rfl) gII kII bII .nil pass0 (pa_cons (pe_ix ix_tup (pv 0) pe_int (fun _ _ => rfl)) pa_nil))))))))
 (pss_one (ps_ret pe_bl))
 pss_nil)
 (pss_one (ps_ret (pe_and (pe_chain3 op_le op_le op_le (pv 1) (pe_ix ix_tup (pv 0) pe_int (fun _ _ => rfl)) (pe_ix ix_tup (pv 0) pe_int (fun _ _ => rfl)) (pv 2)) (pe_one (pe_callB call_isi (by rfl) T.isinstance (by decide +kernel) (pa_cons (pe_ix ix_tup (pv 0) pe_int (fun _ _ => rfl)) (pa_cons (pe_bltn (v := .ty "str") (by rfl) T.str (by decide +kernel) rfl) pa_nil)))))))), ?_⟩
    cases c with
    | good a b z =>
      obtain ⟨t, rfl, ht⟩ := hx
      have q : Q (.bl (decide (lo ≤ a ∧ a ≤ b ∧ b ≤ hi))) H := q
      have sq : SqT K H t [.int a, .int b, .str (S z)] := .inl (.inl ht)
      refine ⟨_, rfl, .ref t, rfl, .inr ⟨t, _, rfl, ht, (by show 3 ≤ 3; decide), true, rfl, iteF ?_⟩⟩
      refine ⟨_, rfl, t, _, 0, _, rfl, rfl, sq, atI_nat (j := 0) rfl, .inl ⟨a, rfl, true, rfl, iteF ?_⟩⟩
      refine ⟨_, rfl, t, _, 1, _, rfl, rfl, sq, atI_nat (j := 1) rfl, .inl ⟨b, rfl, true, rfl, iteF ?_⟩⟩
      refine ⟨_, rfl, _, rfl, t, _, 0, _, rfl, rfl, sq, atI_nat (j := 0) rfl, _, _, rfl, rfl, _, rfl, ?_⟩
      by_cases h1 : lo ≤ a
      · rw [decide_eq_true h1]
        refine iteT ⟨_, rfl, t, _, 1, _, rfl, rfl, sq, atI_nat (j := 1) rfl, _, _, rfl, rfl, _, rfl, ?_⟩
        by_cases h2 : a ≤ b
        · rw [decide_eq_true h2]
          refine iteT ⟨_, rfl, _, _, rfl, rfl, _, rfl, ?_⟩
          by_cases h3 : b ≤ hi
          · rw [decide_eq_true h3]
            refine iteT ⟨_, rfl, t, _, 2, _, rfl, rfl, sq, atI_nat (j := 2) rfl, .str (S z), .ty "str", _, _, true, rfl, .ty _, .base (.str _), str_type, ?_⟩
            rw [decide_eq_true (show lo ≤ a ∧ a ≤ b ∧ b ≤ hi from ⟨h1, h2, h3⟩)] at q
            exact q
          · rw [decide_eq_false h3]
            rw [decide_eq_false (fun z => h3 z.2.2)] at q
            exact iteF q
        · rw [decide_eq_false h2]
          rw [decide_eq_false (fun z => h2 z.2.1)] at q
          exact iteF ⟨_, rfl, iteF q⟩
      · rw [decide_eq_false h1]
        rw [decide_eq_false (fun z => h1 z.1)] at q
        exact iteF ⟨_, rfl, iteF q⟩
    | bad =>
      have q : Q (.bl false) H := q
      rcases hx with rfl | ⟨t, xs, rfl, ht, n, n2⟩ | ⟨t, a, b, c, rfl, ht⟩ | ⟨t, k, a, v, rfl, ht⟩
      · exact ⟨_, rfl, .non, rfl, .inl ⟨rfl, false, rfl, iteT q⟩⟩
      · refine ⟨_, rfl, .ref t, rfl, .inr ⟨t, _, rfl, ht, n2, ?_⟩⟩
        rw [decide_eq_false n]
        exact ⟨false, rfl, iteT q⟩
      · have sq : SqT K H t [.int a, .int b, .int c] := .inl (.inl ht)
        refine ⟨_, rfl, .ref t, rfl, .inr ⟨t, _, rfl, ht, (by show 3 ≤ 3; decide), true, rfl, iteF ?_⟩⟩
        refine ⟨_, rfl, t, _, 0, _, rfl, rfl, sq, atI_nat (j := 0) rfl, .inl ⟨a, rfl, true, rfl, iteF ?_⟩⟩
        refine ⟨_, rfl, t, _, 1, _, rfl, rfl, sq, atI_nat (j := 1) rfl, .inl ⟨b, rfl, true, rfl, iteF ?_⟩⟩
        refine ⟨_, rfl, _, rfl, t, _, 0, _, rfl, rfl, sq, atI_nat (j := 0) rfl, _, _, rfl, rfl, _, rfl, ?_⟩
        refine bool_if (fun _ => ?_) (fun _ => ⟨_, rfl, iteF q⟩)
        refine ⟨_, rfl, t, _, 1, _, rfl, rfl, sq, atI_nat (j := 1) rfl, _, _, rfl, rfl, _, rfl, ?_⟩
        refine bool_if (fun _ => ?_) (fun _ => ⟨_, rfl, iteF q⟩)
        refine ⟨_, rfl, _, _, rfl, rfl, _, rfl, ?_⟩
        refine bool_if (fun _ => ?_) (fun _ => q)
        exact ⟨_, rfl, t, _, 2, _, rfl, rfl, sq, atI_nat (j := 2) rfl, .int c, .ty "str", _, _, false, rfl, .ty _, .base (.int _), kit_ty (by decide +kernel), q⟩
      · have sq : SqT K H t [.bl k, a, v] := .inl (.inl ht)
        refine ⟨_, rfl, .ref t, rfl, .inr ⟨t, _, rfl, ht, (by show 3 ≤ 3; decide), true, rfl, iteF ?_⟩⟩
        exact ⟨_, rfl, t, _, 0, _, rfl, rfl, sq, atI_nat (j := 0) rfl, .inr ⟨k, rfl, false, rfl, iteT q⟩⟩
theorem paired_get {α β : Type} {R : α → β → Prop} : ∀ {as : List α} {bs : List β} {i : Nat} {a : α}, Paired R as bs → as[i]? = some a → ∃ b, bs[i]? = some b ∧ R a b
  | _, _, i, _, .nil, h => by simp at h
  | _, _, 0, _, .cons r _, h => by
    cases h
    exact ⟨_, rfl, r⟩
  | _, _, i + 1, _, .cons _ t, h => paired_get (i := i) t h
theorem sum_le {n : Nat} : ∀ (l : List Nat), (∀ x ∈ l, x ≤ n) → l.sum ≤ l.length * n
  | [], _ => Nat.zero_le _
  | a :: r, h => by
    have h1 := h a (by simp)
    have h2 := sum_le r (fun x hx => h x (by simp [hx]))
    rw [List.sum_cons, List.length_cons, Nat.succ_mul]
    omega
def spSL (K : PySem.W.Frag) (CP : Addr) : Sp := fun vs H Q _ => ∃ (po pn : Addr) (l1 l2 m1 m2 : List Nat) (xm xp : V), vs = [.ref po, .ref pn, xm, xp] ∧ PjAt CP H po l1 l2 ∧ PjAt CP H pn m1 m2 ∧
  ((((∃ z : Str, xm = .str z ∧ valV (two (.str (S l1)) (.str (S l2))) (.inr z) = none) ∨ ∃ t, TyX K H xm t ∧ PySem.W.kitOne K t (.type "str") = some false) ∧ Q (.bl false) H) ∨
  ∃ (z : Str) (l m : List Nat), xm = .str z ∧ valV (two (.str (S l1)) (.str (S l2))) (.inr z) = some (.str (S l)) ∧ valV (two (.str (S m1)) (.str (S m2))) (.inr z) = some (.str (S m)) ∧
    ((∃ n, (∀ H', Same H H' → TyX K H' xp (.type n)) ∧ PySem.W.kitAny K (.type n) [.type "list", .type "tuple"] = some false ∧ ∀ H', Same H H' → Q (.bl false) H') ∨
    ∃ (a : Addr) (xs : List V) (pcs : List Pc), xp = .ref a ∧ H a = some (.lst xs) ∧ Paired (PcAt H) xs pcs ∧ (∀ c ∈ pcs, c.ok) ∧ pcs.length ≤ 64 ∧ l.length ≤ 5000 ∧ ∀ H', Same H H' → Q (.bl (decide (lay l pcs 0 [] = some m))) H'))
theorem kitL {K : PySem.W.Frag} : PySem.W.kitAny K (.type "list") [.type "list", .type "tuple"] = some true := kitAny_cons (kit_ty (b := "list") (r := true) (by decide +kernel)) (fun z => by cases z) (fun _ => rfl)
theorem ok_SL {fd fdHA fdTO fdIR fdIP : FuncData} {k : Nat} (F : Fun K "same_layout" "same_layout" sSL fSL fd) (T : T4 K mg aW) (NP : NcT K CP prFs) (mHA : Meth K CP "has" fHA) (mTO : Meth K CP "text_of" fTO)
    (GHA : FnOk P w K mg base CX0 1 fHA fdHA ["self", "module"] (spHA K CP)) (bHA : Binds K fdHA ["self", "module"] []) (GTO : FnOk P w K mg base CX0 2 fTO fdTO ["self", "module"] (spTO CP)) (bTO : Binds K fdTO ["self", "module"] [])
    (GIR : FnOk P w K mg base CX0 1 fIR fdIR ["value"] (spIR K)) (gIR : mg "is_row" = some (.ref fIR)) (kIR : PySem.W.keepIn K (.ref fIR) = true) (bIR : Binds K fdIR ["value"] [])
    (GIP : FnOk P w K mg base CX0 2 fIP fdIP ["piece", "least", "most"] spIP) (gIP : mg "_is_piece" = some (.ref fIP)) (kIP : PySem.W.keepIn K (.ref fIP) = true) (bIP : Binds K fdIP ["piece", "least", "most"] []) :
    FnOk P w K mg base CX0 (k + 3) fSL fd ["old", "new", "module", "pieces"] (spSL K CP) := by
  refine F.ok scSL (fun vs H Q E h => ?_) (fun cdv A outer s H vs Q E hr h => ?_)
  · obtain ⟨po, pn, l1, l2, m1, m2, xm, xp, rfl, _⟩ := h
    rfl
  · obtain ⟨po, pn, l1, l2, m1, m2, xm, xp, rfl, pjo, pjn, h⟩ := h
    refine ⟨_,
(pss_cons (ps_if (PW.pt (pw_or (pt_not (pt_val (pe_meth (pv 0) NP.cl mHA GHA (hr.mono (by omega)) bHA .nil pass0 (pa_cons (pv 2) pa_nil)))) (pw_or (pt_not (pt_val (pe_meth (pv 1) NP.cl mHA GHA (hr.mono (by omega)) bHA .nil pass0 (pa_cons (pv 2) pa_nil)))) (pw_or1 (pt_not (pt_val (pe_call GIR (hr.mono (by omega)) (by rfl) gIR kIR bIR .nil pass0 (pa_cons (pv 3) pa_nil))))))))
 (pss_one (ps_ret pe_bl))
 pss_nil)
 (pss_cons (ps_set (i := 4) scSL.nd rfl (.inl rfl) (pe_meth (pv 0) NP.cl mTO GTO (hr.mono (by omega)) bTO .nil pass0 (pa_cons (pv 2) pa_nil)))
 (pss_cons (ps_set (i := 5) scSL.nd rfl (.inl rfl) (pe_lst pa_nil))
 (pss_cons (ps_set (i := 6) scSL.nd rfl (.inl rfl) pe_int)
 (pss_cons (ps_for PassesOwn.never rfl (pi_list (pv 3)) (pg_name (i := 7) scSL.nd rfl (.inl rfl))
 (pss_cons (ps_if (pt_not (pt_val (pe_call GIP (hr.mono (by omega)) (by rfl) gIP kIP bIP .nil pass0 (pa_cons (pv 7) (pa_cons (pv 6) (pa_cons (pe_callB call_len_str (by rfl) T.len (by decide +kernel) (pa_cons (pv 4) pa_nil)) pa_nil))))))
 (pss_one (ps_ret pe_bl))
 pss_nil)
 (pss_cons (ps_expr (pe_bm PySem.F.plainAttrs_list PySem.F.slot_list_append PySem.F.type_list_append mt_append (pv 5) (pa_cons (pe_op op_add_str (pe_slice sl_str (pv 4) (po_some (pv 6)) (po_some (pe_ix ix_tup (pv 7) pe_int (fun _ _ => rfl)))) (pe_ix ix_tup (pv 7) pe_int (fun _ _ => rfl))) pa_nil)))
 (pss_one (ps_set (i := 6) scSL.nd rfl (.inl rfl) (pe_ix ix_tup (pv 7) pe_int (fun _ _ => rfl)))))))
 (pss_one (ps_ret (pe_cmpR op_eq (pe_op op_add_str (pe_join pe_str (pv 5)) (pe_slice sl_str (pv 4) (po_some (pv 6)) po_none)) (pe_meth (pv 1) NP.cl mTO GTO (hr.mono (by omega)) bTO .nil pass0 (pa_cons (pv 2) pa_nil)) (nomark _))))))))), ?_⟩
    have pjo' := pjo
    have pjn' := pjn
    obtain ⟨dxo, dto, deo, nao, ho1, ho2⟩ := pjo'
    obtain ⟨dxn, dtn, den, nan, hn1, hn2⟩ := pjn'
    rcases h with ⟨hx, q⟩ | ⟨z, l, m, rfl, hl, hm, h⟩
    · rcases hx with ⟨z, rfl, hz⟩ | ⟨t, ty, kt⟩
      · refine ⟨_, rfl, po, dxo, _, rfl, ho1, rfl, _, rfl, po, l1, l2, _, rfl, pjo, .inl ⟨z, rfl, ?_⟩⟩
        rw [hz]
        exact ⟨false, rfl, iteT q⟩
      · exact ⟨_, rfl, po, dxo, _, rfl, ho1, rfl, _, rfl, po, l1, l2, _, rfl, pjo, .inr ⟨t, ty, kt, false, rfl, iteT q⟩⟩
    · refine ⟨_, rfl, po, dxo, _, rfl, ho1, rfl, _, rfl, po, l1, l2, _, rfl, pjo, .inl ⟨z, rfl, ?_⟩⟩
      rw [hl]
      refine ⟨true, rfl, iteF ?_⟩
      refine ⟨_, rfl, pn, dxn, _, rfl, hn1, rfl, _, rfl, pn, m1, m2, _, rfl, pjn, .inl ⟨z, rfl, ?_⟩⟩
      rw [hm]
      refine ⟨true, rfl, iteF ?_⟩
      rcases h with ⟨n, ty, kt, q⟩ | ⟨a, xs, pcs, rfl, ha, pq, oks, np, nl, q⟩
      · exact ⟨_, rfl, _, n, false, rfl, ty, kt, fun H' sm => ⟨false, rfl, iteT (q H' sm)⟩⟩
      · refine ⟨_, rfl, _, "list", true, rfl, fun H' sm => .base (.lst (sm _ _ ha)), kitL, fun H1 s1 => ⟨true, rfl, iteF ?_⟩⟩
        refine ⟨_, rfl, po, dxo, _, rfl, s1 _ _ ho1, rfl, _, rfl, po, l1, l2, l, z, rfl, pjo.ext (KB.ExtN.same s1), hl, ?_⟩
        refine ⟨(by show 0 ≤ sizeLine; decide), fun r nr => ?_⟩
        have ha1 := s1 _ _ ha
        have nra : r ≠ a := (ne_of_none ha1 nr).symm
        have lenx : xs.length = pcs.length := pq.length
        have old : ∀ o, Same H (L2.upd H1 r o) := fun o => s1.trans (same_new nr)
        refine ⟨_, rfl, a, rfl, ⟨_, .inl (.inl (same_new nr _ _ ha1))⟩, for_list (K := K) (a := a) (xs := xs) (fun i σ H' => ∃ (rows : List (List Nat)) (at_ : Nat) (y7 : Option V), σ = [some (.ref po), some (.ref pn), some (.str z), some (.ref a), some (.str (S l)), some (.ref r), some (.int (at_ : Int)), y7] ∧
            H' = L2.upd H1 r (.lst (rows.map fun w => .str (S w))) ∧ at_ ≤ l.length ∧ rows.length = i ∧ (∀ w ∈ rows, w.length ≤ 6000) ∧ lay l (pcs.drop i) (at_ : Int) rows = lay l pcs 0 []) ⟨[], 0, _, rfl, rfl, Nat.zero_le _, rfl, fun _ h => absurd h List.not_mem_nil, rfl⟩ ?_ ?_ ?_⟩
        · rintro i σ H' _ ⟨rows, at_, y7, rfl, rfl, _⟩
          exact .inl (.inl (by rw [upd_ne nra.symm]; exact ha1))
        · rintro i x σ H' hxi ⟨rows, at_, y7, rfl, rfl, hat, hri, hrs, hlay⟩
          obtain ⟨c, hc, px⟩ := paired_get pq hxi
          have hi : i < pcs.length := (List.getElem?_eq_some_iff.mp hc).1
          have dr : pcs.drop i = c :: pcs.drop (i + 1) := by
            rw [List.drop_eq_getElem_cons hi]
            have := (List.getElem?_eq_some_iff.mp hc).2
            rw [this]
          have okc := oks c (List.mem_of_getElem? hc)
          refine ⟨_, rfl, _, rfl, _, rfl, S l, rfl, by rw [S_len]; exact small (by omega), x, (at_ : Int), ((S l).length : Int), c, rfl, px.same (old _), ?_⟩
          rw [S_len]
          cases c with
          | bad =>
            refine ⟨false, rfl, iteT ?_⟩
            have e : lay l pcs 0 [] = none := by
              rw [← hlay, dr]
              rfl
            rw [e] at q
            exact q _ (old _)
          | good b e z2 =>
            have nz : z2.length ≤ 1000 := okc
            show ∃ k, V.bl (decide ((at_ : Int) ≤ b ∧ b ≤ e ∧ e ≤ (l.length : Int))) = .bl k ∧ _
            refine ⟨_, rfl, ?_⟩
            by_cases hf : fits l at_ b e
            · refine iteF' (by rw [decide_eq_true (show (at_ : Int) ≤ b ∧ b ≤ e ∧ e ≤ (l.length : Int) from hf)]; rfl) ?_
              obtain ⟨t, rfl, ht⟩ := px
              obtain ⟨f1, f2, f3⟩ := hf
              have sq : SqT K (L2.upd H1 r (.lst (rows.map fun w => .str (S w)))) t [.int b, .int e, .str (S z2)] := .inl (.inl (old _ _ _ ht))
              obtain ⟨b', rfl⟩ : ∃ b' : Nat, b = (b' : Int) := ⟨b.toNat, by omega⟩
              obtain ⟨e', rfl⟩ : ∃ e' : Nat, e = (e' : Int) := ⟨e.toNat, by omega⟩
              refine ⟨_, rfl, .inl ⟨rfl, _, .inl (.inl upd_same)⟩, _, rfl, _, rfl, _, rfl, _, rfl, t, _, 0, _, rfl, rfl, sq, atI_nat (j := 0) rfl, _, rfl, S l, rfl, by rw [S_len]; exact small (by omega), _, rfl, t, _, 2, _, rfl, rfl, sq, atI_nat (j := 2) rfl, _, _, rfl, rfl, ?_, ?_⟩
              · rw [cut_at l at_ b' (by omega) (by omega), S_len, S_len, List.length_take, List.length_drop]
                exact small (by omega)
              rw [cut_at l at_ b' (by omega) (by omega), S_add]
              refine ⟨r, _, _, rfl, rfl, upd_same, ?_, ?_⟩
              · rw [List.length_map]
                exact Nat.lt_of_le_of_lt (show rows.length ≤ 64 by omega) (by decide)
              rw [upd2]
              have sq2 : SqT K (L2.upd H1 r (.lst ((rows.map fun w => .str (S w)) ++ [.str (S ((l.drop at_).take (b' - at_) ++ z2))]))) t [.int b', .int e', .str (S z2)] := .inl (.inl (old _ _ _ ht))
              refine ⟨_, rfl, t, _, 1, _, rfl, rfl, sq2, atI_nat (j := 1) rfl, rows ++ [(l.drop at_).take (b' - at_) ++ z2], e', _, rfl, ?_, by omega, by rw [List.length_append, hri]; rfl, ?_, ?_⟩
              · rw [List.map_append]
                rfl
              · intro w hw
                rcases List.mem_append.mp hw with hw | hw
                · exact hrs w hw
                · rw [List.mem_singleton.mp hw, List.length_append, List.length_take, List.length_drop]
                  omega
              · rw [← hlay, dr, lay_good, if_pos (show fits l at_ b' e' from ⟨f1, f2, f3⟩)]
                rfl
            · refine iteT' (by rw [decide_eq_false (show ¬ ((at_ : Int) ≤ b ∧ b ≤ e ∧ e ≤ (l.length : Int)) from hf)]; rfl) ?_
              have e : lay l pcs 0 [] = none := by
                rw [← hlay, dr, lay_good, if_neg hf]
              rw [e] at q
              exact q _ (old _)
        · rintro σ H' ⟨rows, at_, y7, rfl, rfl, hat, hri, hrs, hlay⟩
          have e : lay l pcs 0 [] = some (rows.flatten ++ l.drop at_) := by
            rw [← hlay, List.drop_of_length_le (by omega)]
            rfl
          have em : Str.ofString "" = S [] := by decide +kernel
          have eq_ : (rows.map fun w => V.str (S w)) = (rows.map S).map V.str := by
            rw [List.map_map]
            rfl
          have b1 : ((rows.map S).map (·.length)).sum ≤ 400000 := by
            have z := sum_le (n := 6000) ((rows.map S).map (·.length)) (fun x hx => by
              rw [List.map_map] at hx
              obtain ⟨w, hw, rfl⟩ := List.mem_map.mp hx
              show (S w).length ≤ 6000
              rw [S_len]
              exact hrs w hw)
            rw [List.length_map, List.length_map, hri] at z
            have : xs.length * 6000 ≤ 64 * 6000 := Nat.mul_le_mul_right _ (by omega)
            omega
          refine ⟨⟨_, rfl⟩, _, rfl, _, r, rows.map S, rfl, rfl, .inl (.inl (.inl (by rw [← eq_]; exact upd_same))), ?_, ?_⟩
          · rw [em, S_len]
            show _ + _ * 0 ≤ _
            omega
          rw [em, join_flat]
          have hf1 : rows.flatten.length ≤ 400000 := by
            have z : rows.flatten.length = ((rows.map S).map (·.length)).sum := by
              rw [List.length_flatten, List.map_map]
              rfl
            omega
          refine ⟨_, rfl, _, rfl, _, rfl, S l, rfl, by rw [S_len]; exact small (by omega), _, _, rfl, rfl, ?_, ?_⟩
          · rw [cut_rest l at_ hat, S_len, S_len, List.length_drop]
            exact Nat.le_trans (show _ ≤ 1000000 by omega) (by decide)
          rw [cut_rest l at_ hat, S_add]
          refine ⟨_, rfl, pn, dxn, _, rfl, old _ _ _ hn1, rfl, _, rfl, pn, m1, m2, m, z, rfl, pjn.ext (KB.ExtN.same (old _)), hm, rfl, ?_⟩
          have z := q _ (old (.lst (rows.map fun w => .str (S w))))
          rw [e] at z
          rw [S_eq]
          have d : decide (rows.flatten ++ l.drop at_ = m) = decide (some (rows.flatten ++ l.drop at_) = some m) := by
            by_cases h : rows.flatten ++ l.drop at_ = m
            · rw [decide_eq_true h, h, decide_eq_true rfl]
            · rw [decide_eq_false h, decide_eq_false (fun y => h (Option.some.inj y))]
          rw [d]
          exact z
end
end KB
namespace KB
open PySem PySem.Spec PyProof.Rows L2
/-! ### counting signs -/
theorem subAt_S (l s : List Nat) (i : Nat) : Builtin.Str.subAt (S l) (S s) i = decide ((l.drop i).take s.length = s) := by
  unfold Builtin.Str.subAt
  rw [Bool.eq_iff_iff, decide_eq_true_eq]
  have z : ((S l).cps.extract i (i + (S s).length)).toList = (l.drop i).take s.length := by
    rw [Array.toList_extract, S_len]
    show List.take (i + s.length - i) (l.drop i) = _ <;> simp [List.extract]
  constructor
  · intro h
    have h2 : (S l).cps.extract i (i + (S s).length) = (S s).cps := by simpa using h
    rw [← z, h2]
    rfl
  · intro h
    have h2 : (S l).cps.extract i (i + (S s).length) = (S s).cps := Array.toList_inj.mp (by rw [z, h]; rfl)
    simpa using h2
/-- s stands at i in l -/
def occB (l s : List Nat) (i : Nat) : Bool := decide (i + s.length ≤ l.length) && decide ((l.drop i).take s.length = s)
open PySem.StrLaws in
theorem occ_count (l s : List Nat) (limit : Nat) (no : ∀ i j, occB l s i = true → i < j → j < i + s.length → occB l s j = false) : ∀ (n a : Nat) (st : Array Nat × Nat), st.1.size + n ≤ limit → (∀ j, a ≤ j → j < st.2 → occB l s j = false) →
    (forIn (List.range' a n) st (occBody (S l) (S s) l.length limit)).run.fst.size = st.1.size + ((List.range' a n).filter (occB l s)).length
  | 0, a, st, _, _ => rfl
  | n + 1, a, st, hl, hf => by
    rw [List.range'_succ, List.forIn_cons]
    unfold occBody
    by_cases h : occB l s a = true
    · have h2 := h
      unfold occB at h2
      rw [Bool.and_eq_true, decide_eq_true_eq, decide_eq_true_eq] at h2
      have hfree : st.2 ≤ a := by
        by_cases q : st.2 ≤ a
        · exact q
        · have := hf a (Nat.le_refl _) (by omega)
          rw [this] at h
          cases h
      rw [if_pos ⟨⟨⟨by omega, hfree⟩, by rw [S_len]; exact h2.1⟩, by rw [subAt_S]; exact decide_eq_true h2.2⟩]
      have ih := occ_count l s limit no n (a + 1) (st.1.push a, a + (S s).length) (by rw [Array.size_push]; omega) (fun j h1 h3 => by
        rw [S_len] at h3
        exact no a j h (by omega) h3)
      rw [List.filter_cons, if_pos h, List.length_cons]
      rw [Array.size_push] at ih
      rw [show ∀ x : Nat, st.1.size + (x + 1) = st.1.size + 1 + x from fun x => by omega, ← ih]
      rfl
    · have hn : occB l s a = false := by simpa using h
      rw [if_neg (fun z => by
        unfold occB at hn
        rw [Bool.and_eq_false_iff] at hn
        rcases hn with q | q
        · have := of_decide_eq_false q
          have z1 := z.1.2
          rw [S_len] at z1
          omega
        · have z2 := z.2
          rw [subAt_S] at z2
          rw [q] at z2
          cases z2)]
      have ih := occ_count l s limit no n (a + 1) st (by omega) (fun j h1 h3 => hf j (by omega) h3)
      rw [List.filter_cons, if_neg h, ← ih]
      rfl
open PySem.StrLaws in
theorem count_S (l s : List Nat) (no : ∀ i j, occB l s i = true → i < j → j < i + s.length → occB l s j = false) : Txt.count (S l) (S s) = (((List.range' 0 (l.length + 1)).filter (occB l s)).length : Int) := by
  unfold Txt.count
  rw [occ_eq, S_len, Array.length_toList, occ_count l s _ no _ _ _ (by simp) (fun j h1 h2 => absurd h2 (by simp))]
  simp
theorem filter_same {p q : Nat → Bool} : ∀ (l : List Nat), (∀ i, p i = true → q i = true) → (l.filter p).length = (l.filter q).length → ∀ i ∈ l, q i = true → p i = true
  | [], _, _, i, h, _ => absurd h List.not_mem_nil
  | a :: r, pq, e, i, h, hq => by
    have sub : (r.filter p).length ≤ (r.filter q).length := by
      have : ∀ r : List Nat, (r.filter p).length ≤ (r.filter q).length := by
        intro r
        induction r with
        | nil => exact Nat.le_refl _
        | cons b r ih =>
          by_cases hp : p b = true
          · rw [List.filter_cons, if_pos hp, List.filter_cons, if_pos (pq b hp)]
            exact Nat.succ_le_succ ih
          · rw [List.filter_cons, if_neg hp]
            by_cases hb : q b = true
            · rw [List.filter_cons, if_pos hb]
              exact Nat.le_succ_of_le ih
            · rw [List.filter_cons, if_neg hb]
              exact ih
      exact this r
    by_cases hp : p a = true
    · rw [List.filter_cons, if_pos hp, List.filter_cons, if_pos (pq a hp)] at e
      rcases List.mem_cons.mp h with rfl | h
      · exact hp
      · exact filter_same r pq (Nat.succ.inj e) i h hq
    · rw [List.filter_cons, if_neg hp] at e
      by_cases hb : q a = true
      · rw [List.filter_cons, if_pos hb, List.length_cons] at e
        omega
      · rw [List.filter_cons, if_neg hb] at e
        rcases List.mem_cons.mp h with rfl | h
        · exact absurd hq hb
        · exact filter_same r pq e i h hq
theorem occ1 (l : List Nat) (i : Nat) : occB l [10] i = true ↔ l[i]? = some 10 := by
  unfold occB
  rw [Bool.and_eq_true, decide_eq_true_eq, decide_eq_true_eq]
  constructor
  · rintro ⟨h1, h2⟩
    have z := congrArg (fun x => x[0]?) h2
    simpa [List.getElem?_take, List.getElem?_drop] using z
  · intro h
    have hl := (List.getElem?_eq_some_iff.mp h).1
    refine ⟨hl, ?_⟩
    rw [List.drop_eq_getElem_cons hl]
    have := (List.getElem?_eq_some_iff.mp h).2
    simp [this]
theorem occ2 (l : List Nat) (i : Nat) : occB l [10, 35] i = true ↔ l[i]? = some 10 ∧ l[i + 1]? = some 35 := by
  unfold occB
  rw [Bool.and_eq_true, decide_eq_true_eq, decide_eq_true_eq]
  constructor
  · rintro ⟨h1, h2⟩
    have z := congrArg (fun x => x[0]?) h2
    have z' := congrArg (fun x => x[1]?) h2
    exact ⟨by simpa [List.getElem?_take, List.getElem?_drop] using z, by simpa [List.getElem?_take, List.getElem?_drop] using z'⟩
  · rintro ⟨h, h'⟩
    have hl := (List.getElem?_eq_some_iff.mp h).1
    have hl' := (List.getElem?_eq_some_iff.mp h').1
    refine ⟨by show i + 2 ≤ _; omega, ?_⟩
    rw [List.drop_eq_getElem_cons hl, List.drop_eq_getElem_cons hl']
    have e1 := (List.getElem?_eq_some_iff.mp h).2
    have e2 := (List.getElem?_eq_some_iff.mp h').2
    simp [e1, e2]
/-- each line of made begins with # -/
theorem cmt_made {l : List Nat} (h0 : l[0]? = some 35) (e : Txt.count (S l) (S [10, 35]) = Txt.count (S l) (S [10])) : Cmt l := by
  rw [count_S l [10, 35] (fun i j hi h1 h2 => by
    have h3 : j = i + 1 := by
      have : j < i + 2 := h2
      omega
    subst h3
    have z := ((occ2 l i).mp hi).2
    cases q : occB l [10, 35] (i + 1) with
    | false => rfl
    | true =>
      have z2 := ((occ2 l (i + 1)).mp q).1
      rw [z] at z2
      cases z2), count_S l [10] (fun i j hi h1 h2 => by
    have : j < i + 1 := h2
    omega)] at e
  refine ⟨.inr h0, fun i hi => ?_⟩
  have hl := (List.getElem?_eq_some_iff.mp hi).1
  have z := filter_same (List.range' 0 (l.length + 1)) (p := occB l [10, 35]) (q := occB l [10]) (fun i h => (occ1 l i).mpr ((occ2 l i).mp h).1) (by omega) i (by simp [List.mem_range'] <;> omega) ((occ1 l i).mpr hi)
  exact ((occ2 l i).mp z).2
/-! ### putting pieces -/
abbrev Pz := Nat × Nat × List Nat
def put (l : List Nat) : List Pz → List Nat
  | [] => l
  | (a, b, z) :: r => (put l r).take a ++ z ++ (put l r).drop b
/-- in order, from lo on, none behind hi -/
def Chn (hi : Nat) : Nat → List Pz → Prop
  | _, [] => True
  | lo, (a, b, _) :: r => lo ≤ a ∧ a ≤ b ∧ b ≤ hi ∧ Chn hi b r
def pcOf (p : Pz) : Pc := .good p.1 p.2.1 p.2.2
theorem put_take {l : List Nat} : ∀ (r : List Pz) (b : Nat), Chn l.length b r → b ≤ l.length → (put l r).take b = l.take b
  | [], _, _, _ => rfl
  | (a, c, z) :: r, b, h, hb => by
    obtain ⟨h1, h2, h3, h4⟩ := h
    have ih := put_take r c h4 h3
    have ih' : (put l r).take b = l.take b := by
      have := congrArg (List.take b) ih
      rw [List.take_take, List.take_take, Nat.min_eq_left (by omega)] at this
      exact this
    have ha : a ≤ (put l r).length := by
      have := congrArg List.length ih
      rw [List.length_take, List.length_take] at this
      omega
    show ((put l r).take a ++ z ++ (put l r).drop c).take b = _
    rw [List.append_assoc, List.take_append_of_le_length (by rw [List.length_take]; omega), List.take_take, Nat.min_eq_left h1, ih']
theorem lay_put {l : List Nat} : ∀ (ps : List Pz) (at_ : Nat) (rows : List (List Nat)), Chn l.length at_ ps → at_ ≤ l.length → lay l (ps.map pcOf) (at_ : Int) rows = some (rows.flatten ++ (put l ps).drop at_)
  | [], _, _, _, _ => rfl
  | (a, b, z) :: r, at_, rows, h, hat => by
    obtain ⟨h1, h2, h3, h4⟩ := h
    rw [List.map_cons]
    show lay l (.good a b z :: r.map pcOf) _ _ = _
    rw [lay_good, if_pos (show fits l at_ a b from ⟨by omega, by omega, by omega⟩), lay_put r b _ h4 h3, List.flatten_append]
    have pt := put_take r b h4 h3
    have pa : (put l r).take a = l.take a := by
      have := congrArg (List.take a) pt
      rw [List.take_take, List.take_take, Nat.min_eq_left (by omega)] at this
      exact this
    show some _ = some (rows.flatten ++ ((put l r).take a ++ z ++ (put l r).drop b).drop at_)
    rw [pa]
    have e : ((l.take a ++ z ++ (put l r).drop b).drop at_) = ((l.drop at_).take (a - at_)) ++ z ++ (put l r).drop b := by
      rw [List.append_assoc, List.drop_append_of_le_length (by rw [List.length_take]; omega), List.drop_take, List.append_assoc]
    rw [e]
    simp
theorem lay_none_end {l : List Nat} {x : Pc} (hx : ∀ at_ rows, lay l [x] at_ rows = none) : ∀ (xs : List Pc) (at_ : Int) (rows : List (List Nat)), lay l (xs ++ [x]) at_ rows = none
  | [], at_, rows => hx at_ rows
  | .bad :: r, at_, rows => rfl
  | .good a b z :: r, at_, rows => by
    show lay l (.good a b z :: (r ++ [x])) at_ rows = none
    rw [lay_good]
    split
    · exact lay_none_end hx r _ _
    · rfl
theorem lay_last {l : List Nat} {a0 b0 : Int} {z0 : List Nat} : ∀ (xs : List Pc) (at_ : Int) (rows : List (List Nat)) (m : List Nat), lay l (xs ++ [.good a0 b0 z0]) at_ rows = some m → at_ ≤ a0
  | [], at_, rows, m, h => by
    have h : lay l (.good a0 b0 z0 :: []) at_ rows = some m := h
    rw [lay_good] at h
    by_cases q : fits l at_ a0 b0
    · exact q.1
    · rw [if_neg q] at h
      cases h
  | .bad :: r, at_, rows, m, h => by cases h
  | .good a b z :: r, at_, rows, m, h => by
    have h : lay l (.good a b z :: (r ++ [.good a0 b0 z0])) at_ rows = some m := h
    rw [lay_good] at h
    by_cases q : fits l at_ a b
    · rw [if_pos q] at h
      have := lay_last r _ _ _ h
      have := q.1
      have := q.2.1
      omega
    · rw [if_neg q] at h
      cases h
theorem lay_turned {l : List Nat} {p q : Pz} {mid : List Pz} (h : p.1 < q.2.1) : lay l (((p :: mid) ++ [q]).map pcOf).reverse 0 [] = none := by
  have e : (((p :: mid) ++ [q]).map pcOf).reverse = pcOf q :: ((mid.map pcOf).reverse ++ [pcOf p]) := by simp
  rw [e]
  show lay l (.good q.1 q.2.1 q.2.2 :: _) 0 [] = none
  rw [lay_good]
  by_cases f : fits l 0 q.1 q.2.1
  · rw [if_pos f]
    cases r : lay l ((mid.map pcOf).reverse ++ [pcOf p]) (q.2.1 : Int) ([] ++ [(l.drop (0 : Int).toNat).take ((q.1 : Int).toNat - (0 : Int).toNat) ++ q.2.2]) with
    | none => rfl
    | some m =>
      have := lay_last (a0 := p.1) (b0 := p.2.1) (z0 := p.2.2) _ _ _ _ r
      omega
  · rw [if_neg f]
theorem put_len {l : List Nat} {n hi : Nat} : ∀ (ps : List Pz) (lo : Nat), Chn hi lo ps → (∀ p ∈ ps, p.2.2.length ≤ n) → (put l ps).length ≤ l.length + ps.length * n
  | [], _, _, _ => by simp [put]
  | (a, b, z) :: r, lo, h, hz => by
    obtain ⟨h1, h2, h3, h4⟩ := h
    have ih := put_len (l := l) r b h4 (fun p hp => hz p (by simp [hp]))
    have hz1 := hz (a, b, z) (by simp)
    show ((put l r).take a ++ z ++ (put l r).drop b).length ≤ _
    rw [List.length_append, List.length_append, List.length_take, List.length_drop, List.length_cons, Nat.succ_mul]
    have hz1 : z.length ≤ n := hz1
    omega
theorem Chn.tail {hi lo : Nat} {p : Pz} {r : List Pz} (h : Chn hi lo (p :: r)) : Chn hi 0 r := by
  obtain ⟨a, b, z⟩ := p
  obtain ⟨h1, h2, h3, h4⟩ := h
  cases r with
  | nil => trivial
  | cons q r =>
    obtain ⟨c, d, y⟩ := q
    obtain ⟨g1, g2, g3, g4⟩ := h4
    exact ⟨Nat.zero_le _, g2, g3, g4⟩
theorem Chn.mono {hi lo lo' : Nat} {r : List Pz} (h : Chn hi lo r) (l : lo' ≤ lo) : Chn hi lo' r := by
  cases r with
  | nil => trivial
  | cons q r =>
    obtain ⟨c, d, y⟩ := q
    obtain ⟨g1, g2, g3, g4⟩ := h
    exact ⟨Nat.le_trans l g1, g2, g3, g4⟩
/-- the place behind the last piece -/
def fin : Nat → List Pz → Nat
  | lo, [] => lo
  | _, (_, b, _) :: r => fin b r
theorem chn_snoc {hi : Nat} {q : Pz} : ∀ (ps : List Pz) (lo : Nat), Chn hi lo ps → fin lo ps ≤ q.1 → q.1 ≤ q.2.1 → q.2.1 ≤ hi → Chn hi lo (ps ++ [q]) ∧ fin lo (ps ++ [q]) = q.2.1
  | [], _, _, h1, h2, h3 => ⟨⟨h1, h2, h3, trivial⟩, rfl⟩
  | (a, b, z) :: r, _, h, h1, h2, h3 => by
    obtain ⟨g1, g2, g3, g4⟩ := h
    have ih := chn_snoc r b g4 h1 h2 h3
    exact ⟨⟨g1, g2, g3, ih.1⟩, ih.2⟩
end KB
namespace KB
open PySem PySem.Spec PyProof.Rows L2 LamX ItT SDc Ch3
abbrev sLP : Stmt := topS 141
abbrev sPT : Stmt := topS 142
theorem take_ok {σ : L2.St} {H : Hp} {Q : VK} {p : Addr} {j m : Nat} (hσ : σ[j]? = some (some (.ref p))) (hp : PoolAt H p) (m0 : 0 < m) (m1 : m < 1000)
    (k : ∀ (r : Nat) (H' : Hp), r < m → KeepBut p H H' → PoolAt H' p → Q (.int (r : Int)) H') : tCall spTake [] E0 (tCons (tVar j) (tCons (tC (.int (m : Int))) tNil)) σ H Q := by
  obtain ⟨a, b, ok, e⟩ := hp
  refine ⟨_, hσ, p, a, b, m, rfl, e, ok, by omega, by omega, fun r a' b' r0 r1 ok' => ?_⟩
  obtain ⟨n, rfl⟩ : ∃ n : Nat, r = (n : Int) := ⟨r.toNat, by omega⟩
  exact k n _ (by omega) (fun c o nb h => by rw [upd_ne nb]; exact h) ⟨a', b', ok', upd_same⟩
theorem op_1 {r : R2} {ta tb : TE} {σ : L2.St} {H : Hp} {Q : VK} (h : ta σ H fun x H1 => tb σ H1 fun y H2 => r x y H2 Q) : tOp r ta tb σ H Q := h
theorem PoolAt.same {p : Addr} {H H' : Hp} (h : PoolAt H p) (s : Same H H') : PoolAt H' p := by
  obtain ⟨a, b, ok, e⟩ := h
  exact ⟨a, b, ok, s _ _ e⟩
theorem PoolAt.but {p q : Addr} {H H' : Hp} (h : PoolAt H p) (n : p ≠ q) (k : KeepBut q H H') : PoolAt H' p := by
  obtain ⟨a, b, ok, e⟩ := h
  exact ⟨a, b, ok, k _ _ n e⟩
theorem PoolAt.ne {p q : Addr} {H : Hp} (h : PoolAt H p) (hq : H q = none) : p ≠ q := by
  obtain ⟨a, b, ok, e⟩ := h
  exact ne_of_none e hq
theorem PcAt.keep {H H' : Hp} {x : V} {c : Pz} {q : Addr} {ys : List V} (a : PcAt H x (pcOf c)) (k : KeepBut q H H') (hq : H q = some (.lst ys)) : PcAt H' x (pcOf c) := by
  obtain ⟨t, e, h⟩ := a
  exact ⟨t, e, k _ _ (ne_of h hq (by intro z; cases z)) h⟩
theorem paired_keep {H H' : Hp} {q : Addr} {ys : List V} (k : KeepBut q H H') (hq : H q = some (.lst ys)) : ∀ {xs : List V} {ps : List Pz}, Paired (PcAt H) xs (ps.map pcOf) → Paired (PcAt H') xs (ps.map pcOf)
  | [], [], _ => .nil
  | _ :: _, _ :: _, .cons a r => .cons (PcAt.keep a k hq) (paired_keep k hq r)
  | [], _ :: _, h => by cases h
  | _ :: _, [], h => by cases h
theorem paired_same {H H' : Hp} (s : Same H H') : ∀ {xs : List V} {cs : List Pc}, Paired (PcAt H) xs cs → Paired (PcAt H') xs cs
  | [], [], _ => .nil
  | _ :: _, _ :: _, .cons a r => .cons (a.same s) (paired_same s r)
  | [], _ :: _, h => by cases h
  | _ :: _, [], h => by cases h
theorem paired_snoc {α β : Type} {R : α → β → Prop} {as : List α} {bs : List β} {a : α} {b : β} (h : Paired R as bs) (r : R a b) : Paired R (as ++ [a]) (bs ++ [b]) := by
  induction h with
  | nil => exact .cons r .nil
  | cons h1 _ ih => exact .cons h1 ih
/-- the texts of pieces -/
def pieceL : List (List Nat) := [[], [35, 120], [121, 121, 32], [35, 32, 10, 35]]
theorem strs_piece : (["", "#x", "yy ", "# \n#"] : List Str) = pieceL.map S := by decide +kernel
theorem piece_len : ∀ t ∈ pieceL, t.length ≤ 4 := by decide
theorem pick {l : List (List Nat)} {i : Nat} (h : i < l.length) : ∃ t ∈ l, ((l.map S).map V.str)[i]? = some (.str (S t)) := by
  refine ⟨l[i], List.getElem_mem h, ?_⟩
  rw [List.getElem?_map, List.getElem?_map, List.getElem?_eq_getElem h]
  rfl
theorem cut_first (l : List Nat) (j : Nat) (hj : j ≤ l.length) : cutS (S l) none (some (j : Int)) = S (l.take j) := by
  have z := cut_at l 0 j (Nat.zero_le _) hj
  have e : cutS (S l) none (some (j : Int)) = cutS (S l) (some ((0 : Nat) : Int)) (some (j : Int)) := by
    unfold cutS
    rfl
  rw [e, z]
  rfl
theorem Chn.hi {hi hi' : Nat} (h : hi ≤ hi') : ∀ {r : List Pz} {lo : Nat}, Chn hi lo r → Chn hi' lo r
  | [], _, _ => trivial
  | (a, b, z) :: r, lo, ⟨h1, h2, h3, h4⟩ => ⟨h1, h2, Nat.le_trans h3 h, Chn.hi h h4⟩
theorem Chn.drop {hi : Nat} : ∀ {ps : List Pz} {lo j : Nat} {p : Pz}, Chn hi lo ps → ps[j]? = some p → p.1 ≤ p.2.1 ∧ p.2.1 ≤ hi ∧ Chn hi p.2.1 (ps.drop (j + 1))
  | [], _, _, _, _, h => by simp at h
  | (a, b, z) :: r, _, 0, p, ⟨h1, h2, h3, h4⟩, h => by
    cases h
    exact ⟨h2, h3, h4⟩
  | (a, b, z) :: r, _, j + 1, p, ⟨h1, h2, h3, h4⟩, h => Chn.drop (j := j) h4 h
theorem put_room {l : List Nat} {r : List Pz} {b : Nat} (h : Chn l.length b r) (hb : b ≤ l.length) : b ≤ (put l r).length := by
  have := congrArg List.length (put_take r b h hb)
  rw [List.length_take, List.length_take] at this
  omega
section
variable {P : Program} {w : World} {K : PySem.W.Frag} {mg : Str → Option Value} {base : Heap} {aW fT fLP fPT : Addr}
theorem scLP : FnScope ["_law_pool_here", "_law_length", "_law_found", "_law_at", "_law_turn", "_law_start", "_law_end"] ["_law_pool_here", "_law_length"] (defScope sLP) := ⟨rfl, rfl, rfl, by decide +kernel, rfl, by decide +kernel, by decide +kernel⟩
theorem scPT : FnScope ["_law_text", "_law_pieces_here", "_law_start", "_law_end", "_law_piece"] ["_law_text", "_law_pieces_here"] (defScope sPT) := ⟨rfl, rfl, rfl, by decide +kernel, rfl, by decide +kernel, by decide +kernel⟩
def spPT : Sp := fun vs H Q _ => ∃ (l : List Nat) (a : Addr) (xs : List V) (ps : List Pz) (hi : Nat), vs = [.str (S l), .ref a] ∧ H a = some (.lst xs) ∧ Paired (PcAt H) xs (ps.map pcOf) ∧ Chn hi 0 ps ∧ hi ≤ l.length ∧ (∀ p ∈ ps, p.2.2.length ≤ 4) ∧ ps.length ≤ 4 ∧ l.length ≤ 100 ∧
  ∀ H', Same H H' → Q (.str (S (put l ps))) H'
theorem ok_PT {fd : FuncData} {k : Nat} (F : Fun K "_law_put" "_law_put" sPT fPT fd) : FnOk P w K mg base CX0 (k + 1) fPT fd ["_law_text", "_law_pieces_here"] spPT := by
  refine F.ok scPT (fun vs H Q E h => ?_) (fun cdv A outer s H vs Q E hr h => ?_)
  · obtain ⟨l, a, xs, ps, hi, rfl, _⟩ := h
    rfl
  · obtain ⟨l, a, xs, ps, hi, rfl, ha, pq, ch, hil, hz, np, nl, q⟩ := h
    refine ⟨_,
(pss_cons (ps_for PassesOwn.never rfl (pi_list (pe_revL (pv 1))) (pg_tup rfl (pgs_cons (pg_name (i := 2) scPT.nd rfl (.inl rfl)) (pgs_cons (pg_name (i := 3) scPT.nd rfl (.inl rfl)) (pgs_cons (pg_name (i := 4) scPT.nd rfl (.inl rfl)) pgs_nil))))
 (pss_one (ps_set (i := 0) scPT.nd rfl (.inl rfl) (pe_op op_add_str (pe_op op_add_str (pe_slice sl_str (pv 0) po_none (po_some (pv 2))) (pv 4)) (pe_slice sl_str (pv 0) (po_some (pv 3)) po_none)))))
 (pss_one (ps_ret (pv 0)))), ?_⟩
    have lx : xs.length = ps.length := by
      have := pq.length
      rwa [List.length_map] at this
    refine ⟨_, rfl, a, xs, rfl, .inl (.inl ha), fun r nr => ?_⟩
    have sr := same_new (o := .lst xs.reverse) nr
    refine ⟨r, rfl, ⟨_, .inl (.inl upd_same)⟩, for_list (K := K) (a := r) (xs := xs.reverse) (fun i σ H' => ∃ y2 y3 y4, σ = [some (.str (S (put l (ps.drop (ps.length - i))))), some (.ref a), y2, y3, y4] ∧ H' = L2.upd H r (.lst xs.reverse)) ⟨_, _, _, by
      rw [Nat.sub_zero, List.drop_length]
      rfl, rfl⟩ ?_ ?_ ?_⟩
    · rintro i σ H' _ ⟨y2, y3, y4, rfl, rfl⟩
      exact .inl (.inl upd_same)
    · rintro i x σ H' hx ⟨y2, y3, y4, rfl, rfl⟩
      have hi' : i < xs.length := by
        have := (List.getElem?_eq_some_iff.mp hx).1
        rwa [List.length_reverse] at this
      rw [List.getElem?_reverse hi'] at hx
      obtain ⟨c, hc, px⟩ := paired_get pq hx
      rw [List.getElem?_map] at hc
      obtain ⟨p, hp, rfl⟩ : ∃ p, ps[xs.length - 1 - i]? = some p ∧ pcOf p = c := by
        cases e : ps[xs.length - 1 - i]? with
        | none => rw [e] at hc; cases hc
        | some p => rw [e] at hc; exact ⟨p, rfl, Option.some.inj hc⟩
      obtain ⟨g1, g2, g3⟩ := ch.drop hp
      have ej : xs.length - 1 - i + 1 = ps.length - i := by omega
      rw [ej] at g3
      have g3' := g3.hi hil
      have hb : p.2.1 ≤ l.length := Nat.le_trans g2 hil
      have room := put_room g3' hb
      have hz' : ∀ p ∈ ps.drop (ps.length - i), p.2.2.length ≤ 4 := fun p hp => hz p (List.mem_of_mem_drop hp)
      have lp := put_len (l := l) (n := 4) _ _ g3' hz'
      have ld : (ps.drop (ps.length - i)).length ≤ 4 := by rw [List.length_drop]; omega
      have lput : (put l (ps.drop (ps.length - i))).length ≤ 200 := by
        have : (ps.drop (ps.length - i)).length * 4 ≤ 4 * 4 := Nat.mul_le_mul_right 4 ld
        omega
      have dj : ps.drop (ps.length - (i + 1)) = p :: ps.drop (ps.length - i) := by
        have e1 : ps.length - (i + 1) = xs.length - 1 - i := by omega
        have hlt := (List.getElem?_eq_some_iff.mp hp).1
        rw [e1, List.drop_eq_getElem_cons hlt, (List.getElem?_eq_some_iff.mp hp).2, ej]
      obtain ⟨t, rfl, ht⟩ := px
      have hzp := hz p (List.mem_of_getElem? hp)
      refine ⟨t, _, rfl, .inl (.inl (sr _ _ ht)), rfl, _, _, rfl, _, _, rfl, _, _, rfl, rfl, ?_⟩
      refine ⟨_, rfl, _, rfl, _, rfl, S (put l (ps.drop (ps.length - i))), rfl, by rw [S_len]; exact small (by omega), _, rfl, _, _, rfl, rfl, ?_, ?_⟩
      · rw [cut_first _ _ (by omega), S_len, S_len, List.length_take]
        exact small (by omega)
      rw [cut_first _ _ (by omega), S_add]
      refine ⟨_, rfl, _, rfl, _, rfl, S (put l (ps.drop (ps.length - i))), rfl, by rw [S_len]; exact small (by omega), _, _, rfl, rfl, ?_, ?_⟩
      · rw [cut_rest _ _ room, S_len, S_len, List.length_append, List.length_take, List.length_drop]
        exact small (by omega)
      rw [cut_rest _ _ room, S_add]
      refine ⟨some (.int (p.1 : Int)), some (.int (p.2.1 : Int)), some (.str (S p.2.2)), ?_, rfl⟩
      rw [dj]
      rfl
    · rintro σ H' ⟨y2, y3, y4, rfl, rfl⟩
      refine ⟨_, rfl, ?_⟩
      rw [List.length_reverse, lx, Nat.sub_self, List.drop_zero]
      exact q _ sr
def spLP : Sp := fun vs H Q _ => ∃ (p : Addr), vs = [.ref p, .int 13] ∧ PoolAt H p ∧ ∀ H' l xs ps, KeepBut p H H' → PoolAt H' p → H l = none → H' l = some (.lst xs) → Paired (PcAt H') xs (ps.map pcOf) → Chn 13 0 ps → (∀ p ∈ ps, p.2.2 ∈ pieceL) → ps.length ≤ 3 → Q (.ref l) H'
theorem ok_LP {fd fdT : FuncData} {k : Nat} (F : Fun K "_law_pieces" "_law_pieces" sLP fLP fd) (T : T4 K mg aW) (GT : FnOk P w K mg base CX0 1 fT fdT ["_law_pool_here", "_law_many"] spTake) (gTake : mg "_law_take" = some (.ref fT)) (kTake : PySem.W.keepIn K (.ref fT) = true) (bT : Binds K fdT ["_law_pool_here", "_law_many"] []) :
    FnOk P w K mg base CX0 (k + 2) fLP fd ["_law_pool_here", "_law_length"] spLP := by
  refine F.ok scLP (fun vs H Q E h => ?_) (fun cdv A outer s H vs Q E hr h => ?_)
  · obtain ⟨p, rfl, _⟩ := h
    rfl
  · obtain ⟨p, rfl, pp, q⟩ := h
    refine ⟨_,
(pss_cons (ps_par (i := 2) (j := 3) rfl scLP.nd rfl rfl (by decide) rfl rfl (pa_cons (pe_lst pa_nil) (pa_cons pe_int pa_nil)) (by rfl))
 (pss_cons (ps_for PassesOwn.never rfl (pi_range1 rfl T.range (pa_cons (pe_call GT (hr.mono (by omega)) (by rfl) gTake kTake bT .nil pass0 (pa_cons (pv 0) (pa_cons pe_int pa_nil))) pa_nil)) (pg_name (i := 4) scLP.nd rfl (.inl rfl))
 (pss_cons (ps_set (i := 5) scLP.nd rfl (.inl rfl) (pe_op op_add (pv 3) (pe_call GT (hr.mono (by omega)) (by rfl) gTake kTake bT .nil pass0 (pa_cons (pv 0) (pa_cons pe_int pa_nil)))))
 (pss_cons (ps_set (i := 6) scLP.nd rfl (.inl rfl) (pe_op op_add (pv 5) (pe_call GT (hr.mono (by omega)) (by rfl) gTake kTake bT .nil pass0 (pa_cons (pv 0) (pa_cons pe_int pa_nil)))))
 (pss_one (ps_if (pt_cmpR op_le (pv 6) (pv 1) (nomark _))
 (pss_cons (ps_expr (pe_bm PySem.F.plainAttrs_list PySem.F.slot_list_append PySem.F.type_list_append mt_append (pv 2) (pa_cons (pe_tup (pa_cons (pv 5) (pa_cons (pv 6) (pa_cons (pe_ix ix_list (pe_lst (pa_cons pe_str (pa_cons pe_str (pa_cons pe_str (pa_cons pe_str pa_nil))))) (pe_call GT (hr.mono (by omega)) (by rfl) gTake kTake bT .nil pass0 (pa_cons (pv 0) (pa_cons pe_int pa_nil))) (fun _ _ => rfl)) pa_nil)))) pa_nil)))
 (pss_one (ps_set (i := 3) scLP.nd rfl (.inl rfl) (pv 6))))
 pss_nil)))))
 (pss_one (ps_ret (pv 2))))), ?_⟩
    refine ⟨(by show 0 ≤ sizeLine; decide), fun l nl => ⟨_, _, rfl, ?_⟩⟩
    have sl := same_new (o := .lst []) nl
    have npl : p ≠ l := pp.ne nl
    refine take_ok (p := p) (j := 0) (m := 4) rfl (pp.same sl) (by decide) (by decide) fun n H2 hn k2 p2 => ?_
    have hl2 := k2 _ _ npl.symm upd_same
    refine ⟨_, rfl, by omega, by omega, for_range (lo := 0) (fun i σ H' => ∃ (xs : List V) (ps : List Pz) (y4 y5 y6 : Option V), σ = [some (.ref p), some (.int 13), some (.ref l), some (.int (fin 0 ps : Nat)), y4, y5, y6] ∧ KeepBut p H H' ∧ PoolAt H' p ∧ H' l = some (.lst xs) ∧ Paired (PcAt H') xs (ps.map pcOf) ∧ Chn 13 0 ps ∧ (∀ q ∈ ps, q.2.2 ∈ pieceL) ∧ ps.length ≤ i)
      ⟨[], [], _, _, _, rfl, (KeepBut.same sl).trans k2, p2, hl2, .nil, trivial, fun _ h => absurd h List.not_mem_nil, Nat.le_refl _⟩ ?_ ?_⟩
    · rintro i σ H3 hi ⟨xs, ps, y4, y5, y6, rfl, k3, p3, hl3, pq, ch, hz, hn3⟩
      have hi3 : i < 3 := by
        have : i < n := by simpa using hi
        omega
      have lx : xs.length = ps.length := by
        have := pq.length
        rwa [List.length_map] at this
      obtain ⟨A, B, okP, eP⟩ := id p3
      -- the start
      refine ⟨_, rfl, ?_⟩
      refine take_ok (p := p) (j := 0) (m := 4) rfl p3 (by decide) (by decide) fun n1 H4 hn1 k4 p4 => ?_
      refine ⟨_, _, rfl, rfl, ?_⟩
      have hl4 := k4 _ _ npl.symm hl3
      have pq4 := paired_keep k4 eP pq
      obtain ⟨A4, B4, okP4, eP4⟩ := id p4
      -- the end
      refine ⟨_, rfl, ?_⟩
      refine take_ok (p := p) (j := 0) (m := 3) rfl p4 (by decide) (by decide) fun n2 H5 hn2 k5 p5 => ?_
      refine ⟨_, _, rfl, rfl, ?_⟩
      have hl5 := k5 _ _ npl.symm hl4
      have pq5 := paired_keep k5 eP4 pq4
      obtain ⟨A5, B5, okP5, eP5⟩ := id p5
      have k05 := (k3.trans k4).trans k5
      refine ⟨_, rfl, _, rfl, _, _, rfl, rfl, _, rfl, bool_if (fun hb => ?_) (fun hb => ?_)⟩
      · have hle := of_decide_eq_true hb
        refine ⟨_, rfl, .inl ⟨rfl, _, .inl (.inl hl5)⟩, _, rfl, _, rfl, ?_⟩
        refine op_1 ⟨(by show 4 ≤ sizeLine; decide), fun m nm => ?_⟩
        have sm := same_new (o := .lst [V.str "", V.str "#x", V.str "yy ", V.str "# \n#"]) nm
        refine take_ok (p := p) (j := 0) (m := 4) rfl (p5.same sm) (by decide) (by decide) fun n3 H6 hn3' k6 p6 => ?_
        have npm : p ≠ m := p5.ne nm
        have hm6 := k6 _ _ npm.symm upd_same
        obtain ⟨z, hzm, hzi⟩ := pick (l := pieceL) (i := n3) hn3'
        rw [← strs_piece] at hzi
        refine ⟨m, _, (n3 : Int), _, rfl, rfl, .inl (.inl hm6), atI_nat hzi, ?_⟩
        refine ⟨(by show 3 ≤ sizeLine; decide), fun t nt => ?_⟩
        have s6 : Same H5 (L2.upd H5 m _) := sm
        have hl6 := k6 _ _ npl.symm (s6 _ _ hl5)
        have e5' : (L2.upd H5 m (.lst [V.str "", V.str "#x", V.str "yy ", V.str "# \n#"])) p = some (.lst [.int A5, .int B5]) := s6 _ _ eP5
        have pq6 := paired_keep k6 e5' (paired_same s6 pq5)
        have st := same_new (o := .tup [.int (((fin 0 ps : Nat) : Int) + (n1 : Int)), .int (((fin 0 ps : Nat) : Int) + (n1 : Int) + (n2 : Int)), .str (S z)]) nt
        have hl7 := st _ _ hl6
        have nlt : l ≠ t := ne_of_none hl6 nt
        refine ⟨l, _, _, rfl, rfl, hl7, (by rw [lx]; exact Nat.lt_of_le_of_lt (show ps.length ≤ 3 by omega) (by decide)), ?_⟩
        have k8 := KeepBut.upd (p := l) (H := L2.upd H6 t (.tup [.int (((fin 0 ps : Nat) : Int) + (n1 : Int)), .int (((fin 0 ps : Nat) : Int) + (n1 : Int) + (n2 : Int)), .str (S z)])) (o := .lst (xs ++ [.ref t]))
        have hq := chn_snoc (hi := 13) (q := (fin 0 ps + n1, fin 0 ps + n1 + n2, z)) ps 0 ch (Nat.le_add_right _ _) (Nat.le_add_right _ _) (show fin 0 ps + n1 + n2 ≤ 13 by omega)
        have pq7 := paired_keep k8 hl7 (paired_same st pq6)
        refine ⟨_, rfl, xs ++ [.ref t], ps ++ [(fin 0 ps + n1, fin 0 ps + n1 + n2, z)], some (.int (0 + (i : Int))), some (.int (((fin 0 ps : Nat) : Int) + (n1 : Int))), some (.int (((fin 0 ps : Nat) : Int) + (n1 : Int) + (n2 : Int))), ?_, ?_, ?_, upd_same, ?_, hq.1, ?_, ?_⟩
        · rw [hq.2]
          rfl
        · have kk : KeepBut p H (L2.upd H6 t _) := ((k05.trans (.same s6)).trans k6).trans (.same st)
          exact kk.new2 k8 nl
        · exact ((p6.same st).but npl k8)
        · rw [List.map_append]
          refine paired_snoc pq7 ⟨t, rfl, ?_⟩
          rw [upd_ne nlt.symm, upd_same]
          rfl
        · intro q hq'
          rcases List.mem_append.mp hq' with hq' | hq'
          · exact hz q hq'
          · rw [List.mem_singleton.mp hq']
            exact hzm
        · rw [List.length_append]
          exact Nat.succ_le_succ hn3
      · exact ⟨xs, ps, _, _, _, rfl, k05, p5, hl5, pq5, ch, hz, by omega⟩
    · rintro σ H3 ⟨xs, ps, y4, y5, y6, rfl, k3, p3, hl3, pq, ch, hz, hn3⟩
      refine ⟨_, rfl, q _ l xs ps k3 p3 nl hl3 pq ch hz ?_⟩
      have : ps.length ≤ n := by simpa using hn3
      omega
end
end KB
set_option maxHeartbeats 8000000
namespace KB
open PySem PySem.Spec PyProof.Rows L2 LamX ItT SDc Ch3
abbrev sLaw : Stmt := topS 143
theorem joinL_one : ∀ w : List Nat, TL.joinL [] (w.map fun c => [c]) = w
  | [] => rfl
  | [c] => rfl
  | c :: d :: s => by
    show [c] ++ ([] ++ TL.joinL [] ((d :: s).map fun c => [c])) = _
    rw [joinL_one (d :: s)]
    rfl
theorem join_signs (w : List Nat) : Txt.join (S []) (w.map fun c => S [c]) = S w := by
  have z := SX.join_S [] (w.map fun c => [c])
  rw [List.map_map, joinL_one] at z
  exact z
abbrev signL : List Nat := [97, 98, 99, 32, 35]
/-- ['abc #'[a draw] for each in range(12)] -/
theorem word_lc {σ : L2.St} {H : Hp} {Q : VK} {p : Addr} (hp : PoolAt H p)
    (hw : ∀ x, wipe ((wipe σ [10]).set 10 (some x)) [10] = wipe σ [10]) (hz : ∀ x, ((wipe σ [10]).set 10 (some x))[2]? = some (some (.ref p)))
    (k : ∀ (w : List Nat) (H' : Hp) (D : Addr), w.length = 12 → (∀ c ∈ w, c ∈ signL) → KeepBut p H H' → PoolAt H' p → H D = none → H' D = some (.lst (w.map fun c => .str (S [c]))) → Q (.ref D) H') :
    tLc (iRng1 (tCons (tC (.int 12)) tNil)) (gName 10) tYes (tOp rIxS (tC (.str "abc #")) (tCall spTake [] E0 (tCons (tVar 2) (tCons (tC (.int 5)) tNil)))) [10] σ H Q := by
  refine ⟨12, rfl, by decide, by decide, fun D hD => ?_⟩
  have nDp : p ≠ D := hp.ne hD
  refine lc_range (lo := 0) (n := 12) (fun i H' => ∃ w : List Nat, w.length = i ∧ (∀ c ∈ w, c ∈ signL) ∧ H' D = some (.lst (w.map fun c => .str (S [c]))) ∧ KeepBut p H H' ∧ PoolAt H' p) ⟨[], rfl, fun _ h => absurd h List.not_mem_nil, upd_same, KeepBut.same (same_new hD), hp.same (same_new hD)⟩ ?_ ?_
  · rintro i H' hi ⟨w, rfl, hw', hD', kk, pp⟩
    refine ⟨hw _, ?_⟩
    show tCall spTake [] E0 (tCons (tVar 2) (tCons (tC (.int 5)) tNil)) _ H' _
    refine take_ok (p := p) (m := 5) (hz _) pp (by decide) (by decide) fun r H'' hr k2 p2 => ?_
    have e : Str.ofString "abc #" = S signL := by decide +kernel
    have hr' : r < signL.length := hr
    refine ⟨S signL, (r : Int), signL[r], by rw [e], rfl, by rw [S_len]; exact small (by decide), atI_nat (List.getElem?_eq_getElem hr'), ?_⟩
    refine ⟨_, k2 D _ nDp.symm hD', ?_, w ++ [signL[r]], by simp, fun d hd => ?_, ?_, fun b o nb h => ?_, ?_⟩
    · rw [List.length_map]
      exact small1000 (by omega)
    · rcases List.mem_append.mp hd with h | h
      · exact hw' d h
      · rw [List.mem_singleton.mp h]
        exact List.getElem_mem hr'
    · rw [upd_same, List.map_append]
      rfl
    · have nbD : b ≠ D := fun z => by
        subst z
        rw [hD] at h
        cases h
      rw [upd_ne nbD]
      exact k2 b o nb (kk b o nb h)
    · obtain ⟨a', b', ok', e'⟩ := p2
      exact ⟨a', b', ok', by rw [upd_ne nDp]; exact e'⟩
  · rintro H' ⟨w, hl, hw', hD', kk, pp⟩
    exact k w H' D hl hw' kk pp hD hD'
/-! ### pieces as data -/
def dOf (p : Pz) : PyData := .tuple [.int p.1, .int p.2.1, .str (S p.2.2)]
theorem piece_str : ∀ z ∈ pieceL, PyData.strOk (S z) = true := by decide +kernel
theorem lay_all : ∀ (ps : List Pz), (∀ p ∈ ps, p.2.2 ∈ pieceL) → PyData.canLayAll0 (ps.map dOf) = true
  | [], _ => by simp [PyData.canLayAll0]
  | p :: r, h => by
    have h1 := piece_str _ (h p (by simp))
    have h2 := lay_all r (fun q hq => h q (by simp [hq]))
    rw [List.map_cons]
    simp [PyData.canLayAll0, dOf, PyData.canLay0, h1, h2]
theorem depth_dOf (p : Pz) : (dOf p).depth ≤ 2 := by
  simp [dOf, PyData.depth, PyData.depthAll]
theorem depth_all : ∀ (ps : List Pz), PyData.depthAll (ps.map dOf) ≤ 2
  | [] => by simp [PyData.depthAll]
  | p :: r => by
    have h1 := depth_dOf p
    have h2 := depth_all r
    rw [List.map_cons]
    simp only [PyData.depthAll]
    omega
theorem shaped_ps {ps : List Pz} (h : ∀ p ∈ ps, p.2.2 ∈ pieceL) : SeqAt.shaped (.list (ps.map dOf)) = true := by
  unfold SeqAt.shaped
  rw [Bool.and_eq_true]
  refine ⟨?_, decide_eq_true ?_⟩
  · simp only [PyData.canLay0]
    exact lay_all ps h
  · have := depth_all ps
    simp only [PyData.depth]
    omega
theorem dp_all {K : PySem.W.Frag} {H : Hp} : ∀ {xs : List V} {ps : List Pz}, Paired (PcAt H) xs (ps.map pcOf) → DpAll K H xs (ps.map dOf)
  | [], [], _ => .nil
  | _ :: _, _ :: _, .cons ⟨t, e, h⟩ r => .cons (by rw [e]; exact .tup (.inl (.inl h)) (.cons (.int _) (.cons (.int _) (.cons (.str _) .nil)))) (dp_all r)
  | [], _ :: _, h => by cases h
  | _ :: _, [], h => by cases h
theorem eqv_nil (ps : List Pz) : PyData.eqv (.list (ps.map dOf)) (.list []) = ps.isEmpty := by
  cases ps with
  | nil => simp [PyData.eqv, PyData.eqvAll]
  | cons p r => simp [PyData.eqv, PyData.eqvAll]
theorem eqv_01 (a b : Nat) : PyData.eqv (.tuple [.int a, .int b]) (.tuple [.int 0, .int 1]) = (decide (a = 0) && decide (b = 1)) := by
  simp only [PyData.eqv, PyData.eqvAll, Bool.and_true]
  congr 1
  · rw [Bool.eq_iff_iff, beq_iff_eq, decide_eq_true_eq]
    omega
  · rw [Bool.eq_iff_iff, beq_iff_eq, decide_eq_true_eq]
    omega
theorem shaped_two (a b : Int) : SeqAt.shaped (.tuple [.int a, .int b]) = true := by
  unfold SeqAt.shaped
  rw [Bool.and_eq_true]
  refine ⟨by simp [PyData.canLay0, PyData.canLayAll0], decide_eq_true ?_⟩
  simp [PyData.depth, PyData.depthAll]
theorem PcAt.ext {H H' : Hp} {x : V} {c : Pz} (a : PcAt H x (pcOf c)) (k : ExtN H H') : PcAt H' x (pcOf c) := by
  obtain ⟨t, e, h⟩ := a
  exact ⟨t, e, k _ _ h tup_tbl⟩
theorem paired_ext {H H' : Hp} (k : ExtN H H') : ∀ {xs : List V} {ps : List Pz}, Paired (PcAt H) xs (ps.map pcOf) → Paired (PcAt H') xs (ps.map pcOf)
  | [], [], _ => .nil
  | _ :: _, _ :: _, .cons a r => .cons (PcAt.ext a k) (paired_ext k r)
  | [], _ :: _, h => by cases h
  | _ :: _, [], h => by cases h
/-- the list of the pieces -/
def PieceAt (H : Hp) (l : Addr) (ps : List Pz) : Prop := ∃ xs, H l = some (.lst xs) ∧ Paired (PcAt H) xs (ps.map pcOf)
theorem PieceAt.ext {H H' : Hp} {l : Addr} {ps : List Pz} (a : PieceAt H l ps) (k : ExtN H H') : PieceAt H' l ps := by
  obtain ⟨xs, h, p⟩ := a
  exact ⟨xs, k _ _ h lst_tbl, paired_ext k p⟩
structure Gd (ps : List Pz) : Prop where
  ch : Chn 13 0 ps
  z : ∀ p ∈ ps, p.2.2 ∈ pieceL
  n : ps.length ≤ 3
theorem Gd.tail {ps : List Pz} (g : Gd ps) : Gd ps.tail := by
  cases ps with
  | nil => exact g
  | cons p r => exact ⟨g.ch.tail, fun q hq => g.z q (List.mem_cons_of_mem _ hq), by have := g.n; simp at this ⊢; omega⟩
theorem Gd.z4 {ps : List Pz} (g : Gd ps) : ∀ p ∈ ps, p.2.2.length ≤ 4 := fun p hp => piece_len _ (g.z p hp)
theorem Gd.ok {ps : List Pz} (g : Gd ps) : ∀ c ∈ ps.map pcOf, c.ok := fun c hc => by
  obtain ⟨p, hp, rfl⟩ := List.mem_map.mp hc
  exact Nat.le_trans (g.z4 p hp) (by decide)
/-- the law's world: what was before, the tables, the pool -/
structure Wd (pF : Addr) (H : Hp) (p : Addr) (H1 : Hp) : Prop where
  e : ExtN H H1
  t : Tabs (TTb pF) H1
  p : PoolAt H1 p
theorem Wd.keep {pF p : Addr} {H H1 H2 : Hp} (w : Wd pF H p H1) (n : H p = none) (k : KeepBut p H1 H2) (p2 : PoolAt H2 p) : Wd pF H p H2 := by
  obtain ⟨a, b, ok, e⟩ := w.p
  exact ⟨fun b o h nt => k b o (ne_of_none h n) (w.e b o h nt), tabs_but w.t k e lst_tbl lst_code, p2⟩
theorem Wd.same {pF p : Addr} {H H1 H2 : Hp} (w : Wd pF H p H1) (s : Same H1 H2) : Wd pF H p H2 := ⟨w.e.trans (KB.ExtN.same s), tabs_same w.t s, w.p.same s⟩
theorem Wd.ext {pF p : Addr} {H H1 H2 : Hp} (w : Wd pF H p H1) (k : ExtN H1 H2) (t : Tabs (TTb pF) H2) : Wd pF H p H2 := by
  obtain ⟨a, b, ok, e⟩ := w.p
  exact ⟨w.e.trans k, t, a, b, ok, k _ _ e lst_tbl⟩
theorem cut_one (l : List Nat) : cutS (S l) none (some 1) = S (l.take 1) := by
  cases l with
  | nil => decide +kernel
  | cons c r => exact cut_first (c :: r) 1 (by simp)
theorem cutV_tail (xs : List V) : cutV xs (some 1) none = xs.tail := by
  unfold cutV
  show ((xs.drop (HT.sIx xs.length 0 (some ((1 : Nat) : Int)))).take (xs.length - HT.sIx xs.length 0 (some ((1 : Nat) : Int)))) = _
  rw [HT.sIx_nat]
  cases xs with
  | nil => rfl
  | cons x r => simp
theorem paired_tail {α β : Type} {R : α → β → Prop} {xs : List α} {ys : List β} (h : Paired R xs ys) : Paired R xs.tail ys.tail := by
  cases h with
  | nil => exact .nil
  | cons _ t => exact t
theorem merge_two (a b : V) : mergeK [] [((.inr "m" : Key), a), (.inr "n", b)] = two a b := by
  show putK (putK [] (.inr "m" : Key) a) (.inr "n") b = _
  rw [put_nil, put_one]
theorem sign_cmt {w : List Nat} (h : ∀ c ∈ w, c ∈ signL) : Cmt (35 :: w) := by
  refine ⟨.inr rfl, fun i hi => ?_⟩
  cases i with
  | zero => cases hi
  | succ i =>
    have hi : w[i]? = some 10 := by simpa using hi
    have := h 10 (List.mem_of_getElem? hi)
    simp [signL] at this
section
variable {K : PySem.W.Frag} {CP : Addr} {H : Hp} {Q : VK} {E : XK} {po pn a : Addr} {text made : List Nat}
theorem sl_list_ {xs : List V} {pcs : List Pc} (pjo : PjAt CP H po text []) (pjn : PjAt CP H pn made []) (ha : H a = some (.lst xs)) (pq : Paired (PcAt H) xs pcs) (oks : ∀ c ∈ pcs, c.ok) (np : pcs.length ≤ 64) (nl : text.length ≤ 5000)
    (q : ∀ H', Same H H' → Q (.bl (decide (lay text pcs 0 [] = some made))) H') : spSL K CP [.ref po, .ref pn, .str "m", .ref a] H Q E :=
  ⟨po, pn, text, [], made, [], .str "m", .ref a, rfl, pjo, pjn, .inr ⟨"m", text, made, rfl, get_m _ _, get_m _ _, .inr ⟨a, xs, pcs, rfl, ha, pq, oks, np, nl, q⟩⟩⟩
theorem sl_n (pjo : PjAt CP H po text []) (pjn : PjAt CP H pn made []) (ha : H a = some (.lst [])) (q : ∀ H', Same H H' → Q (.bl true) H') : spSL K CP [.ref po, .ref pn, .str "n", .ref a] H Q E :=
  ⟨po, pn, text, [], made, [], .str "n", .ref a, rfl, pjo, pjn, .inr ⟨"n", [], [], rfl, get_n _ _, get_n _ _, .inr ⟨a, [], [], rfl, ha, .nil, fun _ h => absurd h List.not_mem_nil, by decide, by decide, q⟩⟩⟩
theorem sl_row {x : V} {n : String} (pjo : PjAt CP H po text []) (pjn : PjAt CP H pn made []) (ty : ∀ H', Same H H' → TyX K H' x (.type n)) (kt : PySem.W.kitAny K (.type n) [.type "list", .type "tuple"] = some false) (q : ∀ H', Same H H' → Q (.bl false) H') :
    spSL K CP [.ref po, .ref pn, .str "m", x] H Q E :=
  ⟨po, pn, text, [], made, [], .str "m", x, rfl, pjo, pjn, .inr ⟨"m", text, made, rfl, get_m _ _, get_m _ _, .inl ⟨n, ty, kt, q⟩⟩⟩
theorem sl_mod {x y : V} (pjo : PjAt CP H po text []) (pjn : PjAt CP H pn made []) (h : (∃ z : Str, x = .str z ∧ valV (two (.str (S text)) (.str (S []))) (.inr z) = none) ∨ ∃ t, TyX K H x t ∧ PySem.W.kitOne K t (.type "str") = some false) (q : Q (.bl false) H) :
    spSL K CP [.ref po, .ref pn, x, y] H Q E := ⟨po, pn, text, [], made, [], x, y, rfl, pjo, pjn, .inl ⟨h, q⟩⟩
end
end KB
namespace KB
open PySem PySem.Spec PyProof.Rows L2 LamX ItT SDc Ch3
theorem paired_last {α β : Type} {R : α → β → Prop} {as : List α} {bs : List β} {a : α} {b : β} (h : Paired R (as ++ [a]) (bs ++ [b])) : R a b := by
  have hl := h.length
  rw [List.length_append, List.length_append] at hl
  have hl : as.length = bs.length := by simpa using hl
  obtain ⟨c, hc, r⟩ := paired_get (i := as.length) (a := a) h (by simp)
  rw [hl] at hc
  have : c = b := by
    have z : (bs ++ [b])[bs.length]? = some b := by simp
    rw [z] at hc
    exact (Option.some.inj hc).symm
  rw [← this]
  exact r
theorem ends {H : Hp} {xs : List V} {ps : List Pz} (h : Paired (PcAt H) xs (ps.map pcOf)) (n : 1 < ps.length) :
    ∃ (p q : Pz) (mid : List Pz) (x y : V) (xm : List V), ps = (p :: mid) ++ [q] ∧ xs = (x :: xm) ++ [y] ∧ PcAt H x (pcOf p) ∧ PcAt H y (pcOf q) := by
  cases ps with
  | nil => exact absurd n (by simp)
  | cons p r =>
    rcases List.eq_nil_or_concat r with rfl | ⟨mid, q, rfl⟩
    · exact absurd n (by simp)
    · cases h with
      | cons px pr =>
        rename_i x xr
        rcases List.eq_nil_or_concat xr with rfl | ⟨xm, y, rfl⟩
        · have := pr.length
          simp at this
        · refine ⟨p, q, mid, x, y, xm, by simp, by simp, px, ?_⟩
          rw [List.concat_eq_append, List.concat_eq_append, List.map_append] at pr
          exact paired_last pr
theorem paired_app {α β : Type} {R : α → β → Prop} : ∀ {as : List α} {bs : List β} {cs : List α} {ds : List β}, Paired R as bs → Paired R cs ds → Paired R (as ++ cs) (bs ++ ds)
  | [], [], _, _, _, h => h
  | _ :: _, _ :: _, _, _, .cons r t, h => .cons r (paired_app t h)
  | [], _ :: _, _, _, h, _ => by cases h
  | _ :: _, [], _, _, h, _ => by cases h
theorem paired_rev {α β : Type} {R : α → β → Prop} : ∀ {as : List α} {bs : List β}, Paired R as bs → Paired R as.reverse bs.reverse
  | [], [], _ => .nil
  | a :: r, b :: s, .cons h t => by
    rw [List.reverse_cons, List.reverse_cons]
    exact paired_app (paired_rev t) (.cons h .nil)
  | [], _ :: _, h => by cases h
  | _ :: _, [], h => by cases h
/-! ### values that are no pieces and no modules -/
def OddP (K : PySem.W.Frag) (H : Hp) (x : V) : Prop := (∃ n, (∀ H', Same H H' → TyX K H' x (.type n)) ∧ PySem.W.kitAny K (.type n) [.type "list", .type "tuple"] = some false) ∨
  ∃ (a : Addr) (y : V) (c : Pc), x = .ref a ∧ H a = some (.lst [y]) ∧ PcAt H y c ∧ c.ok ∧ ∀ (l m : List Nat), lay l [c] 0 [] ≠ some m
theorem OddP.same {K : PySem.W.Frag} {H H' : Hp} {x : V} (o : OddP K H x) (s : Same H H') : OddP K H' x := by
  rcases o with ⟨n, a, b⟩ | ⟨a, y, c, e, h, p, k, l⟩
  · exact .inl ⟨n, fun H2 s2 => a H2 (s.trans s2), b⟩
  · exact .inr ⟨a, y, c, e, s _ _ h, p.same s, k, l⟩
theorem kitF {K : PySem.W.Frag} {n : String} (h1 : PySem.W.kitOne K (.type n) (.type "list") = some false) (h2 : PySem.W.kitOne K (.type n) (.type "tuple") = some false) :
    PySem.W.kitAny K (.type n) [.type "list", .type "tuple"] = some false := kitAny_cons h1 (fun _ => kitAny_cons h2 (fun _ => kitAny_nil) (fun z => by cases z)) (fun z => by cases z)
theorem odd_non {K : PySem.W.Frag} {H : Hp} : OddP K H .non := .inl ⟨_, fun _ _ => .base .non, kitF (kit_ty (by decide +kernel)) (kit_ty (by decide +kernel))⟩
theorem odd_int {K : PySem.W.Frag} {H : Hp} {i : Int} : OddP K H (.int i) := .inl ⟨_, fun _ _ => .base (.int i), kitF (kit_ty (by decide +kernel)) (kit_ty (by decide +kernel))⟩
theorem odd_str {K : PySem.W.Frag} {H : Hp} {z : Str} : OddP K H (.str z) := .inl ⟨_, fun _ _ => .base (.str z), kitF (kit_ty (by decide +kernel)) (kit_ty (by decide +kernel))⟩
theorem odd_dK {K : PySem.W.Frag} {H : Hp} {a : Addr} {kvs : List (Key × V)} (h : H a = some (.dK kvs)) : OddP K H (.ref a) := .inl ⟨_, fun _ s => .base (.dK (s _ _ h)), kitF (kit_ty (by decide +kernel)) (kit_ty (by decide +kernel))⟩
theorem odd_one {K : PySem.W.Frag} {H : Hp} {a : Addr} {y : V} {c : Pc} (h : H a = some (.lst [y])) (p : PcAt H y c) (k : c.ok) (l : ∀ (l m : List Nat), lay l [c] 0 [] ≠ some m) : OddP K H (.ref a) := .inr ⟨a, y, c, rfl, h, p, k, l⟩
theorem lay_bad (l m : List Nat) : lay l [.bad] 0 [] ≠ some m := fun z => by cases z
theorem lay_unfit {a b : Int} {z : List Nat} (h : ¬ (0 ≤ a ∧ a ≤ b)) (l m : List Nat) : lay l [.good a b z] 0 [] ≠ some m := by
  rw [lay_good, if_neg (fun y : fits l 0 a b => h ⟨y.1, y.2.1⟩)]
  exact fun y => by cases y
theorem get_zz (x y : V) : valV (two x y) (.inr (Str.ofString "zz")) = none := by kernel_rfl
def OddM (K : PySem.W.Frag) (text : List Nat) (H : Hp) (x : V) : Prop := ∀ H', Same H H' → ((∃ z : Str, x = .str z ∧ valV (two (.str (S text)) (.str (S []))) (.inr z) = none) ∨ ∃ t, TyX K H' x t ∧ PySem.W.kitOne K t (.type "str") = some false)
theorem OddM.same {K : PySem.W.Frag} {text : List Nat} {H H' : Hp} {x : V} (o : OddM K text H x) (s : Same H H') : OddM K text H' x := fun H2 s2 => o H2 (s.trans s2)
theorem all5 {α : Type} {p : α → Prop} {a b c d e : α} (h : p a) (h1 : p b) (h2 : p c) (h3 : p d) (h4 : p e) : ∀ x ∈ [a, b, c, d, e], p x := by
  intro x hx
  simp only [List.mem_cons, List.not_mem_nil, or_false] at hx
  rcases hx with rfl | rfl | rfl | rfl | rfl <;> assumption
theorem all10 {α : Type} {p : α → Prop} {a b c d e f g i j k : α} (h : p a) (h1 : p b) (h2 : p c) (h3 : p d) (h4 : p e) (h5 : p f) (h6 : p g) (h7 : p i) (h8 : p j) (h9 : p k) : ∀ x ∈ [a, b, c, d, e, f, g, i, j, k], p x := by
  intro x hx
  simp only [List.mem_cons, List.not_mem_nil, or_false] at hx
  rcases hx with rfl | rfl | rfl | rfl | rfl | rfl | rfl | rfl | rfl | rfl <;> assumption
section
variable {P : Program} {w : World} {K : PySem.W.Frag} {mg : Str → Option Value} {base : Heap} {aW CP fP fT fLP fPT fSL fPI fL pF : Addr}
abbrev nLaw : List Str := ["_law_script", "_law_k", "_law_pool_here", "_law_turn", "_law_text", "_law_pieces_here", "_law_made", "_law_old", "_law_new", "_law_odd", "_law_each"]
theorem scLaw : FnScope nLaw ["_law_script"] (defScope sLaw) := ⟨rfl, rfl, rfl, by decide +kernel, rfl, by decide +kernel, by decide +kernel⟩
def spLaw (K : PySem.W.Frag) (pF : Addr) : Sp := fun vs H Q _ => ∃ (a : Addr) (ns : List Int), vs = [.ref a] ∧ SqL K H a (ns.map V.int) ∧ ns.length ≤ 63 ∧ (∀ z ∈ ns, Builtin.Int.intBits z ≤ 1048576) ∧ Tabs (TTb pF) H ∧ ∀ H', Q (.bl true) H'
theorem ok_law {fdP fdT fdLP fdPT fdSL fdPI fd : FuncData} (F : Fun K "law" "law" sLaw fL fd) (T : T4 K mg aW) (CPr : C4 K mg "Project" CP fPI prFs)
    (GPool : FnOk P w K mg base CX0 1 fP fdP ["_law_script", "_law_k"] (spPool K)) (gPool : mg "_law_pool" = some (.ref fP)) (kPool : PySem.W.keepIn K (.ref fP) = true) (bPool : Binds K fdP ["_law_script", "_law_k"] [])
    (GT : FnOk P w K mg base CX0 1 fT fdT ["_law_pool_here", "_law_many"] spTake) (gTake : mg "_law_take" = some (.ref fT)) (kTake : PySem.W.keepIn K (.ref fT) = true) (bT : Binds K fdT ["_law_pool_here", "_law_many"] [])
    (GLP : FnOk P w K mg base CX0 2 fLP fdLP ["_law_pool_here", "_law_length"] spLP) (gLP : mg "_law_pieces" = some (.ref fLP)) (kLP : PySem.W.keepIn K (.ref fLP) = true) (bLP : Binds K fdLP ["_law_pool_here", "_law_length"] [])
    (GPT : FnOk P w K mg base CX0 1 fPT fdPT ["_law_text", "_law_pieces_here"] spPT) (gPT : mg "_law_put" = some (.ref fPT)) (kPT : PySem.W.keepIn K (.ref fPT) = true) (bPT : Binds K fdPT ["_law_text", "_law_pieces_here"] [])
    (GSL : FnOk P w K mg base CX0 3 fSL fdSL ["old", "new", "module", "pieces"] (spSL K CP)) (gSL : mg "same_layout" = some (.ref fSL)) (kSL : PySem.W.keepIn K (.ref fSL) = true) (bSL : Binds K fdSL ["old", "new", "module", "pieces"] [])
    (GPI : FnOk P w K mg base CX0 10 fPI fdPI ["self", "modules"] (spPI CP pF)) (bPI : Binds K fdPI ["self", "modules"] []) :
    FnOk P w K mg base CX0 12 fL fd ["_law_script"] (spLaw K pF) := by
  refine F.ok scLaw (fun vs H Q E h => ?_) (fun cdv A outer s H vs Q E hr h => ?_)
  · obtain ⟨a, ns, rfl, _⟩ := h
    rfl
  · obtain ⟨a, ns, rfl, hS, hlen, hbits, hT, q⟩ := h
    have hu := hr.units
    refine ⟨_,
(pss_cons (ps_for PassesOwn.never rfl (pi_range1 rfl T.range (pa_cons (pe_callB (call_max2 rfl) (by rfl) T.max (by decide +kernel) (pa_cons pe_int (pa_cons (pe_callB (call_min2 rfl) (by rfl) T.min (by decide +kernel) (pa_cons (pe_callB call_len_seq (by rfl) T.len (by decide +kernel) (pa_cons (pv 0) pa_nil)) (pa_cons pe_int pa_nil))) pa_nil))) pa_nil)) (pg_name (i := 1) scLaw.nd rfl (.inl rfl))
 (pss_cons (ps_set (i := 2) scLaw.nd rfl (.inr rfl) (pe_call GPool (hr.mono (by omega)) (by rfl) gPool kPool bPool .nil pass0 (pa_cons (pv 0) (pa_cons (pv 1) pa_nil))))
 (pss_one (ps_for PassesOwn.never rfl (pi_range1 rfl T.range (pa_cons pe_int pa_nil)) (pg_name (i := 3) scLaw.nd rfl (.inl rfl))
 (pss_cons (ps_set (i := 4) scLaw.nd rfl (.inl rfl) (pe_op op_add_str pe_str (pe_join pe_str (pe_lc (own := [("_law_each", 10)]) (g := gName 10) (tt := tYes) rfl scLaw.nd (pi_range1 rfl T.range (pa_cons pe_int pa_nil)) (blkOk_by (own := [("_law_each", 10)]) (N := ["_law_script", "_law_k", "_law_pool_here", "_law_turn", "_law_text", "_law_pieces_here", "_law_made", "_law_old", "_law_new", "_law_odd", "_law_each"]) (sc := defScope sLaw) (by decide +kernel)) (fun _ _ _ _ _ => pg_name (i := 10) scLaw.nd rfl (Or.inl rfl)) (fun _ _ _ _ _ => pts_nil) (fun _ _ _ _ _ => (pe_ix (r := rIxS) ix_str pe_str (pe_call GT (hr.mono (by omega)) (by rfl) gTake kTake bT .nil pass0 (pa_cons (pv 2) (pa_cons pe_int pa_nil))) (fun _ _ => rfl)))))))
 (pss_cons (ps_set (i := 5) scLaw.nd rfl (.inl rfl) (pe_call GLP (hr.mono (by omega)) (by rfl) gLP kLP bLP .nil pass0 (pa_cons (pv 2) (pa_cons pe_int pa_nil))))
 (Evl.pss_cut (ps_if (PW.pt (pw_and (pt_cmpR (op_neD hu) (pv 5) (pe_lst pa_nil) (nomark _)) (pw_and1 (pt_cmpR (op_eqD hu) (pe_slice sl_tup (pe_ix ix_list (pv 5) pe_int (fun _ _ => rfl)) po_none (po_some pe_int)) (pe_tup (pa_cons pe_int (pa_cons pe_int pa_nil))) (nomark _)))))
 (pss_one (ps_set (i := 5) scLaw.nd rfl (.inl rfl) (pe_slice sl_list (pv 5) (po_some pe_int) po_none)))
 pss_nil)
 (pss_cons (ps_set (i := 6) scLaw.nd rfl (.inl rfl) (pe_call GPT (hr.mono (by omega)) (by rfl) gPT kPT bPT .nil pass0 (pa_cons (pv 4) (pa_cons (pv 5) pa_nil))))
 (pss_one (ps_if (PW.pt (pw_and (pt_cmpR op_eq (pe_slice sl_str (pv 6) po_none (po_some pe_int)) pe_str (nomark _)) (pw_and1 (pt_cmpR op_eq (pe_m1 PySem.F.slot_str_count PySem.F.type_str_count mt_count (pv 6) pe_str) (pe_m1 PySem.F.slot_str_count PySem.F.type_str_count mt_count (pv 6) pe_str) (nomark _)))))
 (pss_cons (ps_par (i := 7) (j := 8) rfl scLaw.nd rfl rfl (by decide) rfl rfl (pa_cons (pe_make CPr.M GPI (hr.mono (by omega)) (by rfl) CPr.g bPI .nil pass0 (pa_cons (pe_disp (pps_cons pe_str (pv 4) (pps_cons pe_str pe_str pps_nil)) (by rfl) (by rfl) (fun z => by cases z) (by decide)) pa_nil)) (pa_cons (pe_make CPr.M GPI (hr.mono (by omega)) (by rfl) CPr.g bPI .nil pass0 (pa_cons (pe_disp (pps_cons pe_str (pv 6) (pps_cons pe_str pe_str pps_nil)) (by rfl) (by rfl) (fun z => by cases z) (by decide)) pa_nil)) pa_nil)) (by rfl))
 (pss_cons (ps_if (PW.pt (pw_or (pt_cmpR op_notBl (pe_call GSL (hr.mono (by omega)) (by rfl) gSL kSL bSL .nil pass0 (pa_cons (pv 7) (pa_cons (pv 8) (pa_cons pe_str (pa_cons (pv 5) pa_nil))))) pe_bl (nomark _)) (pw_or1 (pt_cmpR op_notBl (pe_call GSL (hr.mono (by omega)) (by rfl) gSL kSL bSL .nil pass0 (pa_cons (pv 7) (pa_cons (pv 8) (pa_cons pe_str (pa_cons (pe_lst pa_nil) pa_nil))))) pe_bl (nomark _)))))
 (pss_one (ps_ret pe_bl))
 pss_nil)
 (pss_cons (ps_if (pt_cmpR op_ne (pe_call GSL (hr.mono (by omega)) (by rfl) gSL kSL bSL .nil pass0 (pa_cons (pv 7) (pa_cons (pv 8) (pa_cons pe_str (pa_cons (pe_slice sl_list (pv 5) (po_some pe_int) po_none) pa_nil))))) (pe_cmpR op_eq (pe_call GPT (hr.mono (by omega)) (by rfl) gPT kPT bPT .nil pass0 (pa_cons (pv 4) (pa_cons (pe_slice sl_list (pv 5) (po_some pe_int) po_none) pa_nil))) (pv 6) (nomark _)) (nomark _))
 (pss_one (ps_ret pe_bl))
 pss_nil)
 (pss_cons (ps_if (pt_cmpR op_notBl (pe_call GSL (hr.mono (by omega)) (by rfl) gSL kSL bSL .nil pass0 (pa_cons (pv 7) (pa_cons (pv 8) (pa_cons pe_str (pa_cons (pe_op op_cat (pv 5) (pe_lst (pa_cons (pe_tup (pa_cons pe_int (pa_cons pe_int (pa_cons pe_str pa_nil)))) pa_nil))) pa_nil))))) pe_bl (nomark _))
 (pss_one (ps_ret pe_bl))
 pss_nil)
 (Evl.pss_cut (ps_if (PW.pt (pw_and (pt_cmpR op_gt (pe_callB call_len_seq (by rfl) T.len (by decide +kernel) (pa_cons (pv 5) pa_nil)) pe_int (nomark _)) (pw_and1 (pt_cmpR op_gt (pe_ix ix_tup (pe_ix ix_list (pv 5) (pe_un un_neg pe_int) (fun _ _ => rfl)) pe_int (fun _ _ => rfl)) (pe_ix ix_tup (pe_ix ix_list (pv 5) pe_int (fun _ _ => rfl)) pe_int (fun _ _ => rfl)) (nomark _)))))
 (pss_one (ps_if (pt_cmpR op_notBl (pe_call GSL (hr.mono (by omega)) (by rfl) gSL kSL bSL .nil pass0 (pa_cons (pv 7) (pa_cons (pv 8) (pa_cons pe_str (pa_cons (pe_revL (pv 5)) pa_nil))))) pe_bl (nomark _))
 (pss_one (ps_ret pe_bl))
 pss_nil))
 pss_nil)
 (pss_cons (ps_for PassesOwn.never rfl (pi_list (pe_lst (pa_cons pe_non (pa_cons pe_int (pa_cons pe_str (pa_cons (pe_lst (pa_cons pe_non pa_nil)) (pa_cons (pe_lst (pa_cons (pe_tup (pa_cons pe_int (pa_cons pe_int pa_nil))) pa_nil)) (pa_cons (pe_lst (pa_cons (pe_tup (pa_cons pe_int (pa_cons pe_int (pa_cons pe_int pa_nil)))) pa_nil)) (pa_cons (pe_lst (pa_cons (pe_tup (pa_cons pe_bl (pa_cons pe_int (pa_cons pe_str pa_nil)))) pa_nil)) (pa_cons (pe_lst (pa_cons (pe_tup (pa_cons pe_int (pa_cons pe_int (pa_cons pe_str pa_nil)))) pa_nil)) (pa_cons (pe_lst (pa_cons (pe_tup (pa_cons (pe_un un_neg pe_int) (pa_cons pe_int (pa_cons pe_str pa_nil)))) pa_nil)) (pa_cons pe_dnewK pa_nil)))))))))))) (pg_name (i := 9) scLaw.nd rfl (.inl rfl))
 (pss_one (ps_if (pt_cmpR op_notBl (pe_call GSL (hr.mono (by omega)) (by rfl) gSL kSL bSL .nil pass0 (pa_cons (pv 7) (pa_cons (pv 7) (pa_cons pe_str (pa_cons (pv 9) pa_nil))))) pe_bl (nomark _))
 (pss_one (ps_ret pe_bl))
 pss_nil)))
 (pss_one (ps_for PassesOwn.never rfl (pi_list (pe_lst (pa_cons pe_non (pa_cons pe_str (pa_cons pe_int (pa_cons (pe_lst (pa_cons pe_str pa_nil)) (pa_cons (pe_tup (pa_cons pe_str pa_nil)) pa_nil))))))) (pg_name (i := 9) scLaw.nd rfl (.inl rfl))
 (pss_one (ps_if (pt_cmpR op_notBl (pe_call GSL (hr.mono (by omega)) (by rfl) gSL kSL bSL .nil pass0 (pa_cons (pv 7) (pa_cons (pv 7) (pa_cons (pv 9) (pa_cons (pe_lst pa_nil) pa_nil))))) pe_bl (nomark _))
 (pss_one (ps_ret pe_bl))
 pss_nil))))))))))
 pss_nil))))))))))
 (pss_one (ps_ret pe_bl))), ?_⟩
    refine ⟨_, rfl, a, _, rfl, .inl hS, _, _, rfl, _, _, rfl, _, rfl, ?_, ?_, for_range (lo := 0) (fun _ σ H' => ∃ y1 y2 y3 y4 y5 y6 y7 y8 y9 y10, σ = [some (.ref a), y1, y2, y3, y4, y5, y6, y7, y8, y9, y10] ∧ ExtN H H' ∧ Tabs (TTb pF) H') ⟨_, _, _, _, _, _, _, _, _, _, rfl, ExtN.refl H, hT⟩ ?_ ?_⟩
    · split <;> split <;> omega
    · split <;> split <;> omega
    · intro i σ H0 hi h0
      obtain ⟨y1, y2, y3, y4, y5, y6, y7, y8, y9, y10, rfl, e0, t0⟩ := h0
      have hi3 : i < 6 := by
        revert hi
        split <;> split <;> omega
      refine ⟨_, rfl, _, rfl, a, ns, (0 + (i : Int)), rfl, SL.sql_ext hS e0, hlen, hbits, by omega, by omega, fun p A B hp okP => ?_⟩
      have s1 := same_new (o := .lst [.int A, .int B]) hp
      have w1 : Wd pF H0 p (L2.upd H0 p (.lst [.int A, .int B])) := ⟨KB.ExtN.same s1, tabs_same t0 s1, A, B, okP, upd_same⟩
      generalize L2.upd H0 p (.lst [.int A, .int B]) = H1 at w1 ⊢
      refine ⟨6, rfl, by decide, by decide, for_range (lo := 0) (n := 6) (fun _ σ H' => ∃ y1 y3 y4 y5 y6 y7 y8 y9 y10, σ = [some (.ref a), y1, some (.ref p), y3, y4, y5, y6, y7, y8, y9, y10] ∧ Wd pF H0 p H') ⟨_, _, _, _, _, _, _, _, _, rfl, w1⟩ ?_ ?_⟩
      · intro j σ H2 hj h2
        obtain ⟨y1, y3, y4, y5, y6, y7, y8, y9, y10, rfl, w2⟩ := h2
        -- the text
        refine ⟨⟨_, rfl⟩, ?_⟩
        refine word_lc w2.p (fun _ => rfl) (fun _ => rfl) fun wd H3 D hl hc k3 p3 nD hD => ?_
        have em : Str.ofString "" = S [] := by decide +kernel
        have eh : Str.ofString "#" = S [35] := by decide +kernel
        have w3 := w2.keep hp k3 p3
        refine ⟨_, D, wd.map fun c => S [c], rfl, rfl, .inl (.inl (.inl (by rw [List.map_map]; exact hD))), ?_, ?_⟩
        · rw [em, List.map_map, List.length_map, show ((fun x : Str => x.length) ∘ fun c => S [c]) = fun _ => 1 from rfl, List.map_const', List.sum_replicate_nat]
          show wd.length * 1 + wd.length * 0 ≤ _
          omega
        rw [em, join_signs, eh]
        refine ⟨_, _, rfl, rfl, ?_, ?_⟩
        · rw [S_len, S_len, hl]
          decide
        rw [S_add]
        have cm : Cmt (35 :: wd) := sign_cmt hc
        have l13 : (35 :: wd).length = 13 := by simp [hl]
        change PoolAt H3 p at p3
        generalize htx : ([35] ++ wd : List Nat) = text
        have htx' : 35 :: wd = text := htx
        rw [htx'] at cm l13
        clear hD hc htx htx' nD
        -- the pieces
        refine ⟨_, rfl, p, rfl, p3, fun H4 l xs ps k4 p4 nl hl4 pq ch hz hn => ?_⟩
        have w4 := w3.keep hp k4 p4
        have g : Gd ps := ⟨ch, hz, hn⟩
        -- the first piece that takes the sign #
        refine ⟨fun σ' H' => ∃ (l' : Addr) (ps' : List Pz) (y1 y3 y6 y7 y8 y9 y10 : Option V), σ' = [some (.ref a), y1, some (.ref p), y3, some (.str (S text)), some (.ref l'), y6, y7, y8, y9, y10] ∧ Wd pF H0 p H' ∧ PieceAt H' l' ps' ∧ Gd ps', ?_, ?_⟩
        · refine ⟨_, rfl, (by show 0 ≤ sizeLine; decide), fun e ne => ?_⟩
          have se := same_new (o := .lst []) ne
          have pqe : Paired (PcAt (L2.upd H4 e (.lst []))) xs (ps.map pcOf) := paired_same se pq
          refine ⟨.list (ps.map dOf), .list [], .lst (.inl (.inl (se _ _ hl4))) (dp_all pqe), .lst (.inl (.inl upd_same)) .nil, shaped_ps hz, shaped_ps (ps := []) (fun _ h => absurd h List.not_mem_nil), _, rfl, ?_⟩
          rw [eqv_nil]
          have we := w4.same se
          cases ps with
          | nil =>
            refine iteF ?_
            exact ⟨l, [], _, _, _, _, _, _, _, rfl, we, ⟨xs, se _ _ hl4, pqe⟩, g⟩
          | cons z r =>
            refine iteT ?_
            cases pqe with
            | cons pz pr =>
            rename_i x xr
            obtain ⟨t0, rfl, ht0⟩ := pz
            refine ⟨_, rfl, l, _, 0, _, rfl, rfl, .inl (.inl (se _ _ hl4)), atI_nat (j := 0) rfl, _, rfl, t0, _, rfl, .inl (.inl ht0), ?_, fun u nu => ?_⟩
            · show ¬ (0 = 0 ∧ min 2 3 = 3)
              decide
            have su := same_new (o := .tup (cutV [.int (z.1 : Int), .int (z.2.1 : Int), .str (S z.2.2)] none (some 2))) nu
            refine ⟨(by show 2 ≤ sizeLine; decide), fun v nv => ?_⟩
            have sv := same_new (o := .tup [.int 0, .int 1]) nv
            refine ⟨.tuple [.int (z.1 : Int), .int (z.2.1 : Int)], .tuple [.int 0, .int 1], .tup (.inl (.inl (sv _ _ upd_same))) (.cons (.int _) (.cons (.int _) .nil)), .tup (.inl (.inl upd_same)) (.cons (.int _) (.cons (.int _) .nil)), shaped_two _ _, shaped_two _ _, _, rfl, ?_⟩
            rw [eqv_01]
            have S8 := (se.trans su).trans sv
            have w8 := w4.same S8
            refine bool_if (fun _ => ?_) (fun _ => ?_)
            · refine ⟨_, rfl, _, rfl, l, _, rfl, .inl (.inl (S8 _ _ hl4)), fun n nn => ?_⟩
              have sn := same_new (o := .lst (cutV (.ref t0 :: xr) (some 1) none)) nn
              refine ⟨n, r, _, _, _, _, _, _, _, rfl, w8.same sn, ⟨xr, ?_, ?_⟩, Gd.tail g⟩
              · rw [upd_same, cutV_tail]
                rfl
              · exact paired_same ((su.trans sv).trans sn) pr
            · exact ⟨l, z :: r, _, _, _, _, _, _, _, rfl, w8, ⟨_, S8 _ _ hl4, paired_same S8 pq⟩, g⟩
        · rintro σ' H5 ⟨l', ps', y1, y3, y6, y7, y8, y9, y10, rfl, w5, ⟨xs', hl5, pq5⟩, g5⟩
          -- what is put together
          refine ⟨_, rfl, _, rfl, text, l', xs', ps', 13, rfl, hl5, pq5, g5.ch, by omega, g5.z4, Nat.le_trans g5.n (by decide), by omega, fun H6 s6 => ?_⟩
          have w6 := w5.same s6
          have P6 : PieceAt H6 l' ps' := PieceAt.ext ⟨xs', hl5, pq5⟩ (KB.ExtN.same s6)
          have lm : (put text ps').length ≤ 25 := by
            have := put_len (l := text) (n := 4) ps' 0 g5.ch g5.z4
            have h3 := g5.n
            omega
          generalize hmade : put text ps' = made at lm ⊢
          have eh2 : Str.ofString "\n" = S [10] := by decide +kernel
          have eh3 : Str.ofString "\n#" = S [10, 35] := by decide +kernel
          refine ⟨_, rfl, _, rfl, S made, rfl, by rw [S_len]; exact small (by omega), rfl, _, rfl, ?_⟩
          rw [cut_one, S_eq]
          refine bool_if (fun hb => ?_) (fun _ => ⟨_, _, _, _, _, _, _, _, _, rfl, w6⟩)
          have hb1 := of_decide_eq_true hb
          refine ⟨_, rfl, ⟨_, rfl⟩, _, _, rfl, rfl, _, rfl, ⟨_, rfl⟩, _, _, rfl, rfl, rfl, _, rfl, ?_⟩
          rw [eh2, eh3]
          refine bool_if (fun hb => ?_) (fun _ => ⟨_, _, _, _, _, _, _, _, _, rfl, w6⟩)
          have hcount := V.int.inj (of_decide_eq_true hb)
          have cmade : Cmt made := cmt_made (by
            have := congrArg (fun x => x[0]?) hb1
            simpa [List.getElem?_take] using this) hcount
          have cnil : Cmt [] := ⟨.inl rfl, fun i hi => by simp at hi⟩
          -- the two projects
          refine fun d nd => ⟨_, rfl, upd_same, [(.inr "m", .str (S text)), (.inr "n", .str (S []))], rfl, (by show 2 ≤ 15; decide), ?_⟩
          rw [upd2, merge_two]
          have sd := same_new (o := .dK (two (.str (S text)) (.str (S [])))) nd
          intro po dxo nx ndx _
          have mk := KB.made nx ndx (.refl _ _) (o := .ins CP dxo [])
          have wd_ := w6.same sd
          refine ⟨po, dxo, d, text, [], rfl, upd_same, mk _ _ upd_same, cm, cnil, by omega, by decide, tabs_same wd_.t mk, fun H7 e7 t7 pjo => ⟨rfl, ?_⟩⟩
          have x7 := made_ext nx ndx e7
          have w7 := wd_.ext x7 t7
          have P7 := (P6.ext (KB.ExtN.same sd)).ext x7
          refine fun d2 nd2 => ⟨_, rfl, upd_same, [(.inr "m", .str (S made)), (.inr "n", .str (S []))], rfl, (by show 2 ≤ 15; decide), ?_⟩
          rw [upd2, merge_two]
          have sd2 := same_new (o := .dK (two (.str (S made)) (.str (S [])))) nd2
          intro pn dxn nx2 ndx2 _
          have mk2 := KB.made nx2 ndx2 (.refl _ _) (o := .ins CP dxn [])
          have wd2 := w7.same sd2
          refine ⟨pn, dxn, d2, made, [], rfl, upd_same, mk2 _ _ upd_same, cmade, cnil, by omega, by decide, tabs_same wd2.t mk2, fun H8 e8 t8 pjn => ⟨rfl, ?_⟩⟩
          have x8 := made_ext nx2 ndx2 e8
          have w8 := wd2.ext x8 t8
          have P8 := (P7.ext (KB.ExtN.same sd2)).ext x8
          have pjo8 := (pjo.ext (KB.ExtN.same sd2)).ext x8
          refine ⟨_, _, rfl, ?_⟩
          clear mk mk2 wd_ wd2 w7 P7 pjo x7 x8 e7 e8 sd sd2 P6 w6
          obtain ⟨xs8, hl8, pq8⟩ := P8
          have ch8 : Chn text.length 0 ps' := g5.ch.hi (by omega)
          have nps : (ps'.map pcOf).length ≤ 64 := by
            rw [List.length_map]
            have := g5.n
            omega
          have el : lay text (ps'.map pcOf) 0 [] = some made := by
            have z := lay_put (l := text) ps' 0 [] ch8 (Nat.zero_le _)
            rw [hmade] at z
            exact z
          -- the pieces fit
          refine ⟨_, rfl, _, rfl, _, rfl, po, pn, text, [], made, [], .str "m", .ref l', rfl, pjo8, pjn, .inr ⟨"m", text, made, rfl, get_m _ _, get_m _ _, .inr ⟨l', xs8, ps'.map pcOf, rfl, hl8, pq8, g5.ok, nps, by omega, fun H9 s9 => ?_⟩⟩⟩
          rw [decide_eq_true el]
          refine ⟨true, true, rfl, rfl, _, rfl, iteF ?_⟩
          refine ⟨_, rfl, _, rfl, (by show 0 ≤ sizeLine; decide), fun e9 ne9 => ?_⟩
          have S10 := s9.trans (same_new (o := .lst []) ne9)
          refine ⟨po, pn, text, [], made, [], .str "n", .ref e9, rfl, pjo8.ext (KB.ExtN.same S10), pjn.ext (KB.ExtN.same S10), .inr ⟨"n", [], [], rfl, get_n _ _, get_n _ _, .inr ⟨e9, [], [], rfl, upd_same, .nil, fun _ h => absurd h List.not_mem_nil, by decide, by decide, fun H11 s11 => ⟨true, true, rfl, rfl, _, rfl, iteF ?_⟩⟩⟩⟩
          have S11 := S10.trans s11
          -- without the first one
          refine ⟨_, rfl, _, rfl, _, rfl, _, rfl, l', xs8, rfl, .inl (.inl (S11 _ _ hl8)), fun n12 nn12 => ?_⟩
          have S12 := S11.trans (same_new (o := .lst (cutV xs8 (some 1) none)) nn12)
          have tl12 : L2.upd H11 n12 (.lst (cutV xs8 (some 1) none)) n12 = some (.lst xs8.tail) := by rw [upd_same, cutV_tail]
          have pt12 : Paired (PcAt (L2.upd H11 n12 (.lst (cutV xs8 (some 1) none)))) xs8.tail (ps'.tail.map pcOf) := by
            rw [List.map_tail]
            exact paired_tail (paired_same S12 pq8)
          have g12 := g5.tail
          refine ⟨po, pn, text, [], made, [], .str "m", .ref n12, rfl, pjo8.ext (KB.ExtN.same S12), pjn.ext (KB.ExtN.same S12), .inr ⟨"m", text, made, rfl, get_m _ _, get_m _ _, .inr ⟨n12, xs8.tail, ps'.tail.map pcOf, rfl, tl12, pt12, g12.ok, by rw [List.length_map]; have := g12.n; omega, by omega, fun H13 s13 => ?_⟩⟩⟩
          have S13 := S12.trans s13
          refine ⟨_, rfl, _, rfl, _, rfl, l', xs8, rfl, .inl (.inl (S13 _ _ hl8)), fun n14 nn14 => ?_⟩
          have S14 := S13.trans (same_new (o := .lst (cutV xs8 (some 1) none)) nn14)
          have tl14 : L2.upd H13 n14 (.lst (cutV xs8 (some 1) none)) n14 = some (.lst xs8.tail) := by rw [upd_same, cutV_tail]
          have pt14 : Paired (PcAt (L2.upd H13 n14 (.lst (cutV xs8 (some 1) none)))) xs8.tail (ps'.tail.map pcOf) := by
            rw [List.map_tail]
            exact paired_tail (paired_same S14 pq8)
          refine ⟨text, n14, xs8.tail, ps'.tail, 13, rfl, tl14, pt14, g12.ch, by omega, g12.z4, Nat.le_trans g12.n (by decide), by omega, fun H15 s15 => ?_⟩
          have S15 := S14.trans s15
          refine ⟨_, rfl, rfl, ?_⟩
          rw [S_eq]
          have e15 : decide (lay text (ps'.tail.map pcOf) 0 [] = some made) = decide (put text ps'.tail = made) := by
            have z := lay_put (l := text) ps'.tail 0 [] (g12.ch.hi (by omega)) (Nat.zero_le _)
            have z : lay text (ps'.tail.map pcOf) 0 [] = some (put text ps'.tail) := z
            rw [z]
            by_cases h : put text ps'.tail = made
            · rw [decide_eq_true h, h, decide_eq_true rfl]
            · rw [decide_eq_false h, decide_eq_false (fun y => h (Option.some.inj y))]
          rw [e15]
          refine ⟨rfl, _, rfl, iteF' (by simp) ?_⟩
          -- a piece behind the end
          refine ⟨_, rfl, _, rfl, _, rfl, (by show 3 ≤ sizeLine; decide), fun t16 nt16 => ⟨(by show 1 ≤ sizeLine; decide), fun n17 nn17 => ?_⟩⟩
          have st16 := same_new (o := .tup [.int 14, .int 14, .str (S [])]) nt16
          have sn17 := same_new (o := .lst [.ref t16]) nn17
          have S17 := (S15.trans st16).trans sn17
          refine ⟨l', n17, xs8, [.ref t16], rfl, rfl, S17 _ _ hl8, upd_same, ?_, fun n18 nn18 => ?_⟩
          · have : xs8.length = ps'.length := by
              have := pq8.length
              rwa [List.length_map] at this
            rw [this]
            have := g5.n
            exact small (show ps'.length + 1 ≤ 10000 by omega)
          have S18 := S17.trans (same_new (o := .lst (xs8 ++ [.ref t16])) nn18)
          have ht18 := ((sn17.trans (same_new (o := .lst (xs8 ++ [.ref t16])) nn18)) _ _ (upd_same : L2.upd H15 t16 (.tup [.int 14, .int 14, .str (S [])]) t16 = _))
          refine ⟨po, pn, text, [], made, [], .str "m", .ref n18, rfl, pjo8.ext (KB.ExtN.same S18), pjn.ext (KB.ExtN.same S18), .inr ⟨"m", text, made, rfl, get_m _ _, get_m _ _, .inr ⟨n18, xs8 ++ [.ref t16], ps'.map pcOf ++ [.good 14 14 []], rfl, upd_same, paired_app (paired_same S18 pq8) (.cons (show PcAt (L2.upd _ n18 (.lst (xs8 ++ [V.ref t16]))) (.ref t16) (.good 14 14 []) from ⟨t16, rfl, ht18⟩) .nil), ?_, ?_, by omega, fun H19 s19 => ?_⟩⟩⟩
          · intro c hc
            rcases List.mem_append.mp hc with hc | hc
            · exact g5.ok c hc
            · rw [List.mem_singleton.mp hc]
              exact Nat.zero_le _
          · rw [List.length_append, List.length_map]
            have := g5.n
            show ps'.length + 1 ≤ 64
            omega
          have e19 : lay text (ps'.map pcOf ++ [.good 14 14 []]) 0 [] = none := lay_none_end (fun at_ rows => by
            rw [lay_good, if_neg (fun z : fits text at_ 14 14 => by
              have := z.2.2
              omega)]) _ _ _
          rw [e19, decide_eq_false (fun z => by cases z)]
          refine ⟨false, false, rfl, rfl, _, rfl, iteF ?_⟩
          have S19 := S18.trans s19
          have w19 := w8.same S19
          have pjo19 := pjo8.ext (KB.ExtN.same S19)
          have pjn19 := pjn.ext (KB.ExtN.same S19)
          have hl19 := S19 _ _ hl8
          have pq19 := paired_same S19 pq8
          clear S19 s19 S18 S17 sn17 st16 S15 S14 S13 S12 S11 S10 s9 s13 s15 s11 tl12 pt12 tl14 pt14 e15 e19 ht18 hl8 pq8 w8 pjo8 pjn
          -- turned around
          refine ⟨fun σ' H' => ∃ (y1 y3 y9 y10 : Option V), σ' = [some (.ref a), y1, some (.ref p), y3, some (.str (S text)), some (.ref l'), some (.str (S made)), some (.ref po), some (.ref pn), y9, y10] ∧ Wd pF H0 p H' ∧ PjAt CP H' po text [] ∧ PjAt CP H' pn made [], ?_, ?_⟩
          · have lx : xs8.length = ps'.length := by
              have := pq19.length
              rwa [List.length_map] at this
            refine ⟨_, rfl, l', _, rfl, .inl (.inl (.inl hl19)), _, _, rfl, rfl, _, rfl, bool_if (fun hb => ?_) (fun _ => ⟨_, _, _, _, rfl, w19, pjo19, pjn19⟩)⟩
            have h1 : 1 < ps'.length := by
              have := of_decide_eq_true hb
              omega
            obtain ⟨p0, q0, mid, x0, y0, xm, rfl, rfl, px, py⟩ := ends pq19 h1
            obtain ⟨tx0, rfl, hx0⟩ := px
            obtain ⟨ty0, rfl, hy0⟩ := py
            refine ⟨_, rfl, _, rfl, l', _, -1, .ref ty0, rfl, rfl, .inl (.inl hl19), atI_last _ _, ty0, _, 1, _, rfl, rfl, .inl (.inl hy0), atI_nat (j := 1) rfl, _, rfl, l', _, 0, .ref tx0, rfl, rfl, .inl (.inl hl19), atI_nat (j := 0) rfl, tx0, _, 0, _, rfl, rfl, .inl (.inl hx0), atI_nat (j := 0) rfl, _, _, rfl, rfl, _, rfl, bool_if (fun hb => ?_) (fun _ => ⟨_, _, _, _, rfl, w19, pjo19, pjn19⟩)⟩
            have hgt := of_decide_eq_true hb
            refine ⟨_, rfl, _, rfl, _, rfl, l', _, rfl, .inl (.inl hl19), fun n20 nn20 => ?_⟩
            have S20 := same_new (o := .lst ((V.ref tx0 :: xm) ++ [V.ref ty0]).reverse) nn20
            refine ⟨po, pn, text, [], made, [], .str "m", .ref n20, rfl, pjo19.ext (KB.ExtN.same S20), pjn19.ext (KB.ExtN.same S20), .inr ⟨"m", text, made, rfl, get_m _ _, get_m _ _, .inr ⟨n20, _, (((p0 :: mid) ++ [q0]).map pcOf).reverse, rfl, upd_same, paired_rev (paired_same S20 pq19), ?_, ?_, by omega, fun H21 s21 => ?_⟩⟩⟩
            · intro c hc
              exact g5.ok c (List.mem_reverse.mp hc)
            · rw [List.length_reverse]
              exact nps
            rw [lay_turned (by omega), decide_eq_false (fun z => by cases z)]
            have S21 := S20.trans s21
            exact ⟨false, false, rfl, rfl, _, rfl, iteF ⟨_, _, _, _, rfl, w19.same S21, pjo19.ext (KB.ExtN.same S21), pjn19.ext (KB.ExtN.same S21)⟩⟩
          · rintro σ' H22 ⟨y1, y3, y9, y10, rfl, w22, pjo22, pjn22⟩
            -- no pieces
            have u4 : ∀ a4, H22 a4 = none → Same H22 _ := fun a4 n4 => same_new (o := .lst [V.non]) n4
            refine ⟨(by show 1 ≤ sizeLine; decide), fun a4 n4 => ⟨(by show 2 ≤ sizeLine; decide), fun t5 n5 => ⟨(by show 1 ≤ sizeLine; decide), fun a5 m5 => ⟨(by show 3 ≤ sizeLine; decide), fun t6 n6 => ⟨(by show 1 ≤ sizeLine; decide), fun a6 m6 => ⟨(by show 3 ≤ sizeLine; decide), fun t7 n7 => ⟨(by show 1 ≤ sizeLine; decide), fun a7 m7 =>
                ⟨(by show 3 ≤ sizeLine; decide), fun t8 n8 => ⟨(by show 1 ≤ sizeLine; decide), fun a8 m8 => ⟨_, rfl, (by show 3 ≤ sizeLine; decide), fun t9 n9 => ⟨(by show 1 ≤ sizeLine; decide), fun a9 m9 => fun d0 nd0 => ⟨(by show 10 ≤ sizeLine; decide), fun r nr => ⟨r, rfl, ⟨_, .inl (.inl upd_same)⟩, ?_⟩⟩⟩⟩⟩⟩⟩⟩⟩⟩⟩⟩⟩
            have u4 := same_new (o := .lst [V.non]) n4
            have u5 := same_new (o := .tup [V.int 0, .int 0]) n5
            have v5 := same_new (o := .lst [V.ref t5]) m5
            have u6 := same_new (o := .tup [V.int 0, .int 0, .int 1]) n6
            have v6 := same_new (o := .lst [V.ref t6]) m6
            have u7 := same_new (o := .tup [V.bl true, .int 1, .str (S [])]) n7
            have v7 := same_new (o := .lst [V.ref t7]) m7
            have u8 := same_new (o := .tup [V.int 2, .int 1, .str (S [])]) n8
            have v8 := same_new (o := .lst [V.ref t8]) m8
            have u9 := same_new (o := .tup [V.int (-1), .int 0, .str (S [])]) n9
            have v9 := same_new (o := .lst [V.ref t9]) m9
            have ud := same_new (o := .dK []) nd0
            have ur := same_new (o := .lst [V.non, .int 5, .str (Str.ofString "x"), .ref a4, .ref a5, .ref a6, .ref a7, .ref a8, .ref a9, .ref d0]) nr
            have x9 := ud.trans ur
            have x8 := u9.trans (v9.trans x9)
            have x7 := u8.trans (v8.trans x8)
            have x6 := u7.trans (v7.trans x7)
            have x5 := u6.trans (v6.trans x6)
            have x4 := u5.trans (v5.trans x5)
            have xa := u4.trans x4
            have o4 := (odd_one (K := K) upd_same (show PcAt (L2.upd H22 a4 (.lst [V.non])) V.non .bad from .inl rfl) trivial lay_bad).same x4
            have o5 := (odd_one (K := K) upd_same (PcAt.same (c := .bad) (x := .ref t5) (.inr (.inl ⟨t5, _, rfl, upd_same, by decide, by decide⟩)) v5) trivial lay_bad).same x5
            have o6 := (odd_one (K := K) upd_same (PcAt.same (c := .bad) (x := .ref t6) (.inr (.inr (.inl ⟨t6, _, _, _, rfl, upd_same⟩))) v6) trivial lay_bad).same x6
            have o7 := (odd_one (K := K) upd_same (PcAt.same (c := .bad) (x := .ref t7) (.inr (.inr (.inr ⟨t7, _, _, _, rfl, upd_same⟩))) v7) trivial lay_bad).same x7
            have o8 := (odd_one (K := K) upd_same (PcAt.same (c := .good 2 1 []) (x := .ref t8) ⟨t8, rfl, upd_same⟩ v8) (Nat.zero_le _) (lay_unfit (by decide))).same x8
            have o9 := (odd_one (K := K) upd_same (PcAt.same (c := .good (-1) 0 []) (x := .ref t9) ⟨t9, rfl, upd_same⟩ v9) (Nat.zero_le _) (lay_unfit (by decide))).same x9
            have od := (odd_dK (K := K) (a := d0) (kvs := []) (H := L2.upd _ d0 (.dK [])) upd_same).same ur
            have odds := all10 (odd_non (K := K)) (odd_int (i := 5)) (odd_str (z := Str.ofString "x")) o4 o5 o6 o7 o8 o9 od
            have w23 := w22.same xa
            have pjo23 := pjo22.ext (KB.ExtN.same xa)
            have hr := fun (Hq : Hp) => (upd_same : L2.upd Hq r (HO.lst [V.non, .int 5, .str (Str.ofString "x"), .ref a4, .ref a5, .ref a6, .ref a7, .ref a8, .ref a9, .ref d0]) r = _)
            refine for_list (K := K) (a := r) (xs := [V.non, .int 5, .str (Str.ofString "x"), .ref a4, .ref a5, .ref a6, .ref a7, .ref a8, .ref a9, .ref d0]) (fun _ σ' H' => (∃ (y1 y3 y9 y10 : Option V), σ' = [some (.ref a), y1, some (.ref p), y3, some (.str (S text)), some (.ref l'), some (.str (S made)), some (.ref po), some (.ref pn), y9, y10]) ∧ Same _ H') ⟨⟨_, _, _, _, rfl⟩, Same.refl _⟩ ?_ ?_ ?_
            · rintro i σ' H' _ ⟨_, s24⟩
              exact .inl (.inl (s24 _ _ (hr _)))
            · rintro i x σ' H' hx ⟨⟨y1, y3, y9, y10, rfl⟩, s24⟩
              have ox := (odds x (List.mem_of_getElem? hx)).same s24
              have pjo24 := pjo23.ext (KB.ExtN.same s24)
              refine ⟨_, rfl, _, rfl, _, rfl, po, po, text, [], text, [], .str "m", x, rfl, pjo24, pjo24, .inr ⟨"m", text, text, rfl, get_m _ _, get_m _ _, ?_⟩⟩
              rcases ox with ⟨n, ty, kt⟩ | ⟨b, y, c, rfl, hb, pc, okc, lc⟩
              · exact .inl ⟨n, ty, kt, fun H25 s25 => ⟨false, false, rfl, rfl, _, rfl, iteF ⟨⟨_, _, _, _, rfl⟩, s24.trans s25⟩⟩⟩
              · refine .inr ⟨b, [y], [c], rfl, hb, .cons pc .nil, fun c' h' => by rw [List.mem_singleton.mp h']; exact okc, (by show 1 ≤ 64; decide), by omega, fun H25 s25 => ?_⟩
                rw [decide_eq_false (lc text text)]
                exact ⟨false, false, rfl, rfl, _, rfl, iteF ⟨⟨_, _, _, _, rfl⟩, s24.trans s25⟩⟩
            · rintro σ' H24 ⟨⟨y1, y3, y9, y10, rfl⟩, s24⟩
              have w24 := w23.same s24
              have pjo24 := pjo23.ext (KB.ExtN.same s24)
              clear odds o4 o5 o6 o7 o8 o9 od xa x4 x5 x6 x7 x8 x9 u4 u5 v5 u6 v6 u7 v7 u8 v8 u9 v9 ud ur hr s24
              -- no modules
              refine ⟨(by show 1 ≤ sizeLine; decide), fun a1 n1 => ⟨(by show 1 ≤ sizeLine; decide), fun t1 m1 => ⟨(by show 5 ≤ sizeLine; decide), fun r2 nr2 => ⟨r2, rfl, ⟨_, .inl (.inl upd_same)⟩, ?_⟩⟩⟩⟩
              have u1 := same_new (o := .lst [V.str (Str.ofString "m")]) n1
              have v1 := same_new (o := .tup [V.str (Str.ofString "m")]) m1
              have ur := same_new (o := .lst [V.non, .str (Str.ofString "zz"), .int 5, .ref a1, .ref t1]) nr2
              have q1 : OddM K text (L2.upd (L2.upd (L2.upd H24 a1 (.lst [V.str (Str.ofString "m")])) t1 (.tup [V.str (Str.ofString "m")])) r2 (.lst [V.non, .str (Str.ofString "zz"), .int 5, .ref a1, .ref t1])) (.ref a1) := fun H25 s25 => .inr ⟨_, .base (.lst ((v1.trans (ur.trans s25)) _ _ upd_same)), kit_ty (by decide +kernel)⟩
              have q2 : OddM K text (L2.upd (L2.upd (L2.upd H24 a1 (.lst [V.str (Str.ofString "m")])) t1 (.tup [V.str (Str.ofString "m")])) r2 (.lst [V.non, .str (Str.ofString "zz"), .int 5, .ref a1, .ref t1])) (.ref t1) := fun H25 s25 => .inr ⟨_, .base (.tup ((ur.trans s25) _ _ upd_same)), kit_ty (by decide +kernel)⟩
              have odds := all5 (p := OddM K text (L2.upd (L2.upd (L2.upd H24 a1 (.lst [V.str (Str.ofString "m")])) t1 (.tup [V.str (Str.ofString "m")])) r2 (.lst [V.non, .str (Str.ofString "zz"), .int 5, .ref a1, .ref t1])))
                (fun _ _ => .inr ⟨_, .base .non, kit_ty (by decide +kernel)⟩) (fun _ _ => .inl ⟨Str.ofString "zz", rfl, get_zz _ _⟩) (fun _ _ => .inr ⟨_, .base (.int 5), kit_ty (by decide +kernel)⟩) q1 q2
              have xa := u1.trans (v1.trans ur)
              have w25 := w24.same xa
              have pjo25 := pjo24.ext (KB.ExtN.same xa)
              have hr := fun (Hq : Hp) => (upd_same : L2.upd Hq r2 (HO.lst [V.non, .str (Str.ofString "zz"), .int 5, .ref a1, .ref t1]) r2 = _)
              refine for_list (K := K) (a := r2) (xs := [V.non, .str (Str.ofString "zz"), .int 5, .ref a1, .ref t1]) (fun _ σ' H' => (∃ (y1 y3 y9 y10 : Option V), σ' = [some (.ref a), y1, some (.ref p), y3, some (.str (S text)), some (.ref l'), some (.str (S made)), some (.ref po), some (.ref pn), y9, y10]) ∧ Same _ H') ⟨⟨_, _, _, _, rfl⟩, Same.refl _⟩ ?_ ?_ ?_
              · rintro i σ' H' _ ⟨_, s26⟩
                exact .inl (.inl (s26 _ _ (hr _)))
              · rintro i x σ' H' hx ⟨⟨y1, y3, y9, y10, rfl⟩, s26⟩
                have ox := (odds x (List.mem_of_getElem? hx)).same s26
                have pjo26 := pjo25.ext (KB.ExtN.same s26)
                refine ⟨_, rfl, _, rfl, _, rfl, (by show 0 ≤ sizeLine; decide), fun e ne => ?_⟩
                have se := same_new (o := .lst []) ne
                exact ⟨po, po, text, [], text, [], x, .ref e, rfl, pjo26.ext (KB.ExtN.same se), pjo26.ext (KB.ExtN.same se), .inl ⟨ox _ se, false, false, rfl, rfl, _, rfl, iteF ⟨⟨_, _, _, _, rfl⟩, s26.trans se⟩⟩⟩
              · rintro σ' H26 ⟨⟨y1, y3, y9, y10, rfl⟩, s26⟩
                exact ⟨_, _, _, _, _, _, _, _, _, rfl, w25.same s26⟩
      · intro σ H2 h2
        obtain ⟨y1, y3, y4, y5, y6, y7, y8, y9, y10, rfl, w2⟩ := h2
        exact ⟨_, _, _, _, _, _, _, _, _, _, rfl, e0.trans w2.e, w2.t⟩
    · intro σ H0 h0
      obtain ⟨y1, y2, y3, y4, y5, y6, y7, y8, y9, y10, rfl, e0, t0⟩ := h0
      exact q H0
end
end KB
namespace KB
open PySem PySem.Spec PyProof.Rows L2 LamX
open KR
theorem strs_wrds : (["import", "from", "as", "def", "class", "global", "nonlocal", "if", "else", "while", "for", "in", "return", "break", "continue", "pass", "and", "or", "not", "fn", "none", "true", "false"] : List Str) = wordsL.map S := by decide +kernel
theorem tLET4 : (Str.ofString "abcdefghijklmnopqrstuvwxyz") = S letL := by decide +kernel
theorem tRUN4 : (Str.ofString "abcdefghijklmnopqrstuvwxyz0123456789_") = S runL := by decide +kernel
theorem tBLA4 : (Str.ofString " \n") = S [32, 10] := by decide +kernel
theorem two_map (l : List (List Nat)) : (l.map fun s => V.str (S s)) = (l.map S).map V.str := by
  rw [List.map_map]
  rfl
section
variable {P : Program} {w : World} {K : PySem.W.Frag} {mg : Str → Option Value} {base : Heap}
theorem all_mk {aW CC CS CF CL CM CN CP cF pF fIN fLE fTK fCI fNT fRM fSC fBG fBL fFI fCB fFS fFR fLI fFB fJR fFM fME fIM fCP fNA fPI fHA fTO fII fIR fIT fIP fSL fP fT fLP fPT fL : Addr} {fdIN fdLE fdTK fdCI fdNT fdRM fdSC fdBG fdBL fdFI fdCB fdFS fdFR fdLI fdFB fdJR fdFM fdME fdIM fdCP fdNA fdPI fdHA fdTO fdII fdIR fdIT fdIP fdSL fdP fdT fdLP fdPT fdL : FuncData} (T : T4 K mg aW)
    (CCursor : C4 K mg "Cursor" CC fCI cuFs)
    (CScope : C4 K mg "Scope" CS fSC scFs)
    (CFinder : C4 K mg "Finder" CF fFI fiFs)
    (CLinks : C4 K mg "Links" CL fLI liFs)
    (CMembers : C4 K mg "Members" CM fME meFs)
    (CNaming : C4 K mg "Naming" CN fNA naFs)
    (CProject : C4 K mg "Project" CP fPI prFs)
    (FIN : Fun K "is_name" "is_name" sIN fIN fdIN)
    (gIN : mg "is_name" = some (.ref fIN))
    (FLE : Fun K "_line_end" "_line_end" sLE fLE fdLE)
    (gLE : mg "_line_end" = some (.ref fLE))
    (FTK : Fun K "tokens" "tokens" sTK fTK fdTK)
    (gTK : mg "tokens" = some (.ref fTK))
    (FCI : Fun K "__init__" "Cursor.__init__" sCI fCI fdCI)
    (FNT : FunD K "next_text" "Cursor.next_text" (defArgs sNT) (defBody sNT) (defScope sNT) [.int 0] [] fNT fdNT)
    (mNT : Meth K CC "next_text" fNT)
    (FRM : Fun K "read_module" "read_module" sRM fRM fdRM)
    (gRM : mg "read_module" = some (.ref fRM))
    (FSC : Fun K "__init__" "Scope.__init__" sSC fSC fdSC)
    (FBG : Fun K "_begin" "Finder._begin" sBG fBG fdBG)
    (mBG : Meth K CF "_begin" fBG)
    (FBL : Fun K "_block" "Finder._block" sBL fBL fdBL)
    (mBL : Meth K CF "_block" fBL)
    (FFI : FunC K "__init__" "Finder.__init__" sFI fFI fdFI cF)
    (FCB : Fun K "_collect_brought" "Links._collect_brought" sCB fCB fdCB)
    (mCB : Meth K CL "_collect_brought" fCB)
    (FFS : Fun K "_fill_stars" "Links._fill_stars" sFS fFS fdFS)
    (mFS : Meth K CL "_fill_stars" fFS)
    (FFR : Fun K "_find_rings" "Links._find_rings" sFR fFR fdFR)
    (mFR : Meth K CL "_find_rings" fFR)
    (FLI : Fun K "__init__" "Links.__init__" sLI fLI fdLI)
    (FFB : Fun K "_find_bases" "Members._find_bases" sFB fFB fdFB)
    (mFB : Meth K CM "_find_bases" fFB)
    (FJR : Fun K "_join_related" "Members._join_related" sJR fJR fdJR)
    (mJR : Meth K CM "_join_related" fJR)
    (FFM : Fun K "_find_members" "Members._find_members" sFM fFM fdFM)
    (mFM : Meth K CM "_find_members" fFM)
    (FME : Fun K "__init__" "Members.__init__" sME fME fdME)
    (FIM : Fun K "_look_at_imported" "Naming._look_at_imported" sIM fIM fdIM)
    (mIM : Meth K CN "_look_at_imported" fIM)
    (FCP : Fun K "_collect_places" "Naming._collect_places" sCP fCP fdCP)
    (mCP : Meth K CN "_collect_places" fCP)
    (FNA : Fun K "__init__" "Naming.__init__" sNA fNA fdNA)
    (FPI : Fun K "__init__" "Project.__init__" sPI fPI fdPI)
    (FHA : Fun K "has" "Project.has" sHA fHA fdHA)
    (mHA : Meth K CP "has" fHA)
    (FTO : Fun K "text_of" "Project.text_of" sTO fTO fdTO)
    (mTO : Meth K CP "text_of" fTO)
    (FII : Fun K "is_integer" "is_integer" sII fII fdII)
    (gII : mg "is_integer" = some (.ref fII))
    (FIR : Fun K "is_row" "is_row" sIR fIR fdIR)
    (gIR : mg "is_row" = some (.ref fIR))
    (FIT : Fun K "is_tuple_of" "is_tuple_of" sIT fIT fdIT)
    (gIT : mg "is_tuple_of" = some (.ref fIT))
    (FIP : Fun K "_is_piece" "_is_piece" sIP fIP fdIP)
    (gIP : mg "_is_piece" = some (.ref fIP))
    (FSL : Fun K "same_layout" "same_layout" sSL fSL fdSL)
    (gSL : mg "same_layout" = some (.ref fSL))
    (FP : Fun K "_law_pool" "_law_pool" sPool fP fdP)
    (gP : mg "_law_pool" = some (.ref fP))
    (FT : Fun K "_law_take" "_law_take" sTake fT fdT)
    (gT : mg "_law_take" = some (.ref fT))
    (FLP : Fun K "_law_pieces" "_law_pieces" sLP fLP fdLP)
    (gLP : mg "_law_pieces" = some (.ref fLP))
    (FPT : Fun K "_law_put" "_law_put" sPT fPT fdPT)
    (gPT : mg "_law_put" = some (.ref fPT))
    (FL : Fun K "law" "law" sLaw fL fdL)
    (TB : TabB base mg cF pF) : FnOk P w K mg base CX0 12 fL fdL ["_law_script"] (spLaw K pF) := by
  have bIN : Binds K fdIN ["value"] [] := FIN.binds (ps := ["value"]) fun _ _ _ _ _ _ us hl => match us, hl with | [_], _ => rfl
  have bLE : Binds K fdLE ["text", "at"] [] := FLE.binds (ps := ["text", "at"]) fun _ _ _ _ _ _ us hl => match us, hl with | [_, _], _ => rfl
  have bTK : Binds K fdTK ["text"] [] := FTK.binds (ps := ["text"]) fun _ _ _ _ _ _ us hl => match us, hl with | [_], _ => rfl
  have bCI : Binds K fdCI ["self", "text"] [] := FCI.binds (ps := ["self", "text"]) fun _ _ _ _ _ _ us hl => match us, hl with | [_, _], _ => rfl
  obtain ⟨dsNT, vsNT, bNT⟩ := FNT.binds1 (ps := ["self", "further"]) 1 0 (by simp) rfl fun _ _ _ _ _ _ _ us its hl hi => match us, its, hl, hi with | [_], [_], _, _ => ⟨_, rfl, rfl⟩
  have bRM : Binds K fdRM ["text"] [] := FRM.binds (ps := ["text"]) fun _ _ _ _ _ _ us hl => match us, hl with | [_], _ => rfl
  have bSC : Binds K fdSC ["self", "module", "kind", "start", "outer", "node"] [] := FSC.binds (ps := ["self", "module", "kind", "start", "outer", "node"]) fun _ _ _ _ _ _ us hl => match us, hl with | [_, _, _, _, _, _], _ => rfl
  have bBG : Binds K fdBG ["self", "kind", "start", "outer", "node"] [] := FBG.binds (ps := ["self", "kind", "start", "outer", "node"]) fun _ _ _ _ _ _ us hl => match us, hl with | [_, _, _, _, _], _ => rfl
  have bBL : Binds K fdBL ["self", "rows", "scope"] [] := FBL.binds (ps := ["self", "rows", "scope"]) fun _ _ _ _ _ _ us hl => match us, hl with | [_, _, _], _ => rfl
  have bFI : Binds K fdFI ["self", "module", "tree"] [] := FFI.fun.binds (ps := ["self", "module", "tree"]) fun _ _ _ _ _ _ us hl => match us, hl with | [_, _, _], _ => rfl
  have bCB : Binds K fdCB ["self", "finder"] [] := FCB.binds (ps := ["self", "finder"]) fun _ _ _ _ _ _ us hl => match us, hl with | [_, _], _ => rfl
  have bFS : Binds K fdFS ["self"] [] := FFS.binds (ps := ["self"]) fun _ _ _ _ _ _ us hl => match us, hl with | [_], _ => rfl
  have bFR : Binds K fdFR ["self"] [] := FFR.binds (ps := ["self"]) fun _ _ _ _ _ _ us hl => match us, hl with | [_], _ => rfl
  have bLI : Binds K fdLI ["self", "trees"] [] := FLI.binds (ps := ["self", "trees"]) fun _ _ _ _ _ _ us hl => match us, hl with | [_, _], _ => rfl
  have bFB : Binds K fdFB ["self"] [] := FFB.binds (ps := ["self"]) fun _ _ _ _ _ _ us hl => match us, hl with | [_], _ => rfl
  have bJR : Binds K fdJR ["self"] [] := FJR.binds (ps := ["self"]) fun _ _ _ _ _ _ us hl => match us, hl with | [_], _ => rfl
  have bFM : Binds K fdFM ["self"] [] := FFM.binds (ps := ["self"]) fun _ _ _ _ _ _ us hl => match us, hl with | [_], _ => rfl
  have bME : Binds K fdME ["self", "links"] [] := FME.binds (ps := ["self", "links"]) fun _ _ _ _ _ _ us hl => match us, hl with | [_, _], _ => rfl
  have bIM : Binds K fdIM ["self"] [] := FIM.binds (ps := ["self"]) fun _ _ _ _ _ _ us hl => match us, hl with | [_], _ => rfl
  have bCP : Binds K fdCP ["self"] [] := FCP.binds (ps := ["self"]) fun _ _ _ _ _ _ us hl => match us, hl with | [_], _ => rfl
  have bNA : Binds K fdNA ["self", "trees"] [] := FNA.binds (ps := ["self", "trees"]) fun _ _ _ _ _ _ us hl => match us, hl with | [_, _], _ => rfl
  have bPI : Binds K fdPI ["self", "modules"] [] := FPI.binds (ps := ["self", "modules"]) fun _ _ _ _ _ _ us hl => match us, hl with | [_, _], _ => rfl
  have bHA : Binds K fdHA ["self", "module"] [] := FHA.binds (ps := ["self", "module"]) fun _ _ _ _ _ _ us hl => match us, hl with | [_, _], _ => rfl
  have bTO : Binds K fdTO ["self", "module"] [] := FTO.binds (ps := ["self", "module"]) fun _ _ _ _ _ _ us hl => match us, hl with | [_, _], _ => rfl
  have bII : Binds K fdII ["value"] [] := FII.binds (ps := ["value"]) fun _ _ _ _ _ _ us hl => match us, hl with | [_], _ => rfl
  have bIR : Binds K fdIR ["value"] [] := FIR.binds (ps := ["value"]) fun _ _ _ _ _ _ us hl => match us, hl with | [_], _ => rfl
  have bIT : Binds K fdIT ["value", "many"] [] := FIT.binds (ps := ["value", "many"]) fun _ _ _ _ _ _ us hl => match us, hl with | [_, _], _ => rfl
  have bIP : Binds K fdIP ["piece", "least", "most"] [] := FIP.binds (ps := ["piece", "least", "most"]) fun _ _ _ _ _ _ us hl => match us, hl with | [_, _, _], _ => rfl
  have bSL : Binds K fdSL ["old", "new", "module", "pieces"] [] := FSL.binds (ps := ["old", "new", "module", "pieces"]) fun _ _ _ _ _ _ us hl => match us, hl with | [_, _, _, _], _ => rfl
  have bP : Binds K fdP ["_law_script", "_law_k"] [] := FP.binds (ps := ["_law_script", "_law_k"]) fun _ _ _ _ _ _ us hl => match us, hl with | [_, _], _ => rfl
  have bT : Binds K fdT ["_law_pool_here", "_law_many"] [] := FT.binds (ps := ["_law_pool_here", "_law_many"]) fun _ _ _ _ _ _ us hl => match us, hl with | [_, _], _ => rfl
  have bLP : Binds K fdLP ["_law_pool_here", "_law_length"] [] := FLP.binds (ps := ["_law_pool_here", "_law_length"]) fun _ _ _ _ _ _ us hl => match us, hl with | [_, _], _ => rfl
  have bPT : Binds K fdPT ["_law_text", "_law_pieces_here"] [] := FPT.binds (ps := ["_law_text", "_law_pieces_here"]) fun _ _ _ _ _ _ us hl => match us, hl with | [_, _], _ => rfl
  have GIN : FnOk P w K mg base CX0 1 fIN fdIN ["value"] (spIN) := ok_IN (k := 0) FIN T
  have GLE : FnOk P w K mg base CX0 2 fLE fdLE ["text", "at"] (spLE) := ok_LE (k := 1) FLE T
  have GTK : FnOk P w K mg base CX0 3 fTK fdTK ["text"] (spTK) := ok_TK (k := 1) FTK T GLE gLE FLE.kp bLE
  have GCI : FnOk P w K mg base CX0 4 fCI fdCI ["self", "text"] (spCI CC) := ok_CI (k := 3) FCI T CCursor.N GTK gTK FTK.kp bTK
  have GNT : FnOk P w K mg base CX0 1 fNT fdNT ["self", "further"] (spNT CC) := ok_NT (k := 0) FNT T CCursor.N
  have GRM : FnOk P w K mg base CX0 6 fRM fdRM ["text"] (spRM) := ok_RM (k := 4) FRM CCursor GCI bCI mNT GNT bNT vsNT
  have GSC : FnOk P w K mg base CX0 1 fSC fdSC ["self", "module", "kind", "start", "outer", "node"] (spSC CS) := ok_SC (k := 0) FSC CScope.N
  have GBG : FnOk P w K mg base CX0 3 fBG fdBG ["self", "kind", "start", "outer", "node"] (spBG CS CF) := ok_BG (k := 0) FBG CFinder.N CScope GSC bSC
  have GBL : FnOk P w K mg base CX0 1 fBL fdBL ["self", "rows", "scope"] (spBL) := ok_BL (k := 0) FBL
  have GFI : FnOk P w K mg base CX0 4 fFI fdFI ["self", "module", "tree"] (spFI CS CF pF) := ok_FI (k := 0) FFI T CFinder.N CScope.N TB mBG mBL GBG bBG GBL bBL
  have GCB : FnOk P w K mg base CX0 1 fCB fdCB ["self", "finder"] (spCB CF CS) := ok_CB (k := 0) FCB CFinder.N
  have GFS : FnOk P w K mg base CX0 1 fFS fdFS ["self"] (spFS CS CL) := ok_FS (k := 0) FFS CLinks.N CScope.N
  have GFR : FnOk P w K mg base CX0 1 fFR fdFR ["self"] (spFR CS CL) := ok_FR (k := 0) FFR CLinks.N CScope.N
  have GLI : FnOk P w K mg base CX0 6 fLI fdLI ["self", "trees"] (spLI CF CS CL pF) := ok_LI (k := 0) FLI CLinks.N CFinder CScope.N mCB mFS mFR GFI bFI GCB bCB GFS bFS GFR bFR
  have GFB : FnOk P w K mg base CX0 1 fFB fdFB ["self"] (spFB CF CS CL CM) := ok_FB (k := 0) FFB CMembers.N CLinks.N CFinder.N
  have GJR : FnOk P w K mg base CX0 1 fJR fdJR ["self"] (spJR CM) := ok_JR (k := 0) FJR T CMembers.N
  have GFM : FnOk P w K mg base CX0 1 fFM fdFM ["self"] (spFB CF CS CL CM) := ok_FM (k := 0) FFM CMembers.N CLinks.N CFinder.N
  have GME : FnOk P w K mg base CX0 2 fME fdME ["self", "links"] (spME CF CS CL CM) := ok_ME (k := 0) FME CMembers.N CLinks.N CScope.N mFB mJR mFM GFB bFB GJR bJR GFM bFM
  have GIM : FnOk P w K mg base CX0 1 fIM fdIM ["self"] (spIM CF CS CL CN) := ok_IM (k := 0) FIM CNaming.N CLinks.N
  have GCP : FnOk P w K mg base CX0 1 fCP fdCP ["self"] (spCP CN) := ok_CP (k := 0) FCP CNaming.N
  have GNA : FnOk P w K mg base CX0 8 fNA fdNA ["self", "trees"] (spNA CN pF) := ok_NA (k := 0) FNA T CNaming.N CLinks CMembers CFinder.N mIM mCP GLI bLI GME bME GIM bIM GCP bCP
  have GPI : FnOk P w K mg base CX0 10 fPI fdPI ["self", "modules"] (spPI CP pF) := ok_PI (k := 0) FPI T CProject.N CNaming GIN gIN FIN.kp bIN GRM gRM FRM.kp bRM GNA bNA CNaming.N
  have GHA : FnOk P w K mg base CX0 1 fHA fdHA ["self", "module"] (spHA K CP) := ok_HA (k := 0) FHA T CProject.N
  have GTO : FnOk P w K mg base CX0 2 fTO fdTO ["self", "module"] (spTO CP) := ok_TO (k := 0) FTO CProject.N mHA GHA bHA
  have GII : FnOk P w K mg base CX0 1 fII fdII ["value"] (spII) := ok_II (k := 0) FII T
  have GIR : FnOk P w K mg base CX0 1 fIR fdIR ["value"] (spIR K) := ok_IR (k := 0) FIR T
  have GIT : FnOk P w K mg base CX0 1 fIT fdIT ["value", "many"] (spIT) := ok_IT (k := 0) FIT T
  have GIP : FnOk P w K mg base CX0 2 fIP fdIP ["piece", "least", "most"] (spIP) := ok_IP (k := 0) FIP T GIT gIT FIT.kp bIT GII gII FII.kp bII
  have GSL : FnOk P w K mg base CX0 3 fSL fdSL ["old", "new", "module", "pieces"] (spSL K CP) := ok_SL (k := 0) FSL T CProject.N mHA mTO GHA bHA GTO bTO GIR gIR FIR.kp bIR GIP gIP FIP.kp bIP
  have GP : FnOk P w K mg base CX0 1 fP fdP ["_law_script", "_law_k"] (spPool K) := ok_pool (k := 0) FP T.len T.abs T.int
  have GT : FnOk P w K mg base CX0 1 fT fdT ["_law_pool_here", "_law_many"] (spTake) := ok_take (k := 0) FT
  have GLP : FnOk P w K mg base CX0 2 fLP fdLP ["_law_pool_here", "_law_length"] (spLP) := ok_LP (k := 0) FLP T GT gT FT.kp bT
  have GPT : FnOk P w K mg base CX0 1 fPT fdPT ["_law_text", "_law_pieces_here"] (spPT) := ok_PT (k := 0) FPT
  exact ok_law FL T CProject GP gP FP.kp bP GT gT FT.kp bT GLP gLP FLP.kp bLP GPT gPT FPT.kp bPT GSL gSL FSL.kp bSL GPI bPI
end
/-! ### the facts of the head -/
theorem str_k {K : PySem.W.Frag} {x z : Str} (c : (He.Fa.str x z).ok K = true) : ∃ t, PySem.W.nsIn K mainGlobals x = some (some (.str z t)) := by
  have c2 : (match PySem.W.nsIn K mainGlobals x with
    | some (some (.str y _)) => decide (y = z)
    | _ => false) = true := c
  cases e : PySem.W.nsIn K mainGlobals x with
  | none =>
    rw [e] at c2
    cases c2
  | some o =>
    rw [e] at c2
    cases o with
    | none => cases c2
    | some v =>
      cases v with
      | str y t =>
        have ej : y = z := of_decide_eq_true c2
        rw [ej]
        exact ⟨t, rfl⟩
      | _ => cases c2
theorem fun_0 {K : PySem.W.Frag} {d : He.DefD} {st : Stmt} (hd : d.dfl = []) (hp : d.params = defArgs st) (hb : d.body = defBody st) (hs : d.scope = defScope st) (e : ∃ fd, FunD K d.name d.qual d.params d.body d.scope (d.dvs K) (d.kws K) (He.fAd K d.at_) fd) :
    ∃ fd, FunC K d.name d.qual st (He.fAd K d.at_) fd (He.codeOf K d.at_) := by
  obtain ⟨fd, F⟩ := e
  obtain ⟨oc, od, dV, kV, doc, pm, an, cdv, ct, osl, efd, lk, hcd, hD, hK⟩ := F.ex
  have hz : d.dvs K = [] := by
    unfold He.DefD.dvs
    rw [hd]
    rfl
  rcases hD with ⟨_, rfl⟩ | ⟨ne, _⟩
  · obtain ⟨c, rfl⟩ := He.codeIn_ref hcd
    have ec := He.codeOf_eq lk (c := c) (by rw [efd])
    rw [ec]
    refine ⟨fd, ⟨oc, od, kV, doc, pm, an, ct, osl, ?_, lk, hcd⟩, F.kp⟩
    rw [efd, hp, hb, hs]
  · exact absurd hz ne
set_option maxHeartbeats 8000000 in
theorem all_of {l : PySem.W.OpenLaw} {w : World} {mg : Str → Option Value} {h : Heap} {K : PySem.W.Frag} {fa : Addr} (X : K.In h) (G : h.Ns mainGlobals mg) (hfa : mg "law" = some (.ref fa)) (c : HdT.SaysZ FA FN TS TF EX w h K) : LawAtS l w K CX0 12 63 "_law_script" mg fa h := by
  have d := c.t.d
  obtain ⟨fdIN, FIN⟩ := fun_0 (d := D_IN) (st := sIN) rfl rfl rfl rfl (d.def_ 0 (d := D_IN) rfl)
  obtain ⟨fdLE, FLE⟩ := fun_0 (d := D_LE) (st := sLE) rfl rfl rfl rfl (d.def_ 1 (d := D_LE) rfl)
  obtain ⟨fdTK, FTK⟩ := fun_0 (d := D_TK) (st := sTK) rfl rfl rfl rfl (d.def_ 2 (d := D_TK) rfl)
  obtain ⟨fdCI, FCI⟩ := fun_0 (d := D_CI) (st := sCI) rfl rfl rfl rfl (d.def_ 3 (d := D_CI) rfl)
  obtain ⟨fdNT, FNT⟩ := d.def_ 4 (d := D_NT) rfl
  obtain ⟨fdRM, FRM⟩ := fun_0 (d := D_RM) (st := sRM) rfl rfl rfl rfl (d.def_ 5 (d := D_RM) rfl)
  obtain ⟨fdSC, FSC⟩ := fun_0 (d := D_SC) (st := sSC) rfl rfl rfl rfl (d.def_ 6 (d := D_SC) rfl)
  obtain ⟨fdBG, FBG⟩ := fun_0 (d := D_BG) (st := sBG) rfl rfl rfl rfl (d.def_ 7 (d := D_BG) rfl)
  obtain ⟨fdBL, FBL⟩ := fun_0 (d := D_BL) (st := sBL) rfl rfl rfl rfl (d.def_ 8 (d := D_BL) rfl)
  obtain ⟨fdFI, FFI⟩ := fun_0 (d := D_FI) (st := sFI) rfl rfl rfl rfl (d.def_ 9 (d := D_FI) rfl)
  obtain ⟨fdCB, FCB⟩ := fun_0 (d := D_CB) (st := sCB) rfl rfl rfl rfl (d.def_ 10 (d := D_CB) rfl)
  obtain ⟨fdFS, FFS⟩ := fun_0 (d := D_FS) (st := sFS) rfl rfl rfl rfl (d.def_ 11 (d := D_FS) rfl)
  obtain ⟨fdFR, FFR⟩ := fun_0 (d := D_FR) (st := sFR) rfl rfl rfl rfl (d.def_ 12 (d := D_FR) rfl)
  obtain ⟨fdLI, FLI⟩ := fun_0 (d := D_LI) (st := sLI) rfl rfl rfl rfl (d.def_ 13 (d := D_LI) rfl)
  obtain ⟨fdFB, FFB⟩ := fun_0 (d := D_FB) (st := sFB) rfl rfl rfl rfl (d.def_ 14 (d := D_FB) rfl)
  obtain ⟨fdJR, FJR⟩ := fun_0 (d := D_JR) (st := sJR) rfl rfl rfl rfl (d.def_ 15 (d := D_JR) rfl)
  obtain ⟨fdFM, FFM⟩ := fun_0 (d := D_FM) (st := sFM) rfl rfl rfl rfl (d.def_ 16 (d := D_FM) rfl)
  obtain ⟨fdME, FME⟩ := fun_0 (d := D_ME) (st := sME) rfl rfl rfl rfl (d.def_ 17 (d := D_ME) rfl)
  obtain ⟨fdIM, FIM⟩ := fun_0 (d := D_IM) (st := sIM) rfl rfl rfl rfl (d.def_ 18 (d := D_IM) rfl)
  obtain ⟨fdCP, FCP⟩ := fun_0 (d := D_CP) (st := sCP) rfl rfl rfl rfl (d.def_ 19 (d := D_CP) rfl)
  obtain ⟨fdNA, FNA⟩ := fun_0 (d := D_NA) (st := sNA) rfl rfl rfl rfl (d.def_ 20 (d := D_NA) rfl)
  obtain ⟨fdPI, FPI⟩ := fun_0 (d := D_PI) (st := sPI) rfl rfl rfl rfl (d.def_ 21 (d := D_PI) rfl)
  obtain ⟨fdHA, FHA⟩ := fun_0 (d := D_HA) (st := sHA) rfl rfl rfl rfl (d.def_ 22 (d := D_HA) rfl)
  obtain ⟨fdTO, FTO⟩ := fun_0 (d := D_TO) (st := sTO) rfl rfl rfl rfl (d.def_ 23 (d := D_TO) rfl)
  obtain ⟨fdII, FII⟩ := fun_0 (d := D_II) (st := sII) rfl rfl rfl rfl (d.def_ 24 (d := D_II) rfl)
  obtain ⟨fdIR, FIR⟩ := fun_0 (d := D_IR) (st := sIR) rfl rfl rfl rfl (d.def_ 25 (d := D_IR) rfl)
  obtain ⟨fdIT, FIT⟩ := fun_0 (d := D_IT) (st := sIT) rfl rfl rfl rfl (d.def_ 26 (d := D_IT) rfl)
  obtain ⟨fdIP, FIP⟩ := fun_0 (d := D_IP) (st := sIP) rfl rfl rfl rfl (d.def_ 27 (d := D_IP) rfl)
  obtain ⟨fdSL, FSL⟩ := fun_0 (d := D_SL) (st := sSL) rfl rfl rfl rfl (d.def_ 28 (d := D_SL) rfl)
  obtain ⟨fdP, FP⟩ := fun_0 (d := D_P) (st := sPool) rfl rfl rfl rfl (d.def_ 29 (d := D_P) rfl)
  obtain ⟨fdT, FT⟩ := fun_0 (d := D_T) (st := sTake) rfl rfl rfl rfl (d.def_ 30 (d := D_T) rfl)
  obtain ⟨fdLP, FLP⟩ := fun_0 (d := D_LP) (st := sLP) rfl rfl rfl rfl (d.def_ 31 (d := D_LP) rfl)
  obtain ⟨fdPT, FPT⟩ := fun_0 (d := D_PT) (st := sPT) rfl rfl rfl rfl (d.def_ 32 (d := D_PT) rfl)
  obtain ⟨fdL, FL⟩ := fun_0 (d := D_L) (st := sLaw) rfl rfl rfl rfl (d.def_ 33 (d := D_L) rfl)
  have CCursor : C4 K mg "Cursor" (He.ga K "Cursor") (He.ma K (He.ga K "Cursor") "__init__") cuFs := ⟨He.mkr_ok (d.fact 0 (f := .mkr "Cursor") rfl), He.glo_ok X G (d.fact 1 (f := .glo "Cursor") rfl), ⟨He.cls_ok (d.fact 2 (f := .cls "Cursor") rfl), fun f hf => by
    simp only [cuFs, List.mem_cons, List.not_mem_nil, or_false] at hf
    rcases hf with rfl | rfl | rfl | rfl | rfl | rfl
    · exact He.noat_ok (d.fact 3 (f := .noat "Cursor" "end") rfl)
    · exact He.noat_ok (d.fact 4 (f := .noat "Cursor" "_tokens") rfl)
    · exact He.noat_ok (d.fact 5 (f := .noat "Cursor" "_length") rfl)
    · exact He.noat_ok (d.fact 6 (f := .noat "Cursor" "_at") rfl)
    · exact He.noat_ok (d.fact 7 (f := .noat "Cursor" "_opened") rfl)
    · exact He.noat_ok (d.fact 8 (f := .noat "Cursor" "_first") rfl)⟩⟩
  have CScope : C4 K mg "Scope" (He.ga K "Scope") (He.ma K (He.ga K "Scope") "__init__") scFs := ⟨He.mkr_ok (d.fact 9 (f := .mkr "Scope") rfl), He.glo_ok X G (d.fact 10 (f := .glo "Scope") rfl), ⟨He.cls_ok (d.fact 11 (f := .cls "Scope") rfl), fun f hf => by
    simp only [scFs, List.mem_cons, List.not_mem_nil, or_false] at hf
    rcases hf with rfl | rfl | rfl | rfl | rfl | rfl | rfl | rfl | rfl | rfl
    · exact He.noat_ok (d.fact 12 (f := .noat "Scope" "module") rfl)
    · exact He.noat_ok (d.fact 13 (f := .noat "Scope" "kind") rfl)
    · exact He.noat_ok (d.fact 14 (f := .noat "Scope" "start") rfl)
    · exact He.noat_ok (d.fact 15 (f := .noat "Scope" "outer") rfl)
    · exact He.noat_ok (d.fact 16 (f := .noat "Scope" "node") rfl)
    · exact He.noat_ok (d.fact 17 (f := .noat "Scope" "names") rfl)
    · exact He.noat_ok (d.fact 18 (f := .noat "Scope" "words") rfl)
    · exact He.noat_ok (d.fact 19 (f := .noat "Scope" "parameters") rfl)
    · exact He.noat_ok (d.fact 20 (f := .noat "Scope" "links") rfl)
    · exact He.noat_ok (d.fact 21 (f := .noat "Scope" "stars") rfl)⟩⟩
  have CFinder : C4 K mg "Finder" (He.ga K "Finder") (He.ma K (He.ga K "Finder") "__init__") fiFs := ⟨He.mkr_ok (d.fact 22 (f := .mkr "Finder") rfl), He.glo_ok X G (d.fact 23 (f := .glo "Finder") rfl), ⟨He.cls_ok (d.fact 24 (f := .cls "Finder") rfl), fun f hf => by
    simp only [fiFs, List.mem_cons, List.not_mem_nil, or_false] at hf
    rcases hf with rfl | rfl | rfl | rfl | rfl
    · exact He.noat_ok (d.fact 25 (f := .noat "Finder" "module") rfl)
    · exact He.noat_ok (d.fact 26 (f := .noat "Finder" "found") rfl)
    · exact He.noat_ok (d.fact 27 (f := .noat "Finder" "sights") rfl)
    · exact He.noat_ok (d.fact 28 (f := .noat "Finder" "broken") rfl)
    · exact He.noat_ok (d.fact 29 (f := .noat "Finder" "calls") rfl)⟩⟩
  have CLinks : C4 K mg "Links" (He.ga K "Links") (He.ma K (He.ga K "Links") "__init__") liFs := ⟨He.mkr_ok (d.fact 30 (f := .mkr "Links") rfl), He.glo_ok X G (d.fact 31 (f := .glo "Links") rfl), ⟨He.cls_ok (d.fact 32 (f := .cls "Links") rfl), fun f hf => by
    simp only [liFs, List.mem_cons, List.not_mem_nil, or_false] at hf
    rcases hf with rfl | rfl | rfl | rfl | rfl | rfl | rfl
    · exact He.noat_ok (d.fact 33 (f := .noat "Links" "finders") rfl)
    · exact He.noat_ok (d.fact 34 (f := .noat "Links" "roots") rfl)
    · exact He.noat_ok (d.fact 35 (f := .noat "Links" "scopes") rfl)
    · exact He.noat_ok (d.fact 36 (f := .noat "Links" "brought") rfl)
    · exact He.noat_ok (d.fact 37 (f := .noat "Links" "_answers") rfl)
    · exact He.noat_ok (d.fact 38 (f := .noat "Links" "_beyond") rfl)
    · exact He.noat_ok (d.fact 39 (f := .noat "Links" "_rings") rfl)⟩⟩
  have CMembers : C4 K mg "Members" (He.ga K "Members") (He.ma K (He.ga K "Members") "__init__") meFs := ⟨He.mkr_ok (d.fact 40 (f := .mkr "Members") rfl), He.glo_ok X G (d.fact 41 (f := .glo "Members") rfl), ⟨He.cls_ok (d.fact 42 (f := .cls "Members") rfl), fun f hf => by
    simp only [meFs, List.mem_cons, List.not_mem_nil, or_false] at hf
    rcases hf with rfl | rfl | rfl | rfl | rfl
    · exact He.noat_ok (d.fact 43 (f := .noat "Members" "links") rfl)
    · exact He.noat_ok (d.fact 44 (f := .noat "Members" "classes") rfl)
    · exact He.noat_ok (d.fact 45 (f := .noat "Members" "opens") rfl)
    · exact He.noat_ok (d.fact 46 (f := .noat "Members" "_members_of") rfl)
    · exact He.noat_ok (d.fact 47 (f := .noat "Members" "_all") rfl)⟩⟩
  have CNaming : C4 K mg "Naming" (He.ga K "Naming") (He.ma K (He.ga K "Naming") "__init__") naFs := ⟨He.mkr_ok (d.fact 48 (f := .mkr "Naming") rfl), He.glo_ok X G (d.fact 49 (f := .glo "Naming") rfl), ⟨He.cls_ok (d.fact 50 (f := .cls "Naming") rfl), fun f hf => by
    simp only [naFs, List.mem_cons, List.not_mem_nil, or_false] at hf
    rcases hf with rfl | rfl | rfl | rfl | rfl | rfl
    · exact He.noat_ok (d.fact 51 (f := .noat "Naming" "links") rfl)
    · exact He.noat_ok (d.fact 52 (f := .noat "Naming" "members") rfl)
    · exact He.noat_ok (d.fact 53 (f := .noat "Naming" "sights") rfl)
    · exact He.noat_ok (d.fact 54 (f := .noat "Naming" "key_of") rfl)
    · exact He.noat_ok (d.fact 55 (f := .noat "Naming" "broken") rfl)
    · exact He.noat_ok (d.fact 56 (f := .noat "Naming" "places") rfl)⟩⟩
  have CProject : C4 K mg "Project" (He.ga K "Project") (He.ma K (He.ga K "Project") "__init__") prFs := ⟨He.mkr_ok (d.fact 57 (f := .mkr "Project") rfl), He.glo_ok X G (d.fact 58 (f := .glo "Project") rfl), ⟨He.cls_ok (d.fact 59 (f := .cls "Project") rfl), fun f hf => by
    simp only [prFs, List.mem_cons, List.not_mem_nil, or_false] at hf
    rcases hf with rfl | rfl | rfl
    · exact He.noat_ok (d.fact 60 (f := .noat "Project" "_texts") rfl)
    · exact He.noat_ok (d.fact 61 (f := .noat "Project" "_trees") rfl)
    · exact He.noat_ok (d.fact 62 (f := .noat "Project" "_naming") rfl)⟩⟩
  obtain ⟨tL, gL⟩ := str_k (d.fact 63 (f := .str "LETTERS" "abcdefghijklmnopqrstuvwxyz") rfl)
  obtain ⟨tR, gR⟩ := str_k (d.fact 64 (f := .str "RUN" "abcdefghijklmnopqrstuvwxyz0123456789_") rfl)
  obtain ⟨tB, gB⟩ := str_k (d.fact 65 (f := .str "BLANKS" " \n") rfl)
  have m : ∀ {x : Str} {v : Value}, PySem.W.nsIn K mainGlobals x = some (some v) → mg x = some v := fun q => PySem.W.mg_of X G q
  have T : T4 K mg (He.ga K "WORDS") := ⟨He.free_ok X G (d.fact 66 (f := .free "isinstance") rfl), He.free_ok X G (d.fact 67 (f := .free "len") rfl), He.free_ok X G (d.fact 68 (f := .free "all") rfl), He.free_ok X G (d.fact 69 (f := .free "str") rfl), He.free_ok X G (d.fact 70 (f := .free "int") rfl), He.free_ok X G (d.fact 71 (f := .free "bool") rfl), He.free_ok X G (d.fact 72 (f := .free "list") rfl), He.free_ok X G (d.fact 73 (f := .free "tuple") rfl), He.free_ok X G (d.fact 74 (f := .free "sorted") rfl), He.free_ok X G (d.fact 75 (f := .free "range") rfl), He.free_ok X G (d.fact 76 (f := .free "max") rfl), He.free_ok X G (d.fact 77 (f := .free "min") rfl), He.free_ok X G (d.fact 78 (f := .free "abs") rfl),
    ⟨tL, by rw [← tLET4]; exact m gL⟩, ⟨tR, by rw [← tRUN4]; exact m gR⟩, ⟨tB, by rw [← tBLA4]; exact m gB⟩,
    He.int_ok X G (d.fact 79 (f := .int "LONGEST_NAME" 20) rfl), He.int_ok X G (d.fact 80 (f := .int "LONGEST_PROGRAM" 5000) rfl), He.glo_ok X G (d.fact 81 (f := .glo "WORDS") rfl),
    fun H => by
      rw [two_map, ← strs_wrds]
      exact He.tupB_ok c.more H⟩
  have e := hfa.symm.trans (He.glo_ok X G (d.fact 108 (f := .glo "law") rfl))
  cases e
  have mem : (("Finder", some "__init__") : He.Defn) ∈ TF := .head _
  refine ⟨fdL, [He.cT K ("Finder", some "__init__")], spLaw K (He.cT K ("Finder", some "__init__")).2, fun p hp => ?_, fun p hp => ?_, fun p hp => ?_, ?_, fun H a ns hn hb hH hS => ?_, fun base hK hG TB => ?_⟩
  · rw [List.mem_singleton.mp hp]
    exact c.empty _ mem
  · rw [List.mem_singleton.mp hp]
    exact c.out _ mem
  · rw [List.mem_singleton.mp hp]
    exact PySem.W.codeHd_of_K X (c.hd _ mem)
  · obtain ⟨oc, od, kV, doc, pm, an, ct, osl, e, _⟩ := FL.ex
    subst e
    exact fun s v => .of_eq rfl
  · refine ⟨a, ns, rfl, hS, hn, hb, fun p hp => ?_, fun _ => rfl⟩
    rw [List.mem_singleton.mp hp]
    exact TabS.nil (hH _ (List.mem_singleton.mpr rfl))
  · exact all_mk T
      CCursor
      CScope
      CFinder
      CLinks
      CMembers
      CNaming
      CProject
      FIN.fun
      (He.glo_ok X G (d.fact 82 (f := .glo "is_name") rfl))
      FLE.fun
      (He.glo_ok X G (d.fact 83 (f := .glo "_line_end") rfl))
      FTK.fun
      (He.glo_ok X G (d.fact 84 (f := .glo "tokens") rfl))
      FCI.fun
      FNT
      (He.meth_ok (d.fact 85 (f := .meth "Cursor" "next_text") rfl))
      FRM.fun
      (He.glo_ok X G (d.fact 86 (f := .glo "read_module") rfl))
      FSC.fun
      FBG.fun
      (He.meth_ok (d.fact 87 (f := .meth "Finder" "_begin") rfl))
      FBL.fun
      (He.meth_ok (d.fact 88 (f := .meth "Finder" "_block") rfl))
      FFI
      FCB.fun
      (He.meth_ok (d.fact 89 (f := .meth "Links" "_collect_brought") rfl))
      FFS.fun
      (He.meth_ok (d.fact 90 (f := .meth "Links" "_fill_stars") rfl))
      FFR.fun
      (He.meth_ok (d.fact 91 (f := .meth "Links" "_find_rings") rfl))
      FLI.fun
      FFB.fun
      (He.meth_ok (d.fact 92 (f := .meth "Members" "_find_bases") rfl))
      FJR.fun
      (He.meth_ok (d.fact 93 (f := .meth "Members" "_join_related") rfl))
      FFM.fun
      (He.meth_ok (d.fact 94 (f := .meth "Members" "_find_members") rfl))
      FME.fun
      FIM.fun
      (He.meth_ok (d.fact 95 (f := .meth "Naming" "_look_at_imported") rfl))
      FCP.fun
      (He.meth_ok (d.fact 96 (f := .meth "Naming" "_collect_places") rfl))
      FNA.fun
      FPI.fun
      FHA.fun
      (He.meth_ok (d.fact 97 (f := .meth "Project" "has") rfl))
      FTO.fun
      (He.meth_ok (d.fact 98 (f := .meth "Project" "text_of") rfl))
      FII.fun
      (He.glo_ok X G (d.fact 99 (f := .glo "is_integer") rfl))
      FIR.fun
      (He.glo_ok X G (d.fact 100 (f := .glo "is_row") rfl))
      FIT.fun
      (He.glo_ok X G (d.fact 101 (f := .glo "is_tuple_of") rfl))
      FIP.fun
      (He.glo_ok X G (d.fact 102 (f := .glo "_is_piece") rfl))
      FSL.fun
      (He.glo_ok X G (d.fact 103 (f := .glo "same_layout") rfl))
      FP.fun
      (He.glo_ok X G (d.fact 104 (f := .glo "_law_pool") rfl))
      FT.fun
      (He.glo_ok X G (d.fact 105 (f := .glo "_law_take") rfl))
      FLP.fun
      (He.glo_ok X G (d.fact 106 (f := .glo "_law_pieces") rfl))
      FPT.fun
      (He.glo_ok X G (d.fact 107 (f := .glo "_law_put") rfl))
      FL.fun (TB _ (List.mem_singleton.mpr rfl))
end KB
open PySem PySem.W PySem.Calls PyProof.Rows
set_option maxHeartbeats 0 in
theorem PySem.Challenge.cw_keptbindings_k14_layouts_compared_holds : PySem.Challenge.rw_keptbindings_k14_layouts_compared.Holds := by
  refine KR.fin KR.run ?_
  refine LamX.walk_ofTsE (l := PySem.Challenge.rw_keptbindings_k14_layouts_compared) (n := 63) (k := 12) (x := "_law_script") (CX := fun _ => L2.CX0) rfl (by decide) (by kernel_rfl) ⟨rfl, by decide, by decide⟩ ?F fun w H s e s' z => z
  intro w mg fa h Y G hmg0
  obtain ⟨K, KX, c⟩ := Y
  have hmg : mg ("law" : PySem.Str) = some (.ref fa) := by
    have e : (HandSHeadRun.topDef (OpenLaw.row PySem.Challenge.rw_keptbindings_k14_layouts_compared).prog 143).name = ("law" : PySem.Str) := by kernel_rfl
    rw [← e]
    exact hmg0
  exact ⟨K, KX, KB.all_of KX G hmg c⟩
