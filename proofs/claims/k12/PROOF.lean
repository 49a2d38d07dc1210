import PyProof.Rows.All
import Wide.All
import OpenK.AllK
import Wide.FinOn
import HandS.ForMost
import HandS.Wide
import HandS.EndBits
import HandS.Evl
import PyProof.EqAt
import PyProof.EqKinds
import PyProof.TupleCall
import KE.KFromBytes
import KE.KExcIs
import PyProof.ReprRoads
import HandS.NoneIn
import HandS.ExcInit
import HandS.ExcIs
import HandS.IsInst
import HandS.Walk
import PySem.Challenge.RW_keptbindings_k12_classes_of_errors
set_option Elab.async false
set_option linter.all false
set_option maxRecDepth 100000
set_option maxHeartbeats 4000000
namespace KB
open PySem PySem.Spec PyProof.Rows L2
def topS (i : Nat) : Stmt := PySem.Challenge.pw_keptbindings_k12_classes_of_errors.main.body.getD i (.Pass ⟨0, 0, 0, 0⟩)
abbrev sPool : Stmt := topS 11
abbrev sTake : Stmt := topS 12
/-! ### the draws -/
/-- what is known of a pool's two numbers -/
structure PoolOk (a b : Int) : Prop where
  a0 : 0 ≤ a
  ab : Builtin.Int.intBits a ≤ 1048576
  b0 : 0 ≤ b
  bb : b < 2147483647
def PoolAt (H : Hp) (p : Addr) : Prop := ∃ a b, PoolOk a b ∧ H p = some (.lst [.int a, .int b])
section
variable {X : Cx}
/-- * of ints of any size that a model carries -/
theorem op_mulB : OpR X (binaryOp .Mult) (rI (fun i j => Builtin.Int.intBits i + Builtin.Int.intBits j ≤ 100000000) fun i j => .int (i * j)) := opI fun i j _ _ _ _ _ hc q => mul_int q (by
  unfold IntMulOk
  intro z
  rw [Bool.and_eq_true] at z
  have z2 := z.2
  unfold Builtin.Int.intTooBig at z2
  have z3 := of_decide_eq_true z2
  rw [show bitsLine = 134217728 by decide] at z3
  omega)
end
theorem bits_le {i : Int} {n : Nat} (hn : 0 < n) (h : i.natAbs < 2 ^ n) : Builtin.Int.intBits i ≤ n := by
  unfold Builtin.Int.intBits
  split
  · omega
  · have := PySem.Flt.log2_lt_of hn h
    omega
theorem bits_mono {i j : Int} (h0 : 0 ≤ i) (h : i ≤ j) : Builtin.Int.intBits i ≤ Builtin.Int.intBits j := by
  unfold Builtin.Int.intBits
  by_cases hi : i = 0
  · rw [if_pos (by rw [hi]; rfl)]
    exact Nat.zero_le _
  · have hj : j ≠ 0 := by omega
    rw [if_neg (by simpa using hi), if_neg (by simpa using hj)]
    have h1 : i.natAbs ≤ j.natAbs := by omega
    have h2 : j.natAbs.log2 < j.natAbs.log2 + 1 := Nat.lt_succ_self _
    have h3 : j.natAbs < 2 ^ (j.natAbs.log2 + 1) := (Nat.log2_lt (by omega)).mp h2
    have h4 : i.natAbs.log2 < j.natAbs.log2 + 1 := (Nat.log2_lt (by omega)).mpr (Nat.lt_of_le_of_lt h1 h3)
    omega
section
variable {P : Program} {w : World} {K : PySem.W.Frag} {mg : Str → Option Value} {base : Heap}
theorem scTake : FnScope ["_law_pool_here", "_law_many", "_law_found"] ["_law_pool_here", "_law_many"] (defScope sTake) := ⟨rfl, rfl, rfl, by decide +kernel, rfl, by decide +kernel, by decide +kernel⟩
theorem scPool : FnScope ["_law_script", "_law_k", "_law_cell", "_law_size", "_law_seed"] ["_law_script", "_law_k"] (defScope sPool) := ⟨rfl, rfl, rfl, by decide +kernel, rfl, by decide +kernel, by decide +kernel⟩
/-- _law_take(pool, n): a number below n; the pool goes on -/
def spTake : Sp := fun vs H Q _ => ∃ (p : Addr) (a b n : Int), vs = [.ref p, .int n] ∧ H p = some (.lst [.int a, .int b]) ∧ PoolOk a b ∧ 0 < n ∧ n < 1000 ∧
  ∀ (r a' b' : Int), 0 ≤ r → r < n → PoolOk a' b' → Q (.int r) (upd H p (.lst [.int a', .int b']))
theorem ok_take {f : Addr} {fd : FuncData} {k : Nat} (F : Fun K "_law_take" "_law_take" sTake f fd) : FnOk P w K mg base CX0 (k + 1) f fd ["_law_pool_here", "_law_many"] spTake := by
  refine F.ok scTake (fun vs H Q E h => ?_) (fun cdv A outer s H vs Q E hr h => ?_)
  · obtain ⟨p, a, b, n, rfl, _⟩ := h
    rfl
  · obtain ⟨p, a, b, n, rfl, hp, ok, n0, n1, q⟩ := h
    refine ⟨_, pss_cons (ps_if (pt_cmpR op_gt (pe_ix ix_list (pv 0) pe_int (fun _ _ => rfl)) pe_int (nomark _))
        (pss_cons (ps_set (i := 2) scTake.nd rfl (.inl rfl) (pe_op op_mod (pe_ix ix_list (pv 0) pe_int (fun _ _ => rfl)) (pv 1)))
        (pss_cons (ps_asg (pe_op op_fdivW (pe_ix ix_list (pv 0) pe_int (fun _ _ => rfl)) (pv 1)) (pg_sub (pv 0) pe_int set_list))
        (pss_one (ps_ret (pv 2))))) pss_nil)
      (pss_cons (ps_asg (pe_op op_mod (pe_op op_add (pe_op op_mul (pe_ix ix_list (pv 0) pe_int (fun _ _ => rfl)) pe_int) pe_int) pe_int) (pg_sub (pv 0) pe_int set_list))
      (pss_one (ps_ret (pe_op op_mod (pe_op op_fdiv (pe_op op_mod (pe_op op_mul (pe_ix ix_list (pv 0) pe_int (fun _ _ => rfl)) (pe_ix ix_list (pv 0) pe_int (fun _ _ => rfl))) pe_int) pe_int) (pv 1))))), ?_⟩
    have hl : SqL K H p [.int a, .int b] := .inl (.inl hp)
    refine ⟨_, rfl, p, _, _, _, rfl, rfl, hl, atI_nat (j := 0) rfl, _, _, rfl, rfl, _, rfl, ite2 (fun e => ?_) (fun e => ?_)⟩
    · have ha : 0 < a := of_decide_eq_true e
      refine ⟨_, rfl, p, _, _, _, rfl, rfl, hl, atI_nat (j := 0) rfl, _, rfl, _, _, rfl, rfl, n0, ?_⟩
      refine ⟨_, rfl, p, _, _, _, rfl, rfl, hl, atI_nat (j := 0) rfl, _, rfl, _, _, rfl, rfl, wide_div (b := 10) n0 (by omega) (by decide) (by decide), ?_⟩
      refine ⟨_, rfl, p, _, _, _, rfl, rfl, hp, rfl, ?_⟩
      refine ⟨_, rfl, ?_⟩
      have h1 : a / n ≤ a := Int.ediv_le_self n ok.a0
      have h2 : 0 ≤ a / n := Int.ediv_nonneg ok.a0 (by omega)
      exact q _ _ _ (Int.emod_nonneg _ (by omega)) (Int.emod_lt_of_pos _ n0) ⟨h2, Nat.le_trans (bits_mono h2 h1) ok.ab, ok.b0, ok.bb⟩
    · refine ⟨_, rfl, p, _, _, _, rfl, rfl, hl, atI_nat (j := 1) rfl, _, _, rfl, rfl, .inl ⟨?_, ?_⟩, _, _, rfl, rfl, _, _, rfl, rfl, (by show (0 : Int) < 2147483647; decide), ?_⟩
      · have := ok.b0; omega
      · have := ok.bb; omega
      refine ⟨_, rfl, p, _, _, _, rfl, rfl, hp, rfl, ?_⟩
      have hb0 := Int.emod_nonneg (b * 48271 + 11) (show (2147483647 : Int) ≠ 0 by decide)
      have hb1 := Int.emod_lt_of_pos (b * 48271 + 11) (show (0 : Int) < 2147483647 by decide)
      generalize hB : (b * 48271 + 11) % 2147483647 = B at hb0 hb1
      have hl2 : SqL K (upd H p (.lst [.int a, .int B])) p [.int a, .int B] := .inl (.inl upd_same)
      refine ⟨_, rfl, p, _, _, _, rfl, rfl, (by rw [← hB] at hl2; exact hl2), atI_nat (j := 1) rfl, _, rfl, p, _, _, _, rfl, rfl, (by rw [← hB] at hl2; exact hl2), atI_nat (j := 1) rfl, _, _, rfl, rfl, .inl ⟨?_, ?_⟩, _, _, rfl, rfl, (by show (0 : Int) < 2147483629; decide), _, _, rfl, rfl, ⟨by decide, by decide⟩, _, rfl, _, _, rfl, rfl, n0, ?_⟩
      · rw [hB]; omega
      · rw [hB]; omega
      · rw [hB]
        exact q _ _ _ (Int.emod_nonneg _ (by omega)) (Int.emod_lt_of_pos _ n0) ⟨ok.a0, ok.ab, by rw [hB]; exact hb0, by rw [hB]; exact hb1⟩
/-- _law_pool(script, k): a pool -/
def spPool (K : PySem.W.Frag) : Sp := fun vs H Q _ => ∃ (a : Addr) (ns : List Int) (k : Int), vs = [.ref a, .int k] ∧ SqL K H a (ns.map V.int) ∧ ns.length ≤ 63 ∧ (∀ z ∈ ns, Builtin.Int.intBits z ≤ 1048576) ∧ 0 ≤ k ∧ k < 100 ∧
  ∀ (p : Addr) (a' b' : Int), H p = none → PoolOk a' b' → Q (.ref p) (upd H p (.lst [.int a', .int b']))
theorem poolA {c : Int} (hc : Builtin.Int.intBits c ≤ 1048576) (t : Bool) : 0 ≤ (if c < 0 then -c else c) * (if t then 1 else 0) ∧ Builtin.Int.intBits ((if c < 0 then -c else c) * (if t then 1 else 0)) ≤ 1048576 := by
  have h0 : 0 ≤ (if c < 0 then -c else c) := by split <;> omega
  have h1 : Builtin.Int.intBits (if c < 0 then -c else c) ≤ 1048576 := by
    split
    · have e : Builtin.Int.intBits (-c) = Builtin.Int.intBits c := by
        unfold Builtin.Int.intBits
        rw [Int.natAbs_neg]
        by_cases z : c = 0
        · rw [z]; rfl
        · rw [if_neg (by simpa using z), if_neg (by simpa using z)]
      omega
    · exact hc
  cases t
  · simp [Builtin.Int.intBits]
  · simp only [if_true, Int.mul_one]
    exact ⟨h0, h1⟩
theorem ok_pool {f : Addr} {fd : FuncData} {k : Nat} (F : Fun K "_law_pool" "_law_pool" sPool f fd) (ml : mg "len" = none) (ma : mg "abs" = none) (mi : mg "int" = none) : FnOk P w K mg base CX0 (k + 1) f fd ["_law_script", "_law_k"] (spPool K) := by
  refine F.ok scPool (fun vs H Q E h => ?_) (fun cdv A outer s H vs Q E hr h => ?_)
  · obtain ⟨a, ns, k, rfl, _⟩ := h
    rfl
  · obtain ⟨a, ns, j, rfl, hS, hlen, hbits, j0, j1, q⟩ := h
    refine ⟨_, pss_cons (ps_set (i := 2) scPool.nd rfl (.inl rfl) pe_int)
      (Evl.pss_cut (ps_if (pt_cmpR op_lt (pv 1) (pe_callB call_len_seq (by rfl) ml PySem.boot_len (pa_cons (pv 0) pa_nil)) (nomark _))
        (pss_one (ps_set (i := 2) scPool.nd rfl (.inl rfl) (pe_ix ix_list (pv 0) (pv 1) (fun _ _ => rfl)))) pss_nil)
      (pss_cons (ps_set (i := 3) scPool.nd rfl (.inl rfl) (pe_callB call_abs (by rfl) ma (by decide +kernel) (pa_cons (pv 2) pa_nil)))
      (pss_cons (ps_set (i := 4) scPool.nd rfl (.inl rfl) (pe_op op_mod (pe_op op_pow (pe_op op_add (pe_op op_add (pe_op op_add (pe_op op_mod (pv 2) pe_int) (pe_op op_mul (pe_op op_mul pe_int (pv 1)) (pv 1))) (pe_op op_mul pe_int (pv 1))) pe_int) pe_int) pe_int))
      (pss_one (ps_ret (pe_lst (pa_cons (pe_op op_mulB (pv 3) (pe_callTy call_int1 (by rfl) mi (by decide +kernel) (pa_cons (pe_cmpR op_ge (pv 3) (pe_op op_pow pe_int pe_int) (nomark _)) pa_nil))) (pa_cons (pv 4) pa_nil)))))))), ?_⟩
    refine ⟨fun σ' H' => ∃ c : Int, Builtin.Int.intBits c ≤ 1048576 ∧ σ' = [some (.ref a), some (.int j), some (.int c), none, none] ∧ H' = H, ?_, ?_⟩
    · refine ⟨_, rfl, _, rfl, a, _, rfl, .inl hS, _, _, rfl, rfl, _, rfl, ?_⟩
      refine ite2 (fun e => ?_) (fun e => ?_)
      · have e1 : j < ((ns.map V.int).length : Int) := of_decide_eq_true e
        rw [List.length_map] at e1
        obtain ⟨m, rfl⟩ : ∃ m : Nat, j = (m : Int) := ⟨j.toNat, by omega⟩
        have hm : m < ns.length := by omega
        have g1 : (ns.map V.int)[m]? = some (.int ns[m]) := by
          rw [List.getElem?_map, List.getElem?_eq_getElem hm]
          rfl
        exact ⟨_, rfl, _, rfl, a, _, _, _, rfl, rfl, hS, atI_nat g1, ns[m], hbits _ (List.getElem_mem hm), rfl, rfl⟩
      · exact ⟨0, by decide, rfl, rfl⟩
    · rintro σ' H' ⟨c, hc, rfl, rfl⟩
      refine ⟨_, rfl, _, rfl, ?_⟩
      have m0 := Int.emod_nonneg c (show (2147483629 : Int) ≠ 0 by decide)
      have m1 := Int.emod_lt_of_pos c (show (0 : Int) < 2147483629 by decide)
      have k0 : 0 ≤ 104729 * j * j := Int.mul_nonneg (by omega) j0
      have k1 : 104729 * j * j ≤ 104729 * 100 * 100 := Int.mul_le_mul (by omega) (by omega) j0 (by omega)
      refine ⟨_, rfl, _, _, rfl, rfl, (by show (0 : Int) < 2147483629; decide), _, rfl, _, _, rfl, rfl, .inl ⟨by decide, by decide⟩, _, rfl, _, _, rfl, rfl, .inl ⟨by omega, by omega⟩, _, _, rfl, rfl, _, rfl, _, _, rfl, rfl, .inl ⟨by decide, by decide⟩, _, _, rfl, rfl, _, _, rfl, rfl, _, _, rfl, rfl, ⟨by decide, by decide, ?_⟩, _, _, rfl, rfl, (by show (0 : Int) < 2147483647; decide), ?_⟩
      · omega
      have s0 := Int.emod_nonneg ((c % 2147483629 + 104729 * j * j + 7919 * j + 11) ^ (3 : Int).toNat) (show (2147483647 : Int) ≠ 0 by decide)
      have s1 := Int.emod_lt_of_pos ((c % 2147483629 + 104729 * j * j + 7919 * j + 11) ^ (3 : Int).toNat) (show (0 : Int) < 2147483647 by decide)
      refine ⟨_, rfl, _, rfl, _, _, rfl, rfl, ⟨by decide, by decide, by decide⟩, _, _, rfl, rfl, .inr ⟨_, rfl, _, _, rfl, rfl, ?_, _, rfl, (by show 2 ≤ sizeLine; decide), fun p hp => ?_⟩⟩
      · obtain ⟨h0, h1⟩ := poolA hc true
        simp only [if_true, Int.mul_one] at h1
        have b1 : ∀ t : Bool, Builtin.Int.intBits (if t then 1 else 0) ≤ 1 := by decide
        exact Nat.le_trans (Nat.add_le_add h1 (b1 _)) (by decide)
      · obtain ⟨h0, h1⟩ := poolA hc (decide ((10 : Int) ^ (18 : Int).toNat ≤ (if c < 0 then -c else c)))
        exact q p _ _ hp ⟨h0, h1, s0, s1⟩
end
end KB
/-! Own exceptions held as values: made, asked for their classes, their fields read; repr of nested data -/
namespace KB
open PySem PySem.Spec PyProof.Rows L2
/-! ### an exception as a value -/
/-- C(e, ..) kept: the object stays tracked -/
def tKeepX (C : Addr) (sp : Sp) (ta : TA) : TE := fun σ H Q => ta σ H fun vs H1 => vs.length ≤ 1000 ∧ ∀ a, H1 a = none →
  sp (.ref a :: vs) (upd H1 a (exo a C none)) (fun v H2 => v = .non ∧ Q (.ref a) H2) (fun _ _ _ => False)
section
variable {X : Cx} {e : Expr} {es : List Expr} {ta : TA} {f : Str} {p pos : Pos}
theorem pe_keepX {CX : CXT} {x : Str} {C fI : Addr} {k : Nat} {fd : FuncData} {ps : List Str} {sp : Sp} (T : OexC X.K C)
    (iC : PySem.W.findIn X.K (.ref C) "__init__" = some (some (.ref fI))) (tI : PySem.W.typeIn X.K (.ref fI) = some (.type "function"))
    (FI : FnOk X.prog X.w X.K X.mg X.base CX k fI fd ps sp) (hr : Room (k + 1) X.A) (hb : Binds X.K fd ps [])
    (hx : Passes CX X (fun _ _ _ => False)) (hg : Gl X x) (hm : X.mg x = some (.ref C)) (ha : PA X (e :: es) ta)
    (hdb : (x == ("__debug__" : Str)) = false := by decide)
    (he : starEach (e :: es) X.env = (false, eval e X.env) :: starEach es X.env := by rfl)
    (hpl : (backTo pos (starEach es X.env)).any (·.1) = false := by rfl) :
    PE X (.Call (.Name x p) (e :: es) [] pos) (tKeepX C sp ta) := by
  refine ⟨fun pins s0 σ H Q I0 want => ?_⟩
  obtain ⟨c1, c2, c3, c4, bm, c5, c6, c7, c8, c9, d1, d2, d3, d4, d5, hC, hbm⟩ := T.cls
  refine wpAny_Call_Name_kw (ld_glob I0 hg hm ?_ hdb)
  refine PySem.W.callWith_K (h₀ := X.base) I0.ok.mod.kin T.kC (thn (ha.run pos pins s0 σ H _ I0 want)
    fun us s1 made => ?_) he hpl
  obtain ⟨vs, H1, I1, r1, small, todo⟩ := made
  refine ⟨I1.kIn, ?_⟩
  show wpAny _ _ (call (.ref C) us) _ _ _
  obtain ⟨hp, gg, dd, tt, oo⟩ := s1
  -- the new object's address
  generalize ea : hp.objs.size + 1 = a at *
  have le : hp.objs.size ≤ a := by omega
  have new : H1 a = none := I1.hok.fresh le
  have ask := todo a new
  let h2 : Heap := (hp.push (PySem.W.kdv_tup us)).push (PySem.HandSPX.excO C hp.objs.size)
  have kept : ∀ b o, hp.get? b = some o → h2.get? b = some o :=
    fun b o q => Heap.get?_push_of_some _ (Heap.get?_push_of_some _ q)
  have there : h2.get? a = some (PySem.HandSPX.excO C hp.objs.size) := by
    rw [← ea]
    show ((hp.push (PySem.W.kdv_tup us)).push (PySem.HandSPX.excO C hp.objs.size)).get? (hp.objs.size + 1) = _
    heap_get
  have I2 : Inv X pins σ (upd H1 a (exo a C none)) ⟨h2, gg, dd, tt, oo⟩ :=
    I1.laid (t' := tt) (a := a) (o := exo a C none) (h' := h2) kept le (exo_ok there)
  have rr : Vals (V.ref a :: vs) (Value.ref a :: us) := .cons rfl r1
  have many : (Value.ref a :: us).length = ps.length := by
    have z := rr.length
    rw [FI.len _ _ _ _ ask] at z
    exact z.symm
  have fits : us.length ≤ sizeLine := by
    have z := Paired.length r1
    rw [sizeLine_eq]
    omega
  have go := FI.run _ X.stack _ _ ⟨Value.ref a :: us, []⟩ (Value.ref a :: us) _ _ (fun _ _ _ => False)
    (hr.make C us []) (I2.env0.make C us []) (by
      have z := hb _ (Value.ref a :: us) I2.kIn (by simpa using many)
      simpa using z) rr ask
  rw [← ea] at go
  refine wpAny_call (PySem.HandSPX.call_own F.excBase_ValueError (fun Y => PySem.HandSPX.refsVE_contains Y bm hbm)
    (I1.kIn _ _ hC) (PySem.W.looks_findIn I1.kIn iC) (fun self => PySem.W.bind_fn I1.kIn self tI) fits
    (codeAny_mono go fun r s' end_ => ?_))
  rw [ea] at end_
  cases r with
  | error er => exact hx pins σ _ _ er s' I2 end_
  | ok fl =>
    cases fl with
    | ret u =>
      obtain ⟨v, H3, same, bare, un, ok3, rv, ev, q⟩ := end_
      subst ev
      have J : Inv X pins σ H3 s' := I2.call' (ch := []) same un ok3 bare (fun b z => absurd z (by simp))
      exact ⟨rv, .ref a, H3, J, by rw [ea]; rfl, q⟩
    | next => exact False.elim end_
    | brk => exact False.elim end_
    | cont => exact False.elim end_
end
/-! ### isinstance of such a value, its fields -/
section
variable {X : Cx}
/-- what is tracked of an exception that has its dict, as the library's rules ask it -/
theorem exo_inst {pins : List (Addr × Obj)} {σ : L2.St} {H : Hp} {s : Shared} {a C dx : Addr} {fs : List (Str × V)} (I : L2.Inv X pins σ H s)
    (ha : H a = some (exo a C (some dx))) (hd : H dx = some (exd dx fs)) :
    ∃ (ox od : Obj) (mA : Str → Option Value), PySem.W.InstAt s.heap a ox C (some od) ∧ (∀ name, PySem.W.lookIn name od = some (mA name)) ∧ ∀ f, RelO (fs.lookup f) (mA f) := by
  obtain ⟨t1, there⟩ := exo_at I.hok ha
  obtain ⟨mA, hns, rel⟩ := exd_at I.hok hd
  obtain ⟨od, ho, look⟩ := lookIn_ns hns
  exact ⟨_, od, mA, ⟨there, rfl, rfl, ho⟩, look, rel⟩
def rIsO (K : PySem.W.Frag) : List V → Hp → VK → Prop := fun xs H Q => ∃ (a D dx : Addr) (fs : List (Str × V)) (c : V) (u : Value) (b : Bool),
  xs = [.ref a, c] ∧ ClsV c u ∧ H a = some (exo a D (some dx)) ∧ H dx = some (exd dx fs) ∧ ExcC K D ∧ PySem.W.kitOne K (.ref D) u = some b ∧ Q (.bl b) H
theorem call_isO : CallR X (.builtin "isinstance") (rIsO X.K) := by
  intro pins s σ H xs us Q I r want
  obtain ⟨a, D, dx, fs, c, u, b, rfl, k, ha, hd, T, e, q⟩ := want
  obtain ⟨u1, u2, rfl, r1, r2⟩ := vals2 r
  obtain rfl := k.eq r2
  obtain rfl : u1 = Value.ref a := r1
  obtain ⟨ox, od, _, J, _, _⟩ := exo_inst I ha hd
  obtain ⟨cd, hc, _⟩ := PySem.W.any_some T.hd
  exact PySem.W.kia_one (PySem.W.kitx_exc (by rw [hc]; rfl) T.hg T.hk T.hs T.ha T.hn T.ht T.hm) I.kIn J e
    (fun z => nomatch z) fun tk => ⟨.bl b, H, I.tok tk, rfl, q⟩
/-- e.f, e such a value -/
def tFldX (K : PySem.W.Frag) (f : Str) (te : TE) : TE := fun σ H Q => te σ H fun x H1 => ∃ (a C dx : Addr) (fs : List (Str × V)) (v : V),
  x = .ref a ∧ H1 a = some (exo a C (some dx)) ∧ H1 dx = some (exd dx fs) ∧ ExcC K C ∧ PySem.W.findIn K (.ref C) f = some none ∧ fs.lookup f = some v ∧ Q v H1
theorem pe_fldX {e : Expr} {f : Str} {te : TE} {pos : Pos} (he : PE X e te) (hb : attributeBase e f X.env (eval e X.env) = eval e X.env := by rfl) :
    PE X (.Attribute e f pos) (tFldX X.K f te) := by
  refine ⟨fun pins s σ H Q I want => ?_⟩
  refine attr_of hb (thn (he.run pins s σ H _ I want) fun u s1 got => ?_)
  obtain ⟨x, H1, I1, rx, a, C, dx, fs, v, rfl, ha, hd, T, no, l, q⟩ := got
  obtain rfl : u = Value.ref a := rx
  obtain ⟨ox, od, mA, J, look, rel⟩ := exo_inst I1 ha hd
  obtain ⟨w, hw, rw'⟩ := RelO.some_of (v := v) (o := mA f) (by rw [← l]; exact rel f)
  refine PySem.HandSPX.exc_get I1.kIn J T.hg T.hk T.hs (PySem.W.findObj_own T.hd no rfl (by rw [look, hw])) (handed_of rw') ?_
  exact ⟨v, H1, I1.tok _, rw', q⟩
end
/-! ### repr of nested data -/
section
variable {X : Cx}
/-- v is the datum d, wherever the tracked heap is as H -/
def Shows (X : Cx) (H : Hp) (v : V) (d : PyData) : Prop := ∀ (pins : List (Addr × Obj)) (σ : L2.St) (s : Shared) (u : Value),
  L2.Inv X pins σ H s → RelV v u → ∃ as, Reads s.heap u d as ∧ sysModules ∉ as
def ShowsAll (X : Cx) (H : Hp) (vs : List V) (ds : List PyData) : Prop := ∀ (pins : List (Addr × Obj)) (σ : L2.St) (s : Shared) (us : List Value),
  L2.Inv X pins σ H s → Vals vs us → ∃ as, ReadsAll s.heap us ds as ∧ sysModules ∉ as
variable {H : Hp}
theorem shows_non : Shows X H .non .none := fun _ _ _ u _ r => by
  obtain rfl : u = Value.none := r
  exact ⟨_, .none, by simp⟩
theorem shows_bl {b : Bool} : Shows X H (.bl b) (.bool b) := fun _ _ _ u _ r => by
  obtain rfl : u = Value.bool b := r
  exact ⟨_, .bool b, by simp⟩
theorem shows_int {i : Int} : Shows X H (.int i) (.int i) := fun _ _ _ u _ r => by
  obtain ⟨t, rfl⟩ : ∃ t, u = Value.int i t := r
  exact ⟨_, .int i t, by simp⟩
theorem shows_str {x : Str} : Shows X H (.str x) (.str x) := fun _ _ _ u _ r => by
  obtain ⟨t, rfl⟩ : ∃ t, u = Value.str x t := r
  exact ⟨_, .str x t, by simp⟩
theorem showsAll_nil : ShowsAll X H [] [] := fun _ _ _ us _ r => by
  cases r
  exact ⟨[], .nil, by simp⟩
theorem showsAll_cons {v : V} {vs : List V} {d : PyData} {ds : List PyData} (h : Shows X H v d) (t : ShowsAll X H vs ds) : ShowsAll X H (v :: vs) (d :: ds) := fun pins σ s us I r => by
  cases r with
  | cons r1 r2 =>
    obtain ⟨as, q1, n1⟩ := h pins σ s _ I r1
    obtain ⟨bs, q2, n2⟩ := t pins σ s _ I r2
    exact ⟨as ++ bs, .cons q1 q2, fun z => (List.mem_append.mp z).elim n1 n2⟩
theorem shows_lst {a : Addr} {xs : List V} {ds : List PyData} (ha : H a = some (.lst xs)) (n : a ≠ sysModules) (h : ShowsAll X H xs ds) : Shows X H (.ref a) (.list ds) := fun pins σ s u I r => by
  obtain rfl : u = Value.ref a := r
  obtain ⟨_, its, m, rv, there⟩ := (show ObjOk X.prog X.w H s.heap a (.lst xs) from I.hok a _ ha)
  obtain ⟨as, q, na⟩ := h pins σ s its I rv
  refine ⟨a :: as, .list there rfl rfl (by simpa using q), fun z => ?_⟩
  rcases List.mem_cons.mp z with z | z
  · exact n z.symm
  · exact na z
theorem shows_tup {a : Addr} {xs : List V} {ds : List PyData} (ha : H a = some (.tup xs)) (h : ShowsAll X H xs ds) : Shows X H (.ref a) (.tuple ds) := fun pins σ s u I r => by
  obtain rfl : u = Value.ref a := r
  obtain ⟨_, its, rv, o, h1, h2, m, h3⟩ := (show ObjOk X.prog X.w H s.heap a (.tup xs) from I.hok a _ ha)
  obtain ⟨as, q, na⟩ := h pins σ s its I rv
  exact ⟨as, .tuple h1 h2 h3 (by simpa using q), na⟩
theorem shows_dict0 {a : Addr} (ha : H a = some (.dK [])) : Shows X H (.ref a) (.dict []) := fun pins σ s u I r => by
  obtain rfl : u = Value.ref a := r
  obtain ⟨_, low, vs, kv, dd⟩ := dk_of I.hok ha
  cases kv
  obtain ⟨o, es, ep, h1, h2, h3, h4⟩ := dd
  have none_in : es.toList = [] := by
    have z := h4.2.1
    cases q : es.toList with
    | nil => rfl
    | cons x r =>
      rw [q] at z
      cases z
  have at0 : es.toList.map (·.key) = [] := by rw [none_in]; rfl
  have at1 : es.toList.map (·.val) = [] := by rw [none_in]; rfl
  refine ⟨a :: [] ++ [], .dict (kvs := []) h1 h2.1 h3 (by rw [at0]; exact .nil) (by rw [at1]; exact .nil), fun z => ?_⟩
  have z' : sysModules = a := by simpa using z
  rw [z'] at low
  simp at low
def rRepr (X : Cx) : List V → Hp → VK → Prop := fun xs H Q => ∃ (a : Addr) (d : PyData), xs = [.ref a] ∧ Shows X H (.ref a) d ∧ d.showable = true ∧ d.shown.length ≤ sizeLine ∧ d.depth ≤ 50 ∧ Q (.str d.shown) H
theorem call_reprD {k : Nat} (hg : X.A.guards = some []) (hr : Room k X.A) : CallR X (.builtin "repr") (rRepr X) := by
  intro pins s σ H xs us Q I r want
  obtain ⟨a, d, rfl, sh, ok, small, deep, q⟩ := want
  obtain ⟨u, rfl, r1⟩ := vals1 r
  obtain ⟨as, rd, na⟩ := sh pins σ s u I r1
  obtain rfl : u = Value.ref a := r1
  have room := hr.un
  refine repr_of_reads' rd ok (fun _ => na) hg (by omega) (fun _ _ z => z) (fun h' u tk keep => ?_) small
  exact ⟨.str d.shown, H, I.kept (t' := tk) keep, ⟨u, rfl⟩, q⟩
end
/-! ### new lists are none of the interpreter's own -/
section
variable {X : Cx} {es : List Expr} {t : TA} {pos : Pos}
def tLstN (t : TA) : TE := fun σ H Q => t σ H fun xs H1 => xs.length ≤ sizeLine ∧ ∀ p, H1 p = none → p ≠ sysModules → Q (.ref p) (upd H1 p (.lst xs))
theorem pe_lstN (h : PA X es t) : PE X (.List es pos) (tLstN t) := by
  refine ⟨fun pins s0 σ H Q I0 want => ?_⟩
  refine wpAny_List_spliced (thn (h.run pos pins s0 σ H _ I0 want) fun us s1 got => ?_)
  obtain ⟨xs, H1, I1, r, z, q⟩ := got
  have free : H1 s1.heap.objs.size = none := I1.hok.fresh (Nat.le_refl _)
  refine ⟨by rw [← r.length]; exact z, .ref s1.heap.objs.size, upd H1 s1.heap.objs.size (.lst xs),
    I1.laid (t' := s1.toks) (fun b u e => Heap.get?_push_of_some _ e) (Nat.le_refl _) ?_, rfl, q _ free (Nat.ne_of_gt I1.big)⟩
  exact ⟨z, us, _, r, Heap.get?_push_size _ rfl⟩
def rRepN : R2 := fun x y H Q => ∃ (l : Addr) (k : Int) (xs : List V), x = .ref l ∧ y = .int k ∧ H l = some (.lst xs) ∧ 0 ≤ k ∧ k < 1000 ∧ xs.length * k.toNat ≤ sizeLine ∧
  ∀ p, H p = none → p ≠ sysModules → Q (.ref p) (upd H p (.lst (List.replicate k.toNat xs).flatten))
theorem op_repN : OpR X (binaryOp .Mult) rRepN := by
  intro pins s σ H x y v u Q I rx ry want
  obtain ⟨l, k, xs, rfl, rfl, hl, k0, k1, fits, q⟩ := want
  obtain rfl : v = Value.ref l := rx
  obtain ⟨tok, rfl⟩ := ry
  obtain ⟨_, its, m, rel, len, there⟩ := I.lstM hl
  have big : (sizeLine : Nat) ≤ (2 ^ 63 - 1) / 8 := by decide
  have size : its.toArray.size * k.toNat ≤ sizeLine := by
    rw [List.size_toArray, ← len]
    exact fits
  have c1 : ¬ its.toArray.size * k.toNat > (2 ^ 63 - 1) / 8 := Nat.not_lt.mpr (Nat.le_trans size big)
  have c2 : ¬ (!Builtin.List.listFitsIndex k) = true := by
    rw [fitsIndex_both (by omega) (by omega)]
    simp
  have c3 : ¬ Builtin.List.listTooLong (its.toArray.size * k.toNat) = true := by
    rw [notLongL size]
    simp
  have laid : List.foldl (fun x1 x2 => x1 ++ x2) #[]
      (List.replicate (if its.toArray.isEmpty = true then 0 else k.toNat) its.toArray) = (List.replicate k.toNat its).flatten.toArray := by
    have one : ∀ j : Nat, List.foldl (fun x1 x2 => x1 ++ x2) #[] (List.replicate j its.toArray)
        = (List.replicate j its).flatten.toArray := fun j => by
      have z := foldl_rep its j []
      simpa using z
    rw [one]
    cases its with
    | nil => simp
    | cons b r' => simp
  refine wpAny_binaryOp_repeat_ref (T := "list") (U := "int") (by decide) ⟨_, there, rfl⟩ (fun s2 => typeIs_int s2 k tok)
    noFill_list_mul F.fills_int_mul F.slot_int_rmul repeat_list F.slot_int_index.lookup ?_
  refine call_meets F.slot_int_rmul (typeIs_int s k tok) F.entry_int_rmul (F.args_int_rmul_2 _ _)
    (int___rmul___int_list k tok l its.toArray m) ⟨there, rfl, ⟨_, there, rfl⟩, ?_⟩
  refine call_meets F.slot_list_mul ⟨_, there, rfl⟩ F.entry_list_mul (F.args_list_mul_2 _ _)
    (AutoListH.list___mul___list_int_3 l its.toArray m k tok c2 c1 c3) ⟨there, ?_⟩
  rw [laid]
  refine ⟨.ref _, _, I.lnew (t' := s.toks) (rel.rep k.toNat) ?_, rfl, q _ I.fresh (Nat.ne_of_gt I.big)⟩
  rw [PyProof.Rows.lm_len_rep_flat, Nat.mul_comm]
  exact fits
end
end KB
/-! The law's own def, run at the caller's frame alone: what runs around it is known -/
namespace KB
open PySem PySem.Spec PyProof.Rows L2
open PySem.W
/-- the tracked heap with which the law starts: the script alone, if it is none of the module's own objects -/
def start0 (K : Frag) (a : Addr) (o : Obj) (ns : List Int) : Hp := fun b =>
  if b = a ∧ K.lookup a = none then some (.frz o (.lst (ns.map V.int))) else none
section
variable {P : Program} {w : World} {K : PySem.W.Frag} {mg mb : Str → Option Value} {a : Addr} {s : Shared} {vs : List Value} {ns : List Int}
theorem start0_none {o : Obj} {b : Addr} (h : b ≠ a) : start0 K a o ns b = none := if_neg fun z => h z.1
theorem start0_K {o : Obj} {b : Addr} {u : Obj} (h : K.lookup b = some u) : start0 K a o ns b = none := if_neg fun z => by
  obtain ⟨rfl, z⟩ := z
  rw [z] at h
  cases h
theorem start0_frz {o : Obj} {b : Addr} {u : HO} (h : start0 K a o ns b = some u) : b = a ∧ u = .frz o (.lst (ns.map V.int)) := by
  unfold start0 at h
  split at h
  · rename_i z
    exact ⟨z.1, (Option.some.inj h).symm⟩
  · cases h
theorem law_at (KX : K.In s.heap) (hG : s.heap.Ns mainGlobals mg) (hB : s.heap.Ns builtinsNs mb)
    (hbb : ∀ x : Str, x ≠ "__name__" → mb x = bootBuiltins x) (hlim : s.heap.NoLimit) (hgen : s.gens = #[])
    (there : s.heap.get? a = some { cls := .type "list", data := .seq vs.toArray }) (hi : IntsAre vs ns) (hl : ns.length ≤ sizeLine) {fa : Addr}
    (run : ∀ (base : Heap) (H : Hp), K.In base → base.Ns mainGlobals mg → Env0 P w K mg base callerA [] s H → SqL K H a (ns.map V.int) →
      codeAny (model P w) callerA (.call (.ref fa) ⟨[.ref a], []⟩) (CR CX0 [] P w H s (fun v _ => v = .bl true) E0) s) :
    codeAny (model P w) callerA (.call (.ref fa) ⟨[.ref a], []⟩)
      (fun r s' => r = .ok (.ret (.bool true)) ∧ OldK s.heap s'.heap ∧ s'.os = s.os ∧ AllBare s'.gens) s := by
  let o : Obj := { cls := .type "list", data := .seq vs.toArray }
  let H : Hp := start0 K a o ns
  have rv : Vals (ns.map V.int) vs := vals_ints hi
  have small : (ns.map V.int).length ≤ sizeLine := by
    rw [List.length_map]
    exact hl
  have ok : HOk P w H s.heap := fun b u z => by
    obtain ⟨rfl, rfl⟩ := start0_frz z
    exact ⟨there, small, vs, _, rv, there⟩
  have script : SqL K H a (ns.map V.int) := by
    cases hk : K.lookup a with
    | none => exact .inl (.inr ⟨o, if_pos ⟨rfl, hk⟩⟩)
    | some u =>
      have z := KX a u hk
      rw [there] at z
      cases z
      refine .inr ⟨_, vs.toArray, _, hk, rfl, rfl, rfl, ?_, by simpa using rv⟩
      rw [List.size_toArray, hi.length]
      exact hl
  -- nothing but a list is tracked
  have dicts : ∀ {b : Addr} {u : Obj} {es : Array DictEntry} {ep : Nat}, s.heap.get? b = some u → u.data = .dict es ep → H b = none :=
    fun {b u es ep} e d => start0_none fun z => by
      subst z
      rw [there] at e
      cases e
      cases d
  have spaces : ∀ {b : Addr} {m : Str → Option Value}, s.heap.Ns b m → (hidT s.heap H).Ns b m :=
    fun {b m} ⟨u, es, ep, e, d, r⟩ => ⟨u, es, ep, hidT_get e (dicts e d), d, r⟩
  have KB : K.In (hidT s.heap H) := fun b u e => hidT_get (KX b u e) (start0_K e)
  have M : Mod K mg (hidT s.heap H) := by
    refine ⟨KB, spaces hG, ⟨mb, spaces hB, hbb⟩, ?_⟩
    obtain ⟨mc, x1, x2⟩ := hlim
    exact ⟨mc, spaces x1, x2⟩
  have e0 : Env0 P w K mg (hidT s.heap H) callerA [] s H :=
    { frames := rfl, mod := M, bs := fun b u e => of_hidT e, bsz := Nat.le_of_eq (hidT_size _ _), funs := trivial,
      frf := fun b hb => (List.not_mem_nil (show b ∈ ([] : List Addr) from hb)).elim, hok := ok, bare := .of_eq hgen }
  refine codeAny_mono (run _ H KB (spaces hG) e0 script) fun r s' z => ?_
  match r, z with
  | .ok (.ret u), z =>
    obtain ⟨v, H', os, bare, un, ok', rel, q⟩ := z
    have q' : v = .bl true := q
    subst q'
    obtain rfl : u = Value.bool true := rel
    refine ⟨rfl, OldK.of_keep fun b x e => ?_, os, bare⟩
    cases q : H b with
    | none => exact un.keep b x e q (fun z => List.not_mem_nil (show b ∈ ([] : List Addr) from z)) (by simp)
    | some y =>
      obtain ⟨rfl, rfl⟩ := start0_frz q
      have e2 := (ok' _ _ (un.frzs _ o _ q)).1
      rw [there] at e
      cases e
      exact e2
/-- the body of a def that the caller alone runs -/
theorem fn_at {f : Addr} {name qual : Str} {params : Arguments} {body : List Stmt} {scope : Scope} {dV kV doc pm cdv ct oc : Value} {an od : Option Addr}
    {osl : Array (Option Value)} {N ps : List Str} {base : Heap} {H : Hp}
    (lk : K.lookup f = some ⟨oc, od, .func (PySem.W.fnOf name qual params body scope dV kV doc pm an cdv ct), osl⟩) (hcd : PySem.W.codeIn K cdv qual = true)
    (S : FnScope N ps scope) (x : Str) (one : ps = [x]) (e0 : Env0 P w K mg base callerA [] s H)
    (hb : BindsTo s (PySem.W.fnOf name qual params body scope dV kV doc pm an cdv ct) ⟨[.ref a], []⟩ (ps.zip [.ref a]))
    (go : ∃ t, PSs (cxOf CX0 P w K mg base N qual scope f cdv callerA [] s H E0).nox body t ∧ t { nx := fun _ _ => False, rt := fun v _ => v = .bl true } (start N [.ref a]) H) :
    codeAny (model P w) callerA (.call (.ref f) ⟨[.ref a], []⟩) (CR CX0 [] P w H s (fun v _ => v = .bl true) E0) s := by
  have old : ∀ b o, base.get? b = some o → s.heap.get? b = some o := fun b o e => (e0.bs b o e).1
  have KX : K.In s.heap := e0.mod.kin.keeps old
  have lim : s.heap.NoLimit := e0.mod.nolimit.keeps old
  have hr : Room 5 callerA := ⟨rfl, by decide, by decide⟩
  have kinds : ∀ y ∈ ps.zip [Value.ref a], scope.names.lookup y.1 = some .local ∨
      (scope.names.lookup y.1 = some .cell ∧ ((cellsFrom (s.heap.objs.size + 1) scope.names []).lookup y.1).isSome = true) := by
    intro y hy
    rcases S.par y.1 (List.of_mem_zip (a := y.1) (b := y.2) hy).1 with q | q
    · exact .inl q
    · exact .inr ⟨q, PySem.W.cellsFrom_some _ _ _ (.inl q)⟩
  refine codeAny_call_function hr.depth (KX _ _ lk) rfl S.co S.gen rfl (PySem.W.codeRec_of KX hcd) (hb _ _ _ _ ?_)
  refine wpAny_newFunctionEnv_cells S.kind kinds fun env he s1 inside => ?_
  subst he
  refine ⟨lim.keeps inside.toInCall.keep, codeAny_func ?_⟩
  obtain ⟨t, ht, hq⟩ := go
  have I : L2.Inv (cxOf CX0 P w K mg base N qual scope f cdv callerA [] s H E0) [] (start N [.ref a]) H s1 :=
    inv_start S hr.hd e0 (by rw [one]; rfl) (.cons rfl .nil) inside
  refine wpAny_mono (ht.nox.run [] s1 (start N [.ref a]) H _ I hq) (fun fl s' got => ?_) fun e s' z => z
  match fl, got with
  | .ret u, ⟨v, σ', H', J, rv, q⟩ => exact ⟨v, H', J.os, J.bare, J.base, J.hok, rv, q⟩
  | .next, ⟨σ', H', J, q⟩ => exact False.elim q
  | .brk, ⟨_, _, _, q⟩ => exact False.elim q
  | .cont, ⟨_, _, _, q⟩ => exact False.elim q
end
end KB
namespace KB
open PySem PySem.Spec PyProof.Rows L2
/-! ### the errors' own __init__ -/
abbrev sI0 : Stmt := inClass (topS 2) 0
abbrev sI1 : Stmt := inClass (topS 3) 0
abbrev sI2 : Stmt := inClass (topS 4) 0
abbrev sI4 : Stmt := inClass (topS 5) 0
abbrev sI6 : Stmt := inClass (topS 6) 0
abbrev sI3 : Stmt := inClass (topS 7) 0
abbrev sI5 : Stmt := inClass (topS 8) 0
abbrev sI7 : Stmt := inClass (topS 9) 0
abbrev sLaw : Stmt := topS 13
/-- __init__ puts its arguments into the error's own dict -/
def spI (C : Addr) (n : Nat) (look : List V → List (Str × V)) : Sp := fun vs H Q _ => ∃ (a : Addr) (xs : List V), vs = .ref a :: xs ∧ xs.length = n ∧ H a = some (exo a C none) ∧
  ∀ (H' : Hp) (dx : Addr), H dx = none → dx ≠ a → H' a = some (exo a C (some dx)) → H' dx = some (exd dx (look xs)) → (∀ b, b ≠ a → b ≠ dx → H' b = H b) → Q .non H'
def look1 (f : Str) (vs : List V) : List (Str × V) := vs.map fun v => (f, v)
def look3 (vs : List V) : List (Str × V) := match vs with
  | [r, o, m] => [("other", m), ("one", o), ("reason", r)]
  | _ => []
/-- what the written part says of an error's class -/
structure ExT (K : PySem.W.Frag) (mg : Str → Option Value) (name : Str) (fs : List Str) (C fI : Addr) : Prop where
  T : OexC K C
  E : ExcC K C
  g : mg name = some (.ref C)
  iC : PySem.W.findIn K (.ref C) "__init__" = some (some (.ref fI))
  tI : PySem.W.typeIn K (.ref fI) = some (.type "function")
  no : ∀ f ∈ fs, PySem.W.findIn K (.ref C) f = some none
section
variable {P : Program} {w : World} {K : PySem.W.Frag} {mg : Str → Option Value} {base : Heap}
theorem fin1 {H : Hp} {a C dx : Addr} {f : Str} {v : V} {Q : VK} {D : Ends}
    (k : ∀ (H' : Hp) (dx : Addr), H dx = none → dx ≠ a → H' a = some (exo a C (some dx)) → H' dx = some (exd dx (look1 f [v])) → (∀ b, b ≠ a → b ≠ dx → H' b = H b) → Q .non H')
    (n : H dx = none) (ne : dx ≠ a) : Q .non (upd (upd H dx (exd dx [(f, v)])) a (exo a C (some dx))) :=
  k _ dx n ne upd_same (by rw [upd_ne ne]; exact upd_same) fun b h1 h2 => by rw [upd_ne h1, upd_ne h2]
theorem scI0 : FnScope ["self", "at"] ["self", "at"] (defScope sI0) := ⟨rfl, rfl, rfl, by decide +kernel, rfl, by decide +kernel, by decide +kernel⟩
theorem ok_i0 {f C fI : Addr} {fd : FuncData} {k : Nat} (F : Fun K "__init__" "BadText.__init__" sI0 f fd) (X : ExT K mg "BadText" ["at"] C fI) : FnOk P w K mg base CX0 (k + 1) f fd ["self", "at"] (spI C 1 (look1 "at")) := by
  refine F.ok scI0 (fun vs H Q E h => ?_) (fun cdv A outer s H vs Q E hr h => ⟨_, pss_one (ps_ost (pv 0) (pv 1)), ?_⟩)
  · obtain ⟨a, xs, rfl, len, _⟩ := h
    simp [len]
  · obtain ⟨a, xs, rfl, len, ha, k⟩ := h
    obtain ⟨v, rfl⟩ := List.length_eq_one_iff.mp len
    exact ⟨_, rfl, _, rfl, a, C, rfl, X.T, X.no _ (by simp), .inl ⟨ha, fun dx n ne => fin1 (D := ⟨fun _ _ => True, fun _ _ => True, fun _ _ => True, fun _ _ => True⟩) k n ne⟩⟩
theorem scI1 : FnScope ["self", "at"] ["self", "at"] (defScope sI1) := ⟨rfl, rfl, rfl, by decide +kernel, rfl, by decide +kernel, by decide +kernel⟩
theorem ok_i1 {f C fI : Addr} {fd : FuncData} {k : Nat} (F : Fun K "__init__" "BadSyntax.__init__" sI1 f fd) (X : ExT K mg "BadSyntax" ["at"] C fI) : FnOk P w K mg base CX0 (k + 1) f fd ["self", "at"] (spI C 1 (look1 "at")) := by
  refine F.ok scI1 (fun vs H Q E h => ?_) (fun cdv A outer s H vs Q E hr h => ⟨_, pss_one (ps_ost (pv 0) (pv 1)), ?_⟩)
  · obtain ⟨a, xs, rfl, len, _⟩ := h
    simp [len]
  · obtain ⟨a, xs, rfl, len, ha, k⟩ := h
    obtain ⟨v, rfl⟩ := List.length_eq_one_iff.mp len
    exact ⟨_, rfl, _, rfl, a, C, rfl, X.T, X.no _ (by simp), .inl ⟨ha, fun dx n ne => fin1 (D := ⟨fun _ _ => True, fun _ _ => True, fun _ _ => True, fun _ _ => True⟩) k n ne⟩⟩
theorem scI2 : FnScope ["self", "value"] ["self", "value"] (defScope sI2) := ⟨rfl, rfl, rfl, by decide +kernel, rfl, by decide +kernel, by decide +kernel⟩
theorem ok_i2 {f C fI : Addr} {fd : FuncData} {k : Nat} (F : Fun K "__init__" "BadName.__init__" sI2 f fd) (X : ExT K mg "BadName" ["value"] C fI) : FnOk P w K mg base CX0 (k + 1) f fd ["self", "value"] (spI C 1 (look1 "value")) := by
  refine F.ok scI2 (fun vs H Q E h => ?_) (fun cdv A outer s H vs Q E hr h => ⟨_, pss_one (ps_ost (pv 0) (pv 1)), ?_⟩)
  · obtain ⟨a, xs, rfl, len, _⟩ := h
    simp [len]
  · obtain ⟨a, xs, rfl, len, ha, k⟩ := h
    obtain ⟨v, rfl⟩ := List.length_eq_one_iff.mp len
    exact ⟨_, rfl, _, rfl, a, C, rfl, X.T, X.no _ (by simp), .inl ⟨ha, fun dx n ne => fin1 (D := ⟨fun _ _ => True, fun _ _ => True, fun _ _ => True, fun _ _ => True⟩) k n ne⟩⟩
theorem scI3 : FnScope ["self", "place"] ["self", "place"] (defScope sI3) := ⟨rfl, rfl, rfl, by decide +kernel, rfl, by decide +kernel, by decide +kernel⟩
theorem ok_i3 {f C fI : Addr} {fd : FuncData} {k : Nat} (F : Fun K "__init__" "BadProject.__init__" sI3 f fd) (X : ExT K mg "BadProject" ["place"] C fI) : FnOk P w K mg base CX0 (k + 1) f fd ["self", "place"] (spI C 1 (look1 "place")) := by
  refine F.ok scI3 (fun vs H Q E h => ?_) (fun cdv A outer s H vs Q E hr h => ⟨_, pss_one (ps_ost (pv 0) (pv 1)), ?_⟩)
  · obtain ⟨a, xs, rfl, len, _⟩ := h
    simp [len]
  · obtain ⟨a, xs, rfl, len, ha, k⟩ := h
    obtain ⟨v, rfl⟩ := List.length_eq_one_iff.mp len
    exact ⟨_, rfl, _, rfl, a, C, rfl, X.T, X.no _ (by simp), .inl ⟨ha, fun dx n ne => fin1 (D := ⟨fun _ _ => True, fun _ _ => True, fun _ _ => True, fun _ _ => True⟩) k n ne⟩⟩
theorem scI4 : FnScope ["self", "value"] ["self", "value"] (defScope sI4) := ⟨rfl, rfl, rfl, by decide +kernel, rfl, by decide +kernel, by decide +kernel⟩
theorem ok_i4 {f C fI : Addr} {fd : FuncData} {k : Nat} (F : Fun K "__init__" "BadPlace.__init__" sI4 f fd) (X : ExT K mg "BadPlace" ["value"] C fI) : FnOk P w K mg base CX0 (k + 1) f fd ["self", "value"] (spI C 1 (look1 "value")) := by
  refine F.ok scI4 (fun vs H Q E h => ?_) (fun cdv A outer s H vs Q E hr h => ⟨_, pss_one (ps_ost (pv 0) (pv 1)), ?_⟩)
  · obtain ⟨a, xs, rfl, len, _⟩ := h
    simp [len]
  · obtain ⟨a, xs, rfl, len, ha, k⟩ := h
    obtain ⟨v, rfl⟩ := List.length_eq_one_iff.mp len
    exact ⟨_, rfl, _, rfl, a, C, rfl, X.T, X.no _ (by simp), .inl ⟨ha, fun dx n ne => fin1 (D := ⟨fun _ _ => True, fun _ _ => True, fun _ _ => True, fun _ _ => True⟩) k n ne⟩⟩
theorem scI5 : FnScope ["self", "edit"] ["self", "edit"] (defScope sI5) := ⟨rfl, rfl, rfl, by decide +kernel, rfl, by decide +kernel, by decide +kernel⟩
theorem ok_i5 {f C fI : Addr} {fd : FuncData} {k : Nat} (F : Fun K "__init__" "BadEdit.__init__" sI5 f fd) (X : ExT K mg "BadEdit" ["edit"] C fI) : FnOk P w K mg base CX0 (k + 1) f fd ["self", "edit"] (spI C 1 (look1 "edit")) := by
  refine F.ok scI5 (fun vs H Q E h => ?_) (fun cdv A outer s H vs Q E hr h => ⟨_, pss_one (ps_ost (pv 0) (pv 1)), ?_⟩)
  · obtain ⟨a, xs, rfl, len, _⟩ := h
    simp [len]
  · obtain ⟨a, xs, rfl, len, ha, k⟩ := h
    obtain ⟨v, rfl⟩ := List.length_eq_one_iff.mp len
    exact ⟨_, rfl, _, rfl, a, C, rfl, X.T, X.no _ (by simp), .inl ⟨ha, fun dx n ne => fin1 (D := ⟨fun _ _ => True, fun _ _ => True, fun _ _ => True, fun _ _ => True⟩) k n ne⟩⟩
theorem scI6 : FnScope ["self", "value"] ["self", "value"] (defScope sI6) := ⟨rfl, rfl, rfl, by decide +kernel, rfl, by decide +kernel, by decide +kernel⟩
theorem ok_i6 {f C fI : Addr} {fd : FuncData} {k : Nat} (F : Fun K "__init__" "BadValue.__init__" sI6 f fd) (X : ExT K mg "BadValue" ["value"] C fI) : FnOk P w K mg base CX0 (k + 1) f fd ["self", "value"] (spI C 1 (look1 "value")) := by
  refine F.ok scI6 (fun vs H Q E h => ?_) (fun cdv A outer s H vs Q E hr h => ⟨_, pss_one (ps_ost (pv 0) (pv 1)), ?_⟩)
  · obtain ⟨a, xs, rfl, len, _⟩ := h
    simp [len]
  · obtain ⟨a, xs, rfl, len, ha, k⟩ := h
    obtain ⟨v, rfl⟩ := List.length_eq_one_iff.mp len
    exact ⟨_, rfl, _, rfl, a, C, rfl, X.T, X.no _ (by simp), .inl ⟨ha, fun dx n ne => fin1 (D := ⟨fun _ _ => True, fun _ _ => True, fun _ _ => True, fun _ _ => True⟩) k n ne⟩⟩
theorem scI7 : FnScope ["self", "reason", "one", "other"] ["self", "reason", "one", "other"] (defScope sI7) := ⟨rfl, rfl, rfl, by decide +kernel, rfl, by decide +kernel, by decide +kernel⟩
theorem ok_i7 {f C fI : Addr} {fd : FuncData} {k : Nat} (F : Fun K "__init__" "Refused.__init__" sI7 f fd) (X : ExT K mg "Refused" ["reason", "one", "other"] C fI) : FnOk P w K mg base CX0 (k + 1) f fd ["self", "reason", "one", "other"] (spI C 3 look3) := by
  refine F.ok scI7 (fun vs H Q E h => ?_) (fun cdv A outer s H vs Q E hr h => ⟨_, pss_cons (ps_ost (pv 0) (pv 1)) (pss_cons (ps_ost (pv 0) (pv 2)) (pss_one (ps_ost (pv 0) (pv 3)))), ?_⟩)
  · obtain ⟨a, xs, rfl, len, _⟩ := h
    simp [len]
  · obtain ⟨a, xs, rfl, len, ha, k⟩ := h
    obtain ⟨r, o, m, rfl⟩ : ∃ r o m, xs = [r, o, m] := by
      match xs, len with
      | [r, o, m], _ => exact ⟨r, o, m, rfl⟩
    refine ⟨_, rfl, _, rfl, a, C, rfl, X.T, X.no _ (by simp), .inl ⟨ha, fun dx n ne => ?_⟩⟩
    refine ⟨_, rfl, _, rfl, a, C, rfl, X.T, X.no _ (by simp), .inr ⟨dx, _, upd_same, by rw [upd_ne ne]; exact upd_same, (by show 1 ≤ 900; decide), ?_⟩⟩
    refine ⟨_, rfl, _, rfl, a, C, rfl, X.T, X.no _ (by simp), .inr ⟨dx, _, by rw [upd_ne ne.symm]; exact upd_same, upd_same, (by show 2 ≤ 900; decide), ?_⟩⟩
    refine k _ dx n ne ?_ upd_same fun b h1 h2 => ?_
    · rw [upd_ne ne.symm, upd_ne ne.symm]
      exact upd_same
    · rw [upd_ne h2, upd_ne h2, upd_ne h1, upd_ne h2]
/-- an error made and kept: all else stands -/
theorem keepX {C : Addr} {n : Nat} {look : List V → List (Str × V)} {σ : L2.St} {H : Hp} {ta : TA} {vs : List V} {Q : VK} (ha : Evl.EvA ta σ H vs) (len : vs.length = n) (small : n ≤ 3)
    (k : ∀ (a dx : Addr) (H' : Hp), Same H H' → H' a = some (exo a C (some dx)) → H' dx = some (exd dx (look vs)) → Q (.ref a) H') : tKeepX C (spI C n look) ta σ H Q := by
  refine ha H (Evl.Ex.refl H) _ fun H1 e1 => ⟨by omega, fun a na => ⟨a, vs, rfl, len, upd_same, fun H' dx nd ne h1 h2 keep => ⟨rfl, k a dx H' (fun b o q => ?_) h1 h2⟩⟩⟩
  have q1 := e1 b o q
  have nba : b ≠ a := ne_of_none q1 na
  rw [upd_ne ne] at nd
  have nbd : b ≠ dx := ne_of_none q1 nd
  rw [keep b nba nbd, upd_ne nba]
  exact q1
end
end KB
namespace KB
open PySem PySem.Spec PyProof.Rows L2
abbrev nLaw : List Str := ["_law_script", "_law_k", "_law_pool_here", "_law_values", "_law_value", "_law_other", "_law_more", "_law_made", "_law_at", "_law_one", "_law_kinds", "_law_told", "_law_turn", "_law_place"]
theorem scLaw : FnScope nLaw ["_law_script"] (defScope sLaw) := ⟨rfl, rfl, rfl, by decide +kernel, rfl, by decide +kernel, by decide +kernel⟩
/-! ### the values -/
/-- the data that the law puts into the errors -/
def data : List PyData := [.none, .int (-5), .str "a", .tuple [.str "m", .int 1], .list [.int 1], .dict [], .bool true, .int (10 ^ 30), .int 0, .str "", .tuple []]
inductive Val (H : Hp) : V → PyData → Prop
  | non : Val H .non .none
  | bl (b : Bool) : Val H (.bl b) (.bool b)
  | int (i : Int) : Val H (.int i) (.int i)
  | str (x : Str) : Val H (.str x) (.str x)
  | tup {a : Addr} (h : H a = some (.tup [.str "m", .int 1])) : Val H (.ref a) (.tuple [.str "m", .int 1])
  | tup0 {a : Addr} (h : H a = some (.tup [])) : Val H (.ref a) (.tuple [])
  | lst {a : Addr} (h : H a = some (.lst [.int 1])) (n : a ≠ sysModules) : Val H (.ref a) (.list [.int 1])
  | dict {a : Addr} (h : H a = some (.dK [])) : Val H (.ref a) (.dict [])
theorem Val.keep {H H' : Hp} {v : V} {d : PyData} (h : Val H v d) (s : ∀ a, v = .ref a → H a = H' a) : Val H' v d := by
  cases h with
  | non => exact .non
  | bl b => exact .bl b
  | int i => exact .int i
  | str x => exact .str x
  | tup h => exact .tup ((s _ rfl).symm.trans h)
  | tup0 h => exact .tup0 ((s _ rfl).symm.trans h)
  | lst h n => exact .lst ((s _ rfl).symm.trans h) n
  | dict h => exact .dict ((s _ rfl).symm.trans h)
theorem Val.mono {H H' : Hp} {v : V} {d : PyData} (h : Val H v d) (s : Same H H') : Val H' v d := by
  cases h with
  | non => exact .non
  | bl b => exact .bl b
  | int i => exact .int i
  | str x => exact .str x
  | tup h => exact .tup (s _ _ h)
  | tup0 h => exact .tup0 (s _ _ h)
  | lst h n => exact .lst (s _ _ h) n
  | dict h => exact .dict (s _ _ h)
theorem Val.shows {X : Cx} {H : Hp} {v : V} {d : PyData} (h : Val H v d) : Shows X H v d := by
  cases h with
  | non => exact shows_non
  | bl b => exact shows_bl
  | int i => exact shows_int
  | str x => exact shows_str
  | tup h => exact shows_tup h (showsAll_cons shows_str (showsAll_cons shows_int showsAll_nil))
  | tup0 h => exact shows_tup h showsAll_nil
  | lst h n => exact shows_lst h n (showsAll_cons shows_int showsAll_nil)
  | dict h => exact shows_dict0 h
/-- what lists of them show is short -/
def fitsD (d : PyData) : Bool := d.showable && decide (d.shown.length ≤ 1000) && decide (d.depth ≤ 10)
theorem fits7 : data.all (fun d => fitsD (.list [d, d, d, d, d, d, d])) = true := by decide +kernel
theorem fits3 : data.all (fun d => data.all fun e => data.all fun f => fitsD (.list [d, e, f])) = true := by decide +kernel
theorem fits_of {d : PyData} (h : fitsD d = true) : d.showable = true ∧ d.shown.length ≤ sizeLine ∧ d.depth ≤ 50 := by
  unfold fitsD at h
  simp only [Bool.and_eq_true, decide_eq_true_eq] at h
  exact ⟨h.1.1, Nat.le_trans h.1.2 (by decide), by omega⟩
end KB
namespace KB
open PySem PySem.Spec PyProof.Rows L2
def ExAt (H : Hp) (C : Addr) (fs : List (Str × V)) (e : Addr) : Prop := ∃ dx, H e = some (exo e C (some dx)) ∧ H dx = some (exd dx fs)
theorem ExAt.mono {H H' : Hp} {C e : Addr} {fs : List (Str × V)} (h : ExAt H C fs e) (s : Same H H') : ExAt H' C fs e := by
  obtain ⟨dx, h1, h2⟩ := h
  exact ⟨dx, s _ _ h1, s _ _ h2⟩
theorem same_new {H : Hp} {p : Addr} {o : HO} (h : H p = none) : Same H (upd H p o) := fun b x e => by
  rw [upd_ne (ne_of_none e h)]
  exact e
theorem isO_ok {K : PySem.W.Frag} {σ : L2.St} {H : Hp} {Q : VK} {i : Nat} {e C : Addr} {fs : List (Str × V)} {c : V} {u : Value} {b : Bool} (x : ExAt H C fs e) (hσ : σ[i]? = some (some (.ref e))) (E : ExcC K C) (cv : ClsV c u)
    (kt : PySem.W.kitOne K (.ref C) u = some b) (q : Q (.bl b) H) : tCB (rIsO K) (tCons (tVar i) (tCons (tC c) tNil)) σ H Q := by
  obtain ⟨dx, h1, h2⟩ := x
  exact ⟨_, hσ, e, C, dx, fs, c, u, b, rfl, cv, h1, h2, E, kt, q⟩
/-- made[j].f -/
theorem fld_ok {K : PySem.W.Frag} {σ : L2.St} {H : Hp} {Q : VK} {M : Addr} {es C : Nat → Addr} {fs : List (Str × V)} {f : Str} {v : V} (j : Nat) (hj : j < 8) (hM : H M = some (.lst ((List.range 8).map fun j => .ref (es j)))) (x : ExAt H (C j) fs (es j))
    (hσ : σ[7]? = some (some (.ref M))) (E : ExcC K (C j)) (no : PySem.W.findIn K (.ref (C j)) f = some none) (l : fs.lookup f = some v) (q : Q v H) : tFldX K f (tOp (rIxL K) (tVar 7) (tC (.int (j : Int)))) σ H Q := by
  obtain ⟨dx, h1, h2⟩ := x
  have z : ((List.range 8).map fun j => L2.V.ref (es j))[j]? = some (.ref (es j)) := by
    rw [List.getElem?_map, List.getElem?_range hj]
    rfl
  exact ⟨_, hσ, M, _, _, _, rfl, rfl, .inl (.inl hM), atI_nat z, es j, C j, dx, fs, v, rfl, h1, h2, E, no, l, q⟩
/-- the fields of the i-th error -/
def fsOf (v1 v2 v3 : V) : Nat → List (Str × V)
  | 0 => look1 "at" [v1]
  | 1 => look1 "at" [v1]
  | 2 => look1 "value" [v1]
  | 3 => look1 "place" [v1]
  | 4 => look1 "value" [v1]
  | 5 => look1 "edit" [v1]
  | 6 => look1 "value" [v1]
  | _ => look3 [v1, v2, v3]
def blsOf (i : Nat) : List V := (List.range 8).map fun j => .bl (i == j)
theorem blsOf_data {K : PySem.W.Frag} {H : Hp} (l : List Bool) : DpAll K H (l.map V.bl) (l.map PyData.bool) := by
  induction l with
  | nil => exact .nil
  | cons b r ih => exact .cons (.bl b) ih
theorem cons_keepX {C : Addr} {sp : Sp} {ta t : TA} {σ : L2.St} {H : Hp} {Q : List V → Hp → Prop} (h : tKeepX C sp ta σ H fun x H1 => t σ H1 fun vs H2 => Q (x :: vs) H2) : tCons (tKeepX C sp ta) t σ H Q := h
theorem cons_of {te : TE} {t : TA} {σ : L2.St} {H : Hp} {Q : List V → Hp → Prop} (h : te σ H fun x H1 => t σ H1 fun vs H2 => Q (x :: vs) H2) : tCons te t σ H Q := h
theorem test_op {r : R2} {ta tb : TE} {σ : L2.St} {H : Hp} {Q : Bool → Hp → Prop} (h : ta σ H fun x H1 => tb σ H1 fun y H2 => r x y H2 fun z H' => ∃ k, z = .bl k ∧ Q k H') : tTest (tOp r ta tb) σ H Q := h
theorem cb_1 {r : List V → Hp → VK → Prop} {te : TE} {σ : L2.St} {H : Hp} {Q : VK} (h : te σ H fun x H1 => r [x] H1 Q) : tCB r (tCons te tNil) σ H Q := h
theorem seq_asg {te : TE} {g : TG} {u : TS} {D : Ends} {σ : L2.St} {H : Hp} (h : te σ H fun x H1 => g x σ H1 (u D)) : tSeq (tAsg te g) u D σ H := h
theorem lstN_of {t : TA} {σ : L2.St} {H : Hp} {Q : VK} (h : t σ H fun xs H1 => xs.length ≤ sizeLine ∧ ∀ p, H1 p = none → p ≠ sysModules → Q (.ref p) (upd H1 p (.lst xs))) : tLstN t σ H Q := h
structure TL (K : PySem.W.Frag) (mg : Str → Option Value) (fP fT cK : Addr) : Prop where
  gPool : mg "_law_pool" = some (.ref fP)
  kPool : PySem.W.keepIn K (.ref fP) = true
  gTake : mg "_law_take" = some (.ref fT)
  kTake : PySem.W.keepIn K (.ref fT) = true
  gKept : mg "KeptError" = some (.ref cK)
  range : mg "range" = none
  max : mg "max" = none
  min : mg "min" = none
  len : mg "len" = none
  enumerate : mg "enumerate" = none
  isinstance : mg "isinstance" = none
  repr : mg "repr" = none
  valueError : mg "ValueError" = none
  lookupError : mg "LookupError" = none
section
variable {P : Program} {w : World} {K : PySem.W.Frag} {mg : Str → Option Value} {base : Heap} {fP fT cK : Addr} {C I : Nat → Addr} {fdP fdT : FuncData} {fdI : Nat → FuncData}
theorem go_law {a f : Addr} {cdv : Value} {s : Shared} {H : Hp} {ns : List Int} (T : TL K mg fP fT cK)
    (X0 : ExT K mg "BadText" ["at"] (C 0) (I 0)) (X1 : ExT K mg "BadSyntax" ["at"] (C 1) (I 1)) (X2 : ExT K mg "BadName" ["value"] (C 2) (I 2)) (X3 : ExT K mg "BadProject" ["place"] (C 3) (I 3))
    (X4 : ExT K mg "BadPlace" ["value"] (C 4) (I 4)) (X5 : ExT K mg "BadEdit" ["edit"] (C 5) (I 5)) (X6 : ExT K mg "BadValue" ["value"] (C 6) (I 6)) (X7 : ExT K mg "Refused" ["reason", "one", "other"] (C 7) (I 7))
    (GP : FnOk P w K mg base CX0 2 fP fdP ["_law_script", "_law_k"] (spPool K)) (GT : FnOk P w K mg base CX0 2 fT fdT ["_law_pool_here", "_law_many"] spTake)
    (G0 : FnOk P w K mg base CX0 1 (I 0) (fdI 0) ["self", "at"] (spI (C 0) 1 (look1 "at"))) (G1 : FnOk P w K mg base CX0 1 (I 1) (fdI 1) ["self", "at"] (spI (C 1) 1 (look1 "at")))
    (G2 : FnOk P w K mg base CX0 1 (I 2) (fdI 2) ["self", "value"] (spI (C 2) 1 (look1 "value"))) (G3 : FnOk P w K mg base CX0 1 (I 3) (fdI 3) ["self", "place"] (spI (C 3) 1 (look1 "place")))
    (G4 : FnOk P w K mg base CX0 1 (I 4) (fdI 4) ["self", "value"] (spI (C 4) 1 (look1 "value"))) (G5 : FnOk P w K mg base CX0 1 (I 5) (fdI 5) ["self", "edit"] (spI (C 5) 1 (look1 "edit")))
    (G6 : FnOk P w K mg base CX0 1 (I 6) (fdI 6) ["self", "value"] (spI (C 6) 1 (look1 "value"))) (G7 : FnOk P w K mg base CX0 1 (I 7) (fdI 7) ["self", "reason", "one", "other"] (spI (C 7) 3 look3))
    (bP : Binds K fdP ["_law_script", "_law_k"] []) (bT : Binds K fdT ["_law_pool_here", "_law_many"] [])
    (b0 : Binds K (fdI 0) ["self", "at"] []) (b1 : Binds K (fdI 1) ["self", "at"] []) (b2 : Binds K (fdI 2) ["self", "value"] []) (b3 : Binds K (fdI 3) ["self", "place"] [])
    (b4 : Binds K (fdI 4) ["self", "value"] []) (b5 : Binds K (fdI 5) ["self", "edit"] []) (b6 : Binds K (fdI 6) ["self", "value"] []) (b7 : Binds K (fdI 7) ["self", "reason", "one", "other"] [])
    (kit : ∀ i < 8, ∀ j < 8, PySem.W.kitOne K (.ref (C i)) (.ref (C j)) = some (i == j)) (kitK : ∀ i < 8, PySem.W.kitOne K (.ref (C i)) (.ref cK) = some true)
    (kitV : ∀ i < 8, PySem.W.kitOne K (.ref (C i)) (.type "ValueError") = some true) (kitL : PySem.W.kitOne K (.ref (C 0)) (.type "LookupError") = some false)
    (hS : SqL K H a (ns.map V.int)) (hlen : ns.length ≤ 63) (hbits : ∀ z ∈ ns, Builtin.Int.intBits z ≤ 1048576) :
    ∃ t, PSs (cxOf CX0 P w K mg base nLaw "law" (defScope sLaw) f cdv callerA [] s H E0).nox (defBody sLaw) t ∧ t { nx := fun _ _ => False, rt := fun v _ => v = .bl true } (start nLaw [.ref a]) H := by
  have hr5 : Room 5 callerA := ⟨rfl, by decide, by decide⟩
  have hr : Room 4 (cxOf CX0 P w K mg base nLaw "law" (defScope sLaw) f cdv callerA [] s H E0).nox.A := hr5.deeper (envOfC "law" (defScope sLaw) s.heap.objs.size f cdv)
  have hr1 : Room 2 (cxOf CX0 P w K mg base nLaw "law" (defScope sLaw) f cdv callerA [] s H E0).nox.A := hr.mono (by decide)
  have hu : (cxOf CX0 P w K mg base nLaw "law" (defScope sLaw) f cdv callerA [] s H E0).nox.A.units + 64 < cLine := hr.units
  have hgd : (cxOf CX0 P w K mg base nLaw "law" (defScope sLaw) f cdv callerA [] s H E0).nox.A.guards = some [] := rfl
  refine ⟨_,
      (pss_cons (ps_for PassesOwn.never rfl (pi_range1 rfl T.range (pa_cons (pe_callB (call_max2 rfl) (by rfl) T.max (by decide +kernel) (pa_cons pe_int (pa_cons (pe_callB (call_min2 rfl) (by rfl) T.min (by decide +kernel) (pa_cons (pe_callB call_len_seq (by rfl) T.len (by decide +kernel) (pa_cons (pv 0) pa_nil)) (pa_cons pe_int pa_nil))) pa_nil))) pa_nil)) (pg_name (i := 1) scLaw.nd rfl (.inl rfl))
       (pss_cons (ps_set (i := 2) scLaw.nd rfl (.inr rfl) (pe_call GP hr1 (by rfl) T.gPool T.kPool bP .nil pass0 (pa_cons (pv 0) (pa_cons (pv 1) pa_nil))))
       (pss_cons (ps_set (i := 3) scLaw.nd rfl (.inr rfl) (pe_lstN (pa_cons pe_non (pa_cons (pe_un un_neg pe_int) (pa_cons pe_str (pa_cons (pe_tup (pa_cons pe_str (pa_cons pe_int pa_nil))) (pa_cons (pe_lstN (pa_cons pe_int pa_nil)) (pa_cons pe_dnewK (pa_cons pe_bl (pa_cons (pe_op op_pow pe_int pe_int) (pa_cons pe_int (pa_cons pe_str (pa_cons (pe_tup pa_nil) pa_nil)))))))))))))
       (Evl.pss_cut (ps_asg (pe_lc (own := [("_law_turn", 12)]) (g := gName 12) (tt := tYes) rfl scLaw.nd (pi_range1 rfl T.range (pa_cons pe_int pa_nil)) (blkOk_by (own := [("_law_turn", 12)]) (N := nLaw) (sc := defScope sLaw) (by decide +kernel)) (fun _ _ _ _ _ => pg_name (i := 12) scLaw.nd rfl (Or.inl rfl)) (fun _ _ _ _ _ => pts_nil) (fun _ _ _ _ _ => (pe_ix (r := rIxL K) ix_list (pv 3) (pe_call GT hr1 (by rfl) T.gTake T.kTake bT .nil pass0 (pa_cons (pv 2) (pa_cons pe_int pa_nil))) (fun _ _ => rfl)))) (pg_unl rfl (pgs_cons (pg_name (i := 4) scLaw.nd rfl (.inl rfl)) (pgs_cons (pg_name (i := 5) scLaw.nd rfl (.inl rfl)) (pgs_cons (pg_name (i := 6) scLaw.nd rfl (.inl rfl)) pgs_nil)))))
       (pss_cons (ps_set (i := 7) scLaw.nd rfl (.inl rfl) (pe_lstN (pa_cons (pe_keepX X0.T X0.iC X0.tI G0 hr1 b0 pass0 (by rfl) X0.g (pa_cons (pv 4) pa_nil)) (pa_cons (pe_keepX X1.T X1.iC X1.tI G1 hr1 b1 pass0 (by rfl) X1.g (pa_cons (pv 4) pa_nil)) (pa_cons (pe_keepX X2.T X2.iC X2.tI G2 hr1 b2 pass0 (by rfl) X2.g (pa_cons (pv 4) pa_nil)) (pa_cons (pe_keepX X3.T X3.iC X3.tI G3 hr1 b3 pass0 (by rfl) X3.g (pa_cons (pv 4) pa_nil)) (pa_cons (pe_keepX X4.T X4.iC X4.tI G4 hr1 b4 pass0 (by rfl) X4.g (pa_cons (pv 4) pa_nil)) (pa_cons (pe_keepX X5.T X5.iC X5.tI G5 hr1 b5 pass0 (by rfl) X5.g (pa_cons (pv 4) pa_nil)) pa_nil))))))))
       (Evl.pss_cut (ps_set (i := 7) scLaw.nd rfl (.inl rfl) (pe_op op_cat (pv 7) (pe_lstN (pa_cons (pe_keepX X6.T X6.iC X6.tI G6 hr1 b6 pass0 (by rfl) X6.g (pa_cons (pv 4) pa_nil)) (pa_cons (pe_keepX X7.T X7.iC X7.tI G7 hr1 b7 pass0 (by rfl) X7.g (pa_cons (pv 4) (pa_cons (pv 5) (pa_cons (pv 6) pa_nil)))) pa_nil)))))
       (Evl.pss_cut (ps_for PassesOwn.never rfl (pi_enum (by rfl) T.enumerate (pa_cons (pv 7) pa_nil)) (pg_tup rfl (pgs_cons (pg_name (i := 8) scLaw.nd rfl (.inr rfl)) (pgs_cons (pg_name (i := 9) scLaw.nd rfl (.inl rfl)) pgs_nil)))
       (pss_cons (ps_set (i := 10) scLaw.nd rfl (.inl rfl) (pe_lstN (pa_cons (pe_callB call_isO (by rfl) T.isinstance (by decide +kernel) (pa_cons (pv 9) (pa_cons (pe_glob (v := .ref (C 0)) rfl X0.g rfl) pa_nil))) (pa_cons (pe_callB call_isO (by rfl) T.isinstance (by decide +kernel) (pa_cons (pv 9) (pa_cons (pe_glob (v := .ref (C 1)) rfl X1.g rfl) pa_nil))) (pa_cons (pe_callB call_isO (by rfl) T.isinstance (by decide +kernel) (pa_cons (pv 9) (pa_cons (pe_glob (v := .ref (C 2)) rfl X2.g rfl) pa_nil))) pa_nil)))))
       (pss_cons (ps_set (i := 10) scLaw.nd rfl (.inl rfl) (pe_op op_cat (pv 10) (pe_lstN (pa_cons (pe_callB call_isO (by rfl) T.isinstance (by decide +kernel) (pa_cons (pv 9) (pa_cons (pe_glob (v := .ref (C 3)) rfl X3.g rfl) pa_nil))) (pa_cons (pe_callB call_isO (by rfl) T.isinstance (by decide +kernel) (pa_cons (pv 9) (pa_cons (pe_glob (v := .ref (C 4)) rfl X4.g rfl) pa_nil))) (pa_cons (pe_callB call_isO (by rfl) T.isinstance (by decide +kernel) (pa_cons (pv 9) (pa_cons (pe_glob (v := .ref (C 5)) rfl X5.g rfl) pa_nil))) pa_nil))))))
       (pss_cons (ps_set (i := 10) scLaw.nd rfl (.inl rfl) (pe_op op_cat (pv 10) (pe_lstN (pa_cons (pe_callB call_isO (by rfl) T.isinstance (by decide +kernel) (pa_cons (pv 9) (pa_cons (pe_glob (v := .ref (C 6)) rfl X6.g rfl) pa_nil))) (pa_cons (pe_callB call_isO (by rfl) T.isinstance (by decide +kernel) (pa_cons (pv 9) (pa_cons (pe_glob (v := .ref (C 7)) rfl X7.g rfl) pa_nil))) pa_nil)))))
       (pss_cons (ps_if (pt_cmpR (op_neD hu) (pv 10) (pe_lc (own := [("_law_place", 13)]) (g := gName 13) (tt := tYes) rfl scLaw.nd (pi_range1 rfl T.range (pa_cons pe_int pa_nil)) (blkOk_by (own := [("_law_place", 13)]) (N := nLaw) (sc := defScope sLaw) (by decide +kernel)) (fun _ _ _ _ _ => pg_name (i := 13) scLaw.nd rfl (Or.inl rfl)) (fun _ _ _ _ _ => pts_nil) (fun _ _ _ _ _ => (pe_cmpR op_eq (pv 13) (pv 8) (nomark _)))) (nomark _))
       (pss_one (ps_ret pe_bl))
       pss_nil)
       (pss_one (ps_if (PW.pt (pw_or (pt_not (pt_val (pe_callB call_isO (by rfl) T.isinstance (by decide +kernel) (pa_cons (pv 9) (pa_cons (pe_glob (v := .ref cK) rfl T.gKept rfl) pa_nil))))) (pw_or1 (pt_not (pt_val (pe_callB call_isO (by rfl) T.isinstance (by decide +kernel) (pa_cons (pv 9) (pa_cons (pe_bltn (v := .ty "ValueError") (by rfl) T.valueError (by decide +kernel) rfl) pa_nil))))))))
       (pss_one (ps_ret pe_bl))
       pss_nil)))))))
       (pss_cons (ps_set (i := 11) scLaw.nd rfl (.inl rfl) (pe_lstN (pa_cons (pe_fldX (pe_ix ix_list (pv 7) pe_int (fun _ _ => rfl))) (pa_cons (pe_fldX (pe_ix ix_list (pv 7) pe_int (fun _ _ => rfl))) (pa_cons (pe_fldX (pe_ix ix_list (pv 7) pe_int (fun _ _ => rfl))) (pa_cons (pe_fldX (pe_ix ix_list (pv 7) pe_int (fun _ _ => rfl))) (pa_cons (pe_fldX (pe_ix ix_list (pv 7) pe_int (fun _ _ => rfl))) (pa_cons (pe_fldX (pe_ix ix_list (pv 7) pe_int (fun _ _ => rfl))) (pa_cons (pe_fldX (pe_ix ix_list (pv 7) pe_int (fun _ _ => rfl))) pa_nil)))))))))
       (pss_cons (ps_if (PW.pt (pw_or (pt_cmpR op_ne (pe_callB (call_reprD hgd hr) (by rfl) T.repr (by decide +kernel) (pa_cons (pv 11) pa_nil)) (pe_callB (call_reprD hgd hr) (by rfl) T.repr (by decide +kernel) (pa_cons (pe_op op_repN (pe_lstN (pa_cons (pv 4) pa_nil)) pe_int) pa_nil)) (nomark _)) (pw_or1 (pt_cmpR op_ne (pe_callB (call_reprD hgd hr) (by rfl) T.repr (by decide +kernel) (pa_cons (pe_lstN (pa_cons (pe_fldX (pe_ix ix_list (pv 7) pe_int (fun _ _ => rfl))) (pa_cons (pe_fldX (pe_ix ix_list (pv 7) pe_int (fun _ _ => rfl))) (pa_cons (pe_fldX (pe_ix ix_list (pv 7) pe_int (fun _ _ => rfl))) pa_nil)))) pa_nil)) (pe_callB (call_reprD hgd hr) (by rfl) T.repr (by decide +kernel) (pa_cons (pe_lstN (pa_cons (pv 4) (pa_cons (pv 5) (pa_cons (pv 6) pa_nil)))) pa_nil)) (nomark _)))))
       (pss_one (ps_ret pe_bl))
       pss_nil)
       (pss_one (ps_if (pt_val (pe_callB call_isO (by rfl) T.isinstance (by decide +kernel) (pa_cons (pe_ix ix_list (pv 7) pe_int (fun _ _ => rfl)) (pa_cons (pe_bltn (v := .ty "LookupError") (by rfl) T.lookupError (by decide +kernel) rfl) pa_nil))))
       (pss_one (ps_ret pe_bl))
       pss_nil)))))))))))
       (pss_one (ps_ret pe_bl))), ?_⟩
  let S0 : L2.St → Hp → Prop := fun σ H' => ∃ y1 y2 y3 y4 y5 y6 y7 y8 y9 y10 y11, σ = [some (.ref a), y1, y2, y3, y4, y5, y6, y7, y8, y9, y10, y11, none, none] ∧ SqL K H' a (ns.map V.int)
  refine ⟨_, rfl, a, _, rfl, .inl hS, _, _, rfl, _, _, rfl, _, rfl, ?_, ?_, for_range (lo := 0) (fun _ => S0) ⟨_, _, _, _, _, _, _, _, _, _, _, rfl, hS⟩ ?_ ?_⟩
  · split <;> split <;> omega
  · split <;> split <;> omega
  · intro i σ H0 hi h0
    obtain ⟨y1, y2, y3, y4, y5, y6, y7, y8, y9, y10, y11, rfl, hS⟩ := h0
    have hi3 : i < 3 := by
      revert hi
      split <;> split <;> omega
    -- the pool
    refine ⟨_, rfl, _, rfl, a, ns, (0 + (i : Int)), rfl, hS, hlen, hbits, by omega, by omega, fun p A B hp okP => ?_⟩
    -- the values
    refine ⟨_, rfl, (by show 2 ≤ sizeLine; decide), fun t ht => ⟨(by show 1 ≤ sizeLine; decide), fun l hl nl d hd => ⟨_, _, rfl, rfl, ⟨by decide, by decide, by decide⟩, (by show 0 ≤ sizeLine; decide), fun u hu0 => ⟨(by show 11 ≤ sizeLine; decide), fun V hV nV => ?_⟩⟩⟩⟩
    have s1 := same_new (o := .lst [.int A, .int B]) hp
    have s2 := same_new (o := .tup [.str "m", .int 1]) ht
    have s3 := same_new (o := .lst [.int 1]) hl
    have s4 := same_new (o := .dK []) hd
    have s5 := same_new (o := .tup []) hu0
    have s6 := same_new (o := .lst [.non, .int (-5), .str "a", .ref t, .ref l, .ref d, .bl true, .int (10 ^ (30 : Int).toNat), .int 0, .str "", .ref u]) hV
    have z26 := s2.trans (s3.trans (s4.trans (s5.trans s6)))
    have pAt := z26 p _ upd_same
    have tAt := (s3.trans (s4.trans (s5.trans s6))) t _ upd_same
    have lAt := (s4.trans (s5.trans s6)) l _ upd_same
    have dAt := (s5.trans s6) d _ upd_same
    have uAt := s6 u _ upd_same
    have vAt := @upd_same (upd (upd (upd (upd (upd H0 p (.lst [.int A, .int B])) t (.tup [.str "m", .int 1])) l (.lst [.int 1])) d (.dK [])) u (.tup [])) V (.lst [.non, .int (-5), .str "a", .ref t, .ref l, .ref d, .bl true, .int (10 ^ (30 : Int).toNat), .int 0, .str "", .ref u])
    have hS2 := (s1.trans z26).seq hS
    have s12 := s1.trans z26
    show Evl.tCut _ _ _ _ _
    generalize hH2 : upd (upd (upd (upd (upd (upd H0 p (.lst [.int A, .int B])) t (.tup [.str "m", .int 1])) l (.lst [.int 1])) d (.dK [])) u (.tup [])) V (.lst [.non, .int (-5), .str "a", .ref t, .ref l, .ref d, .bl true, .int (10 ^ (30 : Int).toNat), .int 0, .str "", .ref u]) = H2 at *
    generalize hvals : ([.non, .int (-5), .str "a", .ref t, .ref l, .ref d, .bl true, .int (10 ^ (30 : Int).toNat), .int 0, .str "", .ref u] : List L2.V) = vals at *
    have many : vals.length = 11 := by rw [← hvals]; rfl
    have good : ∀ x ∈ vals, ∃ dd ∈ data, Val H2 x dd := by
      intro x hx
      rw [← hvals] at hx
      simp only [List.mem_cons, List.not_mem_nil, or_false] at hx
      rcases hx with rfl | rfl | rfl | rfl | rfl | rfl | rfl | rfl | rfl | rfl | rfl
      · exact ⟨_, by simp [data], .non⟩
      · exact ⟨_, by simp [data], .int _⟩
      · exact ⟨.str "a", by simp [data], .str _⟩
      · exact ⟨_, by simp [data], .tup tAt⟩
      · exact ⟨_, by simp [data], .lst lAt nl⟩
      · exact ⟨_, by simp [data], .dict dAt⟩
      · exact ⟨_, by simp [data], .bl _⟩
      · exact ⟨.int (10 ^ 30), by simp [data], .int _⟩
      · exact ⟨.int 0, by simp [data], .int _⟩
      · exact ⟨.str "", by simp [data], .str _⟩
      · exact ⟨_, by simp [data], .tup0 uAt⟩
    have unpool : ∀ {H' : Hp}, (∀ b o, b ≠ p → H2 b = some o → H' b = some o) → ∀ x ∈ vals, ∃ dd ∈ data, Val H' x dd := by
      intro H' keep x hx
      obtain ⟨dd, h1, h2⟩ := good x hx
      refine ⟨dd, h1, ?_⟩
      cases h2 with
      | non => exact .non
      | bl b => exact .bl b
      | int i => exact .int i
      | str x => exact .str x
      | tup h => exact .tup (keep _ _ (fun z => by subst z; rw [pAt] at h; cases h) h)
      | tup0 h => exact .tup0 (keep _ _ (fun z => by subst z; rw [pAt] at h; cases h) h)
      | lst h n => exact .lst (keep _ _ (fun z => by subst z; rw [pAt] at h; cases h) h) n
      | dict h => exact .dict (keep _ _ (fun z => by subst z; rw [pAt] at h; cases h) h)
    have nVp : V ≠ p := fun z => by
      subst z
      rw [pAt] at vAt
      have := Option.some.inj vAt
      injection this with this
      rw [← this] at many
      simp at many
    -- three draws
    refine ⟨fun σ H' => ∃ v1 v2 v3 d1 d2 d3 y7 y8 y9 y10 y11, σ = [some (.ref a), some (.int (0 + (i : Int))), some (.ref p), some (.ref V), some v1, some v2, some v3, y7, y8, y9, y10, y11, none, none] ∧
        SqL K H' a (ns.map L2.V.int) ∧ d1 ∈ data ∧ d2 ∈ data ∧ d3 ∈ data ∧ Val H' v1 d1 ∧ Val H' v2 d2 ∧ Val H' v3 d3,
      ⟨3, rfl, by decide, by decide, fun D hD => lc_range (lo := 0) (n := 3) (fun i H' => ∃ A B xs, PoolOk A B ∧ H' p = some (.lst [.int A, .int B]) ∧ H' D = some (.lst xs) ∧ xs.length = i ∧ (∀ x ∈ xs, x ∈ vals) ∧ (∀ b o, b ≠ p → H2 b = some o → H' b = some o)) ?_ ?_ ?_⟩, ?_⟩
    · exact ⟨A, B, [], okP, by rw [upd_ne (ne_of_none pAt hD)]; exact pAt, upd_same, rfl, fun _ h => absurd h (List.not_mem_nil), fun b o _ q => by rw [upd_ne (ne_of_none q hD)]; exact q⟩
    · rintro j H' hj ⟨A', B', xs, ok', hp', hD', len, mem, keep⟩
      refine ⟨rfl, _, rfl, _, rfl, p, A', B', 11, rfl, hp', ok', by decide, by decide, fun r A2 B2 r0 r1 ok2 => ?_⟩
      obtain ⟨m, rfl⟩ : ∃ m : Nat, r = (m : Int) := ⟨r.toNat, by omega⟩
      have hm : m < vals.length := by omega
      have nDp : D ≠ p := (ne_of_none pAt hD).symm
      refine ⟨V, vals, _, vals[m], rfl, rfl, .inl (.inl (by rw [upd_ne nVp]; exact keep V _ nVp vAt)), atI_nat (List.getElem?_eq_getElem hm), xs, by rw [upd_ne nDp]; exact hD', by rw [len]; exact small1000 (by omega), ?_⟩
      refine ⟨A2, B2, xs ++ [vals[m]], ok2, by rw [upd_ne nDp.symm]; exact upd_same, upd_same, by simp [len], fun x hx => ?_, fun b o nb q => ?_⟩
      · rcases List.mem_append.mp hx with h | h
        · exact mem x h
        · rw [List.mem_singleton.mp h]
          exact List.getElem_mem hm
      · have nbD : b ≠ D := fun z => by
          subst z
          rw [hD] at q
          cases q
        rw [upd_ne nbD, upd_ne nb]
        exact keep b o nb q
    · rintro H' ⟨A', B', xs, ok', hp', hD', len, mem, keep⟩
      obtain ⟨x1, x2, x3, rfl⟩ : ∃ x1 x2 x3, xs = [x1, x2, x3] := by
        match xs, len with
        | [x1, x2, x3], _ => exact ⟨x1, x2, x3, rfl⟩
      obtain ⟨d1, m1, h1⟩ := unpool keep x1 (mem _ (by simp))
      obtain ⟨d2, m2, h2⟩ := unpool keep x2 (mem _ (by simp))
      obtain ⟨d3, m3, h3⟩ := unpool keep x3 (mem _ (by simp))
      refine ⟨D, _, rfl, .inl (.inl hD'), rfl, x1, _, rfl, x2, _, rfl, x3, _, rfl, rfl, x1, x2, x3, d1, d2, d3, _, _, _, _, _, rfl, ?_, m1, m2, m3, h1, h2, h3⟩
      rcases hS with (h | ⟨o, h⟩) | h
      · exact .inl (.inl (keep _ _ (ne_of_none h hp) (s12 _ _ h)))
      · exact .inl (.inr ⟨o, keep _ _ (ne_of_none h hp) (s12 _ _ h)⟩)
      · exact .inr h
    · rintro σ H' ⟨v1, v2, v3, d1, d2, d3, y7, y8, y9, y10, y11, rfl, hS', m1, m2, m3, h1, h2, h3⟩
      have A1 : ∀ {H : Hp} {σ : L2.St}, σ[4]? = some (some v1) → Evl.EvA (tCons (tVar 4) tNil) σ H [v1] := fun h => Evl.ea_cons (Evl.ev_var h) Evl.ea_nil
      -- the first six errors
      refine seq_asg (lstN_of (cons_keepX (keepX (n := 1) (A1 rfl) rfl (by decide) fun e0 x0 G0 sm0 p0 q0 => ?_)))
      refine cons_keepX (keepX (n := 1) (A1 rfl) rfl (by decide) fun e1 x1 G1 sm1 p1 q1 => ?_)
      refine cons_keepX (keepX (n := 1) (A1 rfl) rfl (by decide) fun e2 x2 G2 sm2 p2 q2 => ?_)
      refine cons_keepX (keepX (n := 1) (A1 rfl) rfl (by decide) fun e3 x3 G3 sm3 p3 q3 => ?_)
      refine cons_keepX (keepX (n := 1) (A1 rfl) rfl (by decide) fun e4 x4 G4 sm4 p4 q4 => ?_)
      refine cons_keepX (keepX (n := 1) (A1 rfl) rfl (by decide) fun e5 x5 G5 sm5 p5 q5 => ?_)
      refine ⟨(by show 6 ≤ sizeLine; decide), fun m6 hm6 nm6 => ?_⟩
      have t6 := same_new (o := .lst [.ref e0, .ref e1, .ref e2, .ref e3, .ref e4, .ref e5]) hm6
      have at6 := @upd_same G5 m6 (.lst [.ref e0, .ref e1, .ref e2, .ref e3, .ref e4, .ref e5])
      -- the other two
      refine ⟨fun σ H'' => ∃ (M : Addr) (es : Nat → Addr) (y8 y9 y10 y11 : Option L2.V), σ = [some (.ref a), some (.int (0 + (i : Int))), some (.ref p), some (.ref V), some v1, some v2, some v3, some (.ref M), y8, y9, y10, y11, none, none] ∧
          Same H' H'' ∧ H'' M = some (.lst ((List.range 8).map fun j => .ref (es j))) ∧ ∀ j < 8, ExAt H'' (C j) (fsOf v1 v2 v3 j) (es j), ?_, ?_⟩
      · refine ⟨_, rfl, ?_⟩
        refine lstN_of (cons_keepX (keepX (n := 1) (A1 rfl) rfl (by decide) fun e6 x6 G6 sm6 p6 q6 => ?_))
        refine cons_keepX (keepX (n := 3) (Evl.ea_cons (Evl.ev_var (v := v1) rfl) (Evl.ea_cons (Evl.ev_var (v := v2) rfl) (Evl.ea_cons (Evl.ev_var (v := v3) rfl) Evl.ea_nil))) rfl (by decide) fun e7 x7 G7 sm7 p7 q7 => ?_)
        refine ⟨(by show 2 ≤ sizeLine; decide), fun m2' hm2 nm2 => ?_⟩
        have t2 := same_new (o := .lst [.ref e6, .ref e7]) hm2
        refine ⟨m6, m2', _, _, rfl, rfl, (sm6.trans (sm7.trans t2)) _ _ at6, upd_same, (by show 8 ≤ sizeLine; decide), fun M hM => ?_⟩
        have t8 := same_new (o := .lst ([.ref e0, .ref e1, .ref e2, .ref e3, .ref e4, .ref e5] ++ [.ref e6, .ref e7])) hM
        have f7 := t2.trans t8
        have f6 := sm7.trans f7
        have f5 := t6.trans (sm6.trans f6)
        have f4 := sm5.trans f5
        have f3 := sm4.trans f4
        have f2 := sm3.trans f3
        have f1 := sm2.trans f2
        have f0 := sm1.trans f1
        refine ⟨M, fun j => [e0, e1, e2, e3, e4, e5, e6, e7].getD j 0, _, _, _, _, rfl, sm0.trans f0, upd_same, ?_⟩
        intro j hj
        match j, hj with
        | 0, _ => exact ⟨x0, f0 _ _ p0, f0 _ _ q0⟩
        | 1, _ => exact ⟨x1, f1 _ _ p1, f1 _ _ q1⟩
        | 2, _ => exact ⟨x2, f2 _ _ p2, f2 _ _ q2⟩
        | 3, _ => exact ⟨x3, f3 _ _ p3, f3 _ _ q3⟩
        | 4, _ => exact ⟨x4, f4 _ _ p4, f4 _ _ q4⟩
        | 5, _ => exact ⟨x5, f5 _ _ p5, f5 _ _ q5⟩
        | 6, _ => exact ⟨x6, f6 _ _ p6, f6 _ _ q6⟩
        | 7, _ => exact ⟨x7, f7 _ _ p7, f7 _ _ q7⟩
      · rintro σ H3 ⟨M, es, y8, y9, y10, y11, rfl, sm, hM, hes⟩
        have allE : ∀ j < 8, ExcC K (C j) := by
          intro j hj
          match j, hj with
          | 0, _ => exact X0.E
          | 1, _ => exact X1.E
          | 2, _ => exact X2.E
          | 3, _ => exact X3.E
          | 4, _ => exact X4.E
          | 5, _ => exact X5.E
          | 6, _ => exact X6.E
          | 7, _ => exact X7.E
        -- for at, one in enumerate(made)
        refine ⟨fun σ H'' => ∃ (y8 y9 y10 y11 : Option L2.V), σ = [some (.ref a), some (.int (0 + (i : Int))), some (.ref p), some (.ref V), some v1, some v2, some v3, some (.ref M), y8, y9, y10, y11, none, none] ∧ Same H3 H'',
          ⟨_, rfl, M, _, rfl, .inl (.inl hM), for_it (walk_enum (K := K) (xs := (List.range 8).map fun j => .ref (es j))) (fun _ σ H'' => ∃ (y8 y9 y10 y11 : Option L2.V), σ = [some (.ref a), some (.int (0 + (i : Int))), some (.ref p), some (.ref V), some v1, some v2, some v3, some (.ref M), y8, y9, y10, y11, none, none] ∧ Same H3 H'')
            ⟨_, _, _, _, rfl, Same.refl _⟩ ?_ ?_ ?_⟩, ?_⟩
        · rintro j σ H4 _ ⟨_, _, _, _, _, sm4⟩
          exact .inl (.inl (sm4 _ _ hM))
        · rintro j x σ H4 H5 hj ⟨y8, y9, y10, y11, rfl, sm4⟩ ⟨T', x1, x2, rfl, nT, rfl, f1, f2⟩
          have hj8 : j < 8 := by simpa using hj
          obtain rfl : x1 = .int (j : Int) := (Option.some.inj f1).symm
          obtain rfl : x2 = .ref (es j) := by
            have z : ((List.range 8).map fun j => L2.V.ref (es j))[j]? = some (.ref (es j)) := by
              rw [List.getElem?_map, List.getElem?_range hj8]
              rfl
            exact Option.some.inj (f2.symm.trans z)
          have smT := same_new (o := .tup [.int (j : Int), .ref (es j)]) nT
          have ex := (hes j hj8).mono (sm4.trans smT)
          refine ⟨T', [.int (j : Int), .ref (es j)], rfl, .inl (.inl upd_same), rfl, _, _, rfl, _, _, rfl, rfl, ?_⟩
          -- kinds
          have tE := allE j hj8
          refine seq_asg (lstN_of (cons_of (isO_ok ex rfl tE (.own _) (kit j hj8 0 (by decide)) ?_)))
          refine cons_of (isO_ok ex rfl tE (.own _) (kit j hj8 1 (by decide)) ?_)
          refine cons_of (isO_ok ex rfl tE (.own _) (kit j hj8 2 (by decide)) ?_)
          refine ⟨(by show 3 ≤ sizeLine; decide), fun k1 hk1 _ => ?_⟩
          have w1 := same_new (o := .lst [.bl (j == 0), .bl (j == 1), .bl (j == 2)]) hk1
          have a1 := @upd_same (upd H4 T' (.tup [.int (j : Int), .ref (es j)])) k1 (.lst [.bl (j == 0), .bl (j == 1), .bl (j == 2)])
          have ex1 := ex.mono w1
          refine ⟨_, rfl, ?_⟩
          refine lstN_of (cons_of (isO_ok ex1 rfl tE (.own _) (kit j hj8 3 (by decide)) ?_))
          refine cons_of (isO_ok ex1 rfl tE (.own _) (kit j hj8 4 (by decide)) ?_)
          refine cons_of (isO_ok ex1 rfl tE (.own _) (kit j hj8 5 (by decide)) ?_)
          refine ⟨(by show 3 ≤ sizeLine; decide), fun k2 hk2 _ => ?_⟩
          have w2 := same_new (o := .lst [.bl (j == 3), .bl (j == 4), .bl (j == 5)]) hk2
          refine ⟨k1, k2, _, _, rfl, rfl, w2 _ _ a1, upd_same, (by show 6 ≤ sizeLine; decide), fun k3 hk3 => ?_⟩
          have w3 := same_new (o := .lst ([.bl (j == 0), .bl (j == 1), .bl (j == 2)] ++ [.bl (j == 3), .bl (j == 4), .bl (j == 5)])) hk3
          have ex3 := ex1.mono (w2.trans w3)
          refine ⟨_, rfl, ?_⟩
          refine lstN_of (cons_of (isO_ok ex3 rfl tE (.own _) (kit j hj8 6 (by decide)) ?_))
          refine cons_of (isO_ok ex3 rfl tE (.own _) (kit j hj8 7 (by decide)) ?_)
          refine ⟨(by show 2 ≤ sizeLine; decide), fun k4 hk4 _ => ?_⟩
          have w4 := same_new (o := .lst [.bl (j == 6), .bl (j == 7)]) hk4
          refine ⟨k3, k4, _, _, rfl, rfl, w4 _ _ upd_same, upd_same, (by show 8 ≤ sizeLine; decide), fun k hk => ?_⟩
          have w5 := same_new (o := .lst (([.bl (j == 0), .bl (j == 1), .bl (j == 2)] ++ [.bl (j == 3), .bl (j == 4), .bl (j == 5)]) ++ [.bl (j == 6), .bl (j == 7)])) hk
          have ex5 := ex3.mono (w4.trans w5)
          have far := sm4.trans (smT.trans (w1.trans (w2.trans (w3.trans (w4.trans w5)))))
          have kAt := @upd_same (upd (upd (upd (upd (upd H4 T' (.tup [.int (j : Int), .ref (es j)])) k1 (.lst [.bl (j == 0), .bl (j == 1), .bl (j == 2)])) k2 (.lst [.bl (j == 3), .bl (j == 4), .bl (j == 5)])) k3 (.lst ([.bl (j == 0), .bl (j == 1), .bl (j == 2)] ++ [.bl (j == 3), .bl (j == 4), .bl (j == 5)]))) k4 (.lst [.bl (j == 6), .bl (j == 7)])) k (.lst (([.bl (j == 0), .bl (j == 1), .bl (j == 2)] ++ [.bl (j == 3), .bl (j == 4), .bl (j == 5)]) ++ [.bl (j == 6), .bl (j == 7)]))
          generalize upd (upd (upd (upd (upd (upd H4 T' (.tup [.int (j : Int), .ref (es j)])) k1 (.lst [.bl (j == 0), .bl (j == 1), .bl (j == 2)])) k2 (.lst [.bl (j == 3), .bl (j == 4), .bl (j == 5)])) k3 (.lst ([.bl (j == 0), .bl (j == 1), .bl (j == 2)] ++ [.bl (j == 3), .bl (j == 4), .bl (j == 5)]))) k4 (.lst [.bl (j == 6), .bl (j == 7)])) k (.lst (([.bl (j == 0), .bl (j == 1), .bl (j == 2)] ++ [.bl (j == 3), .bl (j == 4), .bl (j == 5)]) ++ [.bl (j == 6), .bl (j == 7)])) = H6 at kAt ex5 far ⊢
          -- kinds != [place == at for place in range(8)]
          refine ⟨_, rfl, 8, rfl, by decide, by decide, fun D hD => lc_range (lo := 0) (n := 8) (fun m H' => H' D = some (.lst ((List.range m).map fun z => L2.V.bl (j == z))) ∧ Same H6 H') ⟨upd_same, same_new hD⟩ ?_ ?_⟩
          · rintro m H' hm ⟨hD', sm'⟩
            refine ⟨rfl, _, rfl, _, rfl, rfl, _, hD', by rw [List.length_map, List.length_range]; exact small1000 (by omega), ?_, fun b o q => ?_⟩
            · rw [upd_same, List.range_succ, List.map_append]
              have e : (decide (L2.V.int (0 + (m : Int)) = L2.V.int (j : Int))) = (j == m) := by
                rw [Bool.eq_iff_iff]
                simp
                omega
              rw [e]
              rfl
            · have nb : b ≠ D := fun z => by
                subst z
                rw [hD] at q
                cases q
              rw [upd_ne nb]
              exact sm' _ _ q
          · rintro H' ⟨hD', sm'⟩
            refine ⟨.list (((List.range 8).map fun z => (j == z)).map PyData.bool), .list (((List.range 8).map fun z => (j == z)).map PyData.bool), .lst (.inl (.inl (sm' _ _ kAt))) (blsOf_data [j == 0, j == 1, j == 2, j == 3, j == 4, j == 5, j == 6, j == 7]), .lst (.inl (.inl hD')) (by
              have z := blsOf_data (K := K) (H := H') ((List.range 8).map fun z => (j == z))
              rw [List.map_map] at z
              exact z), rfl, rfl, false, ?_, ?_⟩
            · rw [SeqAt.eqv_refl]
              · rfl
              · rfl
            · refine iteF ?_
              have ex6 := ex5.mono sm'
              refine isO_ok ex6 rfl tE (.own _) (kitK j hj8) ⟨true, rfl, iteF ?_⟩
              refine isO_ok ex6 rfl tE (.ty _) (kitV j hj8) ⟨true, rfl, iteF ?_⟩
              exact ⟨_, _, _, _, rfl, far.trans sm'⟩
        · rintro σ H4 ⟨y8, y9, y10, y11, rfl, sm4⟩
          exact ⟨_, _, _, _, rfl, sm4⟩
        · rintro σ H4 ⟨y8, y9, y10, y11, rfl, sm4⟩
          have hM4 := sm4 _ _ hM
          have hes4 : ∀ j < 8, ExAt H4 (C j) (fsOf v1 v2 v3 j) (es j) := fun j hj => (hes j hj).mono sm4
          have sm24 := sm.trans sm4
          have hv1 := h1.mono sm24
          have hv2 := h2.mono sm24
          have hv3 := h3.mono sm24
          -- told
          refine seq_asg (lstN_of (cons_of (fld_ok 0 (by decide) hM4 (hes4 0 (by decide)) rfl (allE 0 (by decide)) (X0.no _ (by simp)) (v := v1) rfl ?_)))
          refine cons_of (fld_ok 1 (by decide) hM4 (hes4 1 (by decide)) rfl (allE 1 (by decide)) (X1.no _ (by simp)) (v := v1) rfl ?_)
          refine cons_of (fld_ok 2 (by decide) hM4 (hes4 2 (by decide)) rfl (allE 2 (by decide)) (X2.no _ (by simp)) (v := v1) rfl ?_)
          refine cons_of (fld_ok 3 (by decide) hM4 (hes4 3 (by decide)) rfl (allE 3 (by decide)) (X3.no _ (by simp)) (v := v1) rfl ?_)
          refine cons_of (fld_ok 4 (by decide) hM4 (hes4 4 (by decide)) rfl (allE 4 (by decide)) (X4.no _ (by simp)) (v := v1) rfl ?_)
          refine cons_of (fld_ok 5 (by decide) hM4 (hes4 5 (by decide)) rfl (allE 5 (by decide)) (X5.no _ (by simp)) (v := v1) rfl ?_)
          refine cons_of (fld_ok 6 (by decide) hM4 (hes4 6 (by decide)) rfl (allE 6 (by decide)) (X6.no _ (by simp)) (v := v1) rfl ?_)
          refine ⟨(by show 7 ≤ sizeLine; decide), fun R hR nR => ?_⟩
          have r1 := same_new (o := .lst [v1, v1, v1, v1, v1, v1, v1]) hR
          have rAt := @upd_same H4 R (.lst [v1, v1, v1, v1, v1, v1, v1])
          generalize upd H4 R (.lst [v1, v1, v1, v1, v1, v1, v1]) = H5 at r1 rAt ⊢
          have ok7 := fits_of (List.all_eq_true.mp fits7 d1 m1)
          -- repr(told) != repr([value] * 7)
          have u1 := hv1.mono r1
          refine ⟨_, rfl, R, .list [d1, d1, d1, d1, d1, d1, d1], rfl, shows_lst rAt nR (showsAll_cons u1.shows (showsAll_cons u1.shows (showsAll_cons u1.shows (showsAll_cons u1.shows (showsAll_cons u1.shows (showsAll_cons u1.shows (showsAll_cons u1.shows showsAll_nil))))))), ok7.1, ok7.2.1, ok7.2.2, ?_⟩
          refine ⟨_, rfl, (by show 1 ≤ sizeLine; decide), fun R1 hR1 nR1 => ?_⟩
          have r2 := same_new (o := .lst [v1]) hR1
          refine ⟨R1, 7, [v1], rfl, rfl, upd_same, by decide, by decide, (by show 7 ≤ sizeLine; decide), fun R2 hR2 nR2 => ?_⟩
          have r3 := same_new (o := .lst (List.replicate (7 : Int).toNat [v1]).flatten) hR2
          have r2At := @upd_same (upd H5 R1 (.lst [v1])) R2 (.lst [v1, v1, v1, v1, v1, v1, v1])
          have u2 := u1.mono (r2.trans r3)
          refine ⟨R2, .list [d1, d1, d1, d1, d1, d1, d1], rfl, shows_lst r2At nR2 (showsAll_cons u2.shows (showsAll_cons u2.shows (showsAll_cons u2.shows (showsAll_cons u2.shows (showsAll_cons u2.shows (showsAll_cons u2.shows (showsAll_cons u2.shows showsAll_nil))))))), ok7.1, ok7.2.1, ok7.2.2, rfl, false, by simp, iteF ?_⟩
          -- repr([made[7].reason, ..]) != repr([value, other, more])
          have r12 := r1.trans (r2.trans r3)
          have hM6 := r12 _ _ hM4
          have e7 := (hes4 7 (by decide)).mono r12
          have o1 := hv1.mono r12
          have o2 := hv2.mono r12
          have o3 := hv3.mono r12
          have t7 := allE 7 (by decide)
          have ok3 := fits_of (List.all_eq_true.mp (List.all_eq_true.mp (List.all_eq_true.mp fits3 d1 m1) d2 m2) d3 m3)
          generalize upd (upd H5 R1 (.lst [v1])) R2 (.lst (List.replicate (7 : Int).toNat [v1]).flatten) = H6 at r12 hM6 e7 o1 o2 o3 ⊢
          refine test_op (cb_1 (lstN_of (cons_of (fld_ok (f := "reason") 7 (by decide) hM6 e7 rfl t7 (X7.no _ (by simp)) (v := v1) rfl ?_))))
          refine cons_of (fld_ok (f := "one") 7 (by decide) hM6 e7 rfl t7 (X7.no _ (by simp)) (v := v2) rfl ?_)
          refine cons_of (fld_ok (f := "other") 7 (by decide) hM6 e7 rfl t7 (X7.no _ (by simp)) (v := v3) rfl ?_)
          refine ⟨(by show 3 ≤ sizeLine; decide), fun R3 hR3 nR3 => ?_⟩
          have r4 := same_new (o := .lst [v1, v2, v3]) hR3
          refine ⟨R3, .list [d1, d2, d3], rfl, shows_lst upd_same nR3 (showsAll_cons (o1.mono r4).shows (showsAll_cons (o2.mono r4).shows (showsAll_cons (o3.mono r4).shows showsAll_nil))), ok3.1, ok3.2.1, ok3.2.2, ?_⟩
          refine ⟨_, rfl, _, rfl, _, rfl, (by show 3 ≤ sizeLine; decide), fun R4 hR4 nR4 => ?_⟩
          have r5 := same_new (o := .lst [v1, v2, v3]) hR4
          have r45 := r4.trans r5
          refine ⟨R4, .list [d1, d2, d3], rfl, shows_lst upd_same nR4 (showsAll_cons (o1.mono r45).shows (showsAll_cons (o2.mono r45).shows (showsAll_cons (o3.mono r45).shows showsAll_nil))), ok3.1, ok3.2.1, ok3.2.2, rfl, false, by simp, iteF ?_⟩
          -- isinstance(made[0], LookupError)
          have end_ := r12.trans r45
          obtain ⟨dx, y1', y2'⟩ := (hes4 0 (by decide)).mono end_
          refine ⟨_, rfl, M, _, 0, .ref (es 0), rfl, rfl, .inl (.inl (end_ _ _ hM4)), atI_nat (j := 0) rfl, es 0, C 0, dx, _, _, _, false, rfl, .ty "LookupError", y1', y2', allE 0 (by decide), kitL, false, rfl, iteF ?_⟩
          exact ⟨_, _, _, _, _, _, _, _, _, _, _, rfl, (sm24.trans end_).seq hS'⟩
  · rintro σ H' _
    rfl
end
end KB
namespace KB
open PySem PySem.Spec PyProof.Rows L2
/-! ### the end -/
section
variable {K : PySem.W.Frag}
theorem kit_ref {A B : Addr} {b : Bool} (h : PySem.W.subIn K (.ref A) (.ref B) = some b) (hA : PySem.W.subIn K (.ref A) (.ref A) = some true) (c : PySem.W.isClsIn K B = true) (t : PySem.W.typeIn K (.ref B) = some (.type "type")) :
    PySem.W.kitOne K (.ref A) (.ref B) = some b := by
  unfold PySem.W.kitOne
  by_cases e : A = B
  · subst e
    rw [hA] at h
    cases h
    rw [if_pos (by simp)]
  · rw [if_neg (by simpa using e)]
    unfold PySem.W.kitCls
    have c' : (PySem.W.clsIn K B).isSome = true := c
    have z : ((PySem.W.clsIn K B).isSome && PySem.W.typeIn K (.ref B) == some (.type "type")) = true := by
      rw [c', t]
      rfl
    show (if ((PySem.W.clsIn K B).isSome && PySem.W.typeIn K (.ref B) == some (.type "type")) = true then PySem.W.subIn K (.ref A) (.ref B) else none) = some b
    rw [if_pos z]
    exact h
theorem kit_type {A : Addr} {T : String} {b : Bool} (h : PySem.W.subIn K (.ref A) (.type T) = some b) (m : PySem.W.kitMeta T = true) : PySem.W.kitOne K (.ref A) (.type T) = some b := by
  unfold PySem.W.kitOne
  rw [if_neg (by simp)]
  show (if PySem.W.kitMeta T = true then PySem.W.subIn K (.ref A) (.type T) else none) = some b
  rw [if_pos m]
  exact h
/-- a class of ours by its own line -/
theorem sub_exc {C : Addr} {nm q : Str} {N : Addr} {bs bm : List Value} {sn : List Str} {sub : List Value} {ab : Bool} {col : Option Bool} {dd : Option Addr} {m0 m1 m2 m3 m5 : Option Value}
    (xL : K.lookup C = some (excClassObj nm q C N bs bm true sn sub ab col dd m0 m1 m2 m3 m5 "ValueError.__new__")) (base : Value) : PySem.W.subIn K (.ref C) base = some ((Value.ref C :: bm).contains base) := by
  have hcl : PySem.W.clsIn K C = some { name := nm, bases := bs, mro := .ref C :: bm, ns := N, qualname := q, hasDict := true, slotNames := sn, subclasses := sub, abstract := ab, collection := col, hasDel := false } := by
    unfold PySem.W.clsIn
    rw [xL] <;> rfl
  show PySem.W.mroIn K C base = _
  unfold PySem.W.mroIn
  rw [hcl, Option.bind_some]
  rfl
end
theorem walk_at {l : PySem.W.OpenLaw} {q : Program} {loose : List Str} {XP : (Str → Option Value) → Heap → Prop} {YP : World → Heap → Prop} {d : DefRec} {K : Params → PySem.W.Frag} (hn : l.most = some 63) (hdf : d.params.defaults = [])
    (hY : ∀ (w : World) (h : Heap), YP w h → (K w.params).In h)
    (F : ∀ (w : World) (mg : Str → Option Value) (fa a : Addr) (s : Shared) (ns : List Int) (base : Heap) (H : Hp), (K w.params).In s.heap → s.heap.Ns mainGlobals mg → mg d.name = some (.ref fa) →
      ns.length ≤ 63 → (∀ k ∈ ns, Builtin.Int.intBits k ≤ 1048576) → Env0 l.prog w (K w.params) mg base callerA [] s H → SqL (K w.params) H a (ns.map V.int) →
      codeAny (model l.prog w) callerA (.call (.ref fa) ⟨[.ref a], []⟩) (CR CX0 [] l.prog w H s (fun v _ => v = .bl true) E0) s) :
    PySem.W.WalkO q loose XP YP l.row.toRowW d [] (fun f vs => PySem.call f vs) :=
  Att.attach_callB hn hdf fun w s₀ s₁ mg mb fa o pm cd doc a vs ns G Y ho hd hcd hmg hobj hints hlen hbits hg =>
    law_at (hY w _ Y) G.T.g G.T.b G.T.builtins G.T.nolimit hg hobj hints (Nat.le_trans hlen (by decide))
      fun base H hK hN e0 hS => F w mg fa a s₁ ns base H (hY w _ Y) G.T.g hmg hlen hbits e0 hS
set_option maxHeartbeats 8000000 in
theorem all_mk {P : Program} {w : World} {K : PySem.W.Frag} {mg : Str → Option Value} {s : Shared} {base : Heap} {H : Hp} {a : Addr} {ns : List Int} {fa cK C0 C1 C2 C3 C4 C5 C6 C7 f0 f1 f2 f3 f4 f5 f6 f7 fP fT fL : Addr}
    {od0 an0 od1 an1 od2 an2 od3 an3 od4 an4 od5 an5 od6 an6 od7 an7 odP anP odT anT odL anL : Option Addr} {sl0 sl1 sl2 sl3 sl4 sl5 sl6 sl7 slP slT slL : Array (Option Value)} {oc0 kV0 dc0 pm0 cd0 ct0 oc1 kV1 dc1 pm1 cd1 ct1 oc2 kV2 dc2 pm2 cd2 ct2 oc3 kV3 dc3 pm3 cd3 ct3 oc4 kV4 dc4 pm4 cd4 ct4 oc5 kV5 dc5 pm5 cd5 ct5 oc6 kV6 dc6 pm6 cd6 ct6 oc7 kV7 dc7 pm7 cd7 ct7 ocP kVP dcP pmP cdP ctP ocT kVT dcT pmT cdT ctT ocL kVL dcL pmL cdL ctL : Value}
    {nm0 q0 nm1 q1 nm2 q2 nm3 q3 nm4 q4 nm5 q5 nm6 q6 nm7 q7 : Str} {N0 N1 N2 N3 N4 N5 N6 N7 : Addr} {bs0 sub0 bs1 sub1 bs2 sub2 bs3 sub3 bs4 sub4 bs5 sub5 bs6 sub6 bs7 sub7 : List Value} {sn0 sn1 sn2 sn3 sn4 sn5 sn6 sn7 : List Str} {ab0 ab1 ab2 ab3 ab4 ab5 ab6 ab7 : Bool} {col0 col1 col2 col3 col4 col5 col6 col7 : Option Bool} {dd0 dd1 dd2 dd3 dd4 dd5 dd6 dd7 : Option Addr} {ma0 mb0 mc0 md0 me0 ma1 mb1 mc1 md1 me1 ma2 mb2 mc2 md2 me2 ma3 mb3 mc3 md3 me3 ma4 mb4 mc4 md4 me4 ma5 mb5 mc5 md5 me5 ma6 mb6 mc6 md6 me6 ma7 mb7 mc7 md7 me7 : Option Value}
    (X : K.In s.heap) (G : s.heap.Ns mainGlobals mg) (hfa : mg "law" = some (.ref fa)) (hlen : ns.length ≤ 63) (hbits : ∀ k ∈ ns, Builtin.Int.intBits k ≤ 1048576) (e0 : Env0 P w K mg base callerA [] s H) (hS : SqL K H a (ns.map V.int))
    (aK : PySem.W.nsIn K mainGlobals "KeptError" = some (some (.ref cK)))
    (iK : PySem.W.isClsIn K cK = true)
    (tK : PySem.W.typeIn K (.ref cK) = some (.type "type"))
    (aC0 : PySem.W.nsIn K mainGlobals "BadText" = some (some (.ref C0)))
    (xL0 : K.lookup C0 = some (excClassObj nm0 q0 C0 N0 bs0 [.ref cK, .type "ValueError", .type "Exception", .type "BaseException", .type "object"] true sn0 sub0 ab0 col0 dd0 ma0 mb0 mc0 md0 me0 "ValueError.__new__"))
    (sa0 : PySem.W.findIn K (.ref C0) "__setattr__" = some (some (.builtin "object.__setattr__")))
    (ga0 : PySem.W.findIn K (.ref C0) "__getattribute__" = some (some (.builtin "BaseException.__getattribute__")))
    (gg0 : PySem.W.findIn K (.ref C0) "__getattr__" = some none)
    (gc0 : PySem.W.findIn K (.ref C0) "__class__" = some (some (.builtin "object.__class__")))
    (n0at : PySem.W.findIn K (.ref C0) "at" = some none)
    (i0 : PySem.W.findIn K (.ref C0) "__init__" = some (some (.ref f0)))
    (t0 : PySem.W.typeIn K (.ref f0) = some (.type "function"))
    (l0 : K.lookup f0 = some ⟨oc0, od0, .func (PySem.W.fnOf "__init__" "BadText.__init__" (defArgs sI0) (defBody sI0) (defScope sI0) .none kV0 dc0 pm0 an0 cd0 ct0), sl0⟩) (c0 : PySem.W.codeIn K cd0 "BadText.__init__" = true) (k0 : PySem.W.keepIn K (.ref f0) = true)
    (kC0 : PySem.W.keepIn K (.ref C0) = true)
    (tC0 : PySem.W.typeIn K (.ref C0) = some (.type "type"))
    (hC0 : PySem.W.hasDictIn K C0 = true)
    (iC0 : PySem.W.isClsIn K C0 = true)
    (mO0 : PySem.W.mroIn K C0 (.type "object") = some true)
    (aC1 : PySem.W.nsIn K mainGlobals "BadSyntax" = some (some (.ref C1)))
    (xL1 : K.lookup C1 = some (excClassObj nm1 q1 C1 N1 bs1 [.ref cK, .type "ValueError", .type "Exception", .type "BaseException", .type "object"] true sn1 sub1 ab1 col1 dd1 ma1 mb1 mc1 md1 me1 "ValueError.__new__"))
    (sa1 : PySem.W.findIn K (.ref C1) "__setattr__" = some (some (.builtin "object.__setattr__")))
    (ga1 : PySem.W.findIn K (.ref C1) "__getattribute__" = some (some (.builtin "BaseException.__getattribute__")))
    (gg1 : PySem.W.findIn K (.ref C1) "__getattr__" = some none)
    (gc1 : PySem.W.findIn K (.ref C1) "__class__" = some (some (.builtin "object.__class__")))
    (n1at : PySem.W.findIn K (.ref C1) "at" = some none)
    (i1 : PySem.W.findIn K (.ref C1) "__init__" = some (some (.ref f1)))
    (t1 : PySem.W.typeIn K (.ref f1) = some (.type "function"))
    (l1 : K.lookup f1 = some ⟨oc1, od1, .func (PySem.W.fnOf "__init__" "BadSyntax.__init__" (defArgs sI1) (defBody sI1) (defScope sI1) .none kV1 dc1 pm1 an1 cd1 ct1), sl1⟩) (c1 : PySem.W.codeIn K cd1 "BadSyntax.__init__" = true) (k1 : PySem.W.keepIn K (.ref f1) = true)
    (kC1 : PySem.W.keepIn K (.ref C1) = true)
    (tC1 : PySem.W.typeIn K (.ref C1) = some (.type "type"))
    (hC1 : PySem.W.hasDictIn K C1 = true)
    (iC1 : PySem.W.isClsIn K C1 = true)
    (mO1 : PySem.W.mroIn K C1 (.type "object") = some true)
    (aC2 : PySem.W.nsIn K mainGlobals "BadName" = some (some (.ref C2)))
    (xL2 : K.lookup C2 = some (excClassObj nm2 q2 C2 N2 bs2 [.ref cK, .type "ValueError", .type "Exception", .type "BaseException", .type "object"] true sn2 sub2 ab2 col2 dd2 ma2 mb2 mc2 md2 me2 "ValueError.__new__"))
    (sa2 : PySem.W.findIn K (.ref C2) "__setattr__" = some (some (.builtin "object.__setattr__")))
    (ga2 : PySem.W.findIn K (.ref C2) "__getattribute__" = some (some (.builtin "BaseException.__getattribute__")))
    (gg2 : PySem.W.findIn K (.ref C2) "__getattr__" = some none)
    (gc2 : PySem.W.findIn K (.ref C2) "__class__" = some (some (.builtin "object.__class__")))
    (n2value : PySem.W.findIn K (.ref C2) "value" = some none)
    (i2 : PySem.W.findIn K (.ref C2) "__init__" = some (some (.ref f2)))
    (t2 : PySem.W.typeIn K (.ref f2) = some (.type "function"))
    (l2 : K.lookup f2 = some ⟨oc2, od2, .func (PySem.W.fnOf "__init__" "BadName.__init__" (defArgs sI2) (defBody sI2) (defScope sI2) .none kV2 dc2 pm2 an2 cd2 ct2), sl2⟩) (c2 : PySem.W.codeIn K cd2 "BadName.__init__" = true) (k2 : PySem.W.keepIn K (.ref f2) = true)
    (kC2 : PySem.W.keepIn K (.ref C2) = true)
    (tC2 : PySem.W.typeIn K (.ref C2) = some (.type "type"))
    (hC2 : PySem.W.hasDictIn K C2 = true)
    (iC2 : PySem.W.isClsIn K C2 = true)
    (mO2 : PySem.W.mroIn K C2 (.type "object") = some true)
    (aC3 : PySem.W.nsIn K mainGlobals "BadProject" = some (some (.ref C3)))
    (xL3 : K.lookup C3 = some (excClassObj nm3 q3 C3 N3 bs3 [.ref cK, .type "ValueError", .type "Exception", .type "BaseException", .type "object"] true sn3 sub3 ab3 col3 dd3 ma3 mb3 mc3 md3 me3 "ValueError.__new__"))
    (sa3 : PySem.W.findIn K (.ref C3) "__setattr__" = some (some (.builtin "object.__setattr__")))
    (ga3 : PySem.W.findIn K (.ref C3) "__getattribute__" = some (some (.builtin "BaseException.__getattribute__")))
    (gg3 : PySem.W.findIn K (.ref C3) "__getattr__" = some none)
    (gc3 : PySem.W.findIn K (.ref C3) "__class__" = some (some (.builtin "object.__class__")))
    (n3place : PySem.W.findIn K (.ref C3) "place" = some none)
    (i3 : PySem.W.findIn K (.ref C3) "__init__" = some (some (.ref f3)))
    (t3 : PySem.W.typeIn K (.ref f3) = some (.type "function"))
    (l3 : K.lookup f3 = some ⟨oc3, od3, .func (PySem.W.fnOf "__init__" "BadProject.__init__" (defArgs sI3) (defBody sI3) (defScope sI3) .none kV3 dc3 pm3 an3 cd3 ct3), sl3⟩) (c3 : PySem.W.codeIn K cd3 "BadProject.__init__" = true) (k3 : PySem.W.keepIn K (.ref f3) = true)
    (kC3 : PySem.W.keepIn K (.ref C3) = true)
    (tC3 : PySem.W.typeIn K (.ref C3) = some (.type "type"))
    (hC3 : PySem.W.hasDictIn K C3 = true)
    (iC3 : PySem.W.isClsIn K C3 = true)
    (mO3 : PySem.W.mroIn K C3 (.type "object") = some true)
    (aC4 : PySem.W.nsIn K mainGlobals "BadPlace" = some (some (.ref C4)))
    (xL4 : K.lookup C4 = some (excClassObj nm4 q4 C4 N4 bs4 [.ref cK, .type "ValueError", .type "Exception", .type "BaseException", .type "object"] true sn4 sub4 ab4 col4 dd4 ma4 mb4 mc4 md4 me4 "ValueError.__new__"))
    (sa4 : PySem.W.findIn K (.ref C4) "__setattr__" = some (some (.builtin "object.__setattr__")))
    (ga4 : PySem.W.findIn K (.ref C4) "__getattribute__" = some (some (.builtin "BaseException.__getattribute__")))
    (gg4 : PySem.W.findIn K (.ref C4) "__getattr__" = some none)
    (gc4 : PySem.W.findIn K (.ref C4) "__class__" = some (some (.builtin "object.__class__")))
    (n4value : PySem.W.findIn K (.ref C4) "value" = some none)
    (i4 : PySem.W.findIn K (.ref C4) "__init__" = some (some (.ref f4)))
    (t4 : PySem.W.typeIn K (.ref f4) = some (.type "function"))
    (l4 : K.lookup f4 = some ⟨oc4, od4, .func (PySem.W.fnOf "__init__" "BadPlace.__init__" (defArgs sI4) (defBody sI4) (defScope sI4) .none kV4 dc4 pm4 an4 cd4 ct4), sl4⟩) (c4 : PySem.W.codeIn K cd4 "BadPlace.__init__" = true) (k4 : PySem.W.keepIn K (.ref f4) = true)
    (kC4 : PySem.W.keepIn K (.ref C4) = true)
    (tC4 : PySem.W.typeIn K (.ref C4) = some (.type "type"))
    (hC4 : PySem.W.hasDictIn K C4 = true)
    (iC4 : PySem.W.isClsIn K C4 = true)
    (mO4 : PySem.W.mroIn K C4 (.type "object") = some true)
    (aC5 : PySem.W.nsIn K mainGlobals "BadEdit" = some (some (.ref C5)))
    (xL5 : K.lookup C5 = some (excClassObj nm5 q5 C5 N5 bs5 [.ref cK, .type "ValueError", .type "Exception", .type "BaseException", .type "object"] true sn5 sub5 ab5 col5 dd5 ma5 mb5 mc5 md5 me5 "ValueError.__new__"))
    (sa5 : PySem.W.findIn K (.ref C5) "__setattr__" = some (some (.builtin "object.__setattr__")))
    (ga5 : PySem.W.findIn K (.ref C5) "__getattribute__" = some (some (.builtin "BaseException.__getattribute__")))
    (gg5 : PySem.W.findIn K (.ref C5) "__getattr__" = some none)
    (gc5 : PySem.W.findIn K (.ref C5) "__class__" = some (some (.builtin "object.__class__")))
    (n5edit : PySem.W.findIn K (.ref C5) "edit" = some none)
    (i5 : PySem.W.findIn K (.ref C5) "__init__" = some (some (.ref f5)))
    (t5 : PySem.W.typeIn K (.ref f5) = some (.type "function"))
    (l5 : K.lookup f5 = some ⟨oc5, od5, .func (PySem.W.fnOf "__init__" "BadEdit.__init__" (defArgs sI5) (defBody sI5) (defScope sI5) .none kV5 dc5 pm5 an5 cd5 ct5), sl5⟩) (c5 : PySem.W.codeIn K cd5 "BadEdit.__init__" = true) (k5 : PySem.W.keepIn K (.ref f5) = true)
    (kC5 : PySem.W.keepIn K (.ref C5) = true)
    (tC5 : PySem.W.typeIn K (.ref C5) = some (.type "type"))
    (hC5 : PySem.W.hasDictIn K C5 = true)
    (iC5 : PySem.W.isClsIn K C5 = true)
    (mO5 : PySem.W.mroIn K C5 (.type "object") = some true)
    (aC6 : PySem.W.nsIn K mainGlobals "BadValue" = some (some (.ref C6)))
    (xL6 : K.lookup C6 = some (excClassObj nm6 q6 C6 N6 bs6 [.ref cK, .type "ValueError", .type "Exception", .type "BaseException", .type "object"] true sn6 sub6 ab6 col6 dd6 ma6 mb6 mc6 md6 me6 "ValueError.__new__"))
    (sa6 : PySem.W.findIn K (.ref C6) "__setattr__" = some (some (.builtin "object.__setattr__")))
    (ga6 : PySem.W.findIn K (.ref C6) "__getattribute__" = some (some (.builtin "BaseException.__getattribute__")))
    (gg6 : PySem.W.findIn K (.ref C6) "__getattr__" = some none)
    (gc6 : PySem.W.findIn K (.ref C6) "__class__" = some (some (.builtin "object.__class__")))
    (n6value : PySem.W.findIn K (.ref C6) "value" = some none)
    (i6 : PySem.W.findIn K (.ref C6) "__init__" = some (some (.ref f6)))
    (t6 : PySem.W.typeIn K (.ref f6) = some (.type "function"))
    (l6 : K.lookup f6 = some ⟨oc6, od6, .func (PySem.W.fnOf "__init__" "BadValue.__init__" (defArgs sI6) (defBody sI6) (defScope sI6) .none kV6 dc6 pm6 an6 cd6 ct6), sl6⟩) (c6 : PySem.W.codeIn K cd6 "BadValue.__init__" = true) (k6 : PySem.W.keepIn K (.ref f6) = true)
    (kC6 : PySem.W.keepIn K (.ref C6) = true)
    (tC6 : PySem.W.typeIn K (.ref C6) = some (.type "type"))
    (hC6 : PySem.W.hasDictIn K C6 = true)
    (iC6 : PySem.W.isClsIn K C6 = true)
    (mO6 : PySem.W.mroIn K C6 (.type "object") = some true)
    (aC7 : PySem.W.nsIn K mainGlobals "Refused" = some (some (.ref C7)))
    (xL7 : K.lookup C7 = some (excClassObj nm7 q7 C7 N7 bs7 [.ref cK, .type "ValueError", .type "Exception", .type "BaseException", .type "object"] true sn7 sub7 ab7 col7 dd7 ma7 mb7 mc7 md7 me7 "ValueError.__new__"))
    (sa7 : PySem.W.findIn K (.ref C7) "__setattr__" = some (some (.builtin "object.__setattr__")))
    (ga7 : PySem.W.findIn K (.ref C7) "__getattribute__" = some (some (.builtin "BaseException.__getattribute__")))
    (gg7 : PySem.W.findIn K (.ref C7) "__getattr__" = some none)
    (gc7 : PySem.W.findIn K (.ref C7) "__class__" = some (some (.builtin "object.__class__")))
    (n7reason : PySem.W.findIn K (.ref C7) "reason" = some none)
    (n7one : PySem.W.findIn K (.ref C7) "one" = some none)
    (n7other : PySem.W.findIn K (.ref C7) "other" = some none)
    (i7 : PySem.W.findIn K (.ref C7) "__init__" = some (some (.ref f7)))
    (t7 : PySem.W.typeIn K (.ref f7) = some (.type "function"))
    (l7 : K.lookup f7 = some ⟨oc7, od7, .func (PySem.W.fnOf "__init__" "Refused.__init__" (defArgs sI7) (defBody sI7) (defScope sI7) .none kV7 dc7 pm7 an7 cd7 ct7), sl7⟩) (c7 : PySem.W.codeIn K cd7 "Refused.__init__" = true) (k7 : PySem.W.keepIn K (.ref f7) = true)
    (kC7 : PySem.W.keepIn K (.ref C7) = true)
    (tC7 : PySem.W.typeIn K (.ref C7) = some (.type "type"))
    (hC7 : PySem.W.hasDictIn K C7 = true)
    (iC7 : PySem.W.isClsIn K C7 = true)
    (mO7 : PySem.W.mroIn K C7 (.type "object") = some true)
    (sg : PySem.W.specialIn K (.builtin "object.__class__") "__get__" = some (some (.builtin "getset_descriptor.__get__")))
    (tg : PySem.W.takesIn K (.builtin "object.__class__") = some true)
    (aP : PySem.W.nsIn K mainGlobals "_law_pool" = some (some (.ref fP)))
    (lP : K.lookup fP = some ⟨ocP, odP, .func (PySem.W.fnOf "_law_pool" "_law_pool" (defArgs sPool) (defBody sPool) (defScope sPool) .none kVP dcP pmP anP cdP ctP), slP⟩) (cP : PySem.W.codeIn K cdP "_law_pool" = true) (kP : PySem.W.keepIn K (.ref fP) = true)
    (aT : PySem.W.nsIn K mainGlobals "_law_take" = some (some (.ref fT)))
    (lT : K.lookup fT = some ⟨ocT, odT, .func (PySem.W.fnOf "_law_take" "_law_take" (defArgs sTake) (defBody sTake) (defScope sTake) .none kVT dcT pmT anT cdT ctT), slT⟩) (cT : PySem.W.codeIn K cdT "_law_take" = true) (kT : PySem.W.keepIn K (.ref fT) = true)
    (aL : PySem.W.nsIn K mainGlobals "law" = some (some (.ref fL)))
    (lL : K.lookup fL = some ⟨ocL, odL, .func (PySem.W.fnOf "law" "law" (defArgs sLaw) (defBody sLaw) (defScope sLaw) .none kVL dcL pmL anL cdL ctL), slL⟩) (cL : PySem.W.codeIn K cdL "law" = true) (kL : PySem.W.keepIn K (.ref fL) = true)
    (z_range : PySem.W.nsIn K mainGlobals "range" = some none)
    (z_max : PySem.W.nsIn K mainGlobals "max" = some none)
    (z_min : PySem.W.nsIn K mainGlobals "min" = some none)
    (z_len : PySem.W.nsIn K mainGlobals "len" = some none)
    (z_abs : PySem.W.nsIn K mainGlobals "abs" = some none)
    (z_int : PySem.W.nsIn K mainGlobals "int" = some none)
    (z_enumerate : PySem.W.nsIn K mainGlobals "enumerate" = some none)
    (z_isinstance : PySem.W.nsIn K mainGlobals "isinstance" = some none)
    (z_repr : PySem.W.nsIn K mainGlobals "repr" = some none)
    (z_ValueError : PySem.W.nsIn K mainGlobals "ValueError" = some none)
    (z_LookupError : PySem.W.nsIn K mainGlobals "LookupError" = some none)
    (nd : ([cK, C0, C1, C2, C3, C4, C5, C6, C7] : List Addr).Nodup) :
    codeAny (model P w) callerA (.call (.ref fa) ⟨[.ref a], []⟩) (CR CX0 [] P w H s (fun v _ => v = .bl true) E0) s := by
  have e := hfa.symm.trans (PySem.W.mg_of X G aL)
  cases e
  have m : ∀ {x : Str} {v : Value}, PySem.W.nsIn K mainGlobals x = some (some v) → mg x = some v := fun q => PySem.W.mg_of X G q
  have z : ∀ {x : Str}, PySem.W.nsIn K mainGlobals x = some none → mg x = none := fun q => PySem.W.mg_none_of X G q
  have T : TL K mg fP fT cK := ⟨m aP, kP, m aT, kT, m aK, z z_range, z z_max, z z_min, z z_len, z z_enumerate, z z_isinstance, z z_repr, z z_ValueError, z z_LookupError⟩
  have X0 : ExT K mg "BadText" ["at"] C0 f0 := ⟨⟨⟨nm0, q0, N0, bs0, _, sn0, sub0, ab0, col0, dd0, ma0, mb0, mc0, md0, me0, xL0, by rfl⟩, sa0, by rw [sub_exc xL0]; rfl, tC0, kC0⟩, ⟨ga0, gg0, by rw [sub_exc xL0]; rfl, hC0, gc0, sg, tg, mO0⟩, m aC0, i0, t0, by
    intro f hf
    simp only [List.mem_cons, List.not_mem_nil, or_false] at hf
    rw [hf]
    exact n0at⟩
  have X1 : ExT K mg "BadSyntax" ["at"] C1 f1 := ⟨⟨⟨nm1, q1, N1, bs1, _, sn1, sub1, ab1, col1, dd1, ma1, mb1, mc1, md1, me1, xL1, by rfl⟩, sa1, by rw [sub_exc xL1]; rfl, tC1, kC1⟩, ⟨ga1, gg1, by rw [sub_exc xL1]; rfl, hC1, gc1, sg, tg, mO1⟩, m aC1, i1, t1, by
    intro f hf
    simp only [List.mem_cons, List.not_mem_nil, or_false] at hf
    rw [hf]
    exact n1at⟩
  have X2 : ExT K mg "BadName" ["value"] C2 f2 := ⟨⟨⟨nm2, q2, N2, bs2, _, sn2, sub2, ab2, col2, dd2, ma2, mb2, mc2, md2, me2, xL2, by rfl⟩, sa2, by rw [sub_exc xL2]; rfl, tC2, kC2⟩, ⟨ga2, gg2, by rw [sub_exc xL2]; rfl, hC2, gc2, sg, tg, mO2⟩, m aC2, i2, t2, by
    intro f hf
    simp only [List.mem_cons, List.not_mem_nil, or_false] at hf
    rw [hf]
    exact n2value⟩
  have X3 : ExT K mg "BadProject" ["place"] C3 f3 := ⟨⟨⟨nm3, q3, N3, bs3, _, sn3, sub3, ab3, col3, dd3, ma3, mb3, mc3, md3, me3, xL3, by rfl⟩, sa3, by rw [sub_exc xL3]; rfl, tC3, kC3⟩, ⟨ga3, gg3, by rw [sub_exc xL3]; rfl, hC3, gc3, sg, tg, mO3⟩, m aC3, i3, t3, by
    intro f hf
    simp only [List.mem_cons, List.not_mem_nil, or_false] at hf
    rw [hf]
    exact n3place⟩
  have X4 : ExT K mg "BadPlace" ["value"] C4 f4 := ⟨⟨⟨nm4, q4, N4, bs4, _, sn4, sub4, ab4, col4, dd4, ma4, mb4, mc4, md4, me4, xL4, by rfl⟩, sa4, by rw [sub_exc xL4]; rfl, tC4, kC4⟩, ⟨ga4, gg4, by rw [sub_exc xL4]; rfl, hC4, gc4, sg, tg, mO4⟩, m aC4, i4, t4, by
    intro f hf
    simp only [List.mem_cons, List.not_mem_nil, or_false] at hf
    rw [hf]
    exact n4value⟩
  have X5 : ExT K mg "BadEdit" ["edit"] C5 f5 := ⟨⟨⟨nm5, q5, N5, bs5, _, sn5, sub5, ab5, col5, dd5, ma5, mb5, mc5, md5, me5, xL5, by rfl⟩, sa5, by rw [sub_exc xL5]; rfl, tC5, kC5⟩, ⟨ga5, gg5, by rw [sub_exc xL5]; rfl, hC5, gc5, sg, tg, mO5⟩, m aC5, i5, t5, by
    intro f hf
    simp only [List.mem_cons, List.not_mem_nil, or_false] at hf
    rw [hf]
    exact n5edit⟩
  have X6 : ExT K mg "BadValue" ["value"] C6 f6 := ⟨⟨⟨nm6, q6, N6, bs6, _, sn6, sub6, ab6, col6, dd6, ma6, mb6, mc6, md6, me6, xL6, by rfl⟩, sa6, by rw [sub_exc xL6]; rfl, tC6, kC6⟩, ⟨ga6, gg6, by rw [sub_exc xL6]; rfl, hC6, gc6, sg, tg, mO6⟩, m aC6, i6, t6, by
    intro f hf
    simp only [List.mem_cons, List.not_mem_nil, or_false] at hf
    rw [hf]
    exact n6value⟩
  have X7 : ExT K mg "Refused" ["reason", "one", "other"] C7 f7 := ⟨⟨⟨nm7, q7, N7, bs7, _, sn7, sub7, ab7, col7, dd7, ma7, mb7, mc7, md7, me7, xL7, by rfl⟩, sa7, by rw [sub_exc xL7]; rfl, tC7, kC7⟩, ⟨ga7, gg7, by rw [sub_exc xL7]; rfl, hC7, gc7, sg, tg, mO7⟩, m aC7, i7, t7, by
    intro f hf
    simp only [List.mem_cons, List.not_mem_nil, or_false] at hf
    rcases hf with rfl | rfl | rfl
    · exact n7reason
    · exact n7one
    · exact n7other⟩
  have F0 := fun_mk (st := sI0) l0 c0 k0
  have b0 := F0.binds (ps := ["self", "at"]) fun _ _ _ _ _ _ us hl => match us, hl with | [_, _], _ => rfl
  have F1 := fun_mk (st := sI1) l1 c1 k1
  have b1 := F1.binds (ps := ["self", "at"]) fun _ _ _ _ _ _ us hl => match us, hl with | [_, _], _ => rfl
  have F2 := fun_mk (st := sI2) l2 c2 k2
  have b2 := F2.binds (ps := ["self", "value"]) fun _ _ _ _ _ _ us hl => match us, hl with | [_, _], _ => rfl
  have F3 := fun_mk (st := sI3) l3 c3 k3
  have b3 := F3.binds (ps := ["self", "place"]) fun _ _ _ _ _ _ us hl => match us, hl with | [_, _], _ => rfl
  have F4 := fun_mk (st := sI4) l4 c4 k4
  have b4 := F4.binds (ps := ["self", "value"]) fun _ _ _ _ _ _ us hl => match us, hl with | [_, _], _ => rfl
  have F5 := fun_mk (st := sI5) l5 c5 k5
  have b5 := F5.binds (ps := ["self", "edit"]) fun _ _ _ _ _ _ us hl => match us, hl with | [_, _], _ => rfl
  have F6 := fun_mk (st := sI6) l6 c6 k6
  have b6 := F6.binds (ps := ["self", "value"]) fun _ _ _ _ _ _ us hl => match us, hl with | [_, _], _ => rfl
  have F7 := fun_mk (st := sI7) l7 c7 k7
  have b7 := F7.binds (ps := ["self", "reason", "one", "other"]) fun _ _ _ _ _ _ us hl => match us, hl with | [_, _, _, _], _ => rfl
  have FP := fun_mk (st := sPool) lP cP kP
  have FT := fun_mk (st := sTake) lT cT kT
  have bP := FP.binds (ps := ["_law_script", "_law_k"]) fun _ _ _ _ _ _ us hl => match us, hl with | [_, _], _ => rfl
  have bT := FT.binds (ps := ["_law_pool_here", "_law_many"]) fun _ _ _ _ _ _ us hl => match us, hl with | [_, _], _ => rfl
  have GP : FnOk P w K mg base CX0 2 fP _ ["_law_script", "_law_k"] (spPool K) := (ok_pool (k := 1) FP (z z_len) (z z_abs) (z z_int))
  have GT : FnOk P w K mg base CX0 2 fT _ ["_law_pool_here", "_law_many"] spTake := ok_take (k := 1) FT
  have self_ : ∀ i < 8, ∀ j < 8, PySem.W.subIn K (.ref ([C0, C1, C2, C3, C4, C5, C6, C7].getD i 0)) (.ref ([C0, C1, C2, C3, C4, C5, C6, C7].getD j 0)) = some (i == j) := by
    simp only [List.nodup_cons, List.mem_cons, List.not_mem_nil, or_false, not_or, List.nodup_nil, and_true, not_false_eq_true] at nd
    obtain ⟨⟨u0, u1, u2, u3, u4, u5, u6, u7⟩, ⟨d01, d02, d03, d04, d05, d06, d07⟩, ⟨d12, d13, d14, d15, d16, d17⟩, ⟨d23, d24, d25, d26, d27⟩, ⟨d34, d35, d36, d37⟩, ⟨d45, d46, d47⟩, ⟨d56, d57⟩, d67⟩ := nd
    intro i hi j hj
    match i, hi with
    | 0, _ =>
      show PySem.W.subIn K (.ref C0) _ = _
      rw [sub_exc xL0]
      match j, hj with
      | 0, _ => simp
      | 1, _ => simp [d01, Ne.symm d01, u1, Ne.symm u1]
      | 2, _ => simp [d02, Ne.symm d02, u2, Ne.symm u2]
      | 3, _ => simp [d03, Ne.symm d03, u3, Ne.symm u3]
      | 4, _ => simp [d04, Ne.symm d04, u4, Ne.symm u4]
      | 5, _ => simp [d05, Ne.symm d05, u5, Ne.symm u5]
      | 6, _ => simp [d06, Ne.symm d06, u6, Ne.symm u6]
      | 7, _ => simp [d07, Ne.symm d07, u7, Ne.symm u7]
    | 1, _ =>
      show PySem.W.subIn K (.ref C1) _ = _
      rw [sub_exc xL1]
      match j, hj with
      | 0, _ => simp [d01, Ne.symm d01, u0, Ne.symm u0]
      | 1, _ => simp
      | 2, _ => simp [d12, Ne.symm d12, u2, Ne.symm u2]
      | 3, _ => simp [d13, Ne.symm d13, u3, Ne.symm u3]
      | 4, _ => simp [d14, Ne.symm d14, u4, Ne.symm u4]
      | 5, _ => simp [d15, Ne.symm d15, u5, Ne.symm u5]
      | 6, _ => simp [d16, Ne.symm d16, u6, Ne.symm u6]
      | 7, _ => simp [d17, Ne.symm d17, u7, Ne.symm u7]
    | 2, _ =>
      show PySem.W.subIn K (.ref C2) _ = _
      rw [sub_exc xL2]
      match j, hj with
      | 0, _ => simp [d02, Ne.symm d02, u0, Ne.symm u0]
      | 1, _ => simp [d12, Ne.symm d12, u1, Ne.symm u1]
      | 2, _ => simp
      | 3, _ => simp [d23, Ne.symm d23, u3, Ne.symm u3]
      | 4, _ => simp [d24, Ne.symm d24, u4, Ne.symm u4]
      | 5, _ => simp [d25, Ne.symm d25, u5, Ne.symm u5]
      | 6, _ => simp [d26, Ne.symm d26, u6, Ne.symm u6]
      | 7, _ => simp [d27, Ne.symm d27, u7, Ne.symm u7]
    | 3, _ =>
      show PySem.W.subIn K (.ref C3) _ = _
      rw [sub_exc xL3]
      match j, hj with
      | 0, _ => simp [d03, Ne.symm d03, u0, Ne.symm u0]
      | 1, _ => simp [d13, Ne.symm d13, u1, Ne.symm u1]
      | 2, _ => simp [d23, Ne.symm d23, u2, Ne.symm u2]
      | 3, _ => simp
      | 4, _ => simp [d34, Ne.symm d34, u4, Ne.symm u4]
      | 5, _ => simp [d35, Ne.symm d35, u5, Ne.symm u5]
      | 6, _ => simp [d36, Ne.symm d36, u6, Ne.symm u6]
      | 7, _ => simp [d37, Ne.symm d37, u7, Ne.symm u7]
    | 4, _ =>
      show PySem.W.subIn K (.ref C4) _ = _
      rw [sub_exc xL4]
      match j, hj with
      | 0, _ => simp [d04, Ne.symm d04, u0, Ne.symm u0]
      | 1, _ => simp [d14, Ne.symm d14, u1, Ne.symm u1]
      | 2, _ => simp [d24, Ne.symm d24, u2, Ne.symm u2]
      | 3, _ => simp [d34, Ne.symm d34, u3, Ne.symm u3]
      | 4, _ => simp
      | 5, _ => simp [d45, Ne.symm d45, u5, Ne.symm u5]
      | 6, _ => simp [d46, Ne.symm d46, u6, Ne.symm u6]
      | 7, _ => simp [d47, Ne.symm d47, u7, Ne.symm u7]
    | 5, _ =>
      show PySem.W.subIn K (.ref C5) _ = _
      rw [sub_exc xL5]
      match j, hj with
      | 0, _ => simp [d05, Ne.symm d05, u0, Ne.symm u0]
      | 1, _ => simp [d15, Ne.symm d15, u1, Ne.symm u1]
      | 2, _ => simp [d25, Ne.symm d25, u2, Ne.symm u2]
      | 3, _ => simp [d35, Ne.symm d35, u3, Ne.symm u3]
      | 4, _ => simp [d45, Ne.symm d45, u4, Ne.symm u4]
      | 5, _ => simp
      | 6, _ => simp [d56, Ne.symm d56, u6, Ne.symm u6]
      | 7, _ => simp [d57, Ne.symm d57, u7, Ne.symm u7]
    | 6, _ =>
      show PySem.W.subIn K (.ref C6) _ = _
      rw [sub_exc xL6]
      match j, hj with
      | 0, _ => simp [d06, Ne.symm d06, u0, Ne.symm u0]
      | 1, _ => simp [d16, Ne.symm d16, u1, Ne.symm u1]
      | 2, _ => simp [d26, Ne.symm d26, u2, Ne.symm u2]
      | 3, _ => simp [d36, Ne.symm d36, u3, Ne.symm u3]
      | 4, _ => simp [d46, Ne.symm d46, u4, Ne.symm u4]
      | 5, _ => simp [d56, Ne.symm d56, u5, Ne.symm u5]
      | 6, _ => simp
      | 7, _ => simp [d67, Ne.symm d67, u7, Ne.symm u7]
    | 7, _ =>
      show PySem.W.subIn K (.ref C7) _ = _
      rw [sub_exc xL7]
      match j, hj with
      | 0, _ => simp [d07, Ne.symm d07, u0, Ne.symm u0]
      | 1, _ => simp [d17, Ne.symm d17, u1, Ne.symm u1]
      | 2, _ => simp [d27, Ne.symm d27, u2, Ne.symm u2]
      | 3, _ => simp [d37, Ne.symm d37, u3, Ne.symm u3]
      | 4, _ => simp [d47, Ne.symm d47, u4, Ne.symm u4]
      | 5, _ => simp [d57, Ne.symm d57, u5, Ne.symm u5]
      | 6, _ => simp [d67, Ne.symm d67, u6, Ne.symm u6]
      | 7, _ => simp
  have kit : ∀ i < 8, ∀ j < 8, PySem.W.kitOne K (.ref ([C0, C1, C2, C3, C4, C5, C6, C7].getD i 0)) (.ref ([C0, C1, C2, C3, C4, C5, C6, C7].getD j 0)) = some (i == j) := by
    intro i hi j hj
    refine kit_ref (self_ i hi j hj) (by simpa using self_ i hi i hi) ?_ ?_
    · match j, hj with
      | 0, _ => exact iC0
      | 1, _ => exact iC1
      | 2, _ => exact iC2
      | 3, _ => exact iC3
      | 4, _ => exact iC4
      | 5, _ => exact iC5
      | 6, _ => exact iC6
      | 7, _ => exact iC7
    · match j, hj with
      | 0, _ => exact tC0
      | 1, _ => exact tC1
      | 2, _ => exact tC2
      | 3, _ => exact tC3
      | 4, _ => exact tC4
      | 5, _ => exact tC5
      | 6, _ => exact tC6
      | 7, _ => exact tC7
  have kitK : ∀ i < 8, PySem.W.kitOne K (.ref ([C0, C1, C2, C3, C4, C5, C6, C7].getD i 0)) (.ref cK) = some true := by
    intro i hi
    refine kit_ref ?_ (by simpa using self_ i hi i hi) iK tK
    match i, hi with
    | 0, _ => exact (sub_exc xL0 _).trans (by simp)
    | 1, _ => exact (sub_exc xL1 _).trans (by simp)
    | 2, _ => exact (sub_exc xL2 _).trans (by simp)
    | 3, _ => exact (sub_exc xL3 _).trans (by simp)
    | 4, _ => exact (sub_exc xL4 _).trans (by simp)
    | 5, _ => exact (sub_exc xL5 _).trans (by simp)
    | 6, _ => exact (sub_exc xL6 _).trans (by simp)
    | 7, _ => exact (sub_exc xL7 _).trans (by simp)
  have kitV : ∀ i < 8, PySem.W.kitOne K (.ref ([C0, C1, C2, C3, C4, C5, C6, C7].getD i 0)) (.type "ValueError") = some true := by
    intro i hi
    refine kit_type ?_ (by decide +kernel)
    match i, hi with
    | 0, _ => exact (sub_exc xL0 _).trans (by rfl)
    | 1, _ => exact (sub_exc xL1 _).trans (by rfl)
    | 2, _ => exact (sub_exc xL2 _).trans (by rfl)
    | 3, _ => exact (sub_exc xL3 _).trans (by rfl)
    | 4, _ => exact (sub_exc xL4 _).trans (by rfl)
    | 5, _ => exact (sub_exc xL5 _).trans (by rfl)
    | 6, _ => exact (sub_exc xL6 _).trans (by rfl)
    | 7, _ => exact (sub_exc xL7 _).trans (by rfl)
  have kitL : PySem.W.kitOne K (.ref C0) (.type "LookupError") = some false := kit_type ((sub_exc xL0 _).trans (by rfl)) (by decide +kernel)
  refine fn_at lL cL scLaw "_law_script" rfl e0 (.of_eq rfl) ?_
  exact go_law (C := fun n => [C0, C1, C2, C3, C4, C5, C6, C7].getD n 0) (I := fun n => [f0, f1, f2, f3, f4, f5, f6, f7].getD n 0) (fdI := fun n => match n with | 0 => _ | 1 => _ | 2 => _ | 3 => _ | 4 => _ | 5 => _ | 6 => _ | _ => _) T X0 X1 X2 X3 X4 X5 X6 X7 GP GT (ok_i0 F0 X0) (ok_i1 F1 X1) (ok_i2 F2 X2) (ok_i3 F3 X3) (ok_i4 F4 X4) (ok_i5 F5 X5) (ok_i6 F6 X6) (ok_i7 F7 X7) bP bT b0 b1 b2 b3 b4 b5 b6 b7 kit kitK kitV kitL hS hlen hbits
end KB
open PySem PySem.W PyProof.Rows
set_option maxRecDepth 100000 in
set_option maxHeartbeats 0 in
theorem PySem.Challenge.cw_keptbindings_k12_classes_of_errors_holds : PySem.Challenge.rw_keptbindings_k12_classes_of_errors.Holds := by
  w_on; o_law; k_head; (case hw => w_witness2)
  k_fill
  refine KB.walk_at (l := PySem.Challenge.rw_keptbindings_k12_classes_of_errors) rfl rfl (fun w h Y => PySem.W.kIn_of Y) ?F
  case F =>
    intro w mg fa a s ns base H KX G hmg hlen hbits e0 hS
    refine' KB.all_mk KX G hmg hlen hbits e0 hS ?aK ?iK ?tK ?aC0 ?xL0 ?sa0 ?ga0 ?gg0 ?gc0 ?n0at ?i0 ?t0 ?l0 ?c0 ?k0 ?kC0 ?tC0 ?hC0 ?iC0 ?mO0 ?aC1 ?xL1 ?sa1 ?ga1 ?gg1 ?gc1 ?n1at ?i1 ?t1 ?l1 ?c1 ?k1 ?kC1 ?tC1 ?hC1 ?iC1 ?mO1 ?aC2 ?xL2 ?sa2 ?ga2 ?gg2 ?gc2 ?n2value ?i2 ?t2 ?l2 ?c2 ?k2 ?kC2 ?tC2 ?hC2 ?iC2 ?mO2 ?aC3 ?xL3 ?sa3 ?ga3 ?gg3 ?gc3 ?n3place ?i3 ?t3 ?l3 ?c3 ?k3 ?kC3 ?tC3 ?hC3 ?iC3 ?mO3 ?aC4 ?xL4 ?sa4 ?ga4 ?gg4 ?gc4 ?n4value ?i4 ?t4 ?l4 ?c4 ?k4 ?kC4 ?tC4 ?hC4 ?iC4 ?mO4 ?aC5 ?xL5 ?sa5 ?ga5 ?gg5 ?gc5 ?n5edit ?i5 ?t5 ?l5 ?c5 ?k5 ?kC5 ?tC5 ?hC5 ?iC5 ?mO5 ?aC6 ?xL6 ?sa6 ?ga6 ?gg6 ?gc6 ?n6value ?i6 ?t6 ?l6 ?c6 ?k6 ?kC6 ?tC6 ?hC6 ?iC6 ?mO6 ?aC7 ?xL7 ?sa7 ?ga7 ?gg7 ?gc7 ?n7reason ?n7one ?n7other ?i7 ?t7 ?l7 ?c7 ?k7 ?kC7 ?tC7 ?hC7 ?iC7 ?mO7 ?sg ?tg ?aP ?lP ?cP ?kP ?aT ?lT ?cT ?kT ?aL ?lL ?cL ?kL ?z_range ?z_max ?z_min ?z_len ?z_abs ?z_int ?z_enumerate ?z_isinstance ?z_repr ?z_ValueError ?z_LookupError ?nd
    (case aK => k_is)
    (case iK => k_is)
    (case tK => k_is)
    (case aC0 => k_is)
    (case xL0 => k_is)
    (case sa0 => k_is)
    (case ga0 => k_is)
    (case gg0 => k_is)
    (case gc0 => k_is)
    (case n0at => k_is)
    (case i0 => k_is)
    (case t0 => k_is)
    (case l0 => k_is)
    (case c0 => k_is)
    (case k0 => k_is)
    (case kC0 => k_is)
    (case tC0 => k_is)
    (case hC0 => k_is)
    (case iC0 => k_is)
    (case mO0 => k_is)
    (case aC1 => k_is)
    (case xL1 => k_is)
    (case sa1 => k_is)
    (case ga1 => k_is)
    (case gg1 => k_is)
    (case gc1 => k_is)
    (case n1at => k_is)
    (case i1 => k_is)
    (case t1 => k_is)
    (case l1 => k_is)
    (case c1 => k_is)
    (case k1 => k_is)
    (case kC1 => k_is)
    (case tC1 => k_is)
    (case hC1 => k_is)
    (case iC1 => k_is)
    (case mO1 => k_is)
    (case aC2 => k_is)
    (case xL2 => k_is)
    (case sa2 => k_is)
    (case ga2 => k_is)
    (case gg2 => k_is)
    (case gc2 => k_is)
    (case n2value => k_is)
    (case i2 => k_is)
    (case t2 => k_is)
    (case l2 => k_is)
    (case c2 => k_is)
    (case k2 => k_is)
    (case kC2 => k_is)
    (case tC2 => k_is)
    (case hC2 => k_is)
    (case iC2 => k_is)
    (case mO2 => k_is)
    (case aC3 => k_is)
    (case xL3 => k_is)
    (case sa3 => k_is)
    (case ga3 => k_is)
    (case gg3 => k_is)
    (case gc3 => k_is)
    (case n3place => k_is)
    (case i3 => k_is)
    (case t3 => k_is)
    (case l3 => k_is)
    (case c3 => k_is)
    (case k3 => k_is)
    (case kC3 => k_is)
    (case tC3 => k_is)
    (case hC3 => k_is)
    (case iC3 => k_is)
    (case mO3 => k_is)
    (case aC4 => k_is)
    (case xL4 => k_is)
    (case sa4 => k_is)
    (case ga4 => k_is)
    (case gg4 => k_is)
    (case gc4 => k_is)
    (case n4value => k_is)
    (case i4 => k_is)
    (case t4 => k_is)
    (case l4 => k_is)
    (case c4 => k_is)
    (case k4 => k_is)
    (case kC4 => k_is)
    (case tC4 => k_is)
    (case hC4 => k_is)
    (case iC4 => k_is)
    (case mO4 => k_is)
    (case aC5 => k_is)
    (case xL5 => k_is)
    (case sa5 => k_is)
    (case ga5 => k_is)
    (case gg5 => k_is)
    (case gc5 => k_is)
    (case n5edit => k_is)
    (case i5 => k_is)
    (case t5 => k_is)
    (case l5 => k_is)
    (case c5 => k_is)
    (case k5 => k_is)
    (case kC5 => k_is)
    (case tC5 => k_is)
    (case hC5 => k_is)
    (case iC5 => k_is)
    (case mO5 => k_is)
    (case aC6 => k_is)
    (case xL6 => k_is)
    (case sa6 => k_is)
    (case ga6 => k_is)
    (case gg6 => k_is)
    (case gc6 => k_is)
    (case n6value => k_is)
    (case i6 => k_is)
    (case t6 => k_is)
    (case l6 => k_is)
    (case c6 => k_is)
    (case k6 => k_is)
    (case kC6 => k_is)
    (case tC6 => k_is)
    (case hC6 => k_is)
    (case iC6 => k_is)
    (case mO6 => k_is)
    (case aC7 => k_is)
    (case xL7 => k_is)
    (case sa7 => k_is)
    (case ga7 => k_is)
    (case gg7 => k_is)
    (case gc7 => k_is)
    (case n7reason => k_is)
    (case n7one => k_is)
    (case n7other => k_is)
    (case i7 => k_is)
    (case t7 => k_is)
    (case l7 => k_is)
    (case c7 => k_is)
    (case k7 => k_is)
    (case kC7 => k_is)
    (case tC7 => k_is)
    (case hC7 => k_is)
    (case iC7 => k_is)
    (case mO7 => k_is)
    (case sg => k_is)
    (case tg => k_is)
    (case aP => k_is)
    (case lP => k_is)
    (case cP => k_is)
    (case kP => k_is)
    (case aT => k_is)
    (case lT => k_is)
    (case cT => k_is)
    (case kT => k_is)
    (case aL => k_is)
    (case lL => k_is)
    (case cL => k_is)
    (case kL => k_is)
    (case z_range => k_is)
    (case z_max => k_is)
    (case z_min => k_is)
    (case z_len => k_is)
    (case z_abs => k_is)
    (case z_int => k_is)
    (case z_enumerate => k_is)
    (case z_isinstance => k_is)
    (case z_repr => k_is)
    (case z_ValueError => k_is)
    (case z_LookupError => k_is)
    (case nd => decide)
