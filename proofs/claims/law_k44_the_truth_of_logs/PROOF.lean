
import PyProof.Rows.All
import Wide.All
import OpenK.AllK
import Wide.FinOn
import PySem.Challenge.RW_pagelend_k44_the_truth_of_logs
import HandS.ForMost
import HandS.Wide
import HandS.Defaults
import HandS.MakeKwOnly
import HandS.IsInst
import HandS.Codes
import HandS.Walk
import HandS.TupAny
import HandS.More
import HandS.Sort
import HandS.Conv
import HandS.HotCalls
import HandS.ExcIs
import KE.KSortTupAny
import HandS.DictComp
import HandS.Deep
import HandS.Rev
import KE.KDictKeyed
set_option Elab.async false
set_option linter.all false
set_option maxRecDepth 100000
set_option maxHeartbeats 1000000
namespace My
open PySem PySem.Spec PyProof.Rows L2
def topS (i : Nat) : Stmt := PySem.Challenge.pw_pagelend_k44_the_truth_of_logs.main.body.getD i (.Pass ⟨0, 0, 0, 0⟩)
structure Fre (K : PySem.W.Frag) (mg : Str → Option Value) : Prop where
  abs : mg "abs" = none
  bool : mg "bool" = none
  enumerate : mg "enumerate" = none
  int : mg "int" = none
  isinstance : mg "isinstance" = none
  len : mg "len" = none
  list : mg "list" = none
  min : mg "min" = none
  range : mg "range" = none
  reversed : mg "reversed" = none
/-! ### calls with keywords, a def kept as its promise -/
structure CalN (P : Program) (w : World) (K : PySem.W.Frag) (mg : Str → Option Value) (base : Heap) (k : Nat) (x : Str) (sp : Sp) (n : Nat) (ks : List Str) (gV : List V → List V → List V) : Prop where
  ex : ∃ (f : Addr) (fd : FuncData) (ps : List Str) (g : List Value → List Value → List Value), FnOk P w K mg base CX0 k f fd ps sp ∧ mg x = some (.ref f) ∧ PySem.W.keepIn K (.ref f) = true ∧ KBn K fd ps n ks g gV
section
variable {X : Cx} {k j n : Nat} {x : Str} {sp : Sp} {ks : List Str} {gV : List V → List V → List V} {p pos : Pos} {e : Expr} {es : List Expr} {kws : List Keyword} {t tk : TA}
theorem pe_cn (c : CalN X.prog X.w X.K X.mg X.base k x sp n ks gV) (hr : Room j X.A) (hk : k ≤ j) (hg : Gl X x) (ha : PA X (e :: es) t) (hkw : PK X kws tk)
    (hall : (backToKw pos (keywordEach kws X.env)).all (·.1.isSome) = true := by rfl) (hks : (backToKw pos (keywordEach kws X.env)).filterMap (·.1) = ks := by rfl)
    (hdb : (x == ("__debug__" : Str)) = false := by decide) (he : starEach (e :: es) X.env = (false, eval e X.env) :: starEach es X.env := by rfl)
    (hpl : ((backTo pos (starEach (e :: es) X.env)).any (·.1) || (backToKw pos (keywordEach kws X.env)).any (·.1.isNone)) = false := by rfl) :
    PE X (.Call (.Name x p) (e :: es) kws pos) (tCallN n ks.length sp gV E0 t tk) := by
  obtain ⟨f, fd, ps, g, F, hm, kp, b⟩ := c.ex
  exact pe_callN F (hr.mono hk) hg hm kp b pass0 ha hkw hall hks hdb he hpl
theorem pe_cn0 (c : CalN X.prog X.w X.K X.mg X.base k x sp 0 ks gV) (hr : Room j X.A) (hk : k ≤ j) (hg : Gl X x) (hkw : PK X kws tk)
    (hall : (backToKw pos (keywordEach kws X.env)).all (·.1.isSome) = true := by rfl) (hks : (backToKw pos (keywordEach kws X.env)).filterMap (·.1) = ks := by rfl)
    (hdb : (x == ("__debug__" : Str)) = false := by decide)
    (hpl : ((backTo pos (starEach [] X.env)).any (·.1) || (backToKw pos (keywordEach kws X.env)).any (·.1.isNone)) = false := by rfl) :
    PE X (.Call (.Name x p) [] kws pos) (tCallN 0 ks.length sp gV E0 tNil tk) := by
  obtain ⟨f, fd, ps, g, F, hm, kp, b⟩ := c.ex
  refine ⟨fun pins s σ H Q I h => ?_⟩
  refine wpAny_Call_Name_kw (ld_glob I hg hm ?_ hdb)
  refine PySem.W.callWith_KW0 (h₀ := X.base) I.ok.mod.kin kp hall ?_ hpl
  refine thn (hkw.run pos pins s σ H _ I h) fun ws s2 ⟨zs, H2, I2, rz, l1, l2, q2⟩ => ⟨I2.kIn, ?_⟩
  rw [hks]
  exact run_fnN (us := []) (vs := []) F (hr.mono hk) b pass0 I2 .nil rz rfl l2 q2
end
section
variable {P : Program} {w : World} {K : PySem.W.Frag} {mg : Str → Option Value} {base : Heap}
theorem mkCal {x : Str} {st : Stmt} {f : Addr} {fd : FuncData} {N ps : List Str} {k : Nat} {sp : Sp} (F : Fun K x x st f fd) (gm : mg x = some (.ref f)) (S : FnScope N ps (defScope st)) (b : Binds K fd ps []) (len : ∀ vs H Q E, sp vs H Q E → vs.length = ps.length)
    (hbody : ∀ (cdv : Value) (A : Around) (outer : List Env) (s : Shared) (H : Hp) (vs : List V) (Q : VK) (E : XK), Room k (A.deeper (envOfC x (defScope st) s.heap.objs.size f cdv)) → sp vs H Q E →
      ∃ t, PSs (cxOf CX0 P w K mg base N x (defScope st) f cdv A outer s H E).nox (defBody st) t ∧ t { nx := fun _ H' => Q .non H', rt := Q } (start N vs) H) : C8.Cal P w K mg base (k + 1) x sp [] :=
  ⟨f, fd, ps, [], F.ok S len hbody, gm, F.kp, b, .nil⟩
end
/-! ### heaps -/
def But (b : Addr) (H H' : Hp) : Prop := ∀ a o, a ≠ b → H a = some o → H' a = some o
theorem But.trans {b : Addr} {H H1 H2 : Hp} (h : But b H H1) (g : But b H1 H2) : But b H H2 := fun a o n e => g a o n (h a o n e)
theorem But.refl (b : Addr) (H : Hp) : But b H H := fun _ _ _ e => e
theorem But.put {b : Addr} {H : Hp} {o : HO} : But b H (L2.upd H b o) := fun a _ n e => by rw [upd_ne n]; exact e
theorem But.new {b p : Addr} {H : Hp} {o : HO} (h : H p = none) : But b H (L2.upd H p o) := fun a _ n e => by rw [upd_ne (ne_of_none e h)]; exact e
theorem same_upd {H : Hp} {p : Addr} {o : HO} (h : H p = none) : Same H (upd H p o) := fun b x e => by
  rw [upd_ne (ne_of_none e h)]
  exact e
def Bag (H : Hp) (b : Addr) : Prop := ∃ x y : Int, H b = some (.lst [.int x, .int y]) ∧ 0 ≤ x ∧ 0 ≤ y ∧ y < 2147483647
theorem Bag.new {H : Hp} {b p : Addr} {o : HO} (g : Bag H b) (h : H p = none) : Bag (L2.upd H p o) b := by
  obtain ⟨x, y, e, r⟩ := g
  exact ⟨x, y, by rw [upd_ne (ne_of_none e h)]; exact e, r⟩
theorem Bag.ne {H : Hp} {b p : Addr} (g : Bag H b) (h : H p = none) : p ≠ b := by
  obtain ⟨x, y, e, r⟩ := g
  exact (ne_of_none e h).symm
theorem Bag.ne_tup {H : Hp} {b p : Addr} {xs : List V} (g : Bag H b) (h : H p = some (.tup xs)) : p ≠ b := by
  obtain ⟨x, y, e, r⟩ := g
  exact ne_of h e (by intro z; cases z)
theorem seqBut {K : PySem.W.Frag} {H H' : Hp} {a b : Addr} {xs : List V} (e : But b H H') (n : a ≠ b) (h : SqL K H a xs) : SqL K H' a xs := by
  rcases h with (h | ⟨o, h⟩) | h
  · exact .inl (.inl (e _ _ n h))
  · exact .inl (.inr ⟨o, e _ _ n h⟩)
  · exact .inr h
theorem dT {a : Bool} {b : Bool} (h : a = b) : decide (V.bl a = V.bl b) = true := by rw [h]; exact decide_eq_true rfl
theorem two_ok (a b : V) : [a, b].length ≤ sizeLine := by show 2 ≤ sizeLine; decide
theorem three_ok (a b c : V) : [a, b, c].length ≤ sizeLine := by show 3 ≤ sizeLine; decide
theorem four_ok (a b c d : V) : [a, b, c, d].length ≤ sizeLine := by show 4 ≤ sizeLine; decide
theorem free_of {b p : Addr} {H H' : Hp} (g : But b H H') (hB : Bag H b) (hB' : Bag H' b) (np : H' p = none) : H p = none := by
  cases e : H p with
  | none => rfl
  | some o =>
    have z := g p o (hB'.ne np) e
    rw [np] at z
    cases z
theorem same_but {b : Addr} {H0 H1 H2 : Hp} (sm : Same H0 H1) (nb : H0 b = none) (g : But b H1 H2) : Same H0 H2 := fun c o e => g c o (ne_of_none e nb) (sm c o e)
theorem iteD {p A B : Prop} [Decidable p] (h : ¬ p) (b : B) : if decide p = true then A else B := by
  rw [if_neg (by rw [decide_eq_false h]; exact Bool.false_ne_true)]
  exact b
theorem iteD' {p A B : Prop} [Decidable p] (h : p) (b : A) : if decide p = true then A else B := by
  rw [if_pos (decide_eq_true h)]
  exact b
theorem vone {vs : List V} {us : List Value} (i : Nat) (r : Vals vs us) : Vals ((vs.drop i).take 1) ((us.drop i).take 1) := by
  exact (r.drop i).take 1
section
variable {P : Program} {w : World} {K : PySem.W.Frag} {mg : Str → Option Value} {base : Heap}

/-! ### _law_take: any draw below many -/
abbrev s__law_take : Stmt := topS 6
theorem sc__law_take : FnScope ["bag", "many", "found"] ["bag", "many"] (defScope s__law_take) := ⟨rfl, rfl, rfl, by decide +kernel, rfl, by decide +kernel, by decide +kernel⟩
def sp_law_take : Sp := fun vs H Q _ => ∃ (b : Addr) (m : Int), vs = [.ref b, .int m] ∧ Bag H b ∧ 0 < m ∧ m < 2 ^ 200 ∧ ∀ r H', 0 ≤ r → r < m → But b H H' → Bag H' b → Q (.int r) H'
theorem ok__law_take {f : Addr} {fd : FuncData} (F : Fun K "_law_take" "_law_take" s__law_take f fd) (gm : mg "_law_take" = some (.ref f)) (N : Fre K mg)  : C8.Cal P w K mg base 1 "_law_take" sp_law_take [] := by
  refine mkCal F gm sc__law_take (F.binds (ps := ["bag", "many"]) fun _ _ _ _ _ _ us hl => match us, hl with | [_, _], _ => rfl) (fun vs H Q E h => ?_) (fun cdv A outer s H vs Q E hr h => ?_)
  · obtain ⟨b, m, rfl, _⟩ := h
    rfl
  · obtain ⟨b, m, rfl, ⟨x, y, hb, hx, hy, hy2⟩, hm, hm2, q⟩ := h
    refine ⟨_, (pss_cons (ps_if (pt_cmpR op_gt (pe_ix ix_list (pv 0) pe_int (fun _ _ => rfl)) pe_int (nomark _))
 (pss_cons (ps_set (i := 2) sc__law_take.nd rfl (.inl rfl) (pe_op op_mod (pe_ix ix_list (pv 0) pe_int (fun _ _ => rfl)) (pv 1)))
 (pss_cons (ps_asg (pe_op op_fdivW (pe_ix ix_list (pv 0) pe_int (fun _ _ => rfl)) (pv 1)) (pg_sub (pv 0) pe_int set_list))
 (pss_one (ps_ret (pv 2)))))
 pss_nil)
 (pss_cons (ps_asg (pe_op op_mod (pe_op op_mul (pe_ix ix_list (pv 0) pe_int (fun _ _ => rfl)) pe_int) pe_int) (pg_sub (pv 0) pe_int set_list))
 (pss_one (ps_ret (pe_op op_mod (pe_op op_fdiv (pe_op op_mod (pe_op op_mul (pe_ix ix_list (pv 0) pe_int (fun _ _ => rfl)) (pe_ix ix_list (pv 0) pe_int (fun _ _ => rfl))) pe_int) pe_int) (pv 1)))))), ?_⟩
    refine ⟨_, rfl, b, _, 0, .int x, rfl, rfl, SqL.of hb, atI_nat (j := 0) rfl, x, 0, rfl, rfl, _, rfl, ite2 (fun e => ?_) (fun e => ?_)⟩
    · have hx0 : 0 < x := of_decide_eq_true e
      refine ⟨_, rfl, b, _, 0, .int x, rfl, rfl, SqL.of hb, atI_nat (j := 0) rfl, _, rfl, x, m, rfl, rfl, hm, ?_⟩
      refine ⟨_, rfl, b, _, 0, .int x, rfl, rfl, SqL.of hb, atI_nat (j := 0) rfl, _, rfl, x, m, rfl, rfl, wide_div (b := 200) hm (by omega) (by decide) (by decide), _, rfl, b, _, 0, 0, rfl, rfl, hb, rfl, ?_⟩
      refine ⟨_, rfl, q _ _ (Int.emod_nonneg _ (by omega)) (Int.emod_lt_of_pos _ hm) But.put ⟨x / m, y, upd_same, Int.ediv_nonneg hx (by omega), hy, hy2⟩⟩
    · refine ⟨_, rfl, b, _, 1, .int y, rfl, rfl, SqL.of hb, atI_nat (j := 1) rfl, y, 48271, rfl, rfl, .inr ⟨by decide, by decide⟩, _, 2147483647, rfl, rfl, (by show (0 : Int) < 2147483647; decide), _, rfl, b, _, 1, 1, rfl, rfl, hb, rfl, ?_⟩
      have hb2 : (upd H b (.lst ([V.int x, V.int y].set 1 (.int (y * 48271 % 2147483647))))) b = some (.lst [.int x, .int (y * 48271 % 2147483647)]) := upd_same
      have hz1 : 0 ≤ y * 48271 % 2147483647 := Int.emod_nonneg _ (by decide)
      have hz2 : y * 48271 % 2147483647 < 2147483647 := Int.emod_lt_of_pos _ (by decide)
      refine ⟨_, rfl, b, _, 1, _, rfl, rfl, SqL.of hb2, atI_nat (j := 1) rfl, _, rfl, b, _, 1, _, rfl, rfl, SqL.of hb2, atI_nat (j := 1) rfl, _, _, rfl, rfl, .inl ⟨by omega, by omega⟩, _, 2147483629, rfl, rfl, (by show (0 : Int) < 2147483629; decide), _, 64, rfl, rfl, ⟨by decide, by decide⟩, _, rfl, _, m, rfl, rfl, hm, ?_⟩
      exact q _ _ (Int.emod_nonneg _ (by omega)) (Int.emod_lt_of_pos _ hm) But.put ⟨x, _, hb2, hx, hz1, hz2⟩
/-! ### _law_bag -/
abbrev s__law_bag : Stmt := topS 5
theorem sc__law_bag : FnScope ["script", "k", "cell"] ["script", "k"] (defScope s__law_bag) := ⟨rfl, rfl, rfl, by decide +kernel, rfl, by decide +kernel, by decide +kernel⟩
def sp_law_bag (K : PySem.W.Frag) : Sp := fun vs H Q _ => ∃ (a : Addr) (ns : List Int) (k : Int), vs = [.ref a, .int k] ∧ SqL K H a (ns.map V.int) ∧ 0 ≤ k ∧ k < 100 ∧ ∀ p H', H p = none → Same H H' → Bag H' p → Q (.ref p) H'
theorem bag_pos (c k : Int) (n : Int) : 0 ≤ 1 + (c + k) % 2147483646 ∧ 1 + (c + k) % 2147483646 < 2147483647 := by
  have h1 : 0 ≤ (c + k) % 2147483646 := Int.emod_nonneg _ (by decide)
  have h2 : (c + k) % 2147483646 < 2147483646 := Int.emod_lt_of_pos _ (by decide)
  omega
theorem ok__law_bag {f : Addr} {fd : FuncData} (F : Fun K "_law_bag" "_law_bag" s__law_bag f fd) (gm : mg "_law_bag" = some (.ref f)) (N : Fre K mg)  : C8.Cal P w K mg base 1 "_law_bag" (sp_law_bag K) [] := by
  refine mkCal F gm sc__law_bag (F.binds (ps := ["script", "k"]) fun _ _ _ _ _ _ us hl => match us, hl with | [_, _], _ => rfl) (fun vs H Q E h => ?_) (fun cdv A outer s H vs Q E hr h => ?_)
  · obtain ⟨a, ns, k, rfl, _⟩ := h
    rfl
  · obtain ⟨a, ns, k, rfl, hS, hk, hk2, q⟩ := h
    refine ⟨_, (pss_cons (ps_set (i := 2) sc__law_bag.nd rfl (.inl rfl) pe_int)
 (pss_cons (ps_if (pt_cmpR op_lt (pv 1) (pe_callB call_len_seq (by rfl) N.len (by decide +kernel) (pa_cons (pv 0) pa_nil)) (nomark _))
 (pss_one (ps_set (i := 2) sc__law_bag.nd rfl (.inl rfl) (pe_callB call_abs (by rfl) N.abs (by decide +kernel) (pa_cons (pe_ix ix_list (pv 0) (pv 1) (fun _ _ => rfl)) pa_nil))))
 pss_nil)
 (pss_cons (ps_if (pt_cmpR op_lt (pv 2) (pe_op op_pow pe_int pe_int) (nomark _))
 (pss_one (ps_ret (pe_lst (pa_cons pe_int (pa_cons (pe_op op_add pe_int (pe_op op_mod (pe_op op_add (pe_op op_mul (pv 2) pe_int) (pe_op op_mul pe_int (pv 1))) pe_int)) pa_nil)))))
 pss_nil)
 (pss_one (ps_ret (pe_lst (pa_cons (pv 2) (pa_cons (pe_op op_add pe_int (pe_op op_mod (pe_op op_add (pv 2) (pv 1)) pe_int)) pa_nil)))))))), ?_⟩
    refine ⟨_, rfl, _, rfl, a, _, rfl, .inl hS, k, _, rfl, rfl, _, rfl, ite2 (fun e => ?_) (fun e => ?_)⟩
    · have hlt : k.toNat < ns.length := by
        have e1 := of_decide_eq_true e
        rw [List.length_map] at e1
        omega
      have g1 : (ns.map V.int)[k.toNat]? = some (.int ns[k.toNat]) := by
        rw [List.getElem?_map, List.getElem?_eq_getElem hlt]
        rfl
      generalize ns[k.toNat] = c at g1
      have g2 : atI (ns.map V.int) k = some (.int c) := by
        have e2 : ((k.toNat : Nat) : Int) = k := by omega
        rw [← e2]
        exact atI_nat g1
      refine ⟨_, rfl, _, rfl, a, _, k, _, rfl, rfl, hS, g2, c, rfl, ?_⟩
      have hc : 0 ≤ (if c < 0 then -c else c) := by split <;> omega
      generalize (if c < 0 then -c else c) = d at hc
      refine ⟨_, rfl, 10, 18, rfl, rfl, ⟨by decide, by decide, by decide⟩, d, _, rfl, rfl, _, rfl, ite2 (fun e2 => ?_) (fun e2 => ?_)⟩
      · refine ⟨_, rfl, d, 7919, rfl, rfl, .inr ⟨by decide, by decide⟩, _, rfl, 104729, k, rfl, rfl, .inl ⟨by decide, by decide⟩, _, _, rfl, rfl, _, _, rfl, rfl, (by show (0 : Int) < 2147483646; decide), 1, _, rfl, rfl, two_ok _ _, fun p np => ?_⟩
        exact q p _ np (same_upd np) ⟨0, _, upd_same, by decide, bag_pos _ _ 0⟩
      · refine ⟨_, rfl, _, rfl, _, rfl, d, k, rfl, rfl, _, _, rfl, rfl, (by show (0 : Int) < 2147483646; decide), 1, _, rfl, rfl, two_ok _ _, fun p np => ?_⟩
        exact q p _ np (same_upd np) ⟨d, _, upd_same, hc, bag_pos _ _ 0⟩
    · refine ⟨_, rfl, 10, 18, rfl, rfl, ⟨by decide, by decide, by decide⟩, 0, _, rfl, rfl, _, rfl, ite2 (fun e2 => ?_) (fun e2 => ?_)⟩
      · refine ⟨_, rfl, 0, 7919, rfl, rfl, .inr ⟨by decide, by decide⟩, _, rfl, 104729, k, rfl, rfl, .inl ⟨by decide, by decide⟩, _, _, rfl, rfl, _, _, rfl, rfl, (by show (0 : Int) < 2147483646; decide), 1, _, rfl, rfl, two_ok _ _, fun p np => ?_⟩
        exact q p _ np (same_upd np) ⟨0, _, upd_same, by decide, bag_pos _ _ 0⟩
      · refine ⟨_, rfl, _, rfl, _, rfl, 0, k, rfl, rfl, _, _, rfl, rfl, (by show (0 : Int) < 2147483646; decide), 1, _, rfl, rfl, two_ok _ _, fun p np => ?_⟩
        exact q p _ np (same_upd np) ⟨0, _, upd_same, by decide, bag_pos _ _ 0⟩

/-! ### data: what stands at a value -/
theorem sqT_same {H H' : Hp} {a : Addr} {xs : List V} (e : Same H H') (h : SqT K H a xs) : SqT K H' a xs := by
  rcases h with (h | ⟨o, h⟩) | h
  · exact .inl (.inl (e _ _ h))
  · exact .inl (.inr ⟨o, e _ _ h⟩)
  · exact .inr h
mutual
theorem dp_same {H H' : Hp} (e : Same H H') : ∀ (d : PyData) (v : V), Dp K H v d → Dp K H' v d
  | .none, _, h => by cases h; exact .non
  | .bool b, _, h => by cases h; exact .bl b
  | .int i, _, h => by cases h; exact .int i
  | .str x, _, h => by cases h; exact .str x
  | .list ds, _, h => by
    cases h with
    | lst hs ha => exact .lst (e.seq hs) (dp_sameAll e ds _ ha)
  | .tuple ds, _, h => by
    cases h with
    | tup hs ha => exact .tup (sqT_same e hs) (dp_sameAll e ds _ ha)
  | .dict _, _, h => by cases h
theorem dp_sameAll {H H' : Hp} (e : Same H H') : ∀ (ds : List PyData) (vs : List V), DpAll K H vs ds → DpAll K H' vs ds
  | [], _, h => by cases h; exact .nil
  | d :: ds, _, h => by
    cases h with
    | cons h1 h2 => exact .cons (dp_same e d _ h1) (dp_sameAll e ds _ h2)
end
theorem dpAll_len {H : Hp} : ∀ {vs : List V} {ds : List PyData}, DpAll K H vs ds → vs.length = ds.length
  | [], _, h => by cases h; rfl
  | _ :: vs, _, h => by
    cases h with
    | cons _ h2 => rw [List.length_cons, List.length_cons, dpAll_len h2]
theorem dpAll_get {H : Hp} : ∀ {vs : List V} {ds : List PyData} {i : Nat} {v : V}, DpAll K H vs ds → vs[i]? = some v → ∃ d, ds[i]? = some d ∧ Dp K H v d
  | _, _, 0, _, .cons h1 _, e => by
    cases e
    exact ⟨_, rfl, h1⟩
  | _, _, i + 1, _, .cons _ h2, e => dpAll_get (i := i) h2 (by simpa using e)
  | _, _, i, _, .nil, e => by simp at e
theorem dpAll_append {H : Hp} : ∀ {vs us : List V} {ds es : List PyData}, DpAll K H vs ds → DpAll K H us es → DpAll K H (vs ++ us) (ds ++ es)
  | _, _, _, _, .nil, h => h
  | _, _, _, _, .cons h1 h2, h => .cons h1 (dpAll_append h2 h)
def tyD : PyData → String
  | .none => "NoneType"
  | .bool _ => "bool"
  | .int _ => "int"
  | .str _ => "str"
  | .list _ => "list"
  | .tuple _ => "tuple"
  | .dict _ => "dict"
theorem dp_ty {H : Hp} {v : V} {d : PyData} (h : Dp K H v d) : TyX K H v (.type (tyD d)) := by
  cases h with
  | non => exact .base .non
  | bl b => exact .base (.bl b)
  | int i => exact .base (.int i)
  | str x => exact .base (.str x)
  | lst hs _ =>
    rcases hs with (h | ⟨o, h⟩) | ⟨o, _, _, h, c, _⟩
    · exact .base (.lst h)
    · exact .base (.frz h)
    · exact .kList h c
  | tup hs _ =>
    rcases hs with (h | ⟨o, h⟩) | ⟨o, _, _, h, c, _⟩
    · exact .base (.tup h)
    · exact .fTuple h
    · exact .kTuple h c
def isTy (t T : String) : Bool := t == T || (T == "int" && t == "bool")
def isT (d : PyData) (T : String) : Bool := isTy (tyD d) T
theorem kit_all : ∀ t ∈ ["NoneType", "bool", "int", "str", "list", "tuple", "dict"], ∀ T ∈ ["int", "bool", "str", "tuple", "list"], kitB t T = some (isTy t T) := by decide +kernel
theorem tyD_mem (d : PyData) : tyD d ∈ ["NoneType", "bool", "int", "str", "list", "tuple", "dict"] := by cases d <;> simp [tyD]
theorem kit_d (d : PyData) {T : String} (hT : T = "int" ∨ T = "bool" ∨ T = "str" ∨ T = "tuple" ∨ T = "list") : PySem.W.kitOne K (.type (tyD d)) (.type T) = some (isT d T) :=
  kit_ty (kit_all _ (tyD_mem d) _ (by simpa using hT))

end
/-! ### rules of our own: a list against an empty one -/
section
variable {X : Cx}
theorem op_eqNil (hu : X.A.units < cLine) : OpR X (compareOp .Eq) (fun x y H Q => ∃ a b xs, x = .ref a ∧ y = .ref b ∧ SqL X.K H a xs ∧ SqL X.K H b [] ∧ Q (.bl xs.isEmpty) H) := by
  intro pins s σ H x y v u Q I rx ry h
  obtain ⟨a, b, xs, rfl, rfl, ha, hb, q⟩ := h
  obtain rfl : v = Value.ref a := rx
  obtain rfl : u = Value.ref b := ry
  obtain ⟨its, rv, p, _⟩ := I.list ha
  obtain ⟨its2, rv2, p2, _⟩ := I.list hb
  cases rv2
  cases xs with
  | nil =>
    cases rv
    exact PySem.EqBoolInt.of_rc (SeqAt.RcAt.lists (e := fun _ => true) p.isList p2.isList rfl hu (fun j h1 => absurd h1 (Nat.not_lt_zero j))) ⟨.bl true, H, I, rfl, q⟩
  | cons z zs =>
    cases rv
    exact PySem.EqBoolInt.of_rc (SeqAt.RcAt.lists_lengths p.isList p2.isList (by simp) hu) ⟨.bl false, H, I, rfl, q⟩
theorem op_neNil (hu : X.A.units < cLine) : OpR X (compareOp .NotEq) (fun x y H Q => ∃ a b xs, x = .ref a ∧ y = .ref b ∧ SqL X.K H a xs ∧ SqL X.K H b [] ∧ Q (.bl (!xs.isEmpty)) H) := by
  intro pins s σ H x y v u Q I rx ry h
  obtain ⟨a, b, xs, rfl, rfl, ha, hb, q⟩ := h
  obtain rfl : v = Value.ref a := rx
  obtain rfl : u = Value.ref b := ry
  obtain ⟨its, rv, p, _⟩ := I.list ha
  obtain ⟨its2, rv2, p2, _⟩ := I.list hb
  cases rv2
  cases xs with
  | nil =>
    cases rv
    exact PySem.EqBoolInt.of_rcne (SeqAt.RcNeAt.lists (e := fun _ => true) p.isList p2.isList rfl hu (fun j h1 => absurd h1 (Nat.not_lt_zero j))) ⟨.bl false, H, I, rfl, q⟩
  | cons z zs =>
    cases rv
    exact PySem.EqBoolInt.of_rcne (SeqAt.RcNeAt.lists_lengths p.isList p2.isList (by simp) hu) ⟨.bl true, H, I, rfl, q⟩
end
theorem hu0 {A : Around} {k : Nat} (hr : Room k A) : A.units < cLine := by have := hr.un; omega
section
variable {P : Program} {w : World} {K : PySem.W.Frag} {mg : Str → Option Value} {base : Heap}

end
/-! ### rules of our own: name = {k: v for ..}, d.setdefault(tuple, x) -/
section
variable {X : Cx}
theorem sw_trueD {kx vx : Expr} {gs : List Comprehension} {scope : Scope} {pos py : Pos} {y : Str} {l : Nat} {env : Env} (hk : env.scope.kind = .function) (hy : env.scope.names.lookup y = some .local) (hl : (py.line == pos.line) = true)
    (hno : (scope.names.any fun (n, k) => n == y && (k == .local || k == .cell)) = false) : swapsWith (.DictComp kx vx gs scope pos) (some (.Name y py)) l env = pure true := by
  have k1 : env.kindOf y = some .local := hy
  have b1 : env.blockKind = .function := by
    unfold Env.blockKind
    rw [hk]
    rfl
  unfold swapsWith
  simp only [b1, k1, hno, Expr.pos, hl]
  rfl
theorem ps_setDc {i : Nat} {y : Str} {py : Pos} {kx vx tg iter : Expr} {ifs : List Expr} {scope : Scope} {own : List (Str × Nat)} {pos spos : Pos} {wi : TI} {g : TG} {tt : TT} {tk tv : TE} (hc : X.calm = true) (hN : X.N.Nodup) (hy : X.N[i]? = some y) (hyl : X.env.scope.names.lookup y = some .local)
    (hsw : swapsWith (.DictComp kx vx [⟨tg, iter, ifs, 0⟩] scope pos) (some (.Name y py)) spos.line X.env = pure true) (hi : PI X tg iter wi) (ok : BlkOk X.N X.env.scope scope own)
    (hg : ∀ (s1 : Shared) (H1 : Hp) (C1 : Addr) (cl1 : List (Str × Addr)) (fp1 : List Addr), PG (X.blk s1 H1 scope (compEnvC scope cl1 C1 X.env) fp1) tg g) (ht : ∀ (s1 : Shared) (H1 : Hp) (C1 : Addr) (cl1 : List (Str × Addr)) (fp1 : List Addr), PTs (X.blk s1 H1 scope (compEnvC scope cl1 C1 X.env) fp1) ifs tt)
    (hk : ∀ (s1 : Shared) (H1 : Hp) (C1 : Addr) (cl1 : List (Str × Addr)) (fp1 : List Addr), PE (X.blk s1 H1 scope (compEnvC scope cl1 C1 X.env) fp1) kx tk)
    (hv : ∀ (s1 : Shared) (H1 : Hp) (C1 : Addr) (cl1 : List (Str × Addr)) (fp1 : List Addr), PE (X.blk s1 H1 scope (compEnvC scope cl1 C1 X.env) fp1) vx tv) (hs : ∀ x, foldedSetIterable iter X.env x = pure x := by intro _; rfl) :
    PS X (.Assign [.Name y py] (.DictComp kx vx [⟨tg, iter, ifs, 0⟩] scope pos) spos) (tAsg (tDc wi g tt tk tv (own.map (·.2))) (gName i)) := by
  refine ⟨fun pins s σ H D I hq => ?_⟩
  rw [exec_Assign_Name_used _ _ _ _ hsw]
  refine wpAny_bind (wpAny_standAt (wpAny_bind ?_))
  show wpAny _ X.A (do let _ ← comprehension (.DictComp kx vx [⟨tg, iter, ifs, 0⟩] scope pos) scope X.env (firstIterPos [⟨tg, iter, ifs, 0⟩] pos) newDict false (eval iter X.env) (some (assign (.Name y py) X.env))) _ _ s
  have h1 : tDc wi g tt tk tv (own.map (·.2)) σ H (fun x H1 => gName i x σ H1 D.nx) := hq
  refine wpAny_bind (thn (dc_core (Qf := fun _ s' => SP X pins D .next s') hc hN I hi ok hg ht hk hv hs h1 fun L C s' m H' I' q hn f => ?_) fun _ s' z => wpAny_pure (wpAny_pure z))
  show wpAny _ _ (assign (.Name y py) X.env (.ref L)) _ _ _
  refine wpAny_assign_Name (store_ok2 (v := V.ref L) I' hN hy (.inl hyl) rfl (fun s2 I2 ⟨b, sb, hb⟩ => ?_) (.inr hyl))
  obtain ⟨e0, e1, e2, e3, e4, e5⟩ := f
  have nb : C ≠ b := by
    rcases hb with z | z
    · rw [z]
      exact e1
    · exact fun e => e4 y b z e.symm
  exact ⟨m, hn.sameBut sb nb, fun h3 sb3 => ⟨_, H', I2.turned (t' := s2.toks) (fun c o hc e => (sb3.2 c hc).trans e) e0 e1 e3 e4 e5, q⟩⟩
end
section
variable {X : Cx} {o e f : Expr} {td ty tx : TE} {apos cpos : Pos}
def tSetdT (td ty tx : TE) : TE := fun σ H Q => td σ H fun x H1 => ∃ a, x = .ref a ∧ IsD H1 a ∧ ty σ H1 fun y H2 => tx σ H2 fun z H3 => ∃ (kvs : List (List Key × V)) (k : List Key) (b : Addr), H3 a = some (.dT kvs) ∧ y = .ref b ∧ H3 b = some (.tup (k.map kV)) ∧ kvs.length < sizeLine ∧
  (∀ v, valV kvs k = some v → Q v H3) ∧ (valV kvs k = none → Q z (upd H3 a (.dT (putK kvs k z))))
theorem pe_setdT (hu : X.A.units + 1 < cLine) (ho : PE X o td) (he : PE X e ty) (hf : PE X f tx) (m : M2 X o "setdefault" apos e f cpos) : PE X (.Call (.Attribute o "setdefault" apos) [e, f] [] cpos) (tSetdT td ty tx) := by
  refine ⟨fun pins s σ H Q I hq => ?_⟩
  refine wpAny_Call_method m.base m.few m.line PySem.F.plainAttrs_dict PySem.F.slot_dict_setdefault PySem.F.type_dict_setdefault (thn (ho.run pins s σ H _ I hq) fun u s1 ⟨x, H1, I1, rx, a, ex, d, q1⟩ => ?_)
  subst ex
  obtain rfl : u = Value.ref a := rx
  obtain ⟨t1, t2, _⟩ := isD_at I1 d
  refine ⟨t1, t2, ?_⟩
  rw [m.trees]
  refine Calls.callWith_builtin rfl (Calls.evalArgs_plain (Calls.spliced_cons (thn (he.run pins s1 σ H1 _ I1 q1) fun iv s2 ⟨y, H2, I2, ry, q2⟩ =>
    Calls.spliced_cons (thn (hf.run pins s2 σ H2 _ I2 q2) fun fv s3 ⟨z, H3, I3, rz, kvs, k, b, ea, ey, eb, hl, q3, q4⟩ => Calls.spliced_nil ?_))))
  subst ey
  cases (show iv = Value.ref b from ry)
  obtain ⟨z1, hd, xs, rel, dd⟩ := dt_of I3.hok ea
  have hz : xs.length ≤ sizeLine := by rw [← Paired.length rel]; exact z1
  have hl2 : (putK kvs k z).length ≤ sizeLine := by have := length_putK kvs k z; omega
  refine call_setdefault_heap (hsz := hz) (tupleKind_room_in1 hu) (key_of I3.hok eb) hd dd (fun p hp => ?_) fun hn h' dd' hs => ?_
  · obtain ⟨v0, hv0, rv0⟩ : ∃ v0, valV kvs k = some v0 ∧ RelV v0 p.2 := by
      have g := rel.val k
      rw [hp] at g
      cases g0 : valV kvs k with
      | none =>
        rw [g0] at g
        exact (show False from g).elim
      | some v0 =>
        rw [g0] at g
        exact ⟨v0, rfl, g⟩
    exact ⟨v0, H3, I3.tok _, rv0, q3 v0 hv0⟩
  · have hn0 : valV kvs k = none := by
      have g := rel.val k
      rw [hn] at g
      cases g0 : valV kvs k with
      | none => rfl
      | some v0 =>
        rw [g0] at g
        exact (show False from g).elim
    obtain ⟨q, es, ep, hq, h2, h3, h4, _, h5⟩ := dd'
    refine ⟨z, _, d_write (ob := .dT (putK kvs k z)) I3 (by rw [ea]; exact True.intro) hs ⟨q, hq⟩ ⟨hl2, hd, _, (rel.put k eb rz).keeps fun c ys ec => ?_, q, es, ep, hq, h2, h3, h4, h5⟩, rz, q4 hn0⟩
    rw [upd_ne (ne_of ec ea (fun z => nomatch z))]
    exact ec
end
section
variable {P : Program} {w : World} {K : PySem.W.Frag} {mg : Str → Option Value} {base : Heap}

/-! ### data that nothing changes -/
mutual
def imm : PyData → Bool
  | .list _ => false
  | .dict _ => false
  | .tuple ds => immAll ds
  | .none => true
  | .bool _ => true
  | .int _ => true
  | .str _ => true
def immAll : List PyData → Bool
  | [] => true
  | d :: ds => imm d && immAll ds
end
/-- tuples, and what is locked -/
def Fix : HO → Prop
  | .tup _ => True
  | .frz _ _ => True
  | _ => False
def Kt (H H' : Hp) : Prop := ∀ a o, H a = some o → Fix o → H' a = some o
theorem Kt.refl (H : Hp) : Kt H H := fun _ _ e _ => e
theorem Kt.trans {H H1 H2 : Hp} (h : Kt H H1) (g : Kt H1 H2) : Kt H H2 := fun a o e f => g a o (h a o e f) f
theorem Kt.same {H H' : Hp} (h : Same H H') : Kt H H' := fun a o e _ => h a o e
theorem Kt.but {H H' : Hp} {b : Addr} {o : HO} (h : But b H H') (hb : H b = some o) (n : ¬ Fix o) : Kt H H' := fun a o' e f => h a o' (fun z => n (by rw [z, hb] at e; cases e; exact f)) e
theorem Kt.upd {H : Hp} {b : Addr} {o o' : HO} (hb : H b = some o) (n : ¬ Fix o) : Kt H (upd H b o') := fun a o2 e f => by
  rw [upd_ne (fun z => n (by rw [z, hb] at e; cases e; exact f))]
  exact e
theorem Kt.bag {H H' : Hp} {b : Addr} (h : But b H H') (g : Bag H b) : Kt H H' := by
  obtain ⟨x, y, e, _⟩ := g
  exact Kt.but h e (fun z => z)
theorem sqT_kt {H H' : Hp} {a : Addr} {xs : List V} (e : Kt H H') (h : SqT K H a xs) : SqT K H' a xs := by
  rcases h with (h | ⟨o, h⟩) | h
  · exact .inl (.inl (e _ _ h trivial))
  · exact .inl (.inr ⟨o, e _ _ h trivial⟩)
  · exact .inr h
mutual
theorem dp_kt {H H' : Hp} (e : Kt H H') : ∀ (d : PyData) (v : V), imm d = true → Dp K H v d → Dp K H' v d
  | .none, _, _, h => by cases h; exact .non
  | .bool b, _, _, h => by cases h; exact .bl b
  | .int i, _, _, h => by cases h; exact .int i
  | .str x, _, _, h => by cases h; exact .str x
  | .list ds, _, i, h => by simp [imm] at i
  | .tuple ds, _, i, h => by
    cases h with
    | tup hs ha => exact .tup (sqT_kt e hs) (dp_ktAll e ds _ (by simpa [imm] using i) ha)
  | .dict _, _, _, h => by cases h
theorem dp_ktAll {H H' : Hp} (e : Kt H H') : ∀ (ds : List PyData) (vs : List V), immAll ds = true → DpAll K H vs ds → DpAll K H' vs ds
  | [], _, _, h => by cases h; exact .nil
  | d :: ds, _, i, h => by
    cases h with
    | cons h1 h2 =>
      have i2 : imm d = true ∧ immAll ds = true := by simpa [immAll] using i
      exact .cons (dp_kt e d _ i2.1 h1) (dp_ktAll e ds _ i2.2 h2)
end
theorem immAll_iff : ∀ {ds : List PyData}, immAll ds = true ↔ ∀ d ∈ ds, imm d = true
  | [] => by simp [immAll]
  | d :: ds => by simp [immAll, immAll_iff (ds := ds)]
theorem dpAll_getD {H : Hp} {vs : List V} {ds : List PyData} {i : Nat} {d : PyData} (h : DpAll K H vs ds) (e : ds[i]? = some d) : ∃ v, vs[i]? = some v ∧ Dp K H v d := by
  have hl := dpAll_len h
  have hi : i < vs.length := by
    rw [hl]
    exact (List.getElem?_eq_some_iff.mp e).1
  obtain ⟨d', e', p⟩ := dpAll_get h (List.getElem?_eq_getElem hi)
  rw [e] at e'
  cases e'
  exact ⟨_, List.getElem?_eq_getElem hi, p⟩
theorem dp_list {H : Hp} {v : V} {ds : List PyData} (h : Dp K H v (.list ds)) : ∃ a vs, v = .ref a ∧ SqL K H a vs ∧ DpAll K H vs ds := by
  cases h with
  | lst hs ha => exact ⟨_, _, rfl, hs, ha⟩
theorem dp_tuple {H : Hp} {v : V} {ds : List PyData} (h : Dp K H v (.tuple ds)) : ∃ a vs, v = .ref a ∧ SqT K H a vs ∧ DpAll K H vs ds := by
  cases h with
  | tup hs ha => exact ⟨_, _, rfl, hs, ha⟩
theorem take_fm {α β : Type} (f : α → Option β) (ds : List α) (i : Nat) (d : α) (h : ds[i]? = some d) : (ds.take (i + 1)).filterMap f = (ds.take i).filterMap f ++ (f d).toList := by
  rw [List.take_add_one, h, List.filterMap_append]
  cases e : f d <;> simp [e]
theorem fm_take_le {α β : Type} (f : α → Option β) (ds : List α) (i : Nat) : ((ds.take i).filterMap f).length ≤ i :=
  Nat.le_trans (List.length_filterMap_le _ _) (by rw [List.length_take]; exact Nat.min_le_left _ _)
/-- a list made of a list of data, by a function of it -/
theorem lc_ty {α β : Type} {a D : Addr} {vs : List V} {xs : List α} {H1 : Hp} {σ : L2.St} {g : TG} {tt : TT} {te : TE} {ws : List Nat} {Qd : Hp → Prop} (ea : α → PyData) (eb : β → PyData) (f : α → Option β)
    (hS : SqL K H1 a vs) (hA : DpAll K H1 vs (xs.map ea)) (hn : H1 D = none) (hlen : xs.length ≤ 1000000) (him : ∀ y, imm (eb y) = true)
    (step : ∀ (i : Nat) (v : V) (x : α) (H : Hp) (k : V → Hp → Prop) (kf : Hp → Prop), xs[i]? = some x → Same H1 H → Dp K H v (ea x) → (∀ y, f x = some y → ∀ v' H4, Same H H4 → Dp K H4 v' (eb y) → k v' H4) → (f x = none → ∀ H3, Same H H3 → kf H3) →
      g v (wipe σ ws) H fun σ2 H2 => wipe σ2 ws = wipe σ ws ∧ tt σ2 H2 fun b H3 => if b = true then te σ2 H3 k else kf H3)
    (hd : ∀ H ys, Same H1 H → H D = some (.lst ys) → DpAll K H ys ((xs.filterMap f).map eb) → Qd H) :
    ∃ W : Nat → Nat → Hp → Prop, (∃ m, W 0 m (upd H1 D (.lst []))) ∧ ∀ i m H, W i m H →
      ((Itl K a).stop i H ∧ Qd H) ∨ ((Itl K a).go i H ∧ ∃ Nx : Hp → Prop, (∀ H', Nx H' → ∃ m', m' < m ∧ W (i + 1) m' H') ∧ ∀ x H', (Itl K a).yld i H x H' → g x (wipe σ ws) H' fun σ2 H2 => wipe σ2 ws = wipe σ ws ∧ tt σ2 H2 fun b H3 =>
        if b = true then te σ2 H3 fun y H4 => ∃ acc, H4 D = some (.lst acc) ∧ acc.length < sizeLine ∧ Nx (upd H4 D (.lst (acc ++ [y]))) else Nx H3) := by
  have hl := dpAll_len hA
  rw [List.length_map] at hl
  have imA : ∀ zs : List β, immAll (zs.map eb) = true := fun zs => immAll_iff.mpr fun e he => by
    obtain ⟨y, _, rfl⟩ := List.mem_map.mp he
    exact him y
  refine lc_it (walk_list (K := K) (a := a) (xs := vs)) (fun i H => Same H1 H ∧ ∃ acc, H D = some (.lst acc) ∧ DpAll K H acc (((xs.take i).filterMap f).map eb)) ⟨same_upd hn, [], upd_same, .nil⟩ (fun i H _ z => z.1.seq hS) ?_ ?_
  · rintro i v H H' hi ⟨s1, acc, hD, hacc⟩ ⟨rfl, hv⟩
    obtain ⟨d, ed, pd⟩ := dpAll_get hA hv
    rw [List.getElem?_map] at ed
    obtain ⟨x, ex, rfl⟩ := Option.map_eq_some_iff.mp ed
    refine step i v x H' _ _ ex s1 (dp_same s1 _ _ pd) ?_ ?_
    · intro e fe y H4 s4 py
      have hD4 := s4 _ _ hD
      have kt : Kt H' (upd H4 D (.lst (acc ++ [y]))) := (Kt.same s4).trans (Kt.upd hD4 (fun z => z))
      refine ⟨acc, hD4, ?_, ?_, acc ++ [y], upd_same, ?_⟩
      · have := dpAll_len hacc
        rw [List.length_map] at this
        have h2 := fm_take_le f xs i
        rw [sizeLine_eq]
        omega
      · intro c o ec
        rw [upd_ne (ne_of_none ec hn)]
        exact s4 _ _ (s1 _ _ ec)
      · rw [take_fm f xs i x ex, fe, List.map_append]
        exact dpAll_append (dp_ktAll kt _ _ (imA _) hacc) (.cons (dp_kt (Kt.upd hD4 (fun z => z)) _ _ (him e) py) .nil)
    · intro fe H3 s3
      refine ⟨s1.trans s3, acc, s3 _ _ hD, ?_⟩
      rw [take_fm f xs i x ex, fe]
      have := dp_sameAll s3 _ _ hacc
      simpa using this
  · rintro H ⟨s1, acc, hD, hacc⟩
    refine hd H acc s1 hD ?_
    rw [hl, List.take_of_length_le (Nat.le_refl _)] at hacc
    exact hacc
/-- the same, with no test -/
theorem lc_map {α β : Type} {a D : Addr} {vs : List V} {xs : List α} {H1 : Hp} {σ : L2.St} {g : TG} {te : TE} {ws : List Nat} {Qd : Hp → Prop} (ea : α → PyData) (eb : β → PyData) (f : α → β)
    (hS : SqL K H1 a vs) (hA : DpAll K H1 vs (xs.map ea)) (hn : H1 D = none) (hlen : xs.length ≤ 1000000) (him : ∀ y, imm (eb y) = true)
    (step : ∀ (i : Nat) (v : V) (x : α) (H : Hp) (k : V → Hp → Prop), xs[i]? = some x → Same H1 H → Dp K H v (ea x) → (∀ v' H4, Same H H4 → Dp K H4 v' (eb (f x)) → k v' H4) →
      g v (wipe σ ws) H fun σ2 H2 => wipe σ2 ws = wipe σ ws ∧ te σ2 H2 k)
    (hd : ∀ H ys, Same H1 H → H D = some (.lst ys) → DpAll K H ys ((xs.map f).map eb) → Qd H) :
    ∃ W : Nat → Nat → Hp → Prop, (∃ m, W 0 m (upd H1 D (.lst []))) ∧ ∀ i m H, W i m H →
      ((Itl K a).stop i H ∧ Qd H) ∨ ((Itl K a).go i H ∧ ∃ Nx : Hp → Prop, (∀ H', Nx H' → ∃ m', m' < m ∧ W (i + 1) m' H') ∧ ∀ x H', (Itl K a).yld i H x H' → g x (wipe σ ws) H' fun σ2 H2 => wipe σ2 ws = wipe σ ws ∧ tYes σ2 H2 fun b H3 =>
        if b = true then te σ2 H3 fun y H4 => ∃ acc, H4 D = some (.lst acc) ∧ acc.length < sizeLine ∧ Nx (upd H4 D (.lst (acc ++ [y]))) else Nx H3) := by
  refine lc_ty (tt := tYes) ea eb (fun x => some (f x)) hS hA hn hlen him (fun i v x H k kf ex s1 px hk _ => ?_) (fun H ys s1 hD hy => hd H ys s1 hD ?_)
  · have := step i v x H k ex s1 px (fun v' H4 s4 p4 => hk _ rfl v' H4 s4 p4)
    simpa only [tYes, if_true] using this
  · rw [List.filterMap_eq_map'] at hy
    exact hy
/-- a dict made by a walk -/
theorem dc_it {J : It} {n : Nat} {G : Hp → Prop} {Y : Nat → Hp → V → Hp → Prop} (w : Walk J n G Y) {g : TG} {tt : TT} {tk tv : TE} {vs : List Nat} {σ : L2.St} {H1 : Hp} {D : Addr} {Qd : Hp → Prop} (Pv : Nat → Hp → Prop) (h0 : Pv 0 (upd H1 D (.dK []))) (hG : ∀ i H, i ≤ n → Pv i H → G H)
    (hs : ∀ i x H H', i < n → Pv i H → Y i H x H' → g x (wipe σ vs) H' fun σ2 H2 => wipe σ2 vs = wipe σ vs ∧ tt σ2 H2 fun b H3 =>
      if b = true then tk σ2 H3 fun y H4 => tv σ2 H4 fun z H5 => ∃ kvs k, y = kV k ∧ H5 D = some (.dK kvs) ∧ kvs.length < sizeLine ∧ Pv (i + 1) (upd H5 D (.dK (putK kvs k z))) else Pv (i + 1) H3) (hd : ∀ H, Pv n H → Qd H) :
    ∃ W : Nat → Nat → Hp → Prop, (∃ m, W 0 m (upd H1 D (.dK []))) ∧ ∀ i m H, W i m H →
      (J.stop i H ∧ Qd H) ∨ (J.go i H ∧ ∃ Nx : Hp → Prop, (∀ H', Nx H' → ∃ m', m' < m ∧ W (i + 1) m' H') ∧ ∀ x H', J.yld i H x H' → g x (wipe σ vs) H' fun σ2 H2 => wipe σ2 vs = wipe σ vs ∧ tt σ2 H2 fun b H3 =>
        if b = true then tk σ2 H3 fun y H4 => tv σ2 H4 fun z H5 => ∃ kvs k, y = kV k ∧ H5 D = some (.dK kvs) ∧ kvs.length < sizeLine ∧ Nx (upd H5 D (.dK (putK kvs k z))) else Nx H3) := by
  refine ⟨fun i m H => m = n - i ∧ i ≤ n ∧ Pv i H, ⟨n, by simp, Nat.zero_le _, h0⟩, ?_⟩
  rintro i m H ⟨rfl, hi, p⟩
  have gh := hG i H hi p
  by_cases lt : i < n
  · exact .inr ⟨w.goes i H lt gh, Pv (i + 1), fun H' p' => ⟨n - (i + 1), by omega, rfl, lt, p'⟩, fun x H' y => hs i x H H' lt p (w.yields i H x H' lt gh y)⟩
  · obtain rfl : i = n := by omega
    exact .inl ⟨w.stops H gh, hd H p⟩

/-! ### lists of data -/
theorem dpA_set {H : Hp} {v : V} {d : PyData} (hd : Dp K H v d) : ∀ {vs : List V} {ds : List PyData} (n : Nat), DpAll K H vs ds → DpAll K H (vs.set n v) (ds.set n d)
  | _, _, 0, .nil => .nil
  | _, _, n + 1, .nil => .nil
  | _, _, 0, .cons h1 h2 => .cons hd h2
  | _, _, n + 1, .cons h1 h2 => .cons h1 (dpA_set hd n h2)
theorem dpA_take {H : Hp} : ∀ {vs : List V} {ds : List PyData} (n : Nat), DpAll K H vs ds → DpAll K H (vs.take n) (ds.take n)
  | _, _, 0, _ => by rw [List.take_zero, List.take_zero]; exact .nil
  | _, _, n + 1, .nil => by rw [List.take_nil, List.take_nil]; exact .nil
  | _, _, n + 1, .cons h1 h2 => .cons h1 (dpA_take n h2)
theorem dpA_drop {H : Hp} : ∀ {vs : List V} {ds : List PyData} (n : Nat), DpAll K H vs ds → DpAll K H (vs.drop n) (ds.drop n)
  | _, _, 0, h => by rw [List.drop_zero, List.drop_zero]; exact h
  | _, _, n + 1, .nil => by rw [List.drop_nil, List.drop_nil]; exact .nil
  | _, _, n + 1, .cons h1 h2 => dpA_drop n h2
theorem dpA_ins {H : Hp} {v : V} {d : PyData} {vs : List V} {ds : List PyData} (n : Nat) (hd : Dp K H v d) (h : DpAll K H vs ds) : DpAll K H (vs.take n ++ [v] ++ vs.drop n) (ds.take n ++ [d] ++ ds.drop n) :=
  dpAll_append (dpAll_append (dpA_take n h) (.cons hd .nil)) (dpA_drop n h)
theorem cutL_take (xs : List V) {i : Int} (h0 : 0 ≤ i) : cutV xs none (some i) = xs.take i.toNat := by
  obtain ⟨k, rfl⟩ : ∃ k : Nat, i = (k : Int) := ⟨i.toNat, by omega⟩
  unfold cutV
  rw [HT.sIx_none, HT.sIx_nat]
  have e3 : ((k : Nat) : Int).toNat = k := by omega
  rw [e3, Nat.sub_zero]
  show (xs.drop 0).take (min k xs.length) = xs.take k
  rw [List.drop_zero]
  by_cases h : k ≤ xs.length
  · rw [Nat.min_eq_left h]
  · rw [Nat.min_eq_right (by omega), List.take_of_length_le (Nat.le_refl _), List.take_of_length_le (by omega)]
theorem pickAt {α : Type} {xs : List α} {i : Int} (h0 : 0 ≤ i) (h1 : i < xs.length) : ∃ j : Nat, j < xs.length ∧ i = (j : Int) ∧ ∃ x, xs[j]? = some x ∧ atI xs i = some x := by
  obtain ⟨k, rfl⟩ : ∃ k : Nat, i = (k : Int) := ⟨i.toNat, by omega⟩
  have hk : k < xs.length := by omega
  exact ⟨k, hk, rfl, xs[k], List.getElem?_eq_getElem hk, atI_nat (List.getElem?_eq_getElem hk)⟩
theorem pickStr (ws : List Str) {i : Int} (h0 : 0 ≤ i) (h1 : i < ws.length) : ∃ m, m ∈ ws ∧ atI (ws.map V.str) i = some (.str m) := by
  obtain ⟨j, hj, rfl, x, hx, e⟩ := pickAt (xs := ws.map V.str) h0 (by rw [List.length_map]; exact h1)
  rw [List.getElem?_map] at hx
  obtain ⟨m, hm, rfl⟩ := Option.map_eq_some_iff.mp hx
  exact ⟨m, List.mem_of_getElem? hm, e⟩
theorem pickInt (ws : List Int) {i : Int} (h0 : 0 ≤ i) (h1 : i < ws.length) : ∃ m, m ∈ ws ∧ atI (ws.map V.int) i = some (.int m) := by
  obtain ⟨j, hj, rfl, x, hx, e⟩ := pickAt (xs := ws.map V.int) h0 (by rw [List.length_map]; exact h1)
  rw [List.getElem?_map] at hx
  obtain ⟨m, hm, rfl⟩ := Option.map_eq_some_iff.mp hx
  exact ⟨m, List.mem_of_getElem? hm, e⟩
theorem dp_ints {H : Hp} : ∀ {ns : List Int} {vs : List V}, DpAll K H vs (ns.map PyData.int) → vs = ns.map V.int
  | [], _, h => by cases h; rfl
  | n :: ns, _, h => by
    cases h with
    | cons h1 h2 =>
      cases h1
      rw [dp_ints h2]
      rfl
theorem ints_dp {H : Hp} : ∀ (ns : List Int), DpAll K H (ns.map V.int) (ns.map PyData.int)
  | [] => .nil
  | n :: ns => .cons (.int n) (ints_dp ns)
theorem inV_int (i : Int) (ns : List Int) : inV (.int i) (ns.map V.int) = decide (i ∈ ns) := by
  unfold inV
  rw [List.any_map]
  by_cases h : i ∈ ns
  · rw [decide_eq_true h, List.any_eq_true]
    exact ⟨i, h, by simp [eqV]⟩
  · rw [decide_eq_false h, List.any_eq_false]
    intro x hx
    simp only [Function.comp, eqV, beq_iff_eq]
    exact fun z => h (z ▸ hx)
theorem flat_ints (ns : List Int) : (ns.map V.int).all flatV = true := by
  rw [List.all_map, List.all_eq_true]
  intro x _
  rfl
theorem last_at {α : Type} (xs : List α) (x : α) : atI (xs ++ [x]) (-1) = some x := by
  unfold atI ixN
  rw [List.length_append, if_neg (by decide), if_pos (by simp; omega)]
  show (xs ++ [x])[(-1 + ((xs.length + 1 : Nat) : Int)).toNat]? = some x
  rw [show (-1 + ((xs.length + 1 : Nat) : Int)).toNat = xs.length by omega]
  simp
def pairD (p : Int × Int) : PyData := .tuple [.int p.1, .int p.2]
theorem pairD_imm (p : Int × Int) : imm (pairD p) = true := rfl
theorem dp_pair {H : Hp} {v : V} {p : Int × Int} (h : Dp K H v (pairD p)) : ∃ a, v = .ref a ∧ SqT K H a [.int p.1, .int p.2] := by
  cases h with
  | tup hs ha =>
    cases ha with
    | cons h1 ha =>
      cases h1
      cases ha with
      | cons h1 ha =>
        cases h1
        cases ha
        exact ⟨_, rfl, hs⟩
theorem pairs_imm (ps : List (Int × Int)) : immAll (ps.map pairD) = true := immAll_iff.mpr fun e he => by
  obtain ⟨y, _, rfl⟩ := List.mem_map.mp he
  exact pairD_imm y
theorem dget_of {H : Hp} {a : Addr} {kvs : List (Key × V)} {k : Key} {v : V} (h : H a = some (.dK kvs)) (e : valV kvs k = some v) : DGet H a (kV k) (some v) := e ▸ DGet.k h
/-- a list made by two walks, one in the other: the outer one -/
theorem lc2_it {J : It} {n : Nat} {G : Hp → Prop} {Y : Nat → Hp → V → Hp → Prop} (w : Walk J n G Y) {g g1 : TG} {tt tt1 : TT} {te : TE} {wi1 : TI} {vs vs1 : List Nat} {σ : L2.St} {H1 : Hp} {D : Addr} {Qd : Hp → Prop} (Pv : Nat → Hp → Prop) (h0 : Pv 0 (upd H1 D (.lst []))) (hG : ∀ i H, i ≤ n → Pv i H → G H)
    (hs : ∀ i x H H', i < n → Pv i H → Y i H x H' → g x (wipe σ vs) H' fun σ2 H2 => wipe σ2 vs = wipe σ vs ∧ tt σ2 H2 fun b H3 => if b = true then wi1 σ2 H3 fun J1 H4 => ∃ W1 : Nat → Nat → Hp → Prop, (∃ m, W1 0 m H4) ∧ ∀ j k H, W1 j k H →
      (J1.stop j H ∧ Pv (i + 1) H) ∨ (J1.go j H ∧ ∃ Nx1 : Hp → Prop, (∀ H', Nx1 H' → ∃ k', k' < k ∧ W1 (j + 1) k' H') ∧ ∀ x H', J1.yld j H x H' → g1 x (wipe σ2 vs1) H' fun σ3 H5 => wipe σ3 vs1 = wipe σ2 vs1 ∧ tt1 σ3 H5 fun b H6 =>
        if b = true then te σ3 H6 fun y H7 => ∃ acc, H7 D = some (.lst acc) ∧ acc.length < sizeLine ∧ Nx1 (upd H7 D (.lst (acc ++ [y]))) else Nx1 H6) else Pv (i + 1) H3) (hd : ∀ H, Pv n H → Qd H) :
    ∃ W : Nat → Nat → Hp → Prop, (∃ m, W 0 m (upd H1 D (.lst []))) ∧ ∀ i m H, W i m H →
      (J.stop i H ∧ Qd H) ∨ (J.go i H ∧ ∃ Nx : Hp → Prop, (∀ H', Nx H' → ∃ m', m' < m ∧ W (i + 1) m' H') ∧ ∀ x H', J.yld i H x H' → g x (wipe σ vs) H' fun σ2 H2 => wipe σ2 vs = wipe σ vs ∧ tt σ2 H2 fun b H3 => if b = true then wi1 σ2 H3 fun J1 H4 => ∃ W1 : Nat → Nat → Hp → Prop, (∃ m, W1 0 m H4) ∧ ∀ j k H, W1 j k H →
      (J1.stop j H ∧ Nx H) ∨ (J1.go j H ∧ ∃ Nx1 : Hp → Prop, (∀ H', Nx1 H' → ∃ k', k' < k ∧ W1 (j + 1) k' H') ∧ ∀ x H', J1.yld j H x H' → g1 x (wipe σ2 vs1) H' fun σ3 H5 => wipe σ3 vs1 = wipe σ2 vs1 ∧ tt1 σ3 H5 fun b H6 =>
        if b = true then te σ3 H6 fun y H7 => ∃ acc, H7 D = some (.lst acc) ∧ acc.length < sizeLine ∧ Nx1 (upd H7 D (.lst (acc ++ [y]))) else Nx1 H6) else Nx H3) := by
  refine ⟨fun i m H => m = n - i ∧ i ≤ n ∧ Pv i H, ⟨n, by simp, Nat.zero_le _, h0⟩, ?_⟩
  rintro i m H ⟨rfl, hi, p⟩
  have gh := hG i H hi p
  by_cases lt : i < n
  · exact .inr ⟨w.goes i H lt gh, Pv (i + 1), fun H' p' => ⟨n - (i + 1), by omega, rfl, lt, p'⟩, fun x H' y => hs i x H H' lt p (w.yields i H x H' lt gh y)⟩
  · obtain rfl : i = n := by omega
    exact .inl ⟨w.stops H gh, hd H p⟩
/-- .. the inner one -/
theorem li_it {J : It} {n : Nat} {G : Hp → Prop} {Y : Nat → Hp → V → Hp → Prop} (w : Walk J n G Y) {g : TG} {tt : TT} {te : TE} {vs : List Nat} {σ : L2.St} {H4 : Hp} {D : Addr} {Qd : Hp → Prop} (Pv : Nat → Hp → Prop) (h0 : Pv 0 H4) (hG : ∀ i H, i ≤ n → Pv i H → G H)
    (hs : ∀ i x H H', i < n → Pv i H → Y i H x H' → g x (wipe σ vs) H' fun σ2 H2 => wipe σ2 vs = wipe σ vs ∧ tt σ2 H2 fun b H3 =>
      if b = true then te σ2 H3 fun y H7 => ∃ acc, H7 D = some (.lst acc) ∧ acc.length < sizeLine ∧ Pv (i + 1) (upd H7 D (.lst (acc ++ [y]))) else Pv (i + 1) H3) (hd : ∀ H, Pv n H → Qd H) :
    ∃ W1 : Nat → Nat → Hp → Prop, (∃ m, W1 0 m H4) ∧ ∀ j k H, W1 j k H →
      (J.stop j H ∧ Qd H) ∨ (J.go j H ∧ ∃ Nx1 : Hp → Prop, (∀ H', Nx1 H' → ∃ k', k' < k ∧ W1 (j + 1) k' H') ∧ ∀ x H', J.yld j H x H' → g x (wipe σ vs) H' fun σ3 H5 => wipe σ3 vs = wipe σ vs ∧ tt σ3 H5 fun b H6 =>
        if b = true then te σ3 H6 fun y H7 => ∃ acc, H7 D = some (.lst acc) ∧ acc.length < sizeLine ∧ Nx1 (upd H7 D (.lst (acc ++ [y]))) else Nx1 H6) := by
  refine ⟨fun i m H => m = n - i ∧ i ≤ n ∧ Pv i H, ⟨n, by simp, Nat.zero_le _, h0⟩, ?_⟩
  rintro i m H ⟨rfl, hi, p⟩
  have gh := hG i H hi p
  by_cases lt : i < n
  · exact .inr ⟨w.goes i H lt gh, Pv (i + 1), fun H' p' => ⟨n - (i + 1), by omega, rfl, lt, p'⟩, fun x H' y => hs i x H H' lt p (w.yields i H x H' lt gh y)⟩
  · obtain rfl : i = n := by omega
    exact .inl ⟨w.stops H gh, hd H p⟩
/-- pairs of ints, made of two lists of them -/
theorem lc2_ints {a c D : Addr} {xs ys : List Int} {H1 : Hp} {σ : L2.St} {g g1 : TG} {tt1 : TT} {te : TE} {wi1 : TI} {vs vs1 : List Nat} {Qd : Hp → Prop} (f : Int → Int → Option (Int × Int)) (hx : SqL K H1 a (xs.map V.int)) (hy : SqL K H1 c (ys.map V.int)) (nD : H1 D = none) (lx : xs.length ≤ 100) (ly : ys.length ≤ 100)
    (st1 : ∀ (x : Int) (H : Hp) (k : It → Hp → Prop), Same H1 H → k (Itl K c) H → ∀ (kk : L2.St → Hp → Prop), (∀ σ2, wipe σ2 vs = wipe σ vs → (∀ R, wi1 σ2 H R ↔ R (Itl K c) H) → (∀ (y : Int) (H2 : Hp) (kt : V → Hp → Prop) (kf : Hp → Prop), Same H1 H2 → (∀ p, f x y = some p → ∀ v H3, Same H2 H3 → Dp K H3 v (pairD p) → kt v H3) → (f x y = none → kf H2) → g1 (.int y) (wipe σ2 vs1) H2 fun σ3 H5 => wipe σ3 vs1 = wipe σ2 vs1 ∧ tt1 σ3 H5 fun b H6 => if b = true then te σ3 H6 kt else kf H6) → kk σ2 H) → g (.int x) (wipe σ vs) H kk)
    (hd : ∀ H zs, Same H1 H → H D = some (.lst zs) → DpAll K H zs ((xs.flatMap fun x => ys.filterMap (f x)).map pairD) → Qd H) :
    ∃ W : Nat → Nat → Hp → Prop, (∃ m, W 0 m (upd H1 D (.lst []))) ∧ ∀ i m H, W i m H →
      ((Itl K a).stop i H ∧ Qd H) ∨ ((Itl K a).go i H ∧ ∃ Nx : Hp → Prop, (∀ H', Nx H' → ∃ m', m' < m ∧ W (i + 1) m' H') ∧ ∀ x H', (Itl K a).yld i H x H' → g x (wipe σ vs) H' fun σ2 H2 => wipe σ2 vs = wipe σ vs ∧ tYes σ2 H2 fun b H3 => if b = true then wi1 σ2 H3 fun J1 H4 => ∃ W1 : Nat → Nat → Hp → Prop, (∃ m, W1 0 m H4) ∧ ∀ j k H, W1 j k H →
      (J1.stop j H ∧ Nx H) ∨ (J1.go j H ∧ ∃ Nx1 : Hp → Prop, (∀ H', Nx1 H' → ∃ k', k' < k ∧ W1 (j + 1) k' H') ∧ ∀ x H', J1.yld j H x H' → g1 x (wipe σ2 vs1) H' fun σ3 H5 => wipe σ3 vs1 = wipe σ2 vs1 ∧ tt1 σ3 H5 fun b H6 =>
        if b = true then te σ3 H6 fun y H7 => ∃ acc, H7 D = some (.lst acc) ∧ acc.length < sizeLine ∧ Nx1 (upd H7 D (.lst (acc ++ [y]))) else Nx1 H6) else Nx H3) := by
  have small : ∀ i, i ≤ xs.length → ((xs.take i).flatMap fun x => ys.filterMap (f x)).length ≤ i * 100 := by
    intro i
    induction i with
    | zero => intro _; simp
    | succ i ih =>
      intro hi
      have e : xs[i]? = some xs[i] := List.getElem?_eq_getElem (by omega)
      rw [List.take_add_one, e, List.flatMap_append, List.length_append]
      have h1 := ih (by omega)
      have h2 : (ys.filterMap (f xs[i])).length ≤ 100 := Nat.le_trans (List.length_filterMap_le _ _) ly
      have h3 : ((some xs[i]).toList.flatMap fun x => ys.filterMap (f x)) = ys.filterMap (f xs[i]) := by simp
      rw [h3]
      omega
  refine lc2_it (walk_list (K := K) (a := a) (xs := xs.map V.int)) (fun i H => Same H1 H ∧ ∃ acc, H D = some (.lst acc) ∧ DpAll K H acc (((xs.take i).flatMap fun x => ys.filterMap (f x)).map pairD)) ⟨same_upd nD, [], upd_same, .nil⟩ (fun i H _ z => z.1.seq hx) ?_ ?_
  · rintro i v H H' hi ⟨s1, acc, hD, hacc⟩ ⟨rfl, hv⟩
    rw [List.length_map] at hi
    rw [List.getElem?_map] at hv
    obtain ⟨x, ex, rfl⟩ := Option.map_eq_some_iff.mp hv
    refine st1 x H' (fun _ _ => True) s1 trivial _ fun σ2 hw hwi inner => ⟨hw, ?_⟩
    simp only [tYes, if_true]
    refine (hwi _).mpr ?_
    refine li_it (walk_list (K := K) (a := c) (xs := ys.map V.int)) (fun j H => Same H1 H ∧ ∃ acc, H D = some (.lst acc) ∧ DpAll K H acc ((((xs.take i).flatMap fun x => ys.filterMap (f x)) ++ (ys.take j).filterMap (f x)).map pairD)) ⟨s1, acc, hD, by simpa using hacc⟩ (fun j H _ z => z.1.seq hy) ?_ ?_
    · rintro j v H2 H3 hj ⟨s2, acc2, hD2, hacc2⟩ ⟨rfl, hv2⟩
      rw [List.getElem?_map] at hv2
      obtain ⟨y, ey, rfl⟩ := Option.map_eq_some_iff.mp hv2
      have hl2 := dpAll_len hacc2
      rw [List.length_map, List.length_append] at hl2
      have b1 := small i (by omega)
      have b2 := fm_take_le (f x) ys j
      rw [List.length_map] at hj
      refine inner y H3 _ _ s2 ?_ ?_
      · intro p fp v' H4 s4 pv
        have hD4 := s4 _ _ hD2
        have ku := Kt.upd (o' := .lst (acc2 ++ [v'])) hD4 (fun z => z)
        refine ⟨acc2, hD4, by rw [sizeLine_eq]; omega, ?_, acc2 ++ [v'], upd_same, ?_⟩
        · intro z o e
          rw [upd_ne (ne_of_none e nD)]
          exact s4 _ _ (s2 _ _ e)
        · rw [take_fm (f x) ys j y ey, fp, ← List.append_assoc, List.map_append]
          exact dpAll_append (dp_ktAll ((Kt.same s4).trans ku) _ _ (pairs_imm _) hacc2) (.cons (dp_kt ku _ _ (pairD_imm p) pv) .nil)
      · intro fn
        refine ⟨s2, acc2, hD2, ?_⟩
        rw [take_fm (f x) ys j y ey, fn]
        simpa using hacc2
    · rintro H2 ⟨s2, acc2, hD2, hacc2⟩
      rw [List.length_map, List.take_of_length_le (Nat.le_refl _)] at hacc2
      refine ⟨s2, acc2, hD2, ?_⟩
      rw [List.take_add_one, ex, List.flatMap_append]
      simpa using hacc2
  · rintro H ⟨s1, acc, hD, hacc⟩
    rw [List.length_map, List.take_of_length_le (Nat.le_refl _)] at hacc
    exact hd H acc s1 hD hacc

/-! ### rows of a log -/
structure LRow where
  t : Int
  w : Str
  n : Int
  c : Str
  f : Str
  p : Int
  v : Option Int
def optD : Option Int → PyData
  | some i => .int i
  | none => .none
def optV : Option Int → V
  | some i => .int i
  | none => .non
def rowD (r : LRow) : PyData := .tuple [.int r.t, .str r.w, .int r.n, .str r.c, .str r.f, .int r.p, optD r.v]
theorem optD_imm (o : Option Int) : imm (optD o) = true := by cases o <;> rfl
theorem rowD_imm (r : LRow) : imm (rowD r) = true := by
  simp [rowD, imm, immAll, optD_imm]
theorem dp_opt {H : Hp} {v : V} {o : Option Int} (h : Dp K H v (optD o)) : v = optV o := by
  cases o with
  | none => cases h; rfl
  | some i => cases h; rfl
theorem opt_dp {H : Hp} (o : Option Int) : Dp K H (optV o) (optD o) := by
  cases o with
  | none => exact .non
  | some i => exact .int i
def rowV (r : LRow) : List V := [.int r.t, .str r.w, .int r.n, .str r.c, .str r.f, .int r.p, optV r.v]
theorem dp_row {H : Hp} {v : V} {r : LRow} (h : Dp K H v (rowD r)) : ∃ a, v = .ref a ∧ SqT K H a (rowV r) := by
  cases h with
  | tup hs ha =>
    cases ha with
    | cons h1 ha =>
      cases h1
      cases ha with
      | cons h1 ha =>
        cases h1
        cases ha with
        | cons h1 ha =>
          cases h1
          cases ha with
          | cons h1 ha =>
            cases h1
            cases ha with
            | cons h1 ha =>
              cases h1
              cases ha with
              | cons h1 ha =>
                cases h1
                cases ha with
                | cons h1 ha =>
                  cases ha
                  rw [dp_opt h1] at hs
                  exact ⟨_, rfl, hs⟩
theorem row_dp {H : Hp} {a : Addr} {r : LRow} (h : SqT K H a (rowV r)) : Dp K H (.ref a) (rowD r) :=
  .tup h (.cons (.int _) (.cons (.str _) (.cons (.int _) (.cons (.str _) (.cons (.str _) (.cons (.int _) (.cons (opt_dp _) .nil)))))))
/-! ### last_value -/
def lastV (S : Int → Bool) (ps : List (Int × Int)) : Int := ((ps.filter fun p => !S p.1).map (·.2)).getLastD 0
theorem lastV_hit {S : Int → Bool} {ps : List (Int × Int)} {j : Nat} {p : Int × Int} (e : ps[j]? = some p) (h : S p.1 = false) (lost : ∀ (i : Nat) (q : Int × Int), j < i → ps[i]? = some q → S q.1 = true) : lastV S ps = p.2 := by
  have hj := (List.getElem?_eq_some_iff.mp e).1
  have ep := (List.getElem?_eq_some_iff.mp e).2
  have e1 : ps = ps.take j ++ p :: ps.drop (j + 1) := by
    rw [← ep, List.getElem_cons_drop, List.take_append_drop]
  have e2 : (ps.drop (j + 1)).filter (fun q => !S q.1) = [] := by
    rw [List.filter_eq_nil_iff]
    intro q hq
    obtain ⟨i, hi⟩ := List.mem_iff_getElem?.mp hq
    rw [List.getElem?_drop] at hi
    simp [lost (j + 1 + i) q (by omega) hi]
  unfold lastV
  rw [e1, List.filter_append, List.filter_cons, if_pos (by simp [h]), e2, List.map_append, List.map_cons, List.map_nil, List.getLastD_concat]
theorem lastV_none {S : Int → Bool} {ps : List (Int × Int)} (lost : ∀ (i : Nat) (q : Int × Int), ps[i]? = some q → S q.1 = true) : lastV S ps = 0 := by
  have e : ps.filter (fun q => !S q.1) = [] := by
    rw [List.filter_eq_nil_iff]
    intro q hq
    obtain ⟨i, hi⟩ := List.mem_iff_getElem?.mp hq
    simp [lost i q hi]
  unfold lastV
  rw [e]
  rfl
/-- a dict with just the keys of S -/
def KeysAt (H : Hp) (a : Addr) (S : Int → Bool) : Prop := ∃ kvs, H a = some (.dK kvs) ∧ kvs.length ≤ 1000 ∧ ∀ n, (valV kvs (.inl n)).isSome = S n
abbrev s_last_value : Stmt := topS 1
theorem sc_last_value : FnScope ["writes", "lost", "task", "value"] ["writes", "lost"] (defScope s_last_value) := ⟨rfl, rfl, rfl, by decide +kernel, rfl, by decide +kernel, by decide +kernel⟩
def splast_value (K : PySem.W.Frag) : Sp := fun vs H Q _ => ∃ (v : V) (d : Addr) (S : Int → Bool) (ps : List (Int × Int)), vs = [v, .ref d] ∧ Dp K H v (.list (ps.map pairD)) ∧ KeysAt H d S ∧ Q (.int (lastV S ps)) H
theorem ok_last_value {f : Addr} {fd : FuncData} (F : Fun K "last_value" "last_value" s_last_value f fd) (gm : mg "last_value" = some (.ref f)) (N : Fre K mg)  : C8.Cal P w K mg base 1 "last_value" (splast_value K) [] := by
  refine mkCal F gm sc_last_value (F.binds (ps := ["writes", "lost"]) fun _ _ _ _ _ _ us hl => match us, hl with | [_, _], _ => rfl) (fun vs H Q E h => ?_) (fun cdv A outer s H vs Q E hr h => ?_)
  · obtain ⟨v, d, S, ps, rfl, _⟩ := h
    rfl
  · obtain ⟨v, d, S, ps, rfl, hv, ⟨kvs, hd, _, hS⟩, q⟩ := h
    refine ⟨_, (pss_cons (ps_for PassesOwn.never rfl (pi_reversed (by rfl) N.reversed (pa_cons (pv 0) pa_nil)) (pg_tup rfl (pgs_cons (pg_name (i := 2) sc_last_value.nd rfl (.inl rfl)) (pgs_cons (pg_name (i := 3) sc_last_value.nd rfl (.inl rfl)) pgs_nil)))
 (pss_one (ps_if (pt_cmp (pc_dnotin (hu_of hr) (pv 2) (pv 1)) (by with_unfolding_all rfl))
 (pss_one (ps_ret (pv 3)))
 pss_nil)))
 (pss_one (ps_ret pe_int))), ?_⟩
    obtain ⟨a, xs, rfl, hs, ha⟩ := dp_list hv
    have hl := dpAll_len ha
    rw [List.length_map] at hl
    refine ⟨_, rfl, a, xs, rfl, hs, for_it walk_rev (fun i σ H1 => H1 = H ∧ (∃ y2 y3, σ = [some (.ref a), some (.ref d), y2, y3]) ∧ ∀ j p, ps.length ≤ i + j → ps[j]? = some p → S p.1 = true) ⟨rfl, ⟨_, _, rfl⟩, fun j p hj e => ?_⟩ (fun i σ H1 _ z => by rw [z.1]; exact hs) ?_ ?_⟩
    · have := (List.getElem?_eq_some_iff.mp e).1
      omega
    · rintro i x σ H1 H2 hi ⟨rfl, ⟨y2, y3, rfl⟩, inv⟩ ⟨rfl, hx⟩
      obtain ⟨e, he, px⟩ := dpAll_get ha hx
      rw [List.getElem?_map] at he
      obtain ⟨p, hp, rfl⟩ := Option.map_eq_some_iff.mp he
      obtain ⟨b, rfl, hb⟩ := dp_pair px
      refine ⟨b, _, rfl, hb, rfl, _, _, rfl, _, _, rfl, rfl, ?_⟩
      refine ⟨_, rfl, _, rfl, d, _, rfl, DGet.k (k := .inl p.1) hd, _, rfl, ?_⟩
      rw [hS]
      cases hp1 : S p.1 with
      | true =>
        refine iteF ⟨rfl, ⟨_, _, rfl⟩, fun j q hj eq => ?_⟩
        by_cases hj2 : ps.length ≤ i + j
        · exact inv j q hj2 eq
        · have ej : j = xs.length - 1 - i := by omega
          rw [ej, hp] at eq
          cases eq
          exact hp1
      | false =>
        refine iteT ⟨_, rfl, ?_⟩
        rw [lastV_hit hp hp1 (fun j q hj eq => inv j q (by omega) eq)] at q
        exact q
    · rintro σ H1 ⟨rfl, ⟨y2, y3, rfl⟩, inv⟩
      rw [lastV_none (fun j q eq => inv j q (by omega) eq)] at q
      exact q

/-! ### truth -/
def lostS (rs : List LRow) : Int → Bool := fun n => rs.any fun r => decide (r.w = "lost") && decide (r.n = n)
def isW (f : Str) (p : Int) (r : LRow) : Bool := decide (r.w = "wrote") && (decide (r.f = f) && decide (r.p = p))
def wrs (rs : List LRow) (f : Str) (p : Int) : List (Int × Int) := (rs.filter (isW f p)).map fun r => (r.n, r.v.getD 0)
def truthF (rs : List LRow) (f : Str) (p : Int) : Int := lastV (lostS rs) (wrs rs f p)
structure ROk (r : LRow) : Prop where
  v : r.w ≠ "began" → ∃ i, r.v = some i
  w : PyData.strOk r.w = true
  c : PyData.strOk r.c = true
  f : PyData.strOk r.f = true
def VOk (rs : List LRow) : Prop := ∀ r ∈ rs, ROk r
def placeD (x : Str × Int) : PyData := .tuple [.str x.1, .int x.2]
theorem place_dp {H : Hp} {a : Addr} {f : Str} {p : Int} (h : SqT K H a [.str f, .int p]) : Dp K H (.ref a) (placeD (f, p)) := .tup h (.cons (.str _) (.cons (.int _) .nil))
theorem place_sh {x : Str × Int} (h : PyData.strOk x.1 = true) : SeqAt.shaped (placeD x) = true := by simp [h, SeqAt.shaped, placeD, PyData.canLay0, PyData.canLayAll0, PyData.depth, PyData.depthAll]
theorem place_eqv (f g : Str) (p q : Int) : PyData.eqv (placeD (f, p)) (placeD (g, q)) = (decide (f = g) && decide (p = q)) := by
  simp only [placeD, PyData.eqv, PyData.eqvAll, Bool.and_true]
  congr 1
abbrev s_truth : Stmt := topS 2
theorem sc_truth : FnScope ["log", "file", "page", "lost", "rows", "row"] ["log", "file", "page"] (defScope s_truth) := ⟨rfl, rfl, rfl, by decide +kernel, rfl, by decide +kernel, by decide +kernel⟩
def sptruth (K : PySem.W.Frag) : Sp := fun vs H Q _ => ∃ (v : V) (rs : List LRow) (f : Str) (p : Int), vs = [v, .str f, .int p] ∧ Dp K H v (.list (rs.map rowD)) ∧ rs.length ≤ 1000 ∧ VOk rs ∧ PyData.strOk f = true ∧ ∀ H', Same H H' → Q (.int (truthF rs f p)) H'
theorem any_take {α : Type} (q : α → Bool) (xs : List α) (i : Nat) (x : α) (h : xs[i]? = some x) : (xs.take (i + 1)).any q = ((xs.take i).any q || q x) := by
  rw [List.take_add_one, h, List.any_append]
  simp
theorem ok_truth {f : Addr} {fd : FuncData} (F : Fun K "truth" "truth" s_truth f fd) (gm : mg "truth" = some (.ref f)) (N : Fre K mg) (c_last_value : C8.Cal P w K mg base 1 "last_value" (splast_value K) []) : C8.Cal P w K mg base 2 "truth" (sptruth K) [] := by
  refine mkCal F gm sc_truth (F.binds (ps := ["log", "file", "page"]) fun _ _ _ _ _ _ us hl => match us, hl with | [_, _, _], _ => rfl) (fun vs H Q E h => ?_) (fun cdv A outer s H vs Q E hr h => ?_)
  · obtain ⟨v, rs, f, p, rfl, _⟩ := h
    rfl
  · obtain ⟨v, rs, f, p, rfl, hv, hlen, ok, hf, q⟩ := h
    refine ⟨_, (pss_cons (ps_setDc (i := 3) (own := [("row", 5)]) (g := gName 5) rfl sc_truth.nd rfl rfl (sw_trueD rfl rfl rfl (by decide +kernel)) (pi_list (pv 0)) (blkOk_by (N := ["log", "file", "page", "lost", "rows", "row"]) (sc := defScope s_truth) (by decide +kernel)) (fun _ _ _ _ _ => pg_name (i := 5) sc_truth.nd rfl (Or.inl rfl)) (fun _ _ _ _ _ => pts_one (pt_cmpR op_eq (pe_ix (show IxR _ (rIxT K) from ix_tup) (pv 5) pe_int (fun _ _ => rfl)) pe_str (nomark _))) (fun _ _ _ _ _ => (pe_ix (show IxR _ (rIxT K) from ix_tup) (pv 5) pe_int (fun _ _ => rfl))) (fun _ _ _ _ _ => pe_bl))
 (pss_cons (ps_setLc (i := 4) (own := [("row", 5)]) (g := gName 5) rfl sc_truth.nd rfl rfl (sw_true rfl rfl rfl (by decide +kernel)) (pi_list (pv 0)) (blkOk_by (N := ["log", "file", "page", "lost", "rows", "row"]) (sc := defScope s_truth) (by decide +kernel)) (fun _ _ _ _ _ => pg_name (i := 5) sc_truth.nd rfl (Or.inl rfl)) (fun _ _ _ _ _ => pts_one (PW.pt (pw_and (pt_cmpR op_eq (pe_ix (show IxR _ (rIxT K) from ix_tup) (pv 5) pe_int (fun _ _ => rfl)) pe_str (nomark _)) (pw_and1 (pt_cmpR (show OpR _ _ (rEqD K) from op_eqD hr.units) (pe_slice (show SlR _ (rSlT K) from sl_tup) (pv 5) (po_some pe_int) (po_some pe_int)) (pe_tup (pa_cons (pv 1) (pa_cons (pv 2) pa_nil))) (nomark _)))))) (fun _ _ _ _ _ => (pv 5)))
 (pss_one (ps_ret (C8.pe_c c_last_value hr (by decide) rfl (pa_cons (pe_lc (own := [("row", 5)]) (g := gName 5) (tt := tYes) rfl sc_truth.nd (pi_list (pv 4)) (blkOk_by (N := ["log", "file", "page", "lost", "rows", "row"]) (sc := defScope s_truth) (by decide +kernel)) (fun _ _ _ _ _ => pg_name (i := 5) sc_truth.nd rfl (Or.inl rfl)) (fun _ _ _ _ _ => pts_nil) (fun _ _ _ _ _ => (pe_tup (pa_cons (pe_ix (show IxR _ (rIxT K) from ix_tup) (pv 5) pe_int (fun _ _ => rfl)) (pa_cons (pe_ix (show IxR _ (rIxT K) from ix_tup) (pv 5) pe_int (fun _ _ => rfl)) pa_nil))))) (pa_cons (pv 3) pa_nil))))))), ?_⟩
    obtain ⟨a, xs, rfl, hs, ha⟩ := dp_list hv
    have hl := dpAll_len ha
    rw [List.length_map] at hl
    refine ⟨_, rfl, a, rfl, ⟨_, hs⟩, fun D nD => dc_it (walk_list (xs := xs)) (fun i H1 => Same H H1 ∧ ∃ kvs, H1 D = some (.dK kvs) ∧ kvs.length ≤ i ∧ ∀ n, (valV kvs (.inl n)).isSome = lostS (rs.take i) n) ⟨same_upd nD, [], upd_same, Nat.le_refl _, fun n => rfl⟩ (fun i H1 _ z => z.1.seq hs) ?_ ?_⟩
    · rintro i v H1 H2 hi ⟨s1, kvs, hD, hk, hv⟩ ⟨rfl, hx⟩
      obtain ⟨d, ed, pd⟩ := dpAll_get ha hx
      rw [List.getElem?_map] at ed
      obtain ⟨r, er, rfl⟩ := Option.map_eq_some_iff.mp ed
      obtain ⟨b, rfl, hb⟩ := dp_row (dp_same s1 _ _ pd)
      refine ⟨rfl, ⟨_, rfl, b, _, 1, _, rfl, rfl, hb, atI_nat (j := 1) rfl, rfl, _, rfl, ite2 (fun e => ?_) (fun e => ?_)⟩⟩
      · have e1 : r.w = "lost" := V.str.inj (of_decide_eq_true e)
        refine ⟨_, rfl, b, _, 2, _, rfl, rfl, hb, atI_nat (j := 2) rfl, kvs, .inl r.n, rfl, hD, by rw [sizeLine_eq]; omega, ?_, _, upd_same, ?_, fun n => ?_⟩
        · intro c o ec
          rw [upd_ne (ne_of_none ec nD)]
          exact s1 _ _ ec
        · have := length_putK kvs (.inl r.n) (.bl true)
          omega
        · rw [valV_put]
          unfold lostS
          rw [any_take _ _ i r er]
          by_cases hn : n = r.n
          · subst hn
            simp [e1]
          · rw [if_neg (fun z => hn (Sum.inl.inj z)), hv n]
            simp [lostS, show ¬ r.n = n from fun z => hn z.symm]
      · have e1 : ¬ r.w = "lost" := fun z => e (decide_eq_true (by rw [z]))
        refine ⟨s1, kvs, hD, by omega, fun n => ?_⟩
        rw [hv n]
        unfold lostS
        rw [any_take _ _ i r er]
        simp [e1]
    · rintro H1 ⟨s1, kvs, hD, hk, hvk⟩
      rw [hl, List.take_of_length_le (Nat.le_refl _)] at hvk
      -- the rows
      have ha1 := dp_sameAll s1 _ _ ha
      refine ⟨_, rfl, a, rfl, ⟨_, s1.seq hs⟩, fun D2 nD2 => lc_ty rowD rowD (fun r => if isW f p r = true then some r else none) (s1.seq hs) ha1 nD2 (by omega) rowD_imm ?_ ?_⟩
      · intro i v r H2 k kf er s2 pr hy hn
        obtain ⟨b, rfl, hb⟩ := dp_row pr
        refine ⟨rfl, ⟨_, rfl, b, _, 1, _, rfl, rfl, hb, atI_nat (j := 1) rfl, rfl, _, rfl, ite2 (fun e => ?_) (fun e => ?_)⟩⟩
        · have e1 : r.w = "wrote" := V.str.inj (of_decide_eq_true e)
          refine ⟨_, rfl, 4, rfl, 6, rfl, b, _, rfl, hb, (fun z => absurd (show HT.sIx 7 0 (some 4) = 0 from z.1) (by decide)), fun t nt => ?_⟩
          refine ⟨_, rfl, _, rfl, two_ok _ _, fun u nu => ?_⟩
          have st := same_upd (o := .tup (cutV (rowV r) (some 4) (some 6))) nt
          have su := same_upd (o := .tup [V.str f, V.int p]) nu
          have ht : SqT K _ t [.str r.f, .int r.p] := SqT.of (su _ _ (upd_same (H := H2) (a := t) (o := .tup (cutV (rowV r) (some 4) (some 6)))))
          refine ⟨_, _, place_dp ht, place_dp (SqT.of upd_same), place_sh (ok r (List.mem_of_getElem? er)).f, place_sh hf, _, rfl, ?_⟩
          rw [place_eqv]
          have hw : isW f p r = (decide (r.f = f) && decide (r.p = p)) := by
            unfold isW
            rw [e1]
            rfl
          rw [← hw]
          cases hc : isW f p r with
          | true => exact iteT ⟨_, rfl, hy r (by rw [if_pos hc]) _ _ (st.trans su) (row_dp (sqT_same (st.trans su) hb))⟩
          | false => exact iteF (hn (by rw [hc]; rfl) _ (st.trans su))
        · have e1 : ¬ r.w = "wrote" := fun z => e (decide_eq_true (by rw [z]))
          refine iteF (hn ?_ _ (Same.refl _))
          unfold isW
          rw [decide_eq_false e1]
          rfl
      · intro H2 ys s2 hD2 hy
        -- the pairs
        have ey : rs.filterMap (fun r => if isW f p r = true then some r else none) = rs.filter (isW f p) := by
          rw [← List.filterMap_eq_filter]
          rfl
        rw [ey] at hy
        have hfl : (rs.filter (isW f p)).length ≤ 1000 := Nat.le_trans (List.length_filter_le _ _) hlen
        have hD2' : H2 D = some (.dK kvs) := s2 _ _ hD
        refine ⟨_, rfl, D2, rfl, ⟨_, SqL.of hD2⟩, fun D3 nD3 => lc_map rowD pairD (fun r => (r.n, r.v.getD 0)) (SqL.of hD2) hy nD3 (by omega) pairD_imm ?_ ?_⟩
        · intro i v r H3 k er s3 pr hk3
          obtain ⟨b, rfl, hb⟩ := dp_row pr
          have hr' := List.mem_filter.mp (List.mem_of_getElem? er)
          obtain ⟨iv, eiv⟩ := (ok r hr'.1).v (fun z => by
            have w2 := hr'.2
            unfold isW at w2
            rw [z] at w2
            exact absurd w2 (by simp [show ¬ (("began" : Str) = "wrote") by decide]))
          refine ⟨rfl, ⟨_, rfl, b, _, 2, _, rfl, rfl, hb, atI_nat (j := 2) rfl, _, rfl, b, _, 6, _, rfl, rfl, hb, atI_nat (j := 6) rfl, two_ok _ _, fun t nt => hk3 _ _ (same_upd nt) ?_⟩⟩
          refine .tup (SqT.of upd_same) (.cons (.int _) (.cons ?_ .nil))
          show Dp K _ (optV r.v) (.int (r.v.getD 0))
          rw [eiv]
          exact .int _
        · intro H3 zs s3 hD3 hz
          refine ⟨_, rfl, _, D, lostS rs, _, rfl, .lst (SqL.of hD3) hz, ⟨kvs, s3 _ _ hD2', by omega, hvk⟩, ?_⟩
          exact q H3 (s1.trans (s2.trans s3))

/-! ### first_stale -/
structure WAt (K : PySem.W.Frag) (H0 H : Hp) (Wd : Addr) (g : Str → Int → List (Int × Int)) (n : Nat) : Prop where
  ex : ∃ kvs : List (List Key × V), H Wd = some (.dT kvs) ∧ kvs.length ≤ n ∧ (∀ f p, valV kvs [.inr f, .inl p] = none → g f p = []) ∧
    (∀ f p v, valV kvs [.inr f, .inl p] = some v → ∃ q ws, v = .ref q ∧ H q = some (.lst ws) ∧ DpAll K H ws ((g f p).map pairD) ∧ H0 q = none ∧ (g f p).length ≤ n) ∧
    ∀ f p f' p' q, valV kvs [.inr f, .inl p] = some (.ref q) → valV kvs [.inr f', .inl p'] = some (.ref q) → f = f' ∧ p = p'
theorem WAt.keep {H0 H H' : Hp} {Wd Ld : Addr} {g : Str → Int → List (Int × Int)} {n m : Nat} {o : HO} (h : WAt K H0 H Wd g n) (b : But Ld H H') (hL : H Ld = some o) (nf : ¬ Fix o) (nl : ∀ ws, o ≠ .lst ws) (nt : ∀ kvs, o ≠ .dT kvs) (nm : n ≤ m) : WAt K H0 H' Wd g m := by
  obtain ⟨kvs, h1, h2, h3, h4, h5⟩ := h.ex
  refine ⟨kvs, b _ _ (ne_of h1 hL (fun z => nt _ z.symm)) h1, by omega, h3, fun f p v e => ?_, h5⟩
  obtain ⟨q, ws, e1, e2, e3, e4, e5⟩ := h4 f p v e
  exact ⟨q, ws, e1, b _ _ (ne_of e2 hL (fun z => nl _ z.symm)) e2, dp_ktAll (Kt.but b hL nf) _ _ (pairs_imm _) e3, e4, by omega⟩
theorem WAt.same {H0 H H' : Hp} {Wd : Addr} {g : Str → Int → List (Int × Int)} {n m : Nat} (h : WAt K H0 H Wd g n) (b : Same H H') (nm : n ≤ m) : WAt K H0 H' Wd g m := by
  obtain ⟨kvs, h1, h2, h3, h4, h5⟩ := h.ex
  refine ⟨kvs, b _ _ h1, by omega, h3, fun f p v e => ?_, h5⟩
  obtain ⟨q, ws, e1, e2, e3, e4, e5⟩ := h4 f p v e
  exact ⟨q, ws, e1, b _ _ e2, dp_sameAll b _ _ e3, e4, by omega⟩
def EntAt (H : Hp) (Wd : Addr) (f : Str) (p : Int) (q : Addr) : Prop := ∃ kvs : List (List Key × V), H Wd = some (.dT kvs) ∧ valV kvs [.inr f, .inl p] = some (.ref q)
/-- a new entry -/
theorem WAt.new {H0 H : Hp} {Wd e : Addr} {g : Str → Int → List (Int × Int)} {n : Nat} {f : Str} {p : Int} {kvs : List (List Key × V)} (h : WAt K H0 H Wd g n) (hW : H Wd = some (.dT kvs)) (hn : valV kvs [.inr f, .inl p] = none) (sm : Same H0 H) (ne : H e = none) :
    WAt K H0 (upd (upd H e (.lst [])) Wd (.dT (putK kvs [.inr f, .inl p] (.ref e)))) Wd g (n + 1) ∧ EntAt (upd (upd H e (.lst [])) Wd (.dT (putK kvs [.inr f, .inl p] (.ref e)))) Wd f p e := by
  obtain ⟨kvs', h1, h2, h3, h4, h5⟩ := h.ex
  rw [hW] at h1
  cases h1
  have eW : e ≠ Wd := (ne_of_none hW ne).symm
  have hW2 : upd H e (.lst []) Wd = some (.dT kvs) := same_upd ne _ _ hW
  have kt : Kt H (upd (upd H e (.lst [])) Wd (.dT (putK kvs [.inr f, .inl p] (.ref e)))) := (Kt.same (same_upd ne)).trans (Kt.upd hW2 (fun z => z))
  have key : ∀ {f' : Str} {p' : Int}, ([.inr f', .inl p'] : List Key) = [.inr f, .inl p] ↔ f' = f ∧ p' = p := fun {f' p'} => ⟨fun z => by simpa using z, fun z => by rw [z.1, z.2]⟩
  refine ⟨⟨_, upd_same, ?_, fun f' p' z => ?_, fun f' p' v z => ?_, fun f1 p1 f2 p2 q z1 z2 => ?_⟩, _, upd_same, ?_⟩
  · have := length_putK kvs [.inr f, .inl p] (.ref e)
    omega
  · rw [valV_put] at z
    split at z
    · cases z
    · exact h3 f' p' z
  · rw [valV_put] at z
    split at z
    · rename_i hk
      obtain ⟨rfl, rfl⟩ := key.mp hk
      cases z
      refine ⟨e, [], rfl, by rw [upd_ne eW, upd_same], ?_, sm.free ne, ?_⟩
      · rw [h3 _ _ hn]
        exact .nil
      · rw [h3 _ _ hn]
        exact Nat.zero_le _
    · obtain ⟨q, ws, e1, e2, e3, e4, e5⟩ := h4 f' p' v z
      refine ⟨q, ws, e1, ?_, dp_ktAll kt _ _ (pairs_imm _) e3, e4, by omega⟩
      rw [upd_ne (ne_of e2 hW (fun z => nomatch z))]
      exact same_upd ne _ _ e2
  · have no : ∀ {f' : Str} {p' : Int}, valV kvs [.inr f', .inl p'] ≠ some (.ref e) := fun {f' p'} z => by
      obtain ⟨q, ws, e1, e2, _⟩ := h4 f' p' _ z
      cases e1
      rw [ne] at e2
      cases e2
    rw [valV_put] at z1 z2
    split at z1
    · rename_i hk1
      split at z2
      · rename_i hk2
        obtain ⟨rfl, rfl⟩ := key.mp hk1
        obtain ⟨rfl, rfl⟩ := key.mp hk2
        exact ⟨rfl, rfl⟩
      · cases z1
        exact absurd z2 no
    · split at z2
      · cases z2
        exact absurd z1 no
      · exact h5 f1 p1 f2 p2 q z1 z2
  · rw [valV_put, if_pos rfl]
/-- one more in an entry -/
theorem WAt.app {H0 H : Hp} {Wd q t : Addr} {g : Str → Int → List (Int × Int)} {n : Nat} {f : Str} {p : Int} {ws : List V} {x : Int × Int} (h : WAt K H0 H Wd g n) (he : EntAt H Wd f p q) (hq : H q = some (.lst ws)) (ht : Dp K H (.ref t) (pairD x)) :
    WAt K H0 (upd H q (.lst (ws ++ [.ref t]))) Wd (fun f' p' => if f' = f ∧ p' = p then g f p ++ [x] else g f' p') (n + 1) := by
  obtain ⟨kvs, h1, h2, h3, h4, h5⟩ := h.ex
  obtain ⟨kvs', h1', hv⟩ := he
  rw [h1] at h1'
  cases h1'
  have kt : Kt H (upd H q (.lst (ws ++ [.ref t]))) := Kt.upd hq (fun z => z)
  refine ⟨kvs, by rw [upd_ne (ne_of h1 hq (fun z => nomatch z))]; exact h1, by omega, fun f' p' z => ?_, fun f' p' v z => ?_, h5⟩
  · have hne : ¬ (f' = f ∧ p' = p) := fun e => by
      rw [e.1, e.2, hv] at z
      cases z
    rw [if_neg hne]
    exact h3 f' p' z
  · by_cases hc : f' = f ∧ p' = p
    · obtain ⟨rfl, rfl⟩ := hc
      rw [hv] at z
      cases z
      obtain ⟨q', ws', e1, e2, e3, e4, e5⟩ := h4 f' p' _ hv
      cases e1
      rw [hq] at e2
      cases e2
      refine ⟨q, _, rfl, upd_same, ?_, e4, ?_⟩
      · rw [if_pos ⟨rfl, rfl⟩, List.map_append]
        exact dpAll_append (dp_ktAll kt _ _ (pairs_imm _) e3) (.cons (dp_kt kt _ _ (pairD_imm x) ht) .nil)
      · rw [if_pos ⟨rfl, rfl⟩, List.length_append]
        show _ + 1 ≤ _
        omega
    · obtain ⟨q', ws', e1, e2, e3, e4, e5⟩ := h4 f' p' v z
      have hqq : q' ≠ q := fun e => by
        subst e
        subst e1
        exact hc (h5 f' p' f p q' z hv)
      refine ⟨q', ws', e1, by rw [upd_ne hqq]; exact e2, ?_, e4, ?_⟩
      · rw [if_neg hc]
        exact dp_ktAll kt _ _ (pairs_imm _) e3
      · rw [if_neg hc]
        omega
theorem wrs_take {rs : List LRow} {i : Nat} {r : LRow} (e : rs[i]? = some r) (f : Str) (p : Int) : wrs (rs.take (i + 1)) f p = wrs (rs.take i) f p ++ (if isW f p r = true then [(r.n, r.v.getD 0)] else []) := by
  unfold wrs
  rw [List.take_add_one, e, List.filter_append, List.map_append]
  congr 1
  cases h : isW f p r <;> simp [h]
theorem lost_take {rs : List LRow} {i : Nat} {r : LRow} (e : rs[i]? = some r) (n : Int) : lostS (rs.take (i + 1)) n = (lostS (rs.take i) n || (decide (r.w = "lost") && decide (r.n = n))) := by
  unfold lostS
  rw [any_take _ _ i r e]
def staleAt (rs : List LRow) (j : Nat) : Option Int := match rs[j]? with
  | some r => if r.w = "read" ∧ ¬ r.v = some (truthF (rs.take j) r.f r.p) then some r.n else none
  | none => none
theorem staleAt_eq {rs : List LRow} {j : Nat} {r : LRow} (e : rs[j]? = some r) : staleAt rs j = if r.w = "read" ∧ ¬ r.v = some (truthF (rs.take j) r.f r.p) then some r.n else none := by
  unfold staleAt
  rw [e]
def staleL (rs : List LRow) : List Int := (List.range rs.length).filterMap (staleAt rs)
def staleF (rs : List LRow) : Option Int := (staleL rs).head?
theorem head_range (g : Nat → Option Int) {n i : Nat} {x : Int} (hi : i < n) (h0 : ∀ j, j < i → g j = none) (h1 : g i = some x) : ((List.range n).filterMap g).head? = some x := by
  obtain ⟨m, rfl⟩ : ∃ m, n = i + (m + 1) := ⟨n - i - 1, by omega⟩
  have e : (List.range i).filterMap g = [] := List.filterMap_eq_nil_iff.mpr fun j hj => h0 j (List.mem_range.mp hj)
  rw [List.range_add, List.filterMap_append, e, List.nil_append, List.range_succ_eq_map, List.map_cons, List.filterMap_cons, show i + 0 = i from rfl, h1]
  rfl
theorem none_range (g : Nat → Option Int) {n : Nat} (h0 : ∀ j, j < n → g j = none) : ((List.range n).filterMap g) = [] := List.filterMap_eq_nil_iff.mpr fun j hj => h0 j (List.mem_range.mp hj)
abbrev s_first_stale : Stmt := topS 3
theorem sc_first_stale : FnScope ["log", "lost", "writes", "time", "word", "task", "client", "file", "page", "value", "place"] ["log"] (defScope s_first_stale) := ⟨rfl, rfl, rfl, by decide +kernel, rfl, by decide +kernel, by decide +kernel⟩
def spfirst_stale (K : PySem.W.Frag) : Sp := fun vs H Q _ => ∃ (v : V) (rs : List LRow), vs = [v] ∧ Dp K H v (.list (rs.map rowD)) ∧ rs.length ≤ 1000 ∧ VOk rs ∧ ∀ H', Same H H' → Q (optV (staleF rs)) H'
theorem ok_first_stale {f : Addr} {fd : FuncData} (F : Fun K "first_stale" "first_stale" s_first_stale f fd) (gm : mg "first_stale" = some (.ref f)) (N : Fre K mg) (c_last_value : C8.Cal P w K mg base 1 "last_value" (splast_value K) []) : C8.Cal P w K mg base 2 "first_stale" (spfirst_stale K) [] := by
  refine mkCal F gm sc_first_stale (F.binds (ps := ["log"]) fun _ _ _ _ _ _ us hl => match us, hl with | [_], _ => rfl) (fun vs H Q E h => ?_) (fun cdv A outer s H vs Q E hr h => ?_)
  · obtain ⟨v, rs, rfl, _⟩ := h
    rfl
  · obtain ⟨v, rs, rfl, hv, hlen, ok, q⟩ := h
    refine ⟨_, (pss_cons (ps_set (i := 1) sc_first_stale.nd rfl (.inl rfl) pe_dnewK)
 (pss_cons (ps_set (i := 2) sc_first_stale.nd rfl (.inl rfl) pe_dnewT)
 (pss_cons (ps_for PassesOwn.never rfl (pi_list (pv 0)) (pg_tup rfl (pgs_cons (pg_name (i := 3) sc_first_stale.nd rfl (.inl rfl)) (pgs_cons (pg_name (i := 4) sc_first_stale.nd rfl (.inl rfl)) (pgs_cons (pg_name (i := 5) sc_first_stale.nd rfl (.inl rfl)) (pgs_cons (pg_name (i := 6) sc_first_stale.nd rfl (.inl rfl)) (pgs_cons (pg_name (i := 7) sc_first_stale.nd rfl (.inl rfl)) (pgs_cons (pg_name (i := 8) sc_first_stale.nd rfl (.inl rfl)) (pgs_cons (pg_name (i := 9) sc_first_stale.nd rfl (.inl rfl)) pgs_nil))))))))
 (pss_cons (ps_set (i := 10) sc_first_stale.nd rfl (.inl rfl) (pe_tup (pa_cons (pv 7) (pa_cons (pv 8) pa_nil))))
 (pss_one (ps_if (pt_cmpR op_eq (pv 4) pe_str (nomark _))
 (pss_one (ps_dput (hu_of hr) (pv 1) (pv 5) pe_bl rfl))
 (pss_one (ps_if (pt_cmpR op_eq (pv 4) pe_str (nomark _))
 (pss_one (ps_expr (pe_bm PySem.F.plainAttrs_list PySem.F.slot_list_append PySem.F.type_list_append mt_append (pe_setdT (hu_of hr) (pv 2) (pv 10) (pe_lst pa_nil) ⟨rfl, rfl, rfl, rfl⟩) (pa_cons (pe_tup (pa_cons (pv 5) (pa_cons (pv 9) pa_nil))) pa_nil))))
 (pss_one (ps_if (PW.pt (pw_and (pt_cmpR op_eq (pv 4) pe_str (nomark _)) (pw_and1 (pt_cmpR op_ne (pv 9) (C8.pe_c c_last_value hr (by decide) rfl (pa_cons (pe_dget2 (hu_of hr) (pv 2) (pv 10) (pe_lst pa_nil) ⟨rfl, rfl, rfl, rfl⟩) (pa_cons (pv 1) pa_nil))) (nomark _)))))
 (pss_one (ps_ret (pv 5)))
 pss_nil))))))))
 (pss_one (ps_ret pe_non))))), ?_⟩
    obtain ⟨a, xs, rfl, hs, ha⟩ := dp_list hv
    have hl := dpAll_len ha
    rw [List.length_map] at hl
    refine fun Ld nL => fun Wd nW => ?_
    have sL := same_upd (o := .dK []) nL
    have sW := same_upd (o := .dT []) nW
    have s0 := sL.trans sW
    have hLd : upd (upd H Ld (.dK [])) Wd (.dT []) Ld = some (.dK []) := sW _ _ upd_same
    have hWd : upd (upd H Ld (.dK [])) Wd (.dT []) Wd = some (.dT []) := upd_same
    have nW0 : H Wd = none := sL.free nW
    revert s0 hLd hWd
    generalize upd (upd H Ld (.dK [])) Wd (.dT []) = H1
    intro s0 hLd hWd
    refine ⟨_, rfl, a, rfl, ⟨_, s0.seq hs⟩, for_list (xs := xs) (fun i σ H2 => (∃ y3 y4 y5 y6 y7 y8 y9 y10, σ = [some (.ref a), some (.ref Ld), some (.ref Wd), y3, y4, y5, y6, y7, y8, y9, y10]) ∧ Same H H2 ∧ (∃ kvs, H2 Ld = some (.dK kvs) ∧ kvs.length ≤ i ∧ ∀ n, (valV kvs (.inl n)).isSome = lostS (rs.take i) n) ∧ WAt K H H2 Wd (wrs (rs.take i)) (i + i) ∧ ∀ j, j < i → staleAt rs j = none)
      ⟨⟨_, _, _, _, _, _, _, _, rfl⟩, s0, ⟨[], hLd, Nat.le_refl _, fun n => rfl⟩, ⟨[], hWd, Nat.le_refl _, fun f p _ => rfl, (fun f p v z => by cases z), (fun f p f' p' q z => by cases z)⟩, fun j hj => absurd hj (Nat.not_lt_zero j)⟩ (fun i σ H2 _ z => z.2.1.seq hs) ?_ ?_⟩
    · rintro i x σ H2 hx ⟨⟨y3, y4, y5, y6, y7, y8, y9, y10, rfl⟩, s2, ⟨kl, hL2, hkl, hvl⟩, hW2, inv⟩
      obtain ⟨d, ed, pd⟩ := dpAll_get ha hx
      rw [List.getElem?_map] at ed
      obtain ⟨r, er, rfl⟩ := Option.map_eq_some_iff.mp ed
      obtain ⟨b, rfl, hb⟩ := dp_row (dp_same s2 _ _ pd)
      have hi : i < rs.length := (List.getElem?_eq_some_iff.mp er).1
      have rok := ok r (List.mem_of_getElem? er)
      refine ⟨b, _, rfl, hb, rfl, _, _, rfl, _, _, rfl, _, _, rfl, _, _, rfl, _, _, rfl, _, _, rfl, _, _, rfl, rfl, ?_⟩
      -- place
      refine ⟨_, rfl, _, rfl, two_ok _ _, fun pl npl => ?_⟩
      have s3 := same_upd (o := .tup [V.str r.f, V.int r.p]) npl
      have hpl := upd_same (H := H2) (a := pl) (o := .tup [V.str r.f, V.int r.p])
      have hL3 := s3 _ _ hL2
      have hW3 := hW2.same s3 (Nat.le_refl _)
      have s23 := s2.trans s3
      revert hpl hL3 hW3 s23
      generalize upd H2 pl (.tup [V.str r.f, V.int r.p]) = H3
      intro hpl hL3 hW3 s23
      have hWkeep : (∀ f p, isW f p r = false) → ∀ {H4 : Hp} {m : Nat}, WAt K H H4 Wd (wrs (rs.take i)) m → WAt K H H4 Wd (wrs (rs.take (i + 1))) m := fun hno H4 m hh => by
        have e : wrs (rs.take (i + 1)) = wrs (rs.take i) := by
          funext f p
          rw [wrs_take er, hno f p]
          simp
        rw [e]
        exact hh
      have hLkeep : ¬ r.w = "lost" → ∀ n, lostS (rs.take (i + 1)) n = lostS (rs.take i) n := fun hno n => by
        rw [lost_take er, decide_eq_false hno]
        simp
      refine ⟨_, rfl, rfl, _, rfl, ite2 (fun e => ?_) (fun e => ?_)⟩
      · -- lost
        have e1 : r.w = "lost" := V.str.inj (of_decide_eq_true e)
        refine ⟨_, rfl, _, rfl, Ld, _, rfl, DPut.k (k := .inl r.n) hL3 (by rw [sizeLine_eq]; omega), ⟨_, _, _, _, _, _, _, _, rfl⟩, ?_, ⟨_, upd_same, ?_, fun n => ?_⟩, ?_, ?_⟩
        · intro c o ec
          rw [upd_ne (ne_of_none ec nL)]
          exact s23 _ _ ec
        · have := length_putK kl (.inl r.n) (.bl true)
          omega
        · rw [valV_put, lost_take er, e1]
          by_cases hn : n = r.n
          · subst hn
            simp
          · rw [if_neg (fun z => hn (Sum.inl.inj z)), hvl n]
            simp [show ¬ r.n = n from fun z => hn z.symm]
        · refine hWkeep (fun f p => ?_) (hW3.keep But.put hL3 (fun z => z) (fun ws z => nomatch z) (fun kvs z => nomatch z) (by omega))
          unfold isW
          rw [e1]
          rfl
        · intro j hj
          by_cases hj2 : j < i
          · exact inv j hj2
          · obtain rfl : j = i := by omega
            unfold staleAt
            rw [er]
            exact if_neg (fun z => absurd (e1.symm.trans z.1) (by decide))
      · have e1 : ¬ r.w = "lost" := fun z => e (decide_eq_true (by rw [z]))
        refine ⟨_, rfl, rfl, _, rfl, ite2 (fun e2 => ?_) (fun e2 => ?_)⟩
        · -- wrote
          have ew : r.w = "wrote" := V.str.inj (of_decide_eq_true e2)
          obtain ⟨iv, eiv⟩ := rok.v (by rw [ew]; decide)
          obtain ⟨kw, k1, k2, k3, k4, k5⟩ := hW3.ex
          have fin : ∀ {H4 : Hp} {qq : Addr} {m : Nat}, m ≤ i + i + 1 → Same H H4 → H4 Ld = some (.dK kl) → WAt K H H4 Wd (wrs (rs.take i)) m → EntAt H4 Wd r.f r.p qq → tBM K "list" rAppend (fun _ H Q => Q (.ref qq) H) (fun _ H Q => [V.int r.n, optV r.v].length ≤ sizeLine ∧ ∀ t, H t = none → Q [.ref t] (upd H t (.tup [V.int r.n, optV r.v]))) [] H4 fun _ H5 => Same H H5 ∧ (∃ kvs, H5 Ld = some (.dK kvs) ∧ kvs.length ≤ i + 1 ∧ ∀ n, (valV kvs (.inl n)).isSome = lostS (rs.take (i + 1)) n) ∧ WAt K H H5 Wd (wrs (rs.take (i + 1))) (i + 1 + (i + 1)) := by
            intro H4 qq m hm s4 hL4 hW4 hE4
            obtain ⟨kv, g1, g2, g3, g4, g5⟩ := hW4.ex
            obtain ⟨kv', g1', gv⟩ := hE4
            rw [g1] at g1'
            cases g1'
            obtain ⟨q', ws, z1, z2, z3, z4, z5⟩ := g4 _ _ _ gv
            cases z1
            have hwl := dpAll_len z3
            rw [List.length_map] at hwl
            refine ⟨.inl ⟨rfl, _, SqL.of z2⟩, two_ok _ _, fun t nt => ?_⟩
            have s5 := same_upd (o := .tup [V.int r.n, optV r.v]) nt
            have hq5 := s5 _ _ z2
            refine ⟨qq, ws, _, rfl, rfl, hq5, by rw [sizeLine_eq]; omega, ?_, ⟨kl, ?_, by omega, fun n => by rw [hvl, hLkeep e1 n]⟩, ?_⟩
            · intro c o ec
              rw [upd_ne (ne_of_none ec z4)]
              exact s5 _ _ (s4 _ _ ec)
            · rw [upd_ne (ne_of hL4 z2 (fun z => nomatch z))]
              exact s5 _ _ hL4
            · have hW6 := (hW4.same s5 (Nat.le_refl _)).app (x := (r.n, iv)) ⟨kv, s5 _ _ g1, gv⟩ hq5 (t := t) (.tup (SqT.of upd_same) (.cons (.int _) (.cons (by rw [eiv]; exact .int _) .nil)))
              have e7 : wrs (rs.take (i + 1)) = fun f' p' => if f' = r.f ∧ p' = r.p then wrs (rs.take i) r.f r.p ++ [(r.n, iv)] else wrs (rs.take i) f' p' := by
                funext f' p'
                rw [wrs_take er, eiv]
                unfold isW
                rw [ew]
                by_cases hc : f' = r.f ∧ p' = r.p
                · obtain ⟨rfl, rfl⟩ := hc
                  simp
                · rw [if_neg hc]
                  have : ¬ (r.f = f' ∧ r.p = p') := fun z => hc ⟨z.1.symm, z.2.symm⟩
                  simp [this]
              rw [e7]
              exact hW6.same (Same.refl _) (by omega)
          have stl : ∀ j, j < i + 1 → staleAt rs j = none := by
            intro j hj
            by_cases hj2 : j < i
            · exact inv j hj2
            · obtain rfl : j = i := by omega
              unfold staleAt
              rw [er]
              exact if_neg (fun z => absurd (ew.symm.trans z.1) (by decide))
          refine ⟨_, rfl, Wd, rfl, .inr ⟨kw, .inl k1⟩, _, rfl, Nat.zero_le _, fun e ne => ?_⟩
          have se := same_upd (o := .lst []) ne
          refine ⟨kw, [.inr r.f, .inl r.p], pl, se _ _ k1, rfl, se _ _ hpl, by rw [sizeLine_eq]; omega, fun v hv => ?_, fun hn => ?_⟩
          · obtain ⟨q', ws, z1, z2, z3, z4, z5⟩ := k4 _ _ _ hv
            subst z1
            have := fin (m := i + i) (by omega) (s23.trans se) (se _ _ hL3) (hW3.same se (Nat.le_refl _)) ⟨kw, se _ _ k1, hv⟩
            obtain ⟨t1, t2, t3⟩ := this
            exact ⟨t1, _, rfl, _, rfl, t2, fun t nt => by
              obtain ⟨l, zs, y, w1, w2, w3, w4, w5, w6, w7⟩ := t3 t nt
              exact ⟨l, zs, y, w1, w2, w3, w4, ⟨_, _, _, _, _, _, _, _, rfl⟩, w5, w6, w7, stl⟩⟩
          · obtain ⟨n1, n2⟩ := hW3.new k1 hn s23 ne
            have sd : Same H (upd (upd H3 e (.lst [])) Wd (.dT (putK kw [.inr r.f, .inl r.p] (.ref e)))) := fun c o ec => by
              rw [upd_ne (ne_of_none ec nW0)]
              exact se _ _ (s23 _ _ ec)
            have hL4 : upd (upd H3 e (.lst [])) Wd (.dT (putK kw [.inr r.f, .inl r.p] (.ref e))) Ld = some (.dK kl) := by
              rw [upd_ne (ne_of hL3 k1 (fun z => nomatch z))]
              exact se _ _ hL3
            have := fin (m := i + i + 1) (by omega) sd hL4 n1 n2
            obtain ⟨t1, t2, t3⟩ := this
            exact ⟨t1, _, rfl, _, rfl, t2, fun t nt => by
              obtain ⟨l, zs, y, w1, w2, w3, w4, w5, w6, w7⟩ := t3 t nt
              exact ⟨l, zs, y, w1, w2, w3, w4, ⟨_, _, _, _, _, _, _, _, rfl⟩, w5, w6, w7, stl⟩⟩
        · have e2' : ¬ r.w = "wrote" := fun z => e2 (decide_eq_true (by rw [z]))
          have noW : ∀ f p, isW f p r = false := fun f p => by
            unfold isW
            rw [decide_eq_false e2']
            rfl
          refine ⟨_, rfl, rfl, _, rfl, ite2 (fun e3 => ?_) (fun e3 => ?_)⟩
          · -- read
            have ew : r.w = "read" := V.str.inj (of_decide_eq_true e3)
            obtain ⟨iv, eiv⟩ := rok.v (by rw [ew]; decide)
            obtain ⟨kw, k1, k2, k3, k4, k5⟩ := hW3.ex
            refine ⟨_, rfl, _, rfl, Wd, rfl, .inr ⟨kw, .inl k1⟩, _, rfl, Nat.zero_le _, fun e ne => ?_⟩
            have se := same_upd (o := .lst []) ne
            have s4 := s23.trans se
            have hdp : Dp K (upd H3 e (.lst [])) ((valV kw [.inr r.f, .inl r.p]).getD (.ref e)) (.list ((wrs (rs.take i) r.f r.p).map pairD)) := by
              cases hv : valV kw [.inr r.f, .inl r.p] with
              | none =>
                rw [k3 _ _ hv]
                exact .lst (SqL.of upd_same) .nil
              | some v =>
                obtain ⟨q', ws, z1, z2, z3, z4, z5⟩ := k4 _ _ _ hv
                subst z1
                exact .lst (SqL.of (se _ _ z2)) (dp_sameAll se _ _ z3)
            refine ⟨_, DGet.t (k := [.inr r.f, .inl r.p]) (se _ _ k1) (se _ _ hpl), _, rfl, _, Ld, lostS (rs.take i), _, rfl, hdp, ⟨kl, se _ _ hL3, by omega, hvl⟩, ?_⟩
            have ev : optV r.v = .int iv := by rw [eiv]; rfl
            refine ⟨by rw [ev]; rfl, _, rfl, ?_⟩
            rw [ev]
            by_cases hst : iv = truthF (rs.take i) r.f r.p
            · have hd : (!decide (V.int iv = V.int (lastV (lostS (rs.take i)) (wrs (rs.take i) r.f r.p)))) = false := by
                rw [show V.int iv = V.int (lastV (lostS (rs.take i)) (wrs (rs.take i) r.f r.p)) from congrArg V.int hst]
                simp
              rw [hd]
              refine iteF ⟨⟨_, _, _, _, _, _, _, _, rfl⟩, s4, ⟨kl, se _ _ hL3, by omega, fun n => by rw [hvl, hLkeep e1 n]⟩, hWkeep noW (hW3.same se (by omega)), ?_⟩
              intro j hj
              by_cases hj2 : j < i
              · exact inv j hj2
              · obtain rfl : j = i := by omega
                unfold staleAt
                rw [er]
                exact if_neg (fun z => z.2 (by rw [eiv, hst]))
            · have hd : (!decide (V.int iv = V.int (lastV (lostS (rs.take i)) (wrs (rs.take i) r.f r.p)))) = true := by
                show (!decide (V.int iv = V.int (truthF (rs.take i) r.f r.p))) = true
                rw [decide_eq_false (fun z => hst (V.int.inj z))]
                rfl
              rw [hd]
              refine iteT ⟨_, rfl, ?_⟩
              have := q _ s4
              have es : staleF rs = some r.n := by
                refine head_range (staleAt rs) hi inv ?_
                unfold staleAt
                rw [er]
                exact if_pos ⟨ew, fun z => hst (by rw [eiv] at z; exact Option.some.inj z)⟩
              rw [es] at this
              exact this
          · have ew : ¬ r.w = "read" := fun z => e3 (decide_eq_true (by rw [z]))
            refine iteF ⟨⟨_, _, _, _, _, _, _, _, rfl⟩, s23, ⟨kl, hL3, by omega, fun n => by rw [hvl, hLkeep e1 n]⟩, hWkeep noW (hW3.same (Same.refl _) (by omega)), ?_⟩
            intro j hj
            by_cases hj2 : j < i
            · exact inv j hj2
            · obtain rfl : j = i := by omega
              unfold staleAt
              rw [er]
              exact if_neg (fun z => ew z.1)
    · rintro σ H2 ⟨_, s2, _, _, inv⟩
      rw [hl] at inv
      have := q H2 s2
      have es : staleF rs = none := by
        unfold staleF staleL
        rw [none_range _ inv]
        rfl
      rw [es] at this
      exact this

/-! ### the law's own truth -/
abbrev s__law_truth : Stmt := topS 8
theorem sc__law_truth : FnScope ["rows", "file", "page", "gone", "found", "row"] ["rows", "file", "page"] (defScope s__law_truth) := ⟨rfl, rfl, rfl, by decide +kernel, rfl, by decide +kernel, by decide +kernel⟩
def sp_law_truth (K : PySem.W.Frag) : Sp := fun vs H Q _ => ∃ (v : V) (rs : List LRow) (f : Str) (p : Int), vs = [v, .str f, .int p] ∧ Dp K H v (.list (rs.map rowD)) ∧ rs.length ≤ 1000 ∧ VOk rs ∧ PyData.strOk f = true ∧ ∀ H', Same H H' → Q (.int (truthF rs f p)) H'
theorem lostS_mem (rs : List LRow) (n : Int) : decide (n ∈ rs.filterMap fun (r : LRow) => if r.w = ("lost" : Str) then some r.n else none) = lostS rs n := by
  unfold lostS
  by_cases h : n ∈ rs.filterMap fun (r : LRow) => if r.w = ("lost" : Str) then some r.n else none
  · rw [decide_eq_true h]
    obtain ⟨r, hr, e⟩ := List.mem_filterMap.mp h
    symm
    rw [List.any_eq_true]
    refine ⟨r, hr, ?_⟩
    by_cases hw : r.w = "lost"
    · rw [if_pos hw] at e
      cases e
      simp [hw]
    · rw [if_neg hw] at e
      cases e
  · rw [decide_eq_false h]
    symm
    rw [List.any_eq_false]
    intro r hr z
    have z2 : r.w = "lost" ∧ r.n = n := by simpa using z
    exact h (List.mem_filterMap.mpr ⟨r, hr, by rw [if_pos z2.1, z2.2]⟩)
theorem truth_last (rs : List LRow) (f : Str) (p : Int) : ∃ xs, (0 : Int) :: rs.filterMap (fun r => if isW f p r && !lostS rs r.n then some (r.v.getD 0) else none) = xs ++ [truthF rs f p] := by
  have e : rs.filterMap (fun r => if isW f p r && !lostS rs r.n then some (r.v.getD 0) else none) = ((wrs rs f p).filter fun q => !lostS rs q.1).map (·.2) := by
    unfold wrs
    generalize lostS rs = S
    induction rs with
    | nil => rfl
    | cons r rs ih =>
      rw [List.filterMap_cons, List.filter_cons]
      cases h1 : isW f p r with
      | false => simpa [h1] using ih
      | true =>
        cases h2 : S r.n with
        | false => simpa [h1, h2] using ih
        | true => simpa [h1, h2] using ih
  rw [e]
  unfold truthF lastV
  generalize ((wrs rs f p).filter fun q => !lostS rs q.1).map (·.2) = zs
  rcases List.eq_nil_or_concat zs with rfl | ⟨ys, y, rfl⟩
  · exact ⟨[], rfl⟩
  · refine ⟨0 :: ys, ?_⟩
    rw [List.concat_eq_append, List.getLastD_concat]
    rfl
theorem ok__law_truth {f : Addr} {fd : FuncData} (F : Fun K "_law_truth" "_law_truth" s__law_truth f fd) (gm : mg "_law_truth" = some (.ref f)) (N : Fre K mg)  : C8.Cal P w K mg base 1 "_law_truth" (sp_law_truth K) [] := by
  refine mkCal F gm sc__law_truth (F.binds (ps := ["rows", "file", "page"]) fun _ _ _ _ _ _ us hl => match us, hl with | [_, _, _], _ => rfl) (fun vs H Q E h => ?_) (fun cdv A outer s H vs Q E hr h => ?_)
  · obtain ⟨v, rs, f, p, rfl, _⟩ := h
    rfl
  · obtain ⟨v, rs, f, p, rfl, hv, hlen, ok, hf, q⟩ := h
    refine ⟨_, (pss_cons (ps_set (i := 3) sc__law_truth.nd rfl (.inr rfl) (pe_lc (own := [("row", 5)]) (g := gName 5) rfl sc__law_truth.nd (pi_list (pv 0)) (blkOk_by (N := ["rows", "file", "page", "gone", "found", "row"]) (sc := defScope s__law_truth) (by decide +kernel)) (fun _ _ _ _ _ => pg_name (i := 5) sc__law_truth.nd rfl (Or.inl rfl)) (fun _ _ _ _ _ => pts_one (pt_cmpR op_eq (pe_ix (show IxR _ (rIxT K) from ix_tup) (pv 5) pe_int (fun _ _ => rfl)) pe_str (nomark _))) (fun _ _ _ _ _ => (pe_ix (show IxR _ (rIxT K) from ix_tup) (pv 5) pe_int (fun _ _ => rfl)))))
 (pss_cons (ps_set (i := 4) sc__law_truth.nd rfl (.inl rfl) (pe_op op_cat (pe_lst (pa_cons pe_int pa_nil)) (pe_lc (own := [("row", 5)]) (g := gName 5) rfl sc__law_truth.nd (pi_list (pv 0)) (blkOk_by (N := ["rows", "file", "page", "gone", "found", "row"]) (sc := defScope s__law_truth) (by decide +kernel)) (fun _ _ _ _ _ => pg_name (i := 5) sc__law_truth.nd rfl (Or.inl rfl)) (fun _ _ _ _ _ => pts_one (PW.pt (pw_and (pt_cmpR op_eq (pe_ix (show IxR _ (rIxT K) from ix_tup) (pv 5) pe_int (fun _ _ => rfl)) pe_str (nomark _)) (pw_and (pt_cmpR (show OpR _ _ (rEqD K) from op_eqD hr.units) (pe_slice (show SlR _ (rSlT K) from sl_tup) (pv 5) (po_some pe_int) (po_some pe_int)) (pe_tup (pa_cons (pv 1) (pa_cons (pv 2) pa_nil))) (nomark _)) (pw_and1 (pt_cmpR (show OpR _ _ (rIn K true) from op_notIn_seq) (pe_ix (show IxR _ (rIxT K) from ix_tup) (pv 5) pe_int (fun _ _ => rfl)) (pv 3) (by with_unfolding_all rfl))))))) (fun _ _ _ _ _ => (pe_ix (show IxR _ (rIxT K) from ix_tup) (pv 5) pe_int (fun _ _ => rfl))))))
 (pss_one (ps_ret (pe_ix ix_list (pv 4) (pe_un un_neg pe_int) (fun _ _ => rfl)))))), ?_⟩
    obtain ⟨a, xs, rfl, hs, ha⟩ := dp_list hv
    refine ⟨_, rfl, a, rfl, ⟨_, hs⟩, fun D nD => lc_ty rowD PyData.int (fun r => if r.w = "lost" then some r.n else none) hs ha nD (by omega) (fun _ => rfl) ?_ ?_⟩
    · intro i v r H2 k kf er s2 pr hy hn
      obtain ⟨b, rfl, hb⟩ := dp_row pr
      refine ⟨rfl, ⟨_, rfl, b, _, 1, _, rfl, rfl, hb, atI_nat (j := 1) rfl, rfl, _, rfl, ite2 (fun e => ?_) (fun e => ?_)⟩⟩
      · have e1 : r.w = "lost" := V.str.inj (of_decide_eq_true e)
        exact ⟨_, rfl, b, _, 2, _, rfl, rfl, hb, atI_nat (j := 2) rfl, hy _ (if_pos e1) _ _ (Same.refl _) (.int _)⟩
      · have e1 : ¬ r.w = "lost" := fun z => e (decide_eq_true (by rw [z]))
        exact hn (if_neg e1) _ (Same.refl _)
    · intro H1 ys s1 hD hy
      have ey := dp_ints hy
      subst ey
      have ha1 := dp_sameAll s1 _ _ ha
      refine ⟨(by show 1 ≤ sizeLine; decide), fun Z nZ => ?_⟩
      have sZ := same_upd (o := .lst [V.int 0]) nZ
      have hZ := upd_same (H := H1) (a := Z) (o := .lst [V.int 0])
      have hD' := sZ _ _ hD
      have ha2 := dp_sameAll sZ _ _ ha1
      have s01 := s1.trans sZ
      revert hZ hD' ha2 s01
      generalize upd H1 Z (.lst [V.int 0]) = H1'
      intro hZ hD' ha2 s01
      refine ⟨_, rfl, a, rfl, ⟨_, s01.seq hs⟩, fun D2 nD2 => lc_ty rowD PyData.int (fun r => if isW f p r && !lostS rs r.n then some (r.v.getD 0) else none) (s01.seq hs) ha2 nD2 (by omega) (fun _ => rfl) ?_ ?_⟩
      · intro i v r H2 k kf er s2 pr hy hn
        obtain ⟨b, rfl, hb⟩ := dp_row pr
        have hrm := List.mem_of_getElem? er
        refine ⟨rfl, ⟨_, rfl, b, _, 1, _, rfl, rfl, hb, atI_nat (j := 1) rfl, rfl, _, rfl, ite2 (fun e => ?_) (fun e => ?_)⟩⟩
        · have e1 : r.w = "wrote" := V.str.inj (of_decide_eq_true e)
          obtain ⟨iv, eiv⟩ := (ok r hrm).v (by rw [e1]; decide)
          refine ⟨_, rfl, 4, rfl, 6, rfl, b, _, rfl, hb, (fun z => absurd (show HT.sIx 7 0 (some 4) = 0 from z.1) (by decide)), fun t nt => ?_⟩
          refine ⟨_, rfl, _, rfl, two_ok _ _, fun u nu => ?_⟩
          have st := same_upd (o := .tup (cutV (rowV r) (some 4) (some 6))) nt
          have su := same_upd (o := .tup [V.str f, V.int p]) nu
          have ht : SqT K _ t [.str r.f, .int r.p] := SqT.of (su _ _ (upd_same (H := H2) (a := t) (o := .tup (cutV (rowV r) (some 4) (some 6)))))
          refine ⟨_, _, place_dp ht, place_dp (SqT.of upd_same), place_sh (ok r hrm).f, place_sh hf, _, rfl, ?_⟩
          rw [place_eqv]
          have hw : isW f p r = (decide (r.f = f) && decide (r.p = p)) := by
            unfold isW
            rw [e1]
            rfl
          rw [← hw]
          cases hc : isW f p r with
          | true =>
            have sm := s2.trans (st.trans su)
            refine iteT ⟨_, rfl, b, _, 2, _, rfl, rfl, sqT_same (st.trans su) hb, atI_nat (j := 2) rfl, _, rfl, D, _, rfl, .inl (SqL.of (sm _ _ hD')), rfl, flat_ints _, _, rfl, ?_⟩
            show if (!inV (.int r.n) (List.map V.int _)) = true then _ else _
            rw [inV_int, lostS_mem]
            cases hl : lostS rs r.n with
            | true => exact iteF (hn (by rw [hc, hl]; rfl) _ (st.trans su))
            | false =>
              refine iteT ⟨_, rfl, b, _, 6, _, rfl, rfl, sqT_same (st.trans su) hb, atI_nat (j := 6) rfl, hy (r.v.getD 0) (by rw [hc, hl]; rfl) _ _ (st.trans su) ?_⟩
              show Dp K _ (optV r.v) (.int (r.v.getD 0))
              rw [eiv]
              exact .int _
          | false => exact iteF (iteF (hn (by rw [hc]; rfl) _ (st.trans su)))
        · have e1 : ¬ r.w = "wrote" := fun z => e (decide_eq_true (by rw [z]))
          refine iteF (hn ?_ _ (Same.refl _))
          unfold isW
          rw [decide_eq_false e1]
          rfl
      · intro H2 zs s2 hD2 hz
        have ez := dp_ints hz
        have hlz : (rs.filterMap (fun r => if isW f p r && !lostS rs r.n then some (r.v.getD 0) else none)).length ≤ 1000 := Nat.le_trans (List.length_filterMap_le _ _) hlen
        have hzl : zs.length ≤ 1000 := by rw [ez, List.length_map]; exact hlz
        refine ⟨Z, D2, _, _, rfl, rfl, s2 _ _ hZ, hD2, by rw [sizeLine_eq]; show 1 + zs.length ≤ _; omega, fun R nR => ?_⟩
        have sR := same_upd (o := .lst ([V.int 0] ++ zs)) nR
        obtain ⟨us, hu⟩ := truth_last rs f p
        have e9 : [V.int 0] ++ zs = us.map V.int ++ [.int (truthF rs f p)] := by
          rw [ez]
          have := congrArg (List.map V.int) hu
          simpa using this
        refine ⟨_, rfl, 1, rfl, R, _, _, _, rfl, rfl, SqL.of (upd_same.trans (congrArg (fun z => some (HO.lst z)) e9)), last_at _ _, ?_⟩
        exact q _ (s01.trans (s2.trans sR))
/-! ### seen right -/
abbrev s__law_seen_right : Stmt := topS 9
theorem sc__law_seen_right : FnScope ["rows", "at", "time", "word", "number", "client", "file", "page", "value"] ["rows", "at"] (defScope s__law_seen_right) := ⟨rfl, rfl, rfl, by decide +kernel, rfl, by decide +kernel, by decide +kernel⟩
def sp_law_seen_right (K : PySem.W.Frag) : Sp := fun vs H Q _ => ∃ (v : V) (rs : List LRow) (j : Nat) (r : LRow), vs = [v, .int (j : Int)] ∧ Dp K H v (.list (rs.map rowD)) ∧ rs.length ≤ 1000 ∧ VOk rs ∧ rs[j]? = some r ∧ ∀ H', Same H H' → Q (.bl (staleAt rs j).isNone) H'
theorem ok__law_seen_right {f : Addr} {fd : FuncData} (F : Fun K "_law_seen_right" "_law_seen_right" s__law_seen_right f fd) (gm : mg "_law_seen_right" = some (.ref f)) (N : Fre K mg) (c__law_truth : C8.Cal P w K mg base 1 "_law_truth" (sp_law_truth K) []) : C8.Cal P w K mg base 2 "_law_seen_right" (sp_law_seen_right K) [] := by
  refine mkCal F gm sc__law_seen_right (F.binds (ps := ["rows", "at"]) fun _ _ _ _ _ _ us hl => match us, hl with | [_, _], _ => rfl) (fun vs H Q E h => ?_) (fun cdv A outer s H vs Q E hr h => ?_)
  · obtain ⟨v, rs, j, r, rfl, _⟩ := h
    rfl
  · obtain ⟨v, rs, j, r, rfl, hv, hlen, ok, er, q⟩ := h
    refine ⟨_, (pss_cons (ps_asg (pe_ix ix_list (pv 0) (pv 1) (fun _ _ => rfl)) (pg_tup rfl (pgs_cons (pg_name (i := 2) sc__law_seen_right.nd rfl (.inl rfl)) (pgs_cons (pg_name (i := 3) sc__law_seen_right.nd rfl (.inl rfl)) (pgs_cons (pg_name (i := 4) sc__law_seen_right.nd rfl (.inl rfl)) (pgs_cons (pg_name (i := 5) sc__law_seen_right.nd rfl (.inl rfl)) (pgs_cons (pg_name (i := 6) sc__law_seen_right.nd rfl (.inl rfl)) (pgs_cons (pg_name (i := 7) sc__law_seen_right.nd rfl (.inl rfl)) (pgs_cons (pg_name (i := 8) sc__law_seen_right.nd rfl (.inl rfl)) pgs_nil)))))))))
 (pss_one (ps_ret (pe_or (pe_cmpR op_ne (pv 3) pe_str (nomark _)) (pe_one (pe_cmpR op_eq (pv 8) (C8.pe_c c__law_truth hr (by decide) rfl (pa_cons (pe_slice sl_list (pv 0) po_none (po_some (pv 1))) (pa_cons (pv 6) (pa_cons (pv 7) pa_nil)))) (nomark _))))))), ?_⟩
    obtain ⟨a, xs, rfl, hs, ha⟩ := dp_list hv
    have hl := dpAll_len ha
    rw [List.length_map] at hl
    obtain ⟨v, hx, pv⟩ := dpAll_getD ha (show (rs.map rowD)[j]? = some (rowD r) by rw [List.getElem?_map, er]; rfl)
    obtain ⟨b, rfl, hb⟩ := dp_row pv
    have rok := ok r (List.mem_of_getElem? er)
    have hj : j < rs.length := (List.getElem?_eq_some_iff.mp er).1
    refine ⟨_, rfl, _, rfl, a, _, _, _, rfl, rfl, hs, atI_nat hx, b, _, rfl, hb, rfl, _, _, rfl, _, _, rfl, _, _, rfl, _, _, rfl, _, _, rfl, _, _, rfl, _, _, rfl, rfl, ?_⟩
    refine ⟨_, rfl, rfl, _, rfl, ?_⟩
    by_cases hw : r.w = "read"
    · rw [show (!decide (V.str r.w = V.str ("read" : Str))) = false by rw [hw]; simp]
      obtain ⟨iv, eiv⟩ := rok.v (by rw [hw]; decide)
      refine iteF ⟨_, rfl, _, rfl, _, rfl, _, rfl, a, _, rfl, hs, fun R nR => ?_⟩
      have sR := same_upd (o := .lst (cutV xs none (some (j : Int)))) nR
      refine ⟨_, rfl, _, rfl, _, rs.take j, _, _, rfl, .lst (SqL.of upd_same) ?_, ?_, fun r' hr' => ok r' (List.mem_of_mem_take hr'), rok.f, fun H1 s1 => ?_⟩
      · have e0 : cutV xs none (some ((j : Nat) : Int)) = xs.take j := by rw [cutL_take xs (by omega), show ((j : Nat) : Int).toNat = j by omega]
        have h0 := dp_sameAll sR _ _ (dpA_take j ha)
        rw [← e0, ← List.map_take] at h0
        exact h0
      · rw [List.length_take]
        omega
      · have ev : optV r.v = .int iv := by rw [eiv]; rfl
        have := q H1 (sR.trans s1)
        refine ⟨by rw [ev]; rfl, ?_⟩
        rw [ev]
        have e : (staleAt rs j).isNone = decide (V.int iv = V.int (truthF (rs.take j) r.f r.p)) := by
          rw [staleAt_eq er, eiv]
          by_cases hst : iv = truthF (rs.take j) r.f r.p
          · rw [decide_eq_true (congrArg V.int hst)]
            rw [if_neg (fun z => z.2 (congrArg some hst))]
            rfl
          · rw [decide_eq_false (fun z => hst (V.int.inj z))]
            rw [if_pos ⟨hw, fun z => hst (Option.some.inj z)⟩]
            rfl
        rw [← e]
        exact this
    · rw [show (!decide (V.str r.w = V.str ("read" : Str))) = true by rw [decide_eq_false (fun z => hw (V.str.inj z))]; rfl]
      refine iteT ?_
      have := q H (Same.refl H)
      have e : (staleAt rs j).isNone = true := by
        rw [staleAt_eq er, if_neg (fun z => hw z.1)]
        rfl
      rw [e] at this
      exact this

/-! ### a row drawn -/
def words6 : List Str := ["began", "read", "wrote", "lost", "wrote", "read"]
def files3 : List Str := ["a", "b", "ab"]
def clients3 : List Str := ["ann", "bo", "abcdefgh"]
theorem words6_ok : ∀ m ∈ words6, PyData.strOk m = true := by decide +kernel
theorem files3_ok : ∀ m ∈ files3, PyData.strOk m = true := by decide +kernel
theorem clients3_ok : ∀ m ∈ clients3, PyData.strOk m = true := by decide +kernel
abbrev s__law_log_row : Stmt := topS 10
theorem sc__law_log_row : FnScope ["bag", "word", "file", "number", "value", "way", "client"] ["bag"] (defScope s__law_log_row) := ⟨rfl, rfl, rfl, by decide +kernel, rfl, by decide +kernel, by decide +kernel⟩
def sp_law_log_row (K : PySem.W.Frag) : Sp := fun vs H Q _ => ∃ b : Addr, vs = [.ref b] ∧ Bag H b ∧ ∀ r p H', ROk r → r.f ∈ files3 → 0 ≤ r.p → r.p < 4 → 0 ≤ r.t → 0 ≤ r.n → r.w ∈ words6 → r.c ∈ clients3 → H p = none → But b H H' → Bag H' b → Dp K H' (.ref p) (rowD r) → Q (.ref p) H'
theorem ok__law_log_row {f : Addr} {fd : FuncData} (F : Fun K "_law_log_row" "_law_log_row" s__law_log_row f fd) (gm : mg "_law_log_row" = some (.ref f)) (N : Fre K mg) (c__law_take : C8.Cal P w K mg base 1 "_law_take" sp_law_take []) : C8.Cal P w K mg base 2 "_law_log_row" (sp_law_log_row K) [] := by
  refine mkCal F gm sc__law_log_row (F.binds (ps := ["bag"]) fun _ _ _ _ _ _ us hl => match us, hl with | [_], _ => rfl) (fun vs H Q E h => ?_) (fun cdv A outer s H vs Q E hr h => ?_)
  · obtain ⟨b, rfl, _⟩ := h
    rfl
  · obtain ⟨b, rfl, hB, q⟩ := h
    refine ⟨_, (pss_cons (ps_set (i := 1) sc__law_log_row.nd rfl (.inl rfl) (pe_ix ix_list (pe_lst (pa_cons pe_str (pa_cons pe_str (pa_cons pe_str (pa_cons pe_str (pa_cons pe_str (pa_cons pe_str pa_nil))))))) (C8.pe_c c__law_take hr (by decide) rfl (pa_cons (pv 0) (pa_cons pe_int pa_nil))) (fun _ _ => rfl)))
 (pss_cons (ps_set (i := 2) sc__law_log_row.nd rfl (.inl rfl) (pe_ix ix_list (pe_lst (pa_cons pe_str (pa_cons pe_str (pa_cons pe_str pa_nil)))) (C8.pe_c c__law_take hr (by decide) rfl (pa_cons (pv 0) (pa_cons pe_int pa_nil))) (fun _ _ => rfl)))
 (pss_cons (ps_set (i := 3) sc__law_log_row.nd rfl (.inl rfl) (C8.pe_c c__law_take hr (by decide) rfl (pa_cons (pv 0) (pa_cons pe_int pa_nil))))
 (pss_cons (ps_set (i := 4) sc__law_log_row.nd rfl (.inl rfl) (C8.pe_c c__law_take hr (by decide) rfl (pa_cons (pv 0) (pa_cons pe_int pa_nil))))
 (pss_cons (ps_set (i := 5) sc__law_log_row.nd rfl (.inl rfl) (C8.pe_c c__law_take hr (by decide) rfl (pa_cons (pv 0) (pa_cons pe_int pa_nil))))
 (C8.pss_cut (ps_if (pt_cmpR op_eq (pv 5) pe_int (nomark _))
 (pss_one (ps_set (i := 3) sc__law_log_row.nd rfl (.inl rfl) (C8.pe_c c__law_take hr (by decide) rfl (pa_cons (pv 0) (pa_cons (pe_op op_pow pe_int pe_int) pa_nil)))))
 pss_nil)
 (C8.pss_cut (ps_if (pt_cmpR op_eq (pv 5) pe_int (nomark _))
 (pss_one (ps_set (i := 4) sc__law_log_row.nd rfl (.inl rfl) (pe_op op_add (pe_un un_neg (pe_op op_pow pe_int pe_int)) (C8.pe_c c__law_take hr (by decide) rfl (pa_cons (pv 0) (pa_cons pe_int pa_nil))))))
 pss_nil)
 (C8.pss_cut (ps_if (PW.pt (pw_and (pt_cmpR op_eq (pv 1) pe_str (nomark _)) (pw_and1 (pt_cmpR op_lt (pv 5) pe_int (nomark _)))))
 (pss_one (ps_set (i := 4) sc__law_log_row.nd rfl (.inl rfl) pe_non))
 pss_nil)
 (pss_cons (ps_set (i := 6) sc__law_log_row.nd rfl (.inl rfl) (pe_ix ix_list (pe_lst (pa_cons pe_str (pa_cons pe_str (pa_cons pe_str pa_nil)))) (C8.pe_c c__law_take hr (by decide) rfl (pa_cons (pv 0) (pa_cons pe_int pa_nil))) (fun _ _ => rfl)))
 (pss_one (ps_ret (pe_tup (pa_cons (C8.pe_c c__law_take hr (by decide) rfl (pa_cons (pv 0) (pa_cons pe_int pa_nil))) (pa_cons (pv 1) (pa_cons (pv 3) (pa_cons (pv 6) (pa_cons (pv 2) (pa_cons (C8.pe_c c__law_take hr (by decide) rfl (pa_cons (pv 0) (pa_cons pe_int pa_nil))) (pa_cons (pv 4) pa_nil))))))))))))))))))), ?_⟩
    -- word
    refine ⟨(by show 6 ≤ sizeLine; decide), fun L nL => ?_⟩
    refine ⟨_, rfl, b, 6, rfl, hB.new nL, by decide, by decide, fun i H1 i0 i1 B1 G1 => ?_⟩
    obtain ⟨w, hw, ew⟩ := pickStr words6 i0 (by show i < 6; exact i1)
    have hL : H1 L = some (.lst (words6.map V.str)) := B1 _ _ (hB.ne nL) upd_same
    refine ⟨L, _, i, _, rfl, rfl, SqL.of hL, ew, ?_⟩
    have b1 : But b H H1 := (But.new nL).trans B1
    clear hL B1
    -- file
    refine ⟨three_ok _ _ _, fun L2 nL2 => ?_⟩
    refine ⟨_, rfl, b, 3, rfl, G1.new nL2, by decide, by decide, fun i2 H2 i20 i21 B2 G2 => ?_⟩
    obtain ⟨f, hf, ef⟩ := pickStr files3 i20 (by show i2 < 3; exact i21)
    have hL2 : H2 L2 = some (.lst (files3.map V.str)) := B2 _ _ (G1.ne nL2) upd_same
    refine ⟨L2, _, i2, _, rfl, rfl, SqL.of hL2, ef, ?_⟩
    have b2 : But b H H2 := b1.trans ((But.new nL2).trans B2)
    clear hL2 B2
    -- number, value, way
    refine ⟨_, rfl, b, 9, rfl, G2, by decide, by decide, fun n H3 n0 n1 B3 G3 => ?_⟩
    refine ⟨_, rfl, b, 5, rfl, G3, by decide, by decide, fun v H4 v0 v1 B4 G4 => ?_⟩
    refine ⟨_, rfl, b, 9, rfl, G4, by decide, by decide, fun y H5 y0 y1 B5 G5 => ?_⟩
    have b5 : But b H H5 := b2.trans (B3.trans (B4.trans B5))
    refine ⟨fun σ H' => ∃ n, 0 ≤ n ∧ σ = [some (.ref b), some (.str w), some (.str f), some (.int n), some (.int v), some (.int y), none] ∧ But b H H' ∧ Bag H' b, ?_, ?_⟩
    · refine ⟨_, rfl, rfl, _, rfl, ite2 (fun e => ?_) (fun e => ?_)⟩
      · refine ⟨_, rfl, 10, 39, rfl, rfl, ⟨by decide, by decide, by decide⟩, b, _, rfl, G5, by decide, by decide, fun n' H6 n0' n1' B6 G6 => ?_⟩
        exact ⟨n', n0', rfl, b5.trans B6, G6⟩
      · exact ⟨n, n0, rfl, b5, G5⟩
    · rintro σ H6 ⟨n, n0, rfl, b6, G6⟩
      refine ⟨fun σ H' => ∃ v, σ = [some (.ref b), some (.str w), some (.str f), some (.int n), some (.int v), some (.int y), none] ∧ But b H H' ∧ Bag H' b, ?_, ?_⟩
      · refine ⟨_, rfl, rfl, _, rfl, ite2 (fun e => ?_) (fun e => ?_)⟩
        · refine ⟨10, 39, rfl, rfl, ⟨by decide, by decide, by decide⟩, _, rfl, _, rfl, b, 99, rfl, G6, by decide, by decide, fun v' H7 v0' v1' B7 G7 => ?_⟩
          exact ⟨_, _, rfl, rfl, _, rfl, b6.trans B7, G7⟩
        · exact ⟨v, rfl, b6, G6⟩
      · rintro σ H7 ⟨v, rfl, b7, G7⟩
        refine ⟨fun σ H' => ∃ o : Option Int, (w ≠ "began" → ∃ i, o = some i) ∧ σ = [some (.ref b), some (.str w), some (.str f), some (.int n), some (optV o), some (.int y), none] ∧ But b H H' ∧ Bag H' b, ?_, ?_⟩
        · refine ⟨_, rfl, rfl, _, rfl, ite2 (fun e => ?_) (fun e => ?_)⟩
          · have e1 : w = "began" := V.str.inj (of_decide_eq_true e)
            refine ⟨_, rfl, _, _, rfl, rfl, _, rfl, ite2 (fun e2 => ?_) (fun e2 => ?_)⟩
            · exact ⟨none, fun z => absurd e1 z, rfl, b7, G7⟩
            · exact ⟨some v, fun _ => ⟨v, rfl⟩, rfl, b7, G7⟩
          · exact iteF ⟨some v, fun _ => ⟨v, rfl⟩, rfl, b7, G7⟩
        · rintro σ H8 ⟨o, ho, rfl, b8, G8⟩
          -- client
          refine ⟨three_ok _ _ _, fun L3 nL3 => ?_⟩
          refine ⟨_, rfl, b, 3, rfl, G8.new nL3, by decide, by decide, fun i3 H9 i30 i31 B9 G9 => ?_⟩
          obtain ⟨c, hc, ec⟩ := pickStr clients3 i30 (by show i3 < 3; exact i31)
          have hL3 : H9 L3 = some (.lst (clients3.map V.str)) := B9 _ _ (G8.ne nL3) upd_same
          refine ⟨L3, _, i3, _, rfl, rfl, SqL.of hL3, ec, ?_⟩
          have b9 : But b H H9 := b8.trans ((But.new nL3).trans B9)
          -- the row
          refine ⟨_, rfl, b, 50, rfl, G9, by decide, by decide, fun t Ha t0 t1 Ba Ga => ?_⟩
          refine ⟨_, rfl, _, rfl, _, rfl, _, rfl, _, rfl, b, 4, rfl, Ga, by decide, by decide, fun p Hb p0 p1 Bb Gb => ?_⟩
          refine ⟨_, rfl, (by show 7 ≤ sizeLine; decide), fun z nz => ?_⟩
          have bb : But b H Hb := b9.trans (Ba.trans Bb)
          refine q ⟨t, w, n, c, f, p, o⟩ z _ ⟨ho, words6_ok w hw, clients3_ok c hc, files3_ok f hf⟩ hf p0 p1 t0 n0 hw hc ?_ (bb.trans (But.new nz)) (Gb.new nz) (row_dp (SqT.of upd_same))
          exact free_of bb hB Gb nz

abbrev s__law_whole : Stmt := topS 7
theorem sc__law_whole : FnScope ["thing"] ["thing"] (defScope s__law_whole) := ⟨rfl, rfl, rfl, by decide +kernel, rfl, by decide +kernel, by decide +kernel⟩
def sp_law_whole : Sp := fun vs H Q _ => ∃ t : Int, vs = [.int t] ∧ Q (.bl true) H
theorem ok__law_whole {f : Addr} {fd : FuncData} (F : Fun K "_law_whole" "_law_whole" s__law_whole f fd) (gm : mg "_law_whole" = some (.ref f)) (N : Fre K mg)  : C8.Cal P w K mg base 1 "_law_whole" sp_law_whole [] := by
  refine mkCal F gm sc__law_whole (F.binds (ps := ["thing"]) fun _ _ _ _ _ _ us hl => match us, hl with | [_], _ => rfl) (fun vs H Q E h => ?_) (fun cdv A outer s H vs Q E hr h => ?_)
  · obtain ⟨t, rfl, _⟩ := h
    rfl
  · obtain ⟨t, rfl, q⟩ := h
    refine ⟨_, (pss_one (ps_ret (pe_and (pe_callB call_isi (by rfl) N.isinstance (by decide +kernel) (pa_cons (pv 0) (pa_cons (pe_bltn (v := .ty "int") (u := .type "int") rfl N.int (by decide +kernel) rfl) pa_nil))) (pe_one (pe_not (pe_callB call_isi (by rfl) N.isinstance (by decide +kernel) (pa_cons (pv 0) (pa_cons (pe_bltn (v := .ty "bool") (u := .type "bool") rfl N.bool (by decide +kernel) rfl) pa_nil)))))))), ?_⟩
    refine ⟨_, rfl, _, _, _, _, true, rfl, .ty _, .base (.int _), kit_ty (by decide +kernel), true, rfl, iteT ?_⟩
    exact ⟨_, rfl, _, _, _, _, false, rfl, .ty _, .base (.int _), kit_ty (by decide +kernel), false, rfl, q⟩

/-! ### the law -/
theorem row_sh {r : LRow} (h : ROk r) : (rowD r).canLay0 = true := by
  have e : (optD r.v).canLay0 = true := by cases r.v <;> simp [optD, PyData.canLay0]
  simp [rowD, PyData.canLay0, PyData.canLayAll0, h.w, h.c, h.f, e]
theorem row_deep (r : LRow) : (rowD r).depth ≤ 1 := by
  have e : (optD r.v).depth = 0 := by cases r.v <;> simp [optD, PyData.depth]
  simp [rowD, PyData.depth, PyData.depthAll, e]
theorem rows_sh {rs : List LRow} (h : VOk rs) : (PyData.list (rs.map rowD)).canLay0 = true := by
  rw [PyData.canLay0]
  induction rs with
  | nil => simp [PyData.canLayAll0]
  | cons r rs ih =>
    rw [List.map_cons, PyData.canLayAll0, row_sh (h r List.mem_cons_self), ih fun r' hr' => h r' (List.mem_cons_of_mem _ hr')]
    rfl
theorem rows_deep (rs : List LRow) : (PyData.list (rs.map rowD)).depth ≤ 64 := by
  have : PyData.depthAll (rs.map rowD) ≤ 1 := by
    induction rs with
    | nil => simp [PyData.depthAll]
    | cons r rs ih =>
      rw [List.map_cons, PyData.depthAll]
      exact Nat.max_le.mpr ⟨row_deep r, ih⟩
  rw [PyData.depth]
  omega
theorem rows_shaped {rs : List LRow} (h : VOk rs) : SeqAt.shaped (.list (rs.map rowD)) = true := by
  unfold SeqAt.shaped
  rw [rows_sh h, decide_eq_true (rows_deep rs)]
  rfl
abbrev s_law : Stmt := topS 11
theorem sc_law : FnScope ["script", "k", "bag", "turn", "rows", "handed", "file", "page", "found", "stale", "at", "row"] ["script"] (defScope s_law) := ⟨rfl, rfl, rfl, by decide +kernel, rfl, by decide +kernel, by decide +kernel⟩
def splaw (K : PySem.W.Frag) : Sp := fun vs H Q _ => ∃ (a : Addr) (ns : List Int), vs = [.ref a] ∧ SqL K H a (ns.map V.int) ∧ ns.length ≤ 63 ∧ ∀ H', Q (.bl true) H'
/-- the rows, as they stand -/
def RowsAt (K : PySem.W.Frag) (H : Hp) (L : Addr) : Prop := ∃ ys rs, H L = some (.lst ys) ∧ DpAll K H ys (rs.map rowD) ∧ VOk rs ∧ rs.length ≤ 40
theorem rows_imm (rs : List LRow) : immAll (rs.map rowD) = true := immAll_iff.mpr fun e he => by
  obtain ⟨y, _, rfl⟩ := List.mem_map.mp he
  exact rowD_imm y
theorem ok_law {f : Addr} {fd : FuncData} (F : Fun K "law" "law" s_law f fd) (N : Fre K mg) (c__law_bag : C8.Cal P w K mg base 1 "_law_bag" (sp_law_bag K) []) (c__law_log_row : C8.Cal P w K mg base 2 "_law_log_row" (sp_law_log_row K) []) (c__law_seen_right : C8.Cal P w K mg base 2 "_law_seen_right" (sp_law_seen_right K) []) (c__law_take : C8.Cal P w K mg base 1 "_law_take" sp_law_take []) (c__law_truth : C8.Cal P w K mg base 1 "_law_truth" (sp_law_truth K) []) (c__law_whole : C8.Cal P w K mg base 1 "_law_whole" sp_law_whole []) (c_first_stale : C8.Cal P w K mg base 2 "first_stale" (spfirst_stale K) []) (c_truth : C8.Cal P w K mg base 2 "truth" (sptruth K) []) : FnOk P w K mg base CX0 3 f fd ["script"] (splaw K) := by
  refine F.ok sc_law (fun vs H Q E h => ?_) (fun cdv A outer s H vs Q E hr h => ?_)
  · obtain ⟨a, ns, rfl, _⟩ := h
    rfl
  · obtain ⟨a, ns, rfl, hS, hlen, q⟩ := h
    refine ⟨_, (pss_cons (ps_for PassesOwn.never rfl (pi_range1 (by rfl) N.range (pa_cons (pe_op op_add pe_int (pe_callB (call_min2 rfl) (by rfl) N.min (by decide +kernel) (pa_cons (pe_callB call_len_seq (by rfl) N.len (by decide +kernel) (pa_cons (pv 0) pa_nil)) (pa_cons pe_int pa_nil)))) pa_nil)) (pg_name (i := 1) sc_law.nd rfl (.inl rfl))
 (pss_cons (ps_set (i := 2) sc_law.nd rfl (.inr rfl) (C8.pe_c c__law_bag hr (by decide) rfl (pa_cons (pv 0) (pa_cons (pv 1) pa_nil))))
 (pss_cons (ps_set (i := 4) sc_law.nd rfl (.inr rfl) (pe_lc (own := [("turn", 3)]) (g := gName 3) (tt := tYes) rfl sc_law.nd (pi_range1 (by rfl) N.range (pa_cons (C8.pe_c c__law_take hr (by decide) rfl (pa_cons (pv 2) (pa_cons pe_int pa_nil))) pa_nil)) (blkOk_by (N := ["script", "k", "bag", "turn", "rows", "handed", "file", "page", "found", "stale", "at", "row"]) (sc := defScope s_law) (by decide +kernel)) (fun _ _ _ _ _ => pg_name (i := 3) sc_law.nd rfl (Or.inl rfl)) (fun _ _ _ _ _ => pts_nil) (fun _ _ _ _ _ => (C8.pe_c c__law_log_row hr (by decide) rfl (pa_cons (pv 2) pa_nil)))))
 (pss_one (ps_for PassesOwn.never rfl (pi_range1 (by rfl) N.range (pa_cons pe_int pa_nil)) (pg_name (i := 3) sc_law.nd rfl (.inl rfl))
 (pss_cons (ps_set (i := 5) sc_law.nd rfl (.inl rfl) (pe_callTy call_list_of (by rfl) N.list (by decide +kernel) (pa_cons (pv 4) pa_nil)))
 (pss_cons (ps_for PassesOwn.never rfl (pi_list (pe_lst (pa_cons pe_str (pa_cons pe_str (pa_cons pe_str (pa_cons pe_str pa_nil)))))) (pg_name (i := 6) sc_law.nd rfl (.inl rfl))
 (pss_one (ps_for PassesOwn.never rfl (pi_range1 (by rfl) N.range (pa_cons pe_int pa_nil)) (pg_name (i := 7) sc_law.nd rfl (.inl rfl))
 (pss_cons (ps_set (i := 8) sc_law.nd rfl (.inl rfl) (C8.pe_c c_truth hr (by decide) rfl (pa_cons (pv 5) (pa_cons (pv 6) (pa_cons (pv 7) pa_nil)))))
 (pss_one (ps_if (PW.pt (pw_or (pt_cmpR op_ne (pv 8) (C8.pe_c c__law_truth hr (by decide) rfl (pa_cons (pv 4) (pa_cons (pv 6) (pa_cons (pv 7) pa_nil)))) (nomark _)) (pw_or1 (pt_not (pt_val (C8.pe_c c__law_whole hr (by decide) rfl (pa_cons (pv 8) pa_nil)))))))
 (pss_one (ps_ret pe_bl))
 pss_nil))))))
 (pss_cons (ps_set (i := 9) sc_law.nd rfl (.inl rfl) (pe_slice sl_list (pe_lc (own := [("at", 10), ("row", 11)]) (g := gTup K 2 (gCons (gName 10) (gCons (gName 11) gNil))) rfl sc_law.nd (pi_enum (by rfl) N.enumerate (pa_cons (pv 4) pa_nil)) (blkOk_by (N := ["script", "k", "bag", "turn", "rows", "handed", "file", "page", "found", "stale", "at", "row"]) (sc := defScope s_law) (by decide +kernel)) (fun _ _ _ _ _ => pg_tup rfl (pgs_cons (pg_name (i := 10) sc_law.nd rfl (Or.inl rfl)) (pgs_cons (pg_name (i := 11) sc_law.nd rfl (Or.inl rfl)) pgs_nil))) (fun _ _ _ _ _ => pts_one (pt_not (pt_val (C8.pe_c c__law_seen_right hr (by decide) rfl (pa_cons (pv 4) (pa_cons (pv 10) pa_nil)))))) (fun _ _ _ _ _ => (pe_ix (show IxR _ (rIxT K) from ix_tup) (pv 11) pe_int (fun _ _ => rfl)))) po_none (po_some pe_int)))
 (C8.pss_cut (ps_if (PW.pt (pw_or (pt_cmpR op_ne (C8.pe_c c_first_stale hr (by decide) rfl (pa_cons (pv 5) pa_nil)) (pe_ifExp (pt_cmpR (op_neNil (hu0 hr)) (pv 9) (pe_lst pa_nil) (nomark _)) (pe_ix ix_list (pv 9) pe_int (fun _ _ => rfl)) pe_non) (nomark _)) (pw_or1 (pt_cmpR (op_neD hr.units) (pv 5) (pv 4) (nomark _)))))
 (pss_one (ps_ret pe_bl))
 pss_nil)
 (pss_one (ps_if (pt_cmpR (op_neNil (hu0 hr)) (pv 4) (pe_lst pa_nil) (nomark _))
 (pss_one (ps_asg (C8.pe_c c__law_log_row hr (by decide) rfl (pa_cons (pv 2) pa_nil)) (pg_sub (pv 4) (C8.pe_c c__law_take hr (by decide) rfl (pa_cons (pv 2) (pa_cons (pe_callB call_len_seq (by rfl) N.len (by decide +kernel) (pa_cons (pv 4) pa_nil)) pa_nil))) set_list)))
 pss_nil)))))))))))
 (pss_one (ps_ret pe_bl))), ?_⟩
    refine ⟨_, rfl, a, _, rfl, .inl hS, _, 12, rfl, 1, _, rfl, rfl, ?_⟩
    have hm : 0 ≤ (if (12 : Int) < ((ns.map V.int).length : Nat) then (12 : Int) else ((ns.map V.int).length : Nat)) ∧ (if (12 : Int) < ((ns.map V.int).length : Nat) then (12 : Int) else ((ns.map V.int).length : Nat)) ≤ 12 := by
      split <;> omega
    generalize (if (12 : Int) < ((ns.map V.int).length : Nat) then (12 : Int) else ((ns.map V.int).length : Nat)) = mn at hm ⊢
    refine ⟨1 + mn, rfl, by omega, by omega, for_range (fun _ σ H1 => ∃ y1 y2 y3 y4 y5 y6 y7 y8 y9 y10 y11, σ = [some (.ref a), y1, y2, y3, y4, y5, y6, y7, y8, y9, y10, y11] ∧ Same H H1) ⟨none, none, none, none, none, none, none, none, none, none, none, rfl, Same.refl H⟩ ?_ (fun σ H1 _ => q H1)⟩
    rintro i σ H1 hi ⟨y1, y2, y3, y4, y5, y6, y7, y8, y9, y10, y11, rfl, sm1⟩
    -- bag
    refine ⟨_, rfl, _, rfl, a, ns, _, rfl, sm1.seq hS, by omega, by omega, fun b H2 nb sm2 G2 => ?_⟩
    have nb0 : H b = none := sm1.free nb
    have s2 : Same H H2 := sm1.trans sm2
    -- rows
    refine ⟨_, rfl, b, 41, rfl, G2, by decide, by decide, fun m H3 m0 m1 B3 G3 => ⟨m, rfl, by omega, by omega, fun L nL => ?_⟩⟩
    have s3 : Same H H3 := same_but s2 nb0 B3
    have Lb : L ≠ b := G3.ne nL
    have nL0 : H L = none := s3.free nL
    refine lc_it walk_range (fun i H4 => But b H3 H4 ∧ Bag H4 b ∧ ∃ ys rs, H4 L = some (.lst ys) ∧ DpAll K H4 ys (rs.map rowD) ∧ VOk rs ∧ rs.length = i) ⟨But.new nL, G3.new nL, [], [], upd_same, .nil, (fun r hr => by cases hr), rfl⟩ (fun _ _ _ _ => trivial) ?_ ?_
    · rintro j v H4 H5 hj ⟨b4, G4, ys, rs, hL4, hA4, ok4, hl4⟩ ⟨rfl, hv⟩
      refine ⟨rfl, ⟨_, rfl, b, rfl, G4, fun r p H6 rok _ _ _ _ _ _ _ np B6 G6 hp => ?_⟩⟩
      have hL6 := B6 _ _ Lb hL4
      have kt : Kt H5 H6 := Kt.bag B6 G4
      have hyl := dpAll_len hA4
      rw [List.length_map] at hyl
      refine ⟨ys, hL6, by rw [sizeLine_eq]; omega, ?_, ?_, ys ++ [.ref p], rs ++ [r], upd_same, ?_, ?_, ?_⟩
      · intro c o ne e
        rw [upd_ne (ne_of_none e nL)]
        exact B6 _ _ ne (b4 _ _ ne e)
      · obtain ⟨x, y, e, g⟩ := G6
        exact ⟨x, y, by rw [upd_ne Lb.symm]; exact e, g⟩
      · rw [List.map_append]
        have k2 := Kt.upd (o' := .lst (ys ++ [.ref p])) hL6 (fun z => z)
        exact dpAll_append (dp_ktAll (kt.trans k2) _ _ (rows_imm _) hA4) (.cons (dp_kt k2 _ _ (rowD_imm r) hp) .nil)
      · intro r' hr'
        rcases List.mem_append.mp hr' with h | h
        · exact ok4 r' h
        · rw [List.mem_singleton.mp h]
          exact rok
      · rw [List.length_append, hl4]
        rfl
    rintro H4 ⟨b4, G4, ys, rs, hL4, hA4, ok4, hl4⟩
    have s4 : Same H H4 := same_but s3 nb0 b4
    have hR4 : RowsAt K H4 L := ⟨ys, rs, hL4, hA4, ok4, by omega⟩
    clear hL4 hA4 ok4 hl4
    -- turns
    refine ⟨3, rfl, by decide, by decide, for_range (fun _ σ H5 => ∃ y3 y5 y6 y7 y8 y9 y10 y11, σ = [some (.ref a), some (.int (0 + (i : Int))), some (.ref b), y3, some (.ref L), y5, y6, y7, y8, y9, y10, y11] ∧ Same H H5 ∧ Bag H5 b ∧ RowsAt K H5 L) ⟨_, _, _, _, _, _, _, _, rfl, s4, G4, hR4⟩ ?_ ?_⟩
    · rintro t σ H5 ht ⟨z3, z5, z6, z7, z8, z9, z10, z11, rfl, s5, G5, ys, rs, hL5, hA5, ok5, hl5⟩
      have hyl := dpAll_len hA5
      rw [List.length_map] at hyl
      -- handed
      refine ⟨_, rfl, L, _, rfl, .inl (SqL.of hL5), fun h nh => ?_⟩
      have s6 := same_upd (o := .lst ys) nh
      have hh6 := upd_same (H := H5) (a := h) (o := .lst ys)
      revert s6 hh6
      generalize upd H5 h (.lst ys) = H6
      intro s6 hh6
      -- files
      refine ⟨four_ok _ _ _ _, fun Lf nLf => ⟨Lf, rfl, ⟨_, SqL.of upd_same⟩, ?_⟩⟩
      have s7 := same_upd (o := .lst [V.str "a", V.str "b", V.str "ab", V.str "none"]) nLf
      have hLf := upd_same (H := H6) (a := Lf) (o := .lst [V.str "a", V.str "b", V.str "ab", V.str "none"])
      revert s7 hLf
      generalize upd H6 Lf (.lst [V.str "a", V.str "b", V.str "ab", V.str "none"]) = H7
      intro s7 hLf
      have s57 := s6.trans s7
      have hL7 := s57 _ _ hL5
      have hh7 := s7 _ _ hh6
      have hA7 := dp_sameAll s57 _ _ hA5
      have rowsL : ∀ {H' : Hp}, Same H7 H' → Dp K H' (.ref L) (.list (rs.map rowD)) := fun s => .lst (SqL.of (s _ _ hL7)) (dp_sameAll s _ _ hA7)
      have rowsh : ∀ {H' : Hp}, Same H7 H' → Dp K H' (.ref h) (.list (rs.map rowD)) := fun s => .lst (SqL.of (s _ _ hh7)) (dp_sameAll s _ _ hA7)
      refine for_list (xs := [V.str "a", V.str "b", V.str "ab", V.str "none"]) (fun _ σ H8 => ∃ y6 y7 y8, σ = [some (.ref a), some (.int (0 + (i : Int))), some (.ref b), some (.int (0 + (t : Int))), some (.ref L), some (.ref h), y6, y7, y8, z9, z10, z11] ∧ Same H7 H8) ⟨_, _, _, rfl, Same.refl _⟩ (fun _ σ H8 _ z => by obtain ⟨_, _, _, _, z⟩ := z; exact SqL.of (z _ _ hLf)) ?_ ?_
      · rintro j x σ H8 hx ⟨x6, x7, x8, rfl, s8⟩
        obtain ⟨f, hf, rfl⟩ : ∃ f : Str, PyData.strOk f = true ∧ x = .str f := by
          have hm := List.mem_of_getElem? hx
          simp only [List.mem_cons, List.not_mem_nil, or_false] at hm
          rcases hm with rfl | rfl | rfl | rfl
          · exact ⟨_, by decide +kernel, rfl⟩
          · exact ⟨_, by decide +kernel, rfl⟩
          · exact ⟨_, by decide +kernel, rfl⟩
          · exact ⟨_, by decide +kernel, rfl⟩
        -- pages
        refine ⟨4, rfl, by decide, by decide, for_range (fun _ σ H9 => ∃ y7 y8, σ = [some (.ref a), some (.int (0 + (i : Int))), some (.ref b), some (.int (0 + (t : Int))), some (.ref L), some (.ref h), some (.str f), y7, y8, z9, z10, z11] ∧ Same H7 H9) ⟨_, _, rfl, s8⟩ ?_ ?_⟩
        · rintro p σ H9 hp ⟨w7, w8, rfl, s9⟩
          refine ⟨_, rfl, _, rfl, _, rfl, _, rs, f, _, rfl, rowsh s9, by omega, ok5, hf, fun Ha sa => ?_⟩
          refine ⟨_, rfl, _, rfl, _, rfl, _, rfl, _, rs, f, _, rfl, rowsL (s9.trans sa), by omega, ok5, hf, fun Hb sb => ⟨rfl, _, rfl, ?_⟩⟩
          rw [show (!decide (V.int (truthF rs f (0 + (p : Int))) = V.int (truthF rs f (0 + (p : Int))))) = false by simp]
          refine iteF ⟨_, rfl, _, rfl, true, rfl, iteF ?_⟩
          exact ⟨_, _, rfl, s9.trans (sa.trans sb)⟩
        · rintro σ H9 ⟨w7, w8, rfl, s9⟩
          exact ⟨_, _, _, rfl, s9⟩
      · rintro σ H8 ⟨x6, x7, x8, rfl, s8⟩
        -- stale
        refine ⟨_, rfl, L, ys, rfl, SqL.of (s8 _ _ hL7), fun D nD => lc_it (walk_enum (K := K) (a := L) (xs := ys)) (fun j H9 => Same H8 H9 ∧ H9 D = some (.lst (((List.range j).filterMap (staleAt rs)).map V.int))) ⟨same_upd nD, upd_same⟩ (fun _ H9 _ z => SqL.of (z.1 _ _ (s8 _ _ hL7))) ?_ ?_⟩
        · rintro j v H9 Ha hj ⟨s9, hD9⟩ ⟨T, x, y, rfl, nT, rfl, hx, hy⟩
          cases hx
          have sT := same_upd (o := .tup [V.int (j : Nat), y]) nT
          have hT := upd_same (H := H9) (a := T) (o := .tup [V.int (j : Nat), y])
          have hDT := sT _ _ hD9
          revert sT hT hDT
          generalize upd H9 T (.tup [V.int (j : Nat), y]) = Hb
          intro sT hT hDT
          obtain ⟨d, ed, pd⟩ := dpAll_get hA7 hy
          rw [List.getElem?_map] at ed
          obtain ⟨r, er, rfl⟩ := Option.map_eq_some_iff.mp ed
          have sb := (s8.trans s9).trans sT
          obtain ⟨rb, rfl, hrb⟩ := dp_row (dp_same sb _ _ pd)
          refine ⟨T, _, rfl, SqT.of hT, rfl, _, _, rfl, _, _, rfl, rfl, rfl, ?_⟩
          refine ⟨_, rfl, _, rfl, _, rs, j, r, rfl, rowsL sb, by omega, ok5, er, fun Hc sc => ⟨_, rfl, ?_⟩⟩
          have e0 : (List.range (j + 1)).filterMap (staleAt rs) = (List.range j).filterMap (staleAt rs) ++ (staleAt rs j).toList := by
            rw [List.range_succ, List.filterMap_append]
            cases hs : staleAt rs j <;> simp [hs]
          have sH8 : Same H8 Hc := s9.trans (sT.trans sc)
          cases hs : staleAt rs j with
          | none =>
            refine iteF ⟨sH8, ?_⟩
            rw [e0, hs]
            simpa using sc _ _ hDT
          | some n =>
            have en : n = r.n := by
              rw [staleAt_eq er] at hs
              split at hs
              · exact (Option.some.inj hs).symm
              · cases hs
            refine iteT ⟨_, rfl, rb, _, 2, _, rfl, rfl, sqT_same sc hrb, atI_nat (j := 2) rfl, _, sc _ _ hDT, ?_, ?_, ?_⟩
            · rw [List.length_map]
              have h1 := List.length_filterMap_le (staleAt rs) (List.range j)
              rw [List.length_range] at h1
              rw [sizeLine_eq]
              omega
            · intro c o e
              rw [upd_ne (ne_of_none e nD)]
              exact sH8 _ _ e
            · rw [upd_same, e0, hs, en, List.map_append]
              rfl
        · rintro H9 ⟨s9, hD9⟩
          rw [hyl] at hD9
          have hD9 : H9 D = some (.lst ((staleL rs).map V.int)) := hD9
          refine ⟨1, rfl, D, _, rfl, SqL.of hD9, fun R nR => ?_⟩
          have sR := same_upd (o := .lst (cutV ((staleL rs).map V.int) none (some 1))) nR
          have hR : upd H9 R (.lst (cutV ((staleL rs).map V.int) none (some 1))) R = some (.lst (((staleL rs).map V.int).take 1)) := by
            rw [upd_same, cutL_take _ (by decide)]
            rfl
          revert sR hR
          generalize upd H9 R (.lst (cutV ((staleL rs).map V.int) none (some 1))) = Ha
          intro sR hR
          have sa := s8.trans (s9.trans sR)
          refine ⟨fun σ' H' => σ' = [some (.ref a), some (.int (0 + (i : Int))), some (.ref b), some (.int (0 + (t : Int))), some (.ref L), some (.ref h), x6, x7, x8, some (.ref R), z10, z11] ∧ Same H7 H', ?_, ?_⟩
          · refine ⟨_, rfl, _, rs, rfl, rowsh sa, by omega, ok5, fun Hb sb => ?_⟩
            refine ⟨_, rfl, Nat.zero_le _, fun e ne => ?_⟩
            have se := same_upd (o := .lst []) ne
            have hRe := se _ _ (sb _ _ hR)
            have sE := sa.trans (sb.trans se)
            have last : ∀ {σ : L2.St} {k : Bool → Hp → Prop}, σ[5]? = some (some (.ref h)) → σ[4]? = some (some (.ref L)) → k false (upd Hb e (.lst [])) → (tTest (tOp (rNeD K) (tVar 5) (tVar 4))) σ (upd Hb e (.lst [])) k := fun h5 h4 hk => by
              refine ⟨_, h5, _, h4, _, _, rowsh sE, rowsL sE, rows_shaped ok5, rows_shaped ok5, _, rfl, ?_⟩
              rw [PySem.SeqAt.eqv_refl _ (rows_sh ok5)]
              exact hk
            refine ⟨R, e, _, rfl, rfl, SqL.of hRe, SqL.of upd_same, _, rfl, ?_⟩
            cases hst : staleL rs with
            | nil =>
              have ef : staleF rs = none := by unfold staleF; rw [hst]; rfl
              rw [hst] at hRe
              refine iteF ⟨by rw [ef]; rfl, _, rfl, ?_⟩
              rw [ef, show (!decide (optV none = V.non)) = false by simp [optV]]
              refine iteF (last rfl rfl (iteF ⟨rfl, sE⟩))
            | cons x xs =>
              have ef : staleF rs = some x := by unfold staleF; rw [hst]; rfl
              rw [hst] at hRe
              refine iteT ⟨_, rfl, R, _, 0, _, rfl, rfl, SqL.of hRe, atI_nat (j := 0) rfl, by rw [ef]; rfl, _, rfl, ?_⟩
              rw [ef, show (!decide (optV (some x) = V.int x)) = false by simp [optV]]
              refine iteF (last rfl rfl (iteF ⟨rfl, sE⟩))
          · rintro σ' Hb ⟨rfl, sb⟩
            have G7 : Bag Hb b := by
              obtain ⟨x, y, e, g⟩ := G5
              exact ⟨x, y, sb _ _ (s57 _ _ e), g⟩
            have hLb := sb _ _ hL7
            have hAb := dp_sameAll sb _ _ hA7
            have s5b := s5.trans (s57.trans sb)
            refine ⟨_, rfl, Nat.zero_le _, fun e ne => ?_⟩
            have se := same_upd (o := .lst []) ne
            refine ⟨L, e, _, rfl, rfl, SqL.of (se _ _ hLb), SqL.of upd_same, _, rfl, ?_⟩
            have Ge := G7.new (o := .lst []) ne
            cases hys : ys with
            | nil =>
              refine iteF ⟨_, _, _, _, _, _, _, _, rfl, s5b.trans se, Ge, ys, rs, se _ _ hLb, dp_sameAll se _ _ hAb, ok5, hl5⟩
            | cons v0 vs0 =>
              have hpos : 0 < ys.length := by rw [hys]; exact Nat.succ_pos _
              refine iteT ⟨_, rfl, b, rfl, Ge, fun r p Hc rok _ _ _ _ _ _ _ np Bc Gc hp => ?_⟩
              have hLc := Bc _ _ Lb (se _ _ hLb)
              have sc := same_but (s5b.trans se) nb0 Bc
              have kc := Kt.bag Bc Ge
              have hAc := dp_ktAll kc _ _ (rows_imm _) (dp_sameAll se _ _ hAb)
              refine ⟨_, rfl, _, rfl, _, rfl, L, _, rfl, .inl (SqL.of hLc), b, _, rfl, Gc, by omega, by omega, fun n Hd n0 n1 Bd Gd => ?_⟩
              have hLd := Bd _ _ Lb hLc
              have kd := Kt.bag Bd Gc
              obtain ⟨j, hj, rfl, x, hx, hat⟩ := pickAt (xs := ys) n0 n1
              have hix : ixN ys.length (j : Int) = some j := by
                unfold ixN
                rw [if_pos (by omega), if_pos (by omega)]
                rfl
              refine ⟨L, ys, _, j, rfl, rfl, hLd, hix, _, _, _, _, _, _, _, _, rfl, ?_, ?_, ?_⟩
              · intro c o e
                rw [upd_ne (ne_of_none e nL0)]
                exact same_but sc nb0 Bd _ _ e
              · obtain ⟨x, y, e, g⟩ := Gd
                exact ⟨x, y, by rw [upd_ne Lb.symm]; exact e, g⟩
              · have ku := Kt.upd (o' := .lst (ys.set j (.ref p))) hLd (fun z => z)
                refine ⟨ys.set j (.ref p), rs.set j r, upd_same, ?_, ?_, by rw [List.length_set]; exact hl5⟩
                · rw [List.map_set]
                  exact dpA_set (dp_kt (kd.trans ku) _ _ (rowD_imm r) hp) j (dp_ktAll (kd.trans ku) _ _ (rows_imm _) hAc)
                · intro r' hr'
                  rcases List.mem_or_eq_of_mem_set hr' with h | h
                  · exact ok5 r' h
                  · rw [h]
                    exact rok
    · rintro σ H5 ⟨z3, z5, z6, z7, z8, z9, z10, z11, rfl, s5, _⟩
      exact ⟨_, _, _, _, _, _, _, _, _, _, _, rfl, s5⟩

end
theorem all_mk {l : PySem.W.OpenLaw} {w : World} {K : PySem.W.Frag} {h : Heap} {mg : Str → Option Value} {fa f0 f1 f2 f3 f4 f5 f6 f7 f8 f9 : Addr} (X : K.In h) (G : h.Ns mainGlobals mg) (hfa : mg "law" = some (.ref fa))
    {od0 an0 : Option Addr} {sl0 : Array (Option Value)} {oc0 kV0 dc0 pm0 cd0 ct0 : Value} {od1 an1 : Option Addr} {sl1 : Array (Option Value)} {oc1 kV1 dc1 pm1 cd1 ct1 : Value} {od2 an2 : Option Addr} {sl2 : Array (Option Value)} {oc2 kV2 dc2 pm2 cd2 ct2 : Value} {od3 an3 : Option Addr} {sl3 : Array (Option Value)} {oc3 kV3 dc3 pm3 cd3 ct3 : Value} {od4 an4 : Option Addr} {sl4 : Array (Option Value)} {oc4 kV4 dc4 pm4 cd4 ct4 : Value} {od5 an5 : Option Addr} {sl5 : Array (Option Value)} {oc5 kV5 dc5 pm5 cd5 ct5 : Value} {od6 an6 : Option Addr} {sl6 : Array (Option Value)} {oc6 kV6 dc6 pm6 cd6 ct6 : Value} {od7 an7 : Option Addr} {sl7 : Array (Option Value)} {oc7 kV7 dc7 pm7 cd7 ct7 : Value} {od8 an8 : Option Addr} {sl8 : Array (Option Value)} {oc8 kV8 dc8 pm8 cd8 ct8 : Value} {od9 an9 : Option Addr} {sl9 : Array (Option Value)} {oc9 kV9 dc9 pm9 cd9 ct9 : Value}
    (a0 : PySem.W.nsIn K mainGlobals "last_value" = some (some (.ref f0)))
    (l0 : K.lookup f0 = some ⟨oc0, od0, .func (PySem.W.fnOf "last_value" "last_value" (defArgs s_last_value) (defBody s_last_value) (defScope s_last_value) .none kV0 dc0 pm0 an0 cd0 ct0), sl0⟩)
    (c0 : PySem.W.codeIn K cd0 "last_value" = true) (k0 : PySem.W.keepIn K (.ref f0) = true)
    (a1 : PySem.W.nsIn K mainGlobals "truth" = some (some (.ref f1)))
    (l1 : K.lookup f1 = some ⟨oc1, od1, .func (PySem.W.fnOf "truth" "truth" (defArgs s_truth) (defBody s_truth) (defScope s_truth) .none kV1 dc1 pm1 an1 cd1 ct1), sl1⟩)
    (c1 : PySem.W.codeIn K cd1 "truth" = true) (k1 : PySem.W.keepIn K (.ref f1) = true)
    (a2 : PySem.W.nsIn K mainGlobals "first_stale" = some (some (.ref f2)))
    (l2 : K.lookup f2 = some ⟨oc2, od2, .func (PySem.W.fnOf "first_stale" "first_stale" (defArgs s_first_stale) (defBody s_first_stale) (defScope s_first_stale) .none kV2 dc2 pm2 an2 cd2 ct2), sl2⟩)
    (c2 : PySem.W.codeIn K cd2 "first_stale" = true) (k2 : PySem.W.keepIn K (.ref f2) = true)
    (a3 : PySem.W.nsIn K mainGlobals "_law_bag" = some (some (.ref f3)))
    (l3 : K.lookup f3 = some ⟨oc3, od3, .func (PySem.W.fnOf "_law_bag" "_law_bag" (defArgs s__law_bag) (defBody s__law_bag) (defScope s__law_bag) .none kV3 dc3 pm3 an3 cd3 ct3), sl3⟩)
    (c3 : PySem.W.codeIn K cd3 "_law_bag" = true) (k3 : PySem.W.keepIn K (.ref f3) = true)
    (a4 : PySem.W.nsIn K mainGlobals "_law_take" = some (some (.ref f4)))
    (l4 : K.lookup f4 = some ⟨oc4, od4, .func (PySem.W.fnOf "_law_take" "_law_take" (defArgs s__law_take) (defBody s__law_take) (defScope s__law_take) .none kV4 dc4 pm4 an4 cd4 ct4), sl4⟩)
    (c4 : PySem.W.codeIn K cd4 "_law_take" = true) (k4 : PySem.W.keepIn K (.ref f4) = true)
    (a5 : PySem.W.nsIn K mainGlobals "_law_whole" = some (some (.ref f5)))
    (l5 : K.lookup f5 = some ⟨oc5, od5, .func (PySem.W.fnOf "_law_whole" "_law_whole" (defArgs s__law_whole) (defBody s__law_whole) (defScope s__law_whole) .none kV5 dc5 pm5 an5 cd5 ct5), sl5⟩)
    (c5 : PySem.W.codeIn K cd5 "_law_whole" = true) (k5 : PySem.W.keepIn K (.ref f5) = true)
    (a6 : PySem.W.nsIn K mainGlobals "_law_truth" = some (some (.ref f6)))
    (l6 : K.lookup f6 = some ⟨oc6, od6, .func (PySem.W.fnOf "_law_truth" "_law_truth" (defArgs s__law_truth) (defBody s__law_truth) (defScope s__law_truth) .none kV6 dc6 pm6 an6 cd6 ct6), sl6⟩)
    (c6 : PySem.W.codeIn K cd6 "_law_truth" = true) (k6 : PySem.W.keepIn K (.ref f6) = true)
    (a7 : PySem.W.nsIn K mainGlobals "_law_seen_right" = some (some (.ref f7)))
    (l7 : K.lookup f7 = some ⟨oc7, od7, .func (PySem.W.fnOf "_law_seen_right" "_law_seen_right" (defArgs s__law_seen_right) (defBody s__law_seen_right) (defScope s__law_seen_right) .none kV7 dc7 pm7 an7 cd7 ct7), sl7⟩)
    (c7 : PySem.W.codeIn K cd7 "_law_seen_right" = true) (k7 : PySem.W.keepIn K (.ref f7) = true)
    (a8 : PySem.W.nsIn K mainGlobals "_law_log_row" = some (some (.ref f8)))
    (l8 : K.lookup f8 = some ⟨oc8, od8, .func (PySem.W.fnOf "_law_log_row" "_law_log_row" (defArgs s__law_log_row) (defBody s__law_log_row) (defScope s__law_log_row) .none kV8 dc8 pm8 an8 cd8 ct8), sl8⟩)
    (c8 : PySem.W.codeIn K cd8 "_law_log_row" = true) (k8 : PySem.W.keepIn K (.ref f8) = true)
    (a9 : PySem.W.nsIn K mainGlobals "law" = some (some (.ref f9)))
    (l9 : K.lookup f9 = some ⟨oc9, od9, .func (PySem.W.fnOf "law" "law" (defArgs s_law) (defBody s_law) (defScope s_law) .none kV9 dc9 pm9 an9 cd9 ct9), sl9⟩)
    (c9 : PySem.W.codeIn K cd9 "law" = true) (k9 : PySem.W.keepIn K (.ref f9) = true)
    (z_abs : PySem.W.nsIn K mainGlobals "abs" = some none)
    (z_bool : PySem.W.nsIn K mainGlobals "bool" = some none)
    (z_enumerate : PySem.W.nsIn K mainGlobals "enumerate" = some none)
    (z_int : PySem.W.nsIn K mainGlobals "int" = some none)
    (z_isinstance : PySem.W.nsIn K mainGlobals "isinstance" = some none)
    (z_len : PySem.W.nsIn K mainGlobals "len" = some none)
    (z_list : PySem.W.nsIn K mainGlobals "list" = some none)
    (z_min : PySem.W.nsIn K mainGlobals "min" = some none)
    (z_range : PySem.W.nsIn K mainGlobals "range" = some none)
    (z_reversed : PySem.W.nsIn K mainGlobals "reversed" = some none) :
    ∃ fd : FuncData, (∀ (s : Shared) (v : Value), BindsTo s fd ⟨[v], []⟩ [("script", v)]) ∧ ∀ base : Heap, K.In base → base.Ns mainGlobals mg → FnOk l.prog w K mg base CX0 3 fa fd ["script"] (splaw K) := by
  have N : Fre K mg := ⟨PySem.W.mg_none_of X G z_abs, PySem.W.mg_none_of X G z_bool, PySem.W.mg_none_of X G z_enumerate, PySem.W.mg_none_of X G z_int, PySem.W.mg_none_of X G z_isinstance, PySem.W.mg_none_of X G z_len, PySem.W.mg_none_of X G z_list, PySem.W.mg_none_of X G z_min, PySem.W.mg_none_of X G z_range, PySem.W.mg_none_of X G z_reversed⟩
  have e := hfa.symm.trans (PySem.W.mg_of X G a9)
  cases e
  have F0 := fun_mk (st := s_last_value) l0 c0 k0
  have F1 := fun_mk (st := s_truth) l1 c1 k1
  have F2 := fun_mk (st := s_first_stale) l2 c2 k2
  have F3 := fun_mk (st := s__law_bag) l3 c3 k3
  have F4 := fun_mk (st := s__law_take) l4 c4 k4
  have F5 := fun_mk (st := s__law_whole) l5 c5 k5
  have F6 := fun_mk (st := s__law_truth) l6 c6 k6
  have F7 := fun_mk (st := s__law_seen_right) l7 c7 k7
  have F8 := fun_mk (st := s__law_log_row) l8 c8 k8
  have F9 := fun_mk (st := s_law) l9 c9 k9
  refine ⟨PySem.W.fnOf "law" "law" (defArgs s_law) (defBody s_law) (defScope s_law) .none kV9 dc9 pm9 an9 cd9 ct9, fun s v => .of_eq rfl, fun base _ _ => ?_⟩
  have c_last_value := ok_last_value (base := base) (P := l.prog) (w := w) F0 (PySem.W.mg_of X G a0) N
  have c_truth := ok_truth (base := base) (P := l.prog) (w := w) F1 (PySem.W.mg_of X G a1) N c_last_value
  have c_first_stale := ok_first_stale (base := base) (P := l.prog) (w := w) F2 (PySem.W.mg_of X G a2) N c_last_value
  have c__law_bag := ok__law_bag (base := base) (P := l.prog) (w := w) F3 (PySem.W.mg_of X G a3) N
  have c__law_take := ok__law_take (base := base) (P := l.prog) (w := w) F4 (PySem.W.mg_of X G a4) N
  have c__law_whole := ok__law_whole (base := base) (P := l.prog) (w := w) F5 (PySem.W.mg_of X G a5) N
  have c__law_truth := ok__law_truth (base := base) (P := l.prog) (w := w) F6 (PySem.W.mg_of X G a6) N
  have c__law_seen_right := ok__law_seen_right (base := base) (P := l.prog) (w := w) F7 (PySem.W.mg_of X G a7) N c__law_truth
  have c__law_log_row := ok__law_log_row (base := base) (P := l.prog) (w := w) F8 (PySem.W.mg_of X G a8) N c__law_take
  exact ok_law (base := base) (P := l.prog) (w := w) F9 N c__law_bag c__law_log_row c__law_seen_right c__law_take c__law_truth c__law_whole c_first_stale c_truth
end My
open PySem PySem.W PyProof.Rows
set_option maxRecDepth 100000 in
set_option maxHeartbeats 0 in
theorem PySem.Challenge.cw_pagelend_k44_the_truth_of_logs_holds : PySem.Challenge.rw_pagelend_k44_the_truth_of_logs.Holds := by
  w_on; o_law; k_head; (case hw => w_witness2)
  k_fill
  refine L2.walk_of (l := PySem.Challenge.rw_pagelend_k44_the_truth_of_logs) (n := 63) (k := 3) (x := "script") (CX := fun _ => L2.CX0) (sp := fun w => My.splaw _) rfl (by decide) rfl ⟨rfl, by decide, by decide⟩ (fun w h Y => PySem.W.kIn_of Y) ?F (fun _ _ a ns hl _ hS => ⟨a, ns, rfl, hS, hl, fun _ => rfl⟩) (fun _ _ _ _ _ h => h)
  case F =>
    intro w mg fa h KX G hmg
    refine' My.all_mk KX G hmg ?a0 ?l0 ?c0 ?k0 ?a1 ?l1 ?c1 ?k1 ?a2 ?l2 ?c2 ?k2 ?a3 ?l3 ?c3 ?k3 ?a4 ?l4 ?c4 ?k4 ?a5 ?l5 ?c5 ?k5 ?a6 ?l6 ?c6 ?k6 ?a7 ?l7 ?c7 ?k7 ?a8 ?l8 ?c8 ?k8 ?a9 ?l9 ?c9 ?k9 ?z_abs ?z_bool ?z_enumerate ?z_int ?z_isinstance ?z_len ?z_list ?z_min ?z_range ?z_reversed
    (case a0 => k_is); (case l0 => k_is); (case c0 => k_is); (case k0 => k_is); (case a1 => k_is); (case l1 => k_is); (case c1 => k_is); (case k1 => k_is); (case a2 => k_is); (case l2 => k_is); (case c2 => k_is); (case k2 => k_is); (case a3 => k_is); (case l3 => k_is); (case c3 => k_is); (case k3 => k_is); (case a4 => k_is); (case l4 => k_is); (case c4 => k_is); (case k4 => k_is); (case a5 => k_is); (case l5 => k_is); (case c5 => k_is); (case k5 => k_is); (case a6 => k_is); (case l6 => k_is); (case c6 => k_is); (case k6 => k_is); (case a7 => k_is); (case l7 => k_is); (case c7 => k_is); (case k7 => k_is); (case a8 => k_is); (case l8 => k_is); (case c8 => k_is); (case k8 => k_is); (case a9 => k_is); (case l9 => k_is); (case c9 => k_is); (case k9 => k_is); (case z_abs => k_is); (case z_bool => k_is); (case z_enumerate => k_is); (case z_int => k_is); (case z_isinstance => k_is); (case z_len => k_is); (case z_list => k_is); (case z_min => k_is); (case z_range => k_is); (case z_reversed => k_is)

