
import PyProof.Rows.All
import Wide.All
import OpenK.AllK
import Wide.FinOn
import HandS.SortInts
import PySem.Challenge.RW_pagelend_k49_whole_an_order_or_why_none
import HandS.ForMost
import HandS.Wide
import HandS.Defaults
import HandS.MakeKwOnly
import HandS.IsInst
import HandS.Codes
import HandS.Walk
import HandS.TupAny
import HandS.More
import HandS.Sort
import HandS.Conv
import HandS.HotCalls
import HandS.ExcIs
import KE.KSortTupAny
import HandS.DictComp
import HandS.Deep
import HandS.Rev
import KE.KDictKeyed
import HandS.SetFor
import HandS.Strs
import HandS.SortOrd
import HandS.SortRule
import HandS.Zip
set_option Elab.async false
set_option linter.all false
set_option maxRecDepth 100000
set_option maxHeartbeats 1000000
namespace My
open PySem PySem.Spec PyProof.Rows L2
def topS (i : Nat) : Stmt := PySem.Challenge.pw_pagelend_k49_whole_an_order_or_why_none.main.body.getD i (.Pass ⟨0, 0, 0, 0⟩)
structure Fre (K : PySem.W.Frag) (mg : Str → Option Value) : Prop where
  abs : mg "abs" = none
  int : mg "int" = none
  isinstance : mg "isinstance" = none
  len : mg "len" = none
  list : mg "list" = none
  max : mg "max" = none
  min : mg "min" = none
  range : mg "range" = none
  set : mg "set" = none
  sorted : mg "sorted" = none
  tuple : mg "tuple" = none
  zip : mg "zip" = none
/-! ### calls with keywords, a def kept as its promise -/
structure CalN (P : Program) (w : World) (K : PySem.W.Frag) (mg : Str → Option Value) (base : Heap) (k : Nat) (x : Str) (sp : Sp) (n : Nat) (ks : List Str) (gV : List V → List V → List V) : Prop where
  ex : ∃ (f : Addr) (fd : FuncData) (ps : List Str) (g : List Value → List Value → List Value), FnOk P w K mg base CX0 k f fd ps sp ∧ mg x = some (.ref f) ∧ PySem.W.keepIn K (.ref f) = true ∧ KBn K fd ps n ks g gV
section
variable {X : Cx} {k j n : Nat} {x : Str} {sp : Sp} {ks : List Str} {gV : List V → List V → List V} {p pos : Pos} {e : Expr} {es : List Expr} {kws : List Keyword} {t tk : TA}
theorem pe_cn (c : CalN X.prog X.w X.K X.mg X.base k x sp n ks gV) (hr : Room j X.A) (hk : k ≤ j) (hg : Gl X x) (ha : PA X (e :: es) t) (hkw : PK X kws tk)
    (hall : (backToKw pos (keywordEach kws X.env)).all (·.1.isSome) = true := by rfl) (hks : (backToKw pos (keywordEach kws X.env)).filterMap (·.1) = ks := by rfl)
    (hdb : (x == ("__debug__" : Str)) = false := by decide) (he : starEach (e :: es) X.env = (false, eval e X.env) :: starEach es X.env := by rfl)
    (hpl : ((backTo pos (starEach (e :: es) X.env)).any (·.1) || (backToKw pos (keywordEach kws X.env)).any (·.1.isNone)) = false := by rfl) :
    PE X (.Call (.Name x p) (e :: es) kws pos) (tCallN n ks.length sp gV E0 t tk) := by
  obtain ⟨f, fd, ps, g, F, hm, kp, b⟩ := c.ex
  exact pe_callN F (hr.mono hk) hg hm kp b pass0 ha hkw hall hks hdb he hpl
theorem pe_cn0 (c : CalN X.prog X.w X.K X.mg X.base k x sp 0 ks gV) (hr : Room j X.A) (hk : k ≤ j) (hg : Gl X x) (hkw : PK X kws tk)
    (hall : (backToKw pos (keywordEach kws X.env)).all (·.1.isSome) = true := by rfl) (hks : (backToKw pos (keywordEach kws X.env)).filterMap (·.1) = ks := by rfl)
    (hdb : (x == ("__debug__" : Str)) = false := by decide)
    (hpl : ((backTo pos (starEach [] X.env)).any (·.1) || (backToKw pos (keywordEach kws X.env)).any (·.1.isNone)) = false := by rfl) :
    PE X (.Call (.Name x p) [] kws pos) (tCallN 0 ks.length sp gV E0 tNil tk) := by
  obtain ⟨f, fd, ps, g, F, hm, kp, b⟩ := c.ex
  refine ⟨fun pins s σ H Q I h => ?_⟩
  refine wpAny_Call_Name_kw (ld_glob I hg hm ?_ hdb)
  refine PySem.W.callWith_KW0 (h₀ := X.base) I.ok.mod.kin kp hall ?_ hpl
  refine thn (hkw.run pos pins s σ H _ I h) fun ws s2 ⟨zs, H2, I2, rz, l1, l2, q2⟩ => ⟨I2.kIn, ?_⟩
  rw [hks]
  exact run_fnN (us := []) (vs := []) F (hr.mono hk) b pass0 I2 .nil rz rfl l2 q2
end
section
variable {P : Program} {w : World} {K : PySem.W.Frag} {mg : Str → Option Value} {base : Heap}
theorem mkCal {x : Str} {st : Stmt} {f : Addr} {fd : FuncData} {N ps : List Str} {k : Nat} {sp : Sp} (F : Fun K x x st f fd) (gm : mg x = some (.ref f)) (S : FnScope N ps (defScope st)) (b : Binds K fd ps []) (len : ∀ vs H Q E, sp vs H Q E → vs.length = ps.length)
    (hbody : ∀ (cdv : Value) (A : Around) (outer : List Env) (s : Shared) (H : Hp) (vs : List V) (Q : VK) (E : XK), Room k (A.deeper (envOfC x (defScope st) s.heap.objs.size f cdv)) → sp vs H Q E →
      ∃ t, PSs (cxOf CX0 P w K mg base N x (defScope st) f cdv A outer s H E).nox (defBody st) t ∧ t { nx := fun _ H' => Q .non H', rt := Q } (start N vs) H) : C8.Cal P w K mg base (k + 1) x sp [] :=
  ⟨f, fd, ps, [], F.ok S len hbody, gm, F.kp, b, .nil⟩
end
/-! ### heaps -/
def But (b : Addr) (H H' : Hp) : Prop := ∀ a o, a ≠ b → H a = some o → H' a = some o
theorem But.trans {b : Addr} {H H1 H2 : Hp} (h : But b H H1) (g : But b H1 H2) : But b H H2 := fun a o n e => g a o n (h a o n e)
theorem But.refl (b : Addr) (H : Hp) : But b H H := fun _ _ _ e => e
theorem But.put {b : Addr} {H : Hp} {o : HO} : But b H (L2.upd H b o) := fun a _ n e => by rw [upd_ne n]; exact e
theorem But.new {b p : Addr} {H : Hp} {o : HO} (h : H p = none) : But b H (L2.upd H p o) := fun a _ n e => by rw [upd_ne (ne_of_none e h)]; exact e
theorem same_upd {H : Hp} {p : Addr} {o : HO} (h : H p = none) : Same H (upd H p o) := fun b x e => by
  rw [upd_ne (ne_of_none e h)]
  exact e
def Bag (H : Hp) (b : Addr) : Prop := ∃ x y : Int, H b = some (.lst [.int x, .int y]) ∧ 0 ≤ x ∧ 0 ≤ y ∧ y < 2147483647
theorem Bag.new {H : Hp} {b p : Addr} {o : HO} (g : Bag H b) (h : H p = none) : Bag (L2.upd H p o) b := by
  obtain ⟨x, y, e, r⟩ := g
  exact ⟨x, y, by rw [upd_ne (ne_of_none e h)]; exact e, r⟩
theorem Bag.ne {H : Hp} {b p : Addr} (g : Bag H b) (h : H p = none) : p ≠ b := by
  obtain ⟨x, y, e, r⟩ := g
  exact (ne_of_none e h).symm
theorem Bag.ne_tup {H : Hp} {b p : Addr} {xs : List V} (g : Bag H b) (h : H p = some (.tup xs)) : p ≠ b := by
  obtain ⟨x, y, e, r⟩ := g
  exact ne_of h e (by intro z; cases z)
theorem seqBut {K : PySem.W.Frag} {H H' : Hp} {a b : Addr} {xs : List V} (e : But b H H') (n : a ≠ b) (h : SqL K H a xs) : SqL K H' a xs := by
  rcases h with (h | ⟨o, h⟩) | h
  · exact .inl (.inl (e _ _ n h))
  · exact .inl (.inr ⟨o, e _ _ n h⟩)
  · exact .inr h
theorem dT {a : Bool} {b : Bool} (h : a = b) : decide (V.bl a = V.bl b) = true := by rw [h]; exact decide_eq_true rfl
theorem two_ok (a b : V) : [a, b].length ≤ sizeLine := by show 2 ≤ sizeLine; decide
theorem three_ok (a b c : V) : [a, b, c].length ≤ sizeLine := by show 3 ≤ sizeLine; decide
theorem four_ok (a b c d : V) : [a, b, c, d].length ≤ sizeLine := by show 4 ≤ sizeLine; decide
theorem free_of {b p : Addr} {H H' : Hp} (g : But b H H') (hB : Bag H b) (hB' : Bag H' b) (np : H' p = none) : H p = none := by
  cases e : H p with
  | none => rfl
  | some o =>
    have z := g p o (hB'.ne np) e
    rw [np] at z
    cases z
theorem same_but {b : Addr} {H0 H1 H2 : Hp} (sm : Same H0 H1) (nb : H0 b = none) (g : But b H1 H2) : Same H0 H2 := fun c o e => g c o (ne_of_none e nb) (sm c o e)
theorem iteD {p A B : Prop} [Decidable p] (h : ¬ p) (b : B) : if decide p = true then A else B := by
  rw [if_neg (by rw [decide_eq_false h]; exact Bool.false_ne_true)]
  exact b
theorem iteD' {p A B : Prop} [Decidable p] (h : p) (b : A) : if decide p = true then A else B := by
  rw [if_pos (decide_eq_true h)]
  exact b
theorem vone {vs : List V} {us : List Value} (i : Nat) (r : Vals vs us) : Vals ((vs.drop i).take 1) ((us.drop i).take 1) := by
  exact (r.drop i).take 1
section
variable {P : Program} {w : World} {K : PySem.W.Frag} {mg : Str → Option Value} {base : Heap}

/-! ### _law_take: any draw below many -/
abbrev s__law_take : Stmt := topS 17
theorem sc__law_take : FnScope ["bag", "many", "found"] ["bag", "many"] (defScope s__law_take) := ⟨rfl, rfl, rfl, by decide +kernel, rfl, by decide +kernel, by decide +kernel⟩
def sp_law_take : Sp := fun vs H Q _ => ∃ (b : Addr) (m : Int), vs = [.ref b, .int m] ∧ Bag H b ∧ 0 < m ∧ m < 2 ^ 200 ∧ ∀ r H', 0 ≤ r → r < m → But b H H' → Bag H' b → Q (.int r) H'
theorem ok__law_take {f : Addr} {fd : FuncData} (F : Fun K "_law_take" "_law_take" s__law_take f fd) (gm : mg "_law_take" = some (.ref f)) (N : Fre K mg)  : C8.Cal P w K mg base 1 "_law_take" sp_law_take [] := by
  refine mkCal F gm sc__law_take (F.binds (ps := ["bag", "many"]) fun _ _ _ _ _ _ us hl => match us, hl with | [_, _], _ => rfl) (fun vs H Q E h => ?_) (fun cdv A outer s H vs Q E hr h => ?_)
  · obtain ⟨b, m, rfl, _⟩ := h
    rfl
  · obtain ⟨b, m, rfl, ⟨x, y, hb, hx, hy, hy2⟩, hm, hm2, q⟩ := h
    refine ⟨_, (pss_cons (ps_if (pt_cmpR op_gt (pe_ix ix_list (pv 0) pe_int (fun _ _ => rfl)) pe_int (nomark _))
 (pss_cons (ps_set (i := 2) sc__law_take.nd rfl (.inl rfl) (pe_op op_mod (pe_ix ix_list (pv 0) pe_int (fun _ _ => rfl)) (pv 1)))
 (pss_cons (ps_asg (pe_op op_fdivW (pe_ix ix_list (pv 0) pe_int (fun _ _ => rfl)) (pv 1)) (pg_sub (pv 0) pe_int set_list))
 (pss_one (ps_ret (pv 2)))))
 pss_nil)
 (pss_cons (ps_asg (pe_op op_mod (pe_op op_mul (pe_ix ix_list (pv 0) pe_int (fun _ _ => rfl)) pe_int) pe_int) (pg_sub (pv 0) pe_int set_list))
 (pss_one (ps_ret (pe_op op_mod (pe_op op_fdiv (pe_op op_mod (pe_op op_mul (pe_ix ix_list (pv 0) pe_int (fun _ _ => rfl)) (pe_ix ix_list (pv 0) pe_int (fun _ _ => rfl))) pe_int) pe_int) (pv 1)))))), ?_⟩
    refine ⟨_, rfl, b, _, 0, .int x, rfl, rfl, SqL.of hb, atI_nat (j := 0) rfl, x, 0, rfl, rfl, _, rfl, ite2 (fun e => ?_) (fun e => ?_)⟩
    · have hx0 : 0 < x := of_decide_eq_true e
      refine ⟨_, rfl, b, _, 0, .int x, rfl, rfl, SqL.of hb, atI_nat (j := 0) rfl, _, rfl, x, m, rfl, rfl, hm, ?_⟩
      refine ⟨_, rfl, b, _, 0, .int x, rfl, rfl, SqL.of hb, atI_nat (j := 0) rfl, _, rfl, x, m, rfl, rfl, wide_div (b := 200) hm (by omega) (by decide) (by decide), _, rfl, b, _, 0, 0, rfl, rfl, hb, rfl, ?_⟩
      refine ⟨_, rfl, q _ _ (Int.emod_nonneg _ (by omega)) (Int.emod_lt_of_pos _ hm) But.put ⟨x / m, y, upd_same, Int.ediv_nonneg hx (by omega), hy, hy2⟩⟩
    · refine ⟨_, rfl, b, _, 1, .int y, rfl, rfl, SqL.of hb, atI_nat (j := 1) rfl, y, 48271, rfl, rfl, .inr ⟨by decide, by decide⟩, _, 2147483647, rfl, rfl, (by show (0 : Int) < 2147483647; decide), _, rfl, b, _, 1, 1, rfl, rfl, hb, rfl, ?_⟩
      have hb2 : (upd H b (.lst ([V.int x, V.int y].set 1 (.int (y * 48271 % 2147483647))))) b = some (.lst [.int x, .int (y * 48271 % 2147483647)]) := upd_same
      have hz1 : 0 ≤ y * 48271 % 2147483647 := Int.emod_nonneg _ (by decide)
      have hz2 : y * 48271 % 2147483647 < 2147483647 := Int.emod_lt_of_pos _ (by decide)
      refine ⟨_, rfl, b, _, 1, _, rfl, rfl, SqL.of hb2, atI_nat (j := 1) rfl, _, rfl, b, _, 1, _, rfl, rfl, SqL.of hb2, atI_nat (j := 1) rfl, _, _, rfl, rfl, .inl ⟨by omega, by omega⟩, _, 2147483629, rfl, rfl, (by show (0 : Int) < 2147483629; decide), _, 64, rfl, rfl, ⟨by decide, by decide⟩, _, rfl, _, m, rfl, rfl, hm, ?_⟩
      exact q _ _ (Int.emod_nonneg _ (by omega)) (Int.emod_lt_of_pos _ hm) But.put ⟨x, _, hb2, hx, hz1, hz2⟩
/-! ### _law_bag -/
abbrev s__law_bag : Stmt := topS 16
theorem sc__law_bag : FnScope ["script", "k", "cell"] ["script", "k"] (defScope s__law_bag) := ⟨rfl, rfl, rfl, by decide +kernel, rfl, by decide +kernel, by decide +kernel⟩
def sp_law_bag (K : PySem.W.Frag) : Sp := fun vs H Q _ => ∃ (a : Addr) (ns : List Int) (k : Int), vs = [.ref a, .int k] ∧ SqL K H a (ns.map V.int) ∧ 0 ≤ k ∧ k < 100 ∧ ∀ p H', H p = none → Same H H' → Bag H' p → Q (.ref p) H'
theorem bag_pos (c k : Int) (n : Int) : 0 ≤ 1 + (c + k) % 2147483646 ∧ 1 + (c + k) % 2147483646 < 2147483647 := by
  have h1 : 0 ≤ (c + k) % 2147483646 := Int.emod_nonneg _ (by decide)
  have h2 : (c + k) % 2147483646 < 2147483646 := Int.emod_lt_of_pos _ (by decide)
  omega
theorem ok__law_bag {f : Addr} {fd : FuncData} (F : Fun K "_law_bag" "_law_bag" s__law_bag f fd) (gm : mg "_law_bag" = some (.ref f)) (N : Fre K mg)  : C8.Cal P w K mg base 1 "_law_bag" (sp_law_bag K) [] := by
  refine mkCal F gm sc__law_bag (F.binds (ps := ["script", "k"]) fun _ _ _ _ _ _ us hl => match us, hl with | [_, _], _ => rfl) (fun vs H Q E h => ?_) (fun cdv A outer s H vs Q E hr h => ?_)
  · obtain ⟨a, ns, k, rfl, _⟩ := h
    rfl
  · obtain ⟨a, ns, k, rfl, hS, hk, hk2, q⟩ := h
    refine ⟨_, (pss_cons (ps_set (i := 2) sc__law_bag.nd rfl (.inl rfl) pe_int)
 (pss_cons (ps_if (pt_cmpR op_lt (pv 1) (pe_callB call_len_seq (by rfl) N.len (by decide +kernel) (pa_cons (pv 0) pa_nil)) (nomark _))
 (pss_one (ps_set (i := 2) sc__law_bag.nd rfl (.inl rfl) (pe_callB call_abs (by rfl) N.abs (by decide +kernel) (pa_cons (pe_ix ix_list (pv 0) (pv 1) (fun _ _ => rfl)) pa_nil))))
 pss_nil)
 (pss_cons (ps_if (pt_cmpR op_lt (pv 2) (pe_op op_pow pe_int pe_int) (nomark _))
 (pss_one (ps_ret (pe_lst (pa_cons pe_int (pa_cons (pe_op op_add pe_int (pe_op op_mod (pe_op op_add (pe_op op_mul (pv 2) pe_int) (pe_op op_mul pe_int (pv 1))) pe_int)) pa_nil)))))
 pss_nil)
 (pss_one (ps_ret (pe_lst (pa_cons (pv 2) (pa_cons (pe_op op_add pe_int (pe_op op_mod (pe_op op_add (pv 2) (pv 1)) pe_int)) pa_nil)))))))), ?_⟩
    refine ⟨_, rfl, _, rfl, a, _, rfl, .inl hS, k, _, rfl, rfl, _, rfl, ite2 (fun e => ?_) (fun e => ?_)⟩
    · have hlt : k.toNat < ns.length := by
        have e1 := of_decide_eq_true e
        rw [List.length_map] at e1
        omega
      have g1 : (ns.map V.int)[k.toNat]? = some (.int ns[k.toNat]) := by
        rw [List.getElem?_map, List.getElem?_eq_getElem hlt]
        rfl
      generalize ns[k.toNat] = c at g1
      have g2 : atI (ns.map V.int) k = some (.int c) := by
        have e2 : ((k.toNat : Nat) : Int) = k := by omega
        rw [← e2]
        exact atI_nat g1
      refine ⟨_, rfl, _, rfl, a, _, k, _, rfl, rfl, hS, g2, c, rfl, ?_⟩
      have hc : 0 ≤ (if c < 0 then -c else c) := by split <;> omega
      generalize (if c < 0 then -c else c) = d at hc
      refine ⟨_, rfl, 10, 18, rfl, rfl, ⟨by decide, by decide, by decide⟩, d, _, rfl, rfl, _, rfl, ite2 (fun e2 => ?_) (fun e2 => ?_)⟩
      · refine ⟨_, rfl, d, 7919, rfl, rfl, .inr ⟨by decide, by decide⟩, _, rfl, 104729, k, rfl, rfl, .inl ⟨by decide, by decide⟩, _, _, rfl, rfl, _, _, rfl, rfl, (by show (0 : Int) < 2147483646; decide), 1, _, rfl, rfl, two_ok _ _, fun p np => ?_⟩
        exact q p _ np (same_upd np) ⟨0, _, upd_same, by decide, bag_pos _ _ 0⟩
      · refine ⟨_, rfl, _, rfl, _, rfl, d, k, rfl, rfl, _, _, rfl, rfl, (by show (0 : Int) < 2147483646; decide), 1, _, rfl, rfl, two_ok _ _, fun p np => ?_⟩
        exact q p _ np (same_upd np) ⟨d, _, upd_same, hc, bag_pos _ _ 0⟩
    · refine ⟨_, rfl, 10, 18, rfl, rfl, ⟨by decide, by decide, by decide⟩, 0, _, rfl, rfl, _, rfl, ite2 (fun e2 => ?_) (fun e2 => ?_)⟩
      · refine ⟨_, rfl, 0, 7919, rfl, rfl, .inr ⟨by decide, by decide⟩, _, rfl, 104729, k, rfl, rfl, .inl ⟨by decide, by decide⟩, _, _, rfl, rfl, _, _, rfl, rfl, (by show (0 : Int) < 2147483646; decide), 1, _, rfl, rfl, two_ok _ _, fun p np => ?_⟩
        exact q p _ np (same_upd np) ⟨0, _, upd_same, by decide, bag_pos _ _ 0⟩
      · refine ⟨_, rfl, _, rfl, _, rfl, 0, k, rfl, rfl, _, _, rfl, rfl, (by show (0 : Int) < 2147483646; decide), 1, _, rfl, rfl, two_ok _ _, fun p np => ?_⟩
        exact q p _ np (same_upd np) ⟨0, _, upd_same, by decide, bag_pos _ _ 0⟩

/-! ### data: what stands at a value -/
theorem sqT_same {H H' : Hp} {a : Addr} {xs : List V} (e : Same H H') (h : SqT K H a xs) : SqT K H' a xs := by
  rcases h with (h | ⟨o, h⟩) | h
  · exact .inl (.inl (e _ _ h))
  · exact .inl (.inr ⟨o, e _ _ h⟩)
  · exact .inr h
mutual
theorem dp_same {H H' : Hp} (e : Same H H') : ∀ (d : PyData) (v : V), Dp K H v d → Dp K H' v d
  | .none, _, h => by cases h; exact .non
  | .bool b, _, h => by cases h; exact .bl b
  | .int i, _, h => by cases h; exact .int i
  | .str x, _, h => by cases h; exact .str x
  | .list ds, _, h => by
    cases h with
    | lst hs ha => exact .lst (e.seq hs) (dp_sameAll e ds _ ha)
  | .tuple ds, _, h => by
    cases h with
    | tup hs ha => exact .tup (sqT_same e hs) (dp_sameAll e ds _ ha)
  | .dict _, _, h => by cases h
theorem dp_sameAll {H H' : Hp} (e : Same H H') : ∀ (ds : List PyData) (vs : List V), DpAll K H vs ds → DpAll K H' vs ds
  | [], _, h => by cases h; exact .nil
  | d :: ds, _, h => by
    cases h with
    | cons h1 h2 => exact .cons (dp_same e d _ h1) (dp_sameAll e ds _ h2)
end
theorem dpAll_len {H : Hp} : ∀ {vs : List V} {ds : List PyData}, DpAll K H vs ds → vs.length = ds.length
  | [], _, h => by cases h; rfl
  | _ :: vs, _, h => by
    cases h with
    | cons _ h2 => rw [List.length_cons, List.length_cons, dpAll_len h2]
theorem dpAll_get {H : Hp} : ∀ {vs : List V} {ds : List PyData} {i : Nat} {v : V}, DpAll K H vs ds → vs[i]? = some v → ∃ d, ds[i]? = some d ∧ Dp K H v d
  | _, _, 0, _, .cons h1 _, e => by
    cases e
    exact ⟨_, rfl, h1⟩
  | _, _, i + 1, _, .cons _ h2, e => dpAll_get (i := i) h2 (by simpa using e)
  | _, _, i, _, .nil, e => by simp at e
theorem dpAll_append {H : Hp} : ∀ {vs us : List V} {ds es : List PyData}, DpAll K H vs ds → DpAll K H us es → DpAll K H (vs ++ us) (ds ++ es)
  | _, _, _, _, .nil, h => h
  | _, _, _, _, .cons h1 h2, h => .cons h1 (dpAll_append h2 h)
def tyD : PyData → String
  | .none => "NoneType"
  | .bool _ => "bool"
  | .int _ => "int"
  | .str _ => "str"
  | .list _ => "list"
  | .tuple _ => "tuple"
  | .dict _ => "dict"
theorem dp_ty {H : Hp} {v : V} {d : PyData} (h : Dp K H v d) : TyX K H v (.type (tyD d)) := by
  cases h with
  | non => exact .base .non
  | bl b => exact .base (.bl b)
  | int i => exact .base (.int i)
  | str x => exact .base (.str x)
  | lst hs _ =>
    rcases hs with (h | ⟨o, h⟩) | ⟨o, _, _, h, c, _⟩
    · exact .base (.lst h)
    · exact .base (.frz h)
    · exact .kList h c
  | tup hs _ =>
    rcases hs with (h | ⟨o, h⟩) | ⟨o, _, _, h, c, _⟩
    · exact .base (.tup h)
    · exact .fTuple h
    · exact .kTuple h c
def isTy (t T : String) : Bool := t == T || (T == "int" && t == "bool")
def isT (d : PyData) (T : String) : Bool := isTy (tyD d) T
theorem kit_all : ∀ t ∈ ["NoneType", "bool", "int", "str", "list", "tuple", "dict"], ∀ T ∈ ["int", "bool", "str", "tuple", "list"], kitB t T = some (isTy t T) := by decide +kernel
theorem tyD_mem (d : PyData) : tyD d ∈ ["NoneType", "bool", "int", "str", "list", "tuple", "dict"] := by cases d <;> simp [tyD]
theorem kit_d (d : PyData) {T : String} (hT : T = "int" ∨ T = "bool" ∨ T = "str" ∨ T = "tuple" ∨ T = "list") : PySem.W.kitOne K (.type (tyD d)) (.type T) = some (isT d T) :=
  kit_ty (kit_all _ (tyD_mem d) _ (by simpa using hT))

end
/-! ### rules of our own: a list against an empty one -/
section
variable {X : Cx}
theorem op_eqNil (hu : X.A.units < cLine) : OpR X (compareOp .Eq) (fun x y H Q => ∃ a b xs, x = .ref a ∧ y = .ref b ∧ SqL X.K H a xs ∧ SqL X.K H b [] ∧ Q (.bl xs.isEmpty) H) := by
  intro pins s σ H x y v u Q I rx ry h
  obtain ⟨a, b, xs, rfl, rfl, ha, hb, q⟩ := h
  obtain rfl : v = Value.ref a := rx
  obtain rfl : u = Value.ref b := ry
  obtain ⟨its, rv, p, _⟩ := I.list ha
  obtain ⟨its2, rv2, p2, _⟩ := I.list hb
  cases rv2
  cases xs with
  | nil =>
    cases rv
    exact PySem.EqBoolInt.of_rc (SeqAt.RcAt.lists (e := fun _ => true) p.isList p2.isList rfl hu (fun j h1 => absurd h1 (Nat.not_lt_zero j))) ⟨.bl true, H, I, rfl, q⟩
  | cons z zs =>
    cases rv
    exact PySem.EqBoolInt.of_rc (SeqAt.RcAt.lists_lengths p.isList p2.isList (by simp) hu) ⟨.bl false, H, I, rfl, q⟩
theorem op_neNil (hu : X.A.units < cLine) : OpR X (compareOp .NotEq) (fun x y H Q => ∃ a b xs, x = .ref a ∧ y = .ref b ∧ SqL X.K H a xs ∧ SqL X.K H b [] ∧ Q (.bl (!xs.isEmpty)) H) := by
  intro pins s σ H x y v u Q I rx ry h
  obtain ⟨a, b, xs, rfl, rfl, ha, hb, q⟩ := h
  obtain rfl : v = Value.ref a := rx
  obtain rfl : u = Value.ref b := ry
  obtain ⟨its, rv, p, _⟩ := I.list ha
  obtain ⟨its2, rv2, p2, _⟩ := I.list hb
  cases rv2
  cases xs with
  | nil =>
    cases rv
    exact PySem.EqBoolInt.of_rcne (SeqAt.RcNeAt.lists (e := fun _ => true) p.isList p2.isList rfl hu (fun j h1 => absurd h1 (Nat.not_lt_zero j))) ⟨.bl false, H, I, rfl, q⟩
  | cons z zs =>
    cases rv
    exact PySem.EqBoolInt.of_rcne (SeqAt.RcNeAt.lists_lengths p.isList p2.isList (by simp) hu) ⟨.bl true, H, I, rfl, q⟩
end
theorem hu0 {A : Around} {k : Nat} (hr : Room k A) : A.units < cLine := by have := hr.un; omega
section
variable {P : Program} {w : World} {K : PySem.W.Frag} {mg : Str → Option Value} {base : Heap}

end
/-! ### rules of our own: name = {k: v for ..}, d.setdefault(tuple, x) -/
section
variable {X : Cx}
theorem sw_trueD {kx vx : Expr} {gs : List Comprehension} {scope : Scope} {pos py : Pos} {y : Str} {l : Nat} {env : Env} (hk : env.scope.kind = .function) (hy : env.scope.names.lookup y = some .local) (hl : (py.line == pos.line) = true)
    (hno : (scope.names.any fun (n, k) => n == y && (k == .local || k == .cell)) = false) : swapsWith (.DictComp kx vx gs scope pos) (some (.Name y py)) l env = pure true := by
  have k1 : env.kindOf y = some .local := hy
  have b1 : env.blockKind = .function := by
    unfold Env.blockKind
    rw [hk]
    rfl
  unfold swapsWith
  simp only [b1, k1, hno, Expr.pos, hl]
  rfl
theorem ps_setDc {i : Nat} {y : Str} {py : Pos} {kx vx tg iter : Expr} {ifs : List Expr} {scope : Scope} {own : List (Str × Nat)} {pos spos : Pos} {wi : TI} {g : TG} {tt : TT} {tk tv : TE} (hc : X.calm = true) (hN : X.N.Nodup) (hy : X.N[i]? = some y) (hyl : X.env.scope.names.lookup y = some .local)
    (hsw : swapsWith (.DictComp kx vx [⟨tg, iter, ifs, 0⟩] scope pos) (some (.Name y py)) spos.line X.env = pure true) (hi : PI X tg iter wi) (ok : BlkOk X.N X.env.scope scope own)
    (hg : ∀ (s1 : Shared) (H1 : Hp) (C1 : Addr) (cl1 : List (Str × Addr)) (fp1 : List Addr), PG (X.blk s1 H1 scope (compEnvC scope cl1 C1 X.env) fp1) tg g) (ht : ∀ (s1 : Shared) (H1 : Hp) (C1 : Addr) (cl1 : List (Str × Addr)) (fp1 : List Addr), PTs (X.blk s1 H1 scope (compEnvC scope cl1 C1 X.env) fp1) ifs tt)
    (hk : ∀ (s1 : Shared) (H1 : Hp) (C1 : Addr) (cl1 : List (Str × Addr)) (fp1 : List Addr), PE (X.blk s1 H1 scope (compEnvC scope cl1 C1 X.env) fp1) kx tk)
    (hv : ∀ (s1 : Shared) (H1 : Hp) (C1 : Addr) (cl1 : List (Str × Addr)) (fp1 : List Addr), PE (X.blk s1 H1 scope (compEnvC scope cl1 C1 X.env) fp1) vx tv) (hs : ∀ x, foldedSetIterable iter X.env x = pure x := by intro _; rfl) :
    PS X (.Assign [.Name y py] (.DictComp kx vx [⟨tg, iter, ifs, 0⟩] scope pos) spos) (tAsg (tDc wi g tt tk tv (own.map (·.2))) (gName i)) := by
  refine ⟨fun pins s σ H D I hq => ?_⟩
  rw [exec_Assign_Name_used _ _ _ _ hsw]
  refine wpAny_bind (wpAny_standAt (wpAny_bind ?_))
  show wpAny _ X.A (do let _ ← comprehension (.DictComp kx vx [⟨tg, iter, ifs, 0⟩] scope pos) scope X.env (firstIterPos [⟨tg, iter, ifs, 0⟩] pos) newDict false (eval iter X.env) (some (assign (.Name y py) X.env))) _ _ s
  have h1 : tDc wi g tt tk tv (own.map (·.2)) σ H (fun x H1 => gName i x σ H1 D.nx) := hq
  refine wpAny_bind (thn (dc_core (Qf := fun _ s' => SP X pins D .next s') hc hN I hi ok hg ht hk hv hs h1 fun L C s' m H' I' q hn f => ?_) fun _ s' z => wpAny_pure (wpAny_pure z))
  show wpAny _ _ (assign (.Name y py) X.env (.ref L)) _ _ _
  refine wpAny_assign_Name (store_ok2 (v := V.ref L) I' hN hy (.inl hyl) rfl (fun s2 I2 ⟨b, sb, hb⟩ => ?_) (.inr hyl))
  obtain ⟨e0, e1, e2, e3, e4, e5⟩ := f
  have nb : C ≠ b := by
    rcases hb with z | z
    · rw [z]
      exact e1
    · exact fun e => e4 y b z e.symm
  exact ⟨m, hn.sameBut sb nb, fun h3 sb3 => ⟨_, H', I2.turned (t' := s2.toks) (fun c o hc e => (sb3.2 c hc).trans e) e0 e1 e3 e4 e5, q⟩⟩
end
section
variable {X : Cx} {o e f : Expr} {td ty tx : TE} {apos cpos : Pos}
def tSetdT (td ty tx : TE) : TE := fun σ H Q => td σ H fun x H1 => ∃ a, x = .ref a ∧ IsD H1 a ∧ ty σ H1 fun y H2 => tx σ H2 fun z H3 => ∃ (kvs : List (List Key × V)) (k : List Key) (b : Addr), H3 a = some (.dT kvs) ∧ y = .ref b ∧ H3 b = some (.tup (k.map kV)) ∧ kvs.length < sizeLine ∧
  (∀ v, valV kvs k = some v → Q v H3) ∧ (valV kvs k = none → Q z (upd H3 a (.dT (putK kvs k z))))
theorem pe_setdT (hu : X.A.units + 1 < cLine) (ho : PE X o td) (he : PE X e ty) (hf : PE X f tx) (m : M2 X o "setdefault" apos e f cpos) : PE X (.Call (.Attribute o "setdefault" apos) [e, f] [] cpos) (tSetdT td ty tx) := by
  refine ⟨fun pins s σ H Q I hq => ?_⟩
  refine wpAny_Call_method m.base m.few m.line PySem.F.plainAttrs_dict PySem.F.slot_dict_setdefault PySem.F.type_dict_setdefault (thn (ho.run pins s σ H _ I hq) fun u s1 ⟨x, H1, I1, rx, a, ex, d, q1⟩ => ?_)
  subst ex
  obtain rfl : u = Value.ref a := rx
  obtain ⟨t1, t2, _⟩ := isD_at I1 d
  refine ⟨t1, t2, ?_⟩
  rw [m.trees]
  refine Calls.callWith_builtin rfl (Calls.evalArgs_plain (Calls.spliced_cons (thn (he.run pins s1 σ H1 _ I1 q1) fun iv s2 ⟨y, H2, I2, ry, q2⟩ =>
    Calls.spliced_cons (thn (hf.run pins s2 σ H2 _ I2 q2) fun fv s3 ⟨z, H3, I3, rz, kvs, k, b, ea, ey, eb, hl, q3, q4⟩ => Calls.spliced_nil ?_))))
  subst ey
  cases (show iv = Value.ref b from ry)
  obtain ⟨z1, hd, xs, rel, dd⟩ := dt_of I3.hok ea
  have hz : xs.length ≤ sizeLine := by rw [← Paired.length rel]; exact z1
  have hl2 : (putK kvs k z).length ≤ sizeLine := by have := length_putK kvs k z; omega
  refine call_setdefault_heap (hsz := hz) (tupleKind_room_in1 hu) (key_of I3.hok eb) hd dd (fun p hp => ?_) fun hn h' dd' hs => ?_
  · obtain ⟨v0, hv0, rv0⟩ : ∃ v0, valV kvs k = some v0 ∧ RelV v0 p.2 := by
      have g := rel.val k
      rw [hp] at g
      cases g0 : valV kvs k with
      | none =>
        rw [g0] at g
        exact (show False from g).elim
      | some v0 =>
        rw [g0] at g
        exact ⟨v0, rfl, g⟩
    exact ⟨v0, H3, I3.tok _, rv0, q3 v0 hv0⟩
  · have hn0 : valV kvs k = none := by
      have g := rel.val k
      rw [hn] at g
      cases g0 : valV kvs k with
      | none => rfl
      | some v0 =>
        rw [g0] at g
        exact (show False from g).elim
    obtain ⟨q, es, ep, hq, h2, h3, h4, _, h5⟩ := dd'
    refine ⟨z, _, d_write (ob := .dT (putK kvs k z)) I3 (by rw [ea]; exact True.intro) hs ⟨q, hq⟩ ⟨hl2, hd, _, (rel.put k eb rz).keeps fun c ys ec => ?_, q, es, ep, hq, h2, h3, h4, h5⟩, rz, q4 hn0⟩
    rw [upd_ne (ne_of ec ea (fun z => nomatch z))]
    exact ec
end
section
variable {P : Program} {w : World} {K : PySem.W.Frag} {mg : Str → Option Value} {base : Heap}

/-! ### data that nothing changes -/
mutual
def imm : PyData → Bool
  | .list _ => false
  | .dict _ => false
  | .tuple ds => immAll ds
  | .none => true
  | .bool _ => true
  | .int _ => true
  | .str _ => true
def immAll : List PyData → Bool
  | [] => true
  | d :: ds => imm d && immAll ds
end
/-- tuples, and what is locked -/
def Fix : HO → Prop
  | .tup _ => True
  | .frz _ _ => True
  | _ => False
def Kt (H H' : Hp) : Prop := ∀ a o, H a = some o → Fix o → H' a = some o
theorem Kt.refl (H : Hp) : Kt H H := fun _ _ e _ => e
theorem Kt.trans {H H1 H2 : Hp} (h : Kt H H1) (g : Kt H1 H2) : Kt H H2 := fun a o e f => g a o (h a o e f) f
theorem Kt.same {H H' : Hp} (h : Same H H') : Kt H H' := fun a o e _ => h a o e
theorem Kt.but {H H' : Hp} {b : Addr} {o : HO} (h : But b H H') (hb : H b = some o) (n : ¬ Fix o) : Kt H H' := fun a o' e f => h a o' (fun z => n (by rw [z, hb] at e; cases e; exact f)) e
theorem Kt.upd {H : Hp} {b : Addr} {o o' : HO} (hb : H b = some o) (n : ¬ Fix o) : Kt H (upd H b o') := fun a o2 e f => by
  rw [upd_ne (fun z => n (by rw [z, hb] at e; cases e; exact f))]
  exact e
theorem Kt.bag {H H' : Hp} {b : Addr} (h : But b H H') (g : Bag H b) : Kt H H' := by
  obtain ⟨x, y, e, _⟩ := g
  exact Kt.but h e (fun z => z)
theorem sqT_kt {H H' : Hp} {a : Addr} {xs : List V} (e : Kt H H') (h : SqT K H a xs) : SqT K H' a xs := by
  rcases h with (h | ⟨o, h⟩) | h
  · exact .inl (.inl (e _ _ h trivial))
  · exact .inl (.inr ⟨o, e _ _ h trivial⟩)
  · exact .inr h
mutual
theorem dp_kt {H H' : Hp} (e : Kt H H') : ∀ (d : PyData) (v : V), imm d = true → Dp K H v d → Dp K H' v d
  | .none, _, _, h => by cases h; exact .non
  | .bool b, _, _, h => by cases h; exact .bl b
  | .int i, _, _, h => by cases h; exact .int i
  | .str x, _, _, h => by cases h; exact .str x
  | .list ds, _, i, h => by simp [imm] at i
  | .tuple ds, _, i, h => by
    cases h with
    | tup hs ha => exact .tup (sqT_kt e hs) (dp_ktAll e ds _ (by simpa [imm] using i) ha)
  | .dict _, _, _, h => by cases h
theorem dp_ktAll {H H' : Hp} (e : Kt H H') : ∀ (ds : List PyData) (vs : List V), immAll ds = true → DpAll K H vs ds → DpAll K H' vs ds
  | [], _, _, h => by cases h; exact .nil
  | d :: ds, _, i, h => by
    cases h with
    | cons h1 h2 =>
      have i2 : imm d = true ∧ immAll ds = true := by simpa [immAll] using i
      exact .cons (dp_kt e d _ i2.1 h1) (dp_ktAll e ds _ i2.2 h2)
end
theorem immAll_iff : ∀ {ds : List PyData}, immAll ds = true ↔ ∀ d ∈ ds, imm d = true
  | [] => by simp [immAll]
  | d :: ds => by simp [immAll, immAll_iff (ds := ds)]
theorem dpAll_getD {H : Hp} {vs : List V} {ds : List PyData} {i : Nat} {d : PyData} (h : DpAll K H vs ds) (e : ds[i]? = some d) : ∃ v, vs[i]? = some v ∧ Dp K H v d := by
  have hl := dpAll_len h
  have hi : i < vs.length := by
    rw [hl]
    exact (List.getElem?_eq_some_iff.mp e).1
  obtain ⟨d', e', p⟩ := dpAll_get h (List.getElem?_eq_getElem hi)
  rw [e] at e'
  cases e'
  exact ⟨_, List.getElem?_eq_getElem hi, p⟩
theorem dp_list {H : Hp} {v : V} {ds : List PyData} (h : Dp K H v (.list ds)) : ∃ a vs, v = .ref a ∧ SqL K H a vs ∧ DpAll K H vs ds := by
  cases h with
  | lst hs ha => exact ⟨_, _, rfl, hs, ha⟩
theorem dp_tuple {H : Hp} {v : V} {ds : List PyData} (h : Dp K H v (.tuple ds)) : ∃ a vs, v = .ref a ∧ SqT K H a vs ∧ DpAll K H vs ds := by
  cases h with
  | tup hs ha => exact ⟨_, _, rfl, hs, ha⟩
theorem take_fm {α β : Type} (f : α → Option β) (ds : List α) (i : Nat) (d : α) (h : ds[i]? = some d) : (ds.take (i + 1)).filterMap f = (ds.take i).filterMap f ++ (f d).toList := by
  rw [List.take_add_one, h, List.filterMap_append]
  cases e : f d <;> simp [e]
theorem fm_take_le {α β : Type} (f : α → Option β) (ds : List α) (i : Nat) : ((ds.take i).filterMap f).length ≤ i :=
  Nat.le_trans (List.length_filterMap_le _ _) (by rw [List.length_take]; exact Nat.min_le_left _ _)
/-- a list made of a list of data, by a function of it -/
theorem lc_ty {α β : Type} {a D : Addr} {vs : List V} {xs : List α} {H1 : Hp} {σ : L2.St} {g : TG} {tt : TT} {te : TE} {ws : List Nat} {Qd : Hp → Prop} (ea : α → PyData) (eb : β → PyData) (f : α → Option β)
    (hS : SqL K H1 a vs) (hA : DpAll K H1 vs (xs.map ea)) (hn : H1 D = none) (hlen : xs.length ≤ 1000000) (him : ∀ y, imm (eb y) = true)
    (step : ∀ (i : Nat) (v : V) (x : α) (H : Hp) (k : V → Hp → Prop) (kf : Hp → Prop), xs[i]? = some x → Same H1 H → Dp K H v (ea x) → (∀ y, f x = some y → ∀ v' H4, Same H H4 → Dp K H4 v' (eb y) → k v' H4) → (f x = none → ∀ H3, Same H H3 → kf H3) →
      g v (wipe σ ws) H fun σ2 H2 => wipe σ2 ws = wipe σ ws ∧ tt σ2 H2 fun b H3 => if b = true then te σ2 H3 k else kf H3)
    (hd : ∀ H ys, Same H1 H → H D = some (.lst ys) → DpAll K H ys ((xs.filterMap f).map eb) → Qd H) :
    ∃ W : Nat → Nat → Hp → Prop, (∃ m, W 0 m (upd H1 D (.lst []))) ∧ ∀ i m H, W i m H →
      ((Itl K a).stop i H ∧ Qd H) ∨ ((Itl K a).go i H ∧ ∃ Nx : Hp → Prop, (∀ H', Nx H' → ∃ m', m' < m ∧ W (i + 1) m' H') ∧ ∀ x H', (Itl K a).yld i H x H' → g x (wipe σ ws) H' fun σ2 H2 => wipe σ2 ws = wipe σ ws ∧ tt σ2 H2 fun b H3 =>
        if b = true then te σ2 H3 fun y H4 => ∃ acc, H4 D = some (.lst acc) ∧ acc.length < sizeLine ∧ Nx (upd H4 D (.lst (acc ++ [y]))) else Nx H3) := by
  have hl := dpAll_len hA
  rw [List.length_map] at hl
  have imA : ∀ zs : List β, immAll (zs.map eb) = true := fun zs => immAll_iff.mpr fun e he => by
    obtain ⟨y, _, rfl⟩ := List.mem_map.mp he
    exact him y
  refine lc_it (walk_list (K := K) (a := a) (xs := vs)) (fun i H => Same H1 H ∧ ∃ acc, H D = some (.lst acc) ∧ DpAll K H acc (((xs.take i).filterMap f).map eb)) ⟨same_upd hn, [], upd_same, .nil⟩ (fun i H _ z => z.1.seq hS) ?_ ?_
  · rintro i v H H' hi ⟨s1, acc, hD, hacc⟩ ⟨rfl, hv⟩
    obtain ⟨d, ed, pd⟩ := dpAll_get hA hv
    rw [List.getElem?_map] at ed
    obtain ⟨x, ex, rfl⟩ := Option.map_eq_some_iff.mp ed
    refine step i v x H' _ _ ex s1 (dp_same s1 _ _ pd) ?_ ?_
    · intro e fe y H4 s4 py
      have hD4 := s4 _ _ hD
      have kt : Kt H' (upd H4 D (.lst (acc ++ [y]))) := (Kt.same s4).trans (Kt.upd hD4 (fun z => z))
      refine ⟨acc, hD4, ?_, ?_, acc ++ [y], upd_same, ?_⟩
      · have := dpAll_len hacc
        rw [List.length_map] at this
        have h2 := fm_take_le f xs i
        rw [sizeLine_eq]
        omega
      · intro c o ec
        rw [upd_ne (ne_of_none ec hn)]
        exact s4 _ _ (s1 _ _ ec)
      · rw [take_fm f xs i x ex, fe, List.map_append]
        exact dpAll_append (dp_ktAll kt _ _ (imA _) hacc) (.cons (dp_kt (Kt.upd hD4 (fun z => z)) _ _ (him e) py) .nil)
    · intro fe H3 s3
      refine ⟨s1.trans s3, acc, s3 _ _ hD, ?_⟩
      rw [take_fm f xs i x ex, fe]
      have := dp_sameAll s3 _ _ hacc
      simpa using this
  · rintro H ⟨s1, acc, hD, hacc⟩
    refine hd H acc s1 hD ?_
    rw [hl, List.take_of_length_le (Nat.le_refl _)] at hacc
    exact hacc
/-- the same, with no test -/
theorem lc_map {α β : Type} {a D : Addr} {vs : List V} {xs : List α} {H1 : Hp} {σ : L2.St} {g : TG} {te : TE} {ws : List Nat} {Qd : Hp → Prop} (ea : α → PyData) (eb : β → PyData) (f : α → β)
    (hS : SqL K H1 a vs) (hA : DpAll K H1 vs (xs.map ea)) (hn : H1 D = none) (hlen : xs.length ≤ 1000000) (him : ∀ y, imm (eb y) = true)
    (step : ∀ (i : Nat) (v : V) (x : α) (H : Hp) (k : V → Hp → Prop), xs[i]? = some x → Same H1 H → Dp K H v (ea x) → (∀ v' H4, Same H H4 → Dp K H4 v' (eb (f x)) → k v' H4) →
      g v (wipe σ ws) H fun σ2 H2 => wipe σ2 ws = wipe σ ws ∧ te σ2 H2 k)
    (hd : ∀ H ys, Same H1 H → H D = some (.lst ys) → DpAll K H ys ((xs.map f).map eb) → Qd H) :
    ∃ W : Nat → Nat → Hp → Prop, (∃ m, W 0 m (upd H1 D (.lst []))) ∧ ∀ i m H, W i m H →
      ((Itl K a).stop i H ∧ Qd H) ∨ ((Itl K a).go i H ∧ ∃ Nx : Hp → Prop, (∀ H', Nx H' → ∃ m', m' < m ∧ W (i + 1) m' H') ∧ ∀ x H', (Itl K a).yld i H x H' → g x (wipe σ ws) H' fun σ2 H2 => wipe σ2 ws = wipe σ ws ∧ tYes σ2 H2 fun b H3 =>
        if b = true then te σ2 H3 fun y H4 => ∃ acc, H4 D = some (.lst acc) ∧ acc.length < sizeLine ∧ Nx (upd H4 D (.lst (acc ++ [y]))) else Nx H3) := by
  refine lc_ty (tt := tYes) ea eb (fun x => some (f x)) hS hA hn hlen him (fun i v x H k kf ex s1 px hk _ => ?_) (fun H ys s1 hD hy => hd H ys s1 hD ?_)
  · have := step i v x H k ex s1 px (fun v' H4 s4 p4 => hk _ rfl v' H4 s4 p4)
    simpa only [tYes, if_true] using this
  · rw [List.filterMap_eq_map'] at hy
    exact hy
/-- a dict made by a walk -/
theorem dc_it {J : It} {n : Nat} {G : Hp → Prop} {Y : Nat → Hp → V → Hp → Prop} (w : Walk J n G Y) {g : TG} {tt : TT} {tk tv : TE} {vs : List Nat} {σ : L2.St} {H1 : Hp} {D : Addr} {Qd : Hp → Prop} (Pv : Nat → Hp → Prop) (h0 : Pv 0 (upd H1 D (.dK []))) (hG : ∀ i H, i ≤ n → Pv i H → G H)
    (hs : ∀ i x H H', i < n → Pv i H → Y i H x H' → g x (wipe σ vs) H' fun σ2 H2 => wipe σ2 vs = wipe σ vs ∧ tt σ2 H2 fun b H3 =>
      if b = true then tk σ2 H3 fun y H4 => tv σ2 H4 fun z H5 => ∃ kvs k, y = kV k ∧ H5 D = some (.dK kvs) ∧ kvs.length < sizeLine ∧ Pv (i + 1) (upd H5 D (.dK (putK kvs k z))) else Pv (i + 1) H3) (hd : ∀ H, Pv n H → Qd H) :
    ∃ W : Nat → Nat → Hp → Prop, (∃ m, W 0 m (upd H1 D (.dK []))) ∧ ∀ i m H, W i m H →
      (J.stop i H ∧ Qd H) ∨ (J.go i H ∧ ∃ Nx : Hp → Prop, (∀ H', Nx H' → ∃ m', m' < m ∧ W (i + 1) m' H') ∧ ∀ x H', J.yld i H x H' → g x (wipe σ vs) H' fun σ2 H2 => wipe σ2 vs = wipe σ vs ∧ tt σ2 H2 fun b H3 =>
        if b = true then tk σ2 H3 fun y H4 => tv σ2 H4 fun z H5 => ∃ kvs k, y = kV k ∧ H5 D = some (.dK kvs) ∧ kvs.length < sizeLine ∧ Nx (upd H5 D (.dK (putK kvs k z))) else Nx H3) := by
  refine ⟨fun i m H => m = n - i ∧ i ≤ n ∧ Pv i H, ⟨n, by simp, Nat.zero_le _, h0⟩, ?_⟩
  rintro i m H ⟨rfl, hi, p⟩
  have gh := hG i H hi p
  by_cases lt : i < n
  · exact .inr ⟨w.goes i H lt gh, Pv (i + 1), fun H' p' => ⟨n - (i + 1), by omega, rfl, lt, p'⟩, fun x H' y => hs i x H H' lt p (w.yields i H x H' lt gh y)⟩
  · obtain rfl : i = n := by omega
    exact .inl ⟨w.stops H gh, hd H p⟩

/-! ### lists of data -/
theorem dpA_set {H : Hp} {v : V} {d : PyData} (hd : Dp K H v d) : ∀ {vs : List V} {ds : List PyData} (n : Nat), DpAll K H vs ds → DpAll K H (vs.set n v) (ds.set n d)
  | _, _, 0, .nil => .nil
  | _, _, n + 1, .nil => .nil
  | _, _, 0, .cons h1 h2 => .cons hd h2
  | _, _, n + 1, .cons h1 h2 => .cons h1 (dpA_set hd n h2)
theorem dpA_take {H : Hp} : ∀ {vs : List V} {ds : List PyData} (n : Nat), DpAll K H vs ds → DpAll K H (vs.take n) (ds.take n)
  | _, _, 0, _ => by rw [List.take_zero, List.take_zero]; exact .nil
  | _, _, n + 1, .nil => by rw [List.take_nil, List.take_nil]; exact .nil
  | _, _, n + 1, .cons h1 h2 => .cons h1 (dpA_take n h2)
theorem dpA_drop {H : Hp} : ∀ {vs : List V} {ds : List PyData} (n : Nat), DpAll K H vs ds → DpAll K H (vs.drop n) (ds.drop n)
  | _, _, 0, h => by rw [List.drop_zero, List.drop_zero]; exact h
  | _, _, n + 1, .nil => by rw [List.drop_nil, List.drop_nil]; exact .nil
  | _, _, n + 1, .cons h1 h2 => dpA_drop n h2
theorem dpA_ins {H : Hp} {v : V} {d : PyData} {vs : List V} {ds : List PyData} (n : Nat) (hd : Dp K H v d) (h : DpAll K H vs ds) : DpAll K H (vs.take n ++ [v] ++ vs.drop n) (ds.take n ++ [d] ++ ds.drop n) :=
  dpAll_append (dpAll_append (dpA_take n h) (.cons hd .nil)) (dpA_drop n h)
theorem cutL_take (xs : List V) {i : Int} (h0 : 0 ≤ i) : cutV xs none (some i) = xs.take i.toNat := by
  obtain ⟨k, rfl⟩ : ∃ k : Nat, i = (k : Int) := ⟨i.toNat, by omega⟩
  unfold cutV
  rw [HT.sIx_none, HT.sIx_nat]
  have e3 : ((k : Nat) : Int).toNat = k := by omega
  rw [e3, Nat.sub_zero]
  show (xs.drop 0).take (min k xs.length) = xs.take k
  rw [List.drop_zero]
  by_cases h : k ≤ xs.length
  · rw [Nat.min_eq_left h]
  · rw [Nat.min_eq_right (by omega), List.take_of_length_le (Nat.le_refl _), List.take_of_length_le (by omega)]
theorem pickAt {α : Type} {xs : List α} {i : Int} (h0 : 0 ≤ i) (h1 : i < xs.length) : ∃ j : Nat, j < xs.length ∧ i = (j : Int) ∧ ∃ x, xs[j]? = some x ∧ atI xs i = some x := by
  obtain ⟨k, rfl⟩ : ∃ k : Nat, i = (k : Int) := ⟨i.toNat, by omega⟩
  have hk : k < xs.length := by omega
  exact ⟨k, hk, rfl, xs[k], List.getElem?_eq_getElem hk, atI_nat (List.getElem?_eq_getElem hk)⟩
theorem pickStr (ws : List Str) {i : Int} (h0 : 0 ≤ i) (h1 : i < ws.length) : ∃ m, m ∈ ws ∧ atI (ws.map V.str) i = some (.str m) := by
  obtain ⟨j, hj, rfl, x, hx, e⟩ := pickAt (xs := ws.map V.str) h0 (by rw [List.length_map]; exact h1)
  rw [List.getElem?_map] at hx
  obtain ⟨m, hm, rfl⟩ := Option.map_eq_some_iff.mp hx
  exact ⟨m, List.mem_of_getElem? hm, e⟩
theorem pickInt (ws : List Int) {i : Int} (h0 : 0 ≤ i) (h1 : i < ws.length) : ∃ m, m ∈ ws ∧ atI (ws.map V.int) i = some (.int m) := by
  obtain ⟨j, hj, rfl, x, hx, e⟩ := pickAt (xs := ws.map V.int) h0 (by rw [List.length_map]; exact h1)
  rw [List.getElem?_map] at hx
  obtain ⟨m, hm, rfl⟩ := Option.map_eq_some_iff.mp hx
  exact ⟨m, List.mem_of_getElem? hm, e⟩
theorem dp_ints {H : Hp} : ∀ {ns : List Int} {vs : List V}, DpAll K H vs (ns.map PyData.int) → vs = ns.map V.int
  | [], _, h => by cases h; rfl
  | n :: ns, _, h => by
    cases h with
    | cons h1 h2 =>
      cases h1
      rw [dp_ints h2]
      rfl
theorem ints_dp {H : Hp} : ∀ (ns : List Int), DpAll K H (ns.map V.int) (ns.map PyData.int)
  | [] => .nil
  | n :: ns => .cons (.int n) (ints_dp ns)
theorem inV_int (i : Int) (ns : List Int) : inV (.int i) (ns.map V.int) = decide (i ∈ ns) := by
  unfold inV
  rw [List.any_map]
  by_cases h : i ∈ ns
  · rw [decide_eq_true h, List.any_eq_true]
    exact ⟨i, h, by simp [eqV]⟩
  · rw [decide_eq_false h, List.any_eq_false]
    intro x hx
    simp only [Function.comp, eqV, beq_iff_eq]
    exact fun z => h (z ▸ hx)
theorem flat_ints (ns : List Int) : (ns.map V.int).all flatV = true := by
  rw [List.all_map, List.all_eq_true]
  intro x _
  rfl
theorem last_at {α : Type} (xs : List α) (x : α) : atI (xs ++ [x]) (-1) = some x := by
  unfold atI ixN
  rw [List.length_append, if_neg (by decide), if_pos (by simp; omega)]
  show (xs ++ [x])[(-1 + ((xs.length + 1 : Nat) : Int)).toNat]? = some x
  rw [show (-1 + ((xs.length + 1 : Nat) : Int)).toNat = xs.length by omega]
  simp
def pairD (p : Int × Int) : PyData := .tuple [.int p.1, .int p.2]
theorem pairD_imm (p : Int × Int) : imm (pairD p) = true := rfl
theorem dp_pair {H : Hp} {v : V} {p : Int × Int} (h : Dp K H v (pairD p)) : ∃ a, v = .ref a ∧ SqT K H a [.int p.1, .int p.2] := by
  cases h with
  | tup hs ha =>
    cases ha with
    | cons h1 ha =>
      cases h1
      cases ha with
      | cons h1 ha =>
        cases h1
        cases ha
        exact ⟨_, rfl, hs⟩
theorem pairs_imm (ps : List (Int × Int)) : immAll (ps.map pairD) = true := immAll_iff.mpr fun e he => by
  obtain ⟨y, _, rfl⟩ := List.mem_map.mp he
  exact pairD_imm y
theorem dget_of {H : Hp} {a : Addr} {kvs : List (Key × V)} {k : Key} {v : V} (h : H a = some (.dK kvs)) (e : valV kvs k = some v) : DGet H a (kV k) (some v) := e ▸ DGet.k h
/-- a list made by two walks, one in the other: the outer one -/
theorem lc2_it {J : It} {n : Nat} {G : Hp → Prop} {Y : Nat → Hp → V → Hp → Prop} (w : Walk J n G Y) {g g1 : TG} {tt tt1 : TT} {te : TE} {wi1 : TI} {vs vs1 : List Nat} {σ : L2.St} {H1 : Hp} {D : Addr} {Qd : Hp → Prop} (Pv : Nat → Hp → Prop) (h0 : Pv 0 (upd H1 D (.lst []))) (hG : ∀ i H, i ≤ n → Pv i H → G H)
    (hs : ∀ i x H H', i < n → Pv i H → Y i H x H' → g x (wipe σ vs) H' fun σ2 H2 => wipe σ2 vs = wipe σ vs ∧ tt σ2 H2 fun b H3 => if b = true then wi1 σ2 H3 fun J1 H4 => ∃ W1 : Nat → Nat → Hp → Prop, (∃ m, W1 0 m H4) ∧ ∀ j k H, W1 j k H →
      (J1.stop j H ∧ Pv (i + 1) H) ∨ (J1.go j H ∧ ∃ Nx1 : Hp → Prop, (∀ H', Nx1 H' → ∃ k', k' < k ∧ W1 (j + 1) k' H') ∧ ∀ x H', J1.yld j H x H' → g1 x (wipe σ2 vs1) H' fun σ3 H5 => wipe σ3 vs1 = wipe σ2 vs1 ∧ tt1 σ3 H5 fun b H6 =>
        if b = true then te σ3 H6 fun y H7 => ∃ acc, H7 D = some (.lst acc) ∧ acc.length < sizeLine ∧ Nx1 (upd H7 D (.lst (acc ++ [y]))) else Nx1 H6) else Pv (i + 1) H3) (hd : ∀ H, Pv n H → Qd H) :
    ∃ W : Nat → Nat → Hp → Prop, (∃ m, W 0 m (upd H1 D (.lst []))) ∧ ∀ i m H, W i m H →
      (J.stop i H ∧ Qd H) ∨ (J.go i H ∧ ∃ Nx : Hp → Prop, (∀ H', Nx H' → ∃ m', m' < m ∧ W (i + 1) m' H') ∧ ∀ x H', J.yld i H x H' → g x (wipe σ vs) H' fun σ2 H2 => wipe σ2 vs = wipe σ vs ∧ tt σ2 H2 fun b H3 => if b = true then wi1 σ2 H3 fun J1 H4 => ∃ W1 : Nat → Nat → Hp → Prop, (∃ m, W1 0 m H4) ∧ ∀ j k H, W1 j k H →
      (J1.stop j H ∧ Nx H) ∨ (J1.go j H ∧ ∃ Nx1 : Hp → Prop, (∀ H', Nx1 H' → ∃ k', k' < k ∧ W1 (j + 1) k' H') ∧ ∀ x H', J1.yld j H x H' → g1 x (wipe σ2 vs1) H' fun σ3 H5 => wipe σ3 vs1 = wipe σ2 vs1 ∧ tt1 σ3 H5 fun b H6 =>
        if b = true then te σ3 H6 fun y H7 => ∃ acc, H7 D = some (.lst acc) ∧ acc.length < sizeLine ∧ Nx1 (upd H7 D (.lst (acc ++ [y]))) else Nx1 H6) else Nx H3) := by
  refine ⟨fun i m H => m = n - i ∧ i ≤ n ∧ Pv i H, ⟨n, by simp, Nat.zero_le _, h0⟩, ?_⟩
  rintro i m H ⟨rfl, hi, p⟩
  have gh := hG i H hi p
  by_cases lt : i < n
  · exact .inr ⟨w.goes i H lt gh, Pv (i + 1), fun H' p' => ⟨n - (i + 1), by omega, rfl, lt, p'⟩, fun x H' y => hs i x H H' lt p (w.yields i H x H' lt gh y)⟩
  · obtain rfl : i = n := by omega
    exact .inl ⟨w.stops H gh, hd H p⟩
/-- .. the inner one -/
theorem li_it {J : It} {n : Nat} {G : Hp → Prop} {Y : Nat → Hp → V → Hp → Prop} (w : Walk J n G Y) {g : TG} {tt : TT} {te : TE} {vs : List Nat} {σ : L2.St} {H4 : Hp} {D : Addr} {Qd : Hp → Prop} (Pv : Nat → Hp → Prop) (h0 : Pv 0 H4) (hG : ∀ i H, i ≤ n → Pv i H → G H)
    (hs : ∀ i x H H', i < n → Pv i H → Y i H x H' → g x (wipe σ vs) H' fun σ2 H2 => wipe σ2 vs = wipe σ vs ∧ tt σ2 H2 fun b H3 =>
      if b = true then te σ2 H3 fun y H7 => ∃ acc, H7 D = some (.lst acc) ∧ acc.length < sizeLine ∧ Pv (i + 1) (upd H7 D (.lst (acc ++ [y]))) else Pv (i + 1) H3) (hd : ∀ H, Pv n H → Qd H) :
    ∃ W1 : Nat → Nat → Hp → Prop, (∃ m, W1 0 m H4) ∧ ∀ j k H, W1 j k H →
      (J.stop j H ∧ Qd H) ∨ (J.go j H ∧ ∃ Nx1 : Hp → Prop, (∀ H', Nx1 H' → ∃ k', k' < k ∧ W1 (j + 1) k' H') ∧ ∀ x H', J.yld j H x H' → g x (wipe σ vs) H' fun σ3 H5 => wipe σ3 vs = wipe σ vs ∧ tt σ3 H5 fun b H6 =>
        if b = true then te σ3 H6 fun y H7 => ∃ acc, H7 D = some (.lst acc) ∧ acc.length < sizeLine ∧ Nx1 (upd H7 D (.lst (acc ++ [y]))) else Nx1 H6) := by
  refine ⟨fun i m H => m = n - i ∧ i ≤ n ∧ Pv i H, ⟨n, by simp, Nat.zero_le _, h0⟩, ?_⟩
  rintro i m H ⟨rfl, hi, p⟩
  have gh := hG i H hi p
  by_cases lt : i < n
  · exact .inr ⟨w.goes i H lt gh, Pv (i + 1), fun H' p' => ⟨n - (i + 1), by omega, rfl, lt, p'⟩, fun x H' y => hs i x H H' lt p (w.yields i H x H' lt gh y)⟩
  · obtain rfl : i = n := by omega
    exact .inl ⟨w.stops H gh, hd H p⟩
/-- pairs of ints, made of two lists of them -/
theorem lc2_ints {a c D : Addr} {xs ys : List Int} {H1 : Hp} {σ : L2.St} {g g1 : TG} {tt1 : TT} {te : TE} {wi1 : TI} {vs vs1 : List Nat} {Qd : Hp → Prop} (f : Int → Int → Option (Int × Int)) (hx : SqL K H1 a (xs.map V.int)) (hy : SqL K H1 c (ys.map V.int)) (nD : H1 D = none) (lx : xs.length ≤ 100) (ly : ys.length ≤ 100)
    (st1 : ∀ (x : Int) (H : Hp) (k : It → Hp → Prop), Same H1 H → k (Itl K c) H → ∀ (kk : L2.St → Hp → Prop), (∀ σ2, wipe σ2 vs = wipe σ vs → (∀ R, wi1 σ2 H R ↔ R (Itl K c) H) → (∀ (y : Int) (H2 : Hp) (kt : V → Hp → Prop) (kf : Hp → Prop), Same H1 H2 → (∀ p, f x y = some p → ∀ v H3, Same H2 H3 → Dp K H3 v (pairD p) → kt v H3) → (f x y = none → kf H2) → g1 (.int y) (wipe σ2 vs1) H2 fun σ3 H5 => wipe σ3 vs1 = wipe σ2 vs1 ∧ tt1 σ3 H5 fun b H6 => if b = true then te σ3 H6 kt else kf H6) → kk σ2 H) → g (.int x) (wipe σ vs) H kk)
    (hd : ∀ H zs, Same H1 H → H D = some (.lst zs) → DpAll K H zs ((xs.flatMap fun x => ys.filterMap (f x)).map pairD) → Qd H) :
    ∃ W : Nat → Nat → Hp → Prop, (∃ m, W 0 m (upd H1 D (.lst []))) ∧ ∀ i m H, W i m H →
      ((Itl K a).stop i H ∧ Qd H) ∨ ((Itl K a).go i H ∧ ∃ Nx : Hp → Prop, (∀ H', Nx H' → ∃ m', m' < m ∧ W (i + 1) m' H') ∧ ∀ x H', (Itl K a).yld i H x H' → g x (wipe σ vs) H' fun σ2 H2 => wipe σ2 vs = wipe σ vs ∧ tYes σ2 H2 fun b H3 => if b = true then wi1 σ2 H3 fun J1 H4 => ∃ W1 : Nat → Nat → Hp → Prop, (∃ m, W1 0 m H4) ∧ ∀ j k H, W1 j k H →
      (J1.stop j H ∧ Nx H) ∨ (J1.go j H ∧ ∃ Nx1 : Hp → Prop, (∀ H', Nx1 H' → ∃ k', k' < k ∧ W1 (j + 1) k' H') ∧ ∀ x H', J1.yld j H x H' → g1 x (wipe σ2 vs1) H' fun σ3 H5 => wipe σ3 vs1 = wipe σ2 vs1 ∧ tt1 σ3 H5 fun b H6 =>
        if b = true then te σ3 H6 fun y H7 => ∃ acc, H7 D = some (.lst acc) ∧ acc.length < sizeLine ∧ Nx1 (upd H7 D (.lst (acc ++ [y]))) else Nx1 H6) else Nx H3) := by
  have small : ∀ i, i ≤ xs.length → ((xs.take i).flatMap fun x => ys.filterMap (f x)).length ≤ i * 100 := by
    intro i
    induction i with
    | zero => intro _; simp
    | succ i ih =>
      intro hi
      have e : xs[i]? = some xs[i] := List.getElem?_eq_getElem (by omega)
      rw [List.take_add_one, e, List.flatMap_append, List.length_append]
      have h1 := ih (by omega)
      have h2 : (ys.filterMap (f xs[i])).length ≤ 100 := Nat.le_trans (List.length_filterMap_le _ _) ly
      have h3 : ((some xs[i]).toList.flatMap fun x => ys.filterMap (f x)) = ys.filterMap (f xs[i]) := by simp
      rw [h3]
      omega
  refine lc2_it (walk_list (K := K) (a := a) (xs := xs.map V.int)) (fun i H => Same H1 H ∧ ∃ acc, H D = some (.lst acc) ∧ DpAll K H acc (((xs.take i).flatMap fun x => ys.filterMap (f x)).map pairD)) ⟨same_upd nD, [], upd_same, .nil⟩ (fun i H _ z => z.1.seq hx) ?_ ?_
  · rintro i v H H' hi ⟨s1, acc, hD, hacc⟩ ⟨rfl, hv⟩
    rw [List.length_map] at hi
    rw [List.getElem?_map] at hv
    obtain ⟨x, ex, rfl⟩ := Option.map_eq_some_iff.mp hv
    refine st1 x H' (fun _ _ => True) s1 trivial _ fun σ2 hw hwi inner => ⟨hw, ?_⟩
    simp only [tYes, if_true]
    refine (hwi _).mpr ?_
    refine li_it (walk_list (K := K) (a := c) (xs := ys.map V.int)) (fun j H => Same H1 H ∧ ∃ acc, H D = some (.lst acc) ∧ DpAll K H acc ((((xs.take i).flatMap fun x => ys.filterMap (f x)) ++ (ys.take j).filterMap (f x)).map pairD)) ⟨s1, acc, hD, by simpa using hacc⟩ (fun j H _ z => z.1.seq hy) ?_ ?_
    · rintro j v H2 H3 hj ⟨s2, acc2, hD2, hacc2⟩ ⟨rfl, hv2⟩
      rw [List.getElem?_map] at hv2
      obtain ⟨y, ey, rfl⟩ := Option.map_eq_some_iff.mp hv2
      have hl2 := dpAll_len hacc2
      rw [List.length_map, List.length_append] at hl2
      have b1 := small i (by omega)
      have b2 := fm_take_le (f x) ys j
      rw [List.length_map] at hj
      refine inner y H3 _ _ s2 ?_ ?_
      · intro p fp v' H4 s4 pv
        have hD4 := s4 _ _ hD2
        have ku := Kt.upd (o' := .lst (acc2 ++ [v'])) hD4 (fun z => z)
        refine ⟨acc2, hD4, by rw [sizeLine_eq]; omega, ?_, acc2 ++ [v'], upd_same, ?_⟩
        · intro z o e
          rw [upd_ne (ne_of_none e nD)]
          exact s4 _ _ (s2 _ _ e)
        · rw [take_fm (f x) ys j y ey, fp, ← List.append_assoc, List.map_append]
          exact dpAll_append (dp_ktAll ((Kt.same s4).trans ku) _ _ (pairs_imm _) hacc2) (.cons (dp_kt ku _ _ (pairD_imm p) pv) .nil)
      · intro fn
        refine ⟨s2, acc2, hD2, ?_⟩
        rw [take_fm (f x) ys j y ey, fn]
        simpa using hacc2
    · rintro H2 ⟨s2, acc2, hD2, hacc2⟩
      rw [List.length_map, List.take_of_length_le (Nat.le_refl _)] at hacc2
      refine ⟨s2, acc2, hD2, ?_⟩
      rw [List.take_add_one, ex, List.flatMap_append]
      simpa using hacc2
  · rintro H ⟨s1, acc, hD, hacc⟩
    rw [List.length_map, List.take_of_length_le (Nat.le_refl _)] at hacc
    exact hd H acc s1 hD hacc

end
/-! ### rules of our own: sorted(keys), a key ((m, o), v, w, b, t) -/
theorem lex_asym : ∀ (xs ys : List Int), HT.lexLt xs ys = true → HT.lexLt ys xs = false
  | [], [], h => by cases h
  | [], _ :: _, _ => rfl
  | _ :: _, [], h => by cases h
  | x :: xs, y :: ys, h => by
    unfold HT.lexLt at h ⊢
    by_cases e : x = y
    · rw [if_pos e] at h
      rw [if_pos e.symm]
      exact lex_asym xs ys h
    · rw [if_neg e] at h
      rw [if_neg (fun z => e z.symm)]
      have := of_decide_eq_true h
      exact decide_eq_false (by omega)
theorem lex_tr : ∀ (xs ys zs : List Int), HT.lexLt ys xs = false → HT.lexLt zs ys = false → HT.lexLt zs xs = false
  | [], [], zs, _, h2 => h2
  | [], y :: ys, [], _, h2 => by cases h2
  | [], _ :: _, _ :: _, _, _ => rfl
  | x :: xs, [], _, h1, _ => by cases h1
  | x :: xs, y :: ys, [], _, h2 => by cases h2
  | x :: xs, y :: ys, z :: zs, h1, h2 => by
    unfold HT.lexLt at h1 h2 ⊢
    by_cases e1 : y = x
    · rw [if_pos e1] at h1
      by_cases e2 : z = y
      · rw [if_pos e2] at h2
        rw [if_pos (e2.trans e1)]
        exact lex_tr xs ys zs h1 h2
      · rw [if_neg e2] at h2
        have := of_decide_eq_false h2
        rw [if_neg (by omega)]
        exact decide_eq_false (by omega)
    · rw [if_neg e1] at h1
      have a := of_decide_eq_false h1
      by_cases e2 : z = y
      · rw [if_neg (by omega)]
        exact decide_eq_false (by omega)
      · rw [if_neg e2] at h2
        have c := of_decide_eq_false h2
        rw [if_neg (by omega)]
        exact decide_eq_false (by omega)
section
variable {prog : Program} {w : World} {A : Around} {E : Value → Shared → Prop} {s : Shared}
open Srt SrtO
theorem swo_keys {α : Type} (k : α → List Int) : Swo fun v u => HT.lexLt (k v) (k u) := ⟨fun x y h => lex_asym _ _ h, fun x y z h1 h2 => lex_tr _ _ _ h1 h2⟩
def IsKey (h : Heap) (v : Value) (k : List Int) : Prop := ∃ (a p : Addr) (oa op : Obj) (m o v1 v2 v3 v4 : Int) (t1 t2 t3 t4 u1 u2 : Tok) (n n' : Nat), v = .ref a ∧ h.get? a = some oa ∧ oa.cls = .type "tuple" ∧ oa.data = .seq #[.ref p, .int v1 t1, .int v2 t2, .int v3 t3, .int v4 t4] n ∧
  h.get? p = some op ∧ op.cls = .type "tuple" ∧ op.data = .seq #[.int m u1, .int o u2] n' ∧ k = [m, o, v1, v2, v3, v4]
theorem IsKey.keeps {h h' : Heap} {v : Value} {k : List Int} (z : IsKey h v k) (kp : ∀ b o, h.get? b = some o → o.cls = .type "tuple" → h'.get? b = some o) : IsKey h' v k := by
  obtain ⟨a, p, oa, op, m, o, v1, v2, v3, v4, t1, t2, t3, t4, u1, u2, n, n', e1, e2, e3, e4, e5, e6, e7, e8⟩ := z
  exact ⟨a, p, oa, op, m, o, v1, v2, v3, v4, t1, t2, t3, t4, u1, u2, n, n', e1, kp _ _ e2 e3, e3, e4, kp _ _ e5 e6, e6, e7, e8⟩
theorem eq_pairs {p q : Addr} {op oq : Obj} {m o m' o' : Int} {u1 u2 x1 x2 : Tok} {n n' : Nat} (hp : s.heap.get? p = some op) (cp : op.cls = .type "tuple") (dp : op.data = .seq #[.int m u1, .int o u2] n)
    (hq : s.heap.get? q = some oq) (cq : oq.cls = .type "tuple") (dq : oq.data = .seq #[.int m' x1, .int o' x2] n') (hu : A.units < cLine) : SeqAt.EqAt A s (.ref p) (.ref q) (decide (m = m' ∧ o = o')) := by
  by_cases e : p = q
  · subst e
    have eo : op = oq := Option.some.inj (hp.symm.trans hq)
    subst eo
    have ed := dp.symm.trans dq
    have em : m = m' ∧ o = o' := by
      injection ed with h1 h2
      have h3 := congrArg Array.toList h1
      simp at h3
      exact ⟨h3.1.1, h3.2.1⟩
    rw [decide_eq_true em]
    exact SeqAt.EqAt.same _
  · have := SeqAt.RcAt.tuples (e := fun j => if j = 0 then m == m' else o == o') (s := s) (A := A) ⟨op, hp, cp, n, dp⟩ ⟨oq, hq, cq, n', dq⟩ hu ?_
    · refine SeqAt.EqAt.of_refs e ?_
      have e2 : ((List.range (min (#[Value.int m u1, Value.int o u2] : Array Value).size (#[Value.int m' x1, Value.int o' x2] : Array Value).size)).all (fun j => if j = 0 then m == m' else o == o') && (#[Value.int m u1, Value.int o u2] : Array Value).size == (#[Value.int m' x1, Value.int o' x2] : Array Value).size) = decide (m = m' ∧ o = o') := by
        show ((List.range 2).all (fun j => if j = 0 then m == m' else o == o') && true) = _
        rw [Bool.and_true]
        show ((m == m') && ((o == o') && true)) = _
        rw [Bool.and_true]
        by_cases h1 : m = m'
        · by_cases h2 : o = o'
          · simp [h1, h2]
          · simp [h2]
        · simp [h1]
      rw [e2] at this
      exact this
    · intro j h1 h2
      have hj : j = 0 ∨ j = 1 := by
        have : j < 2 := h1
        omega
      rcases hj with rfl | rfl
      · exact SeqAt.EqAt.int_int m u1 m' x1
      · exact SeqAt.EqAt.int_int o u2 o' x2
theorem keys_cmp {vs : List Value} {k : Value → List Int} (hu : A.units < cLine) (hk : ∀ v ∈ vs, IsKey s.heap v (k v)) : Cmp prog w A s (tuples' false) (fun p => p.1 ∈ vs) (lt2 fun v u => HT.lexLt (k v) (k u)) := by
  intro p q hm hm'
  have h1 := hk _ hm
  have h2 := hk _ hm'
  refine (show wpAny (model prog w) A (keyLt' (tuples' false) p.1 q.1) (fun r s' => s' = s ∧ r = HT.lexLt (k p.1) (k q.1)) (fun _ _ => False) s from ?_)
  obtain ⟨a, b, oa, ob, m, o, v1, v2, v3, v4, t1, t2, t3, t4, u1, u2, n, n', e1, e2, e3, e4, e5, e6, e7, e8⟩ := h1
  obtain ⟨a', b', oa', ob', m', o', v1', v2', v3', v4', t1', t2', t3', t4', u1', u2', l, l', f1, f2, f3, f4, f5, f6, f7, f8⟩ := h2
  rw [e8, f8, e1, f1]
  refine PySem.W.kat_lt e2 e4 f2 f4 (show PySem.W.KatLex prog w A false (decide (5 < 5)) _ [(.ref b, .ref b'), (.int v1 t1, .int v1' t1'), (.int v2 t2, .int v2' t2'), (.int v3 t3, .int v3' t3'), (.int v4 t4, .int v4' t4')] 0 s from ?_)
  refine PySem.W.kat_cons (eq_pairs e5 e6 e7 f5 f6 f7 hu prog w _ _ (PySem.W.kat_go (fun z => ?_) (fun z => ?_)))
  · obtain ⟨em, eo⟩ := of_decide_eq_true z
    subst em
    subst eo
    have step : ∀ {x y : Int} {xs ys : List Int}, HT.lexLt (x :: xs) (y :: ys) = if x = y then HT.lexLt xs ys else decide (x < y) := fun {x y xs ys} => rfl
    have s0 : HT.lexLt [m, o, v1, v2, v3, v4] [m, o, v1', v2', v3', v4'] = HT.lexLt [v1, v2, v3, v4] [v1', v2', v3', v4'] := by rw [step, if_pos rfl, step, if_pos rfl]
    rw [s0]
    refine PySem.W.kat_yes (PySem.W.kat_cons (SeqAt.EqAt.int_int v1 t1 v1' t1' prog w _ _ (PySem.W.kat_go (fun z1 => ?_) (fun z1 => ?_))))
    · have g1 : v1 = v1' := by simpa using z1
      refine PySem.W.kat_yes (PySem.W.kat_cons (SeqAt.EqAt.int_int v2 t2 v2' t2' prog w _ _ (PySem.W.kat_go (fun z2 => ?_) (fun z2 => ?_))))
      · have g2 : v2 = v2' := by simpa using z2
        refine PySem.W.kat_yes (PySem.W.kat_cons (SeqAt.EqAt.int_int v3 t3 v3' t3' prog w _ _ (PySem.W.kat_go (fun z3 => ?_) (fun z3 => ?_))))
        · have g3 : v3 = v3' := by simpa using z3
          refine PySem.W.kat_yes (PySem.W.kat_cons (SeqAt.EqAt.int_int v4 t4 v4' t4' prog w _ _ (PySem.W.kat_go (fun z4 => ?_) (fun z4 => ?_))))
          · have g4 : v4 = v4' := by simpa using z4
            exact PySem.W.kat_yes (PySem.W.kat_nil ⟨rfl, by rw [step, if_pos g1, step, if_pos g2, step, if_pos g3, step, if_pos g4]; rfl⟩)
          · have g4 : ¬ v4 = v4' := by simpa using z4
            exact PySem.W.kat_no (oneLt_any_int ⟨rfl, by rw [step, if_pos g1, step, if_pos g2, step, if_pos g3, step, if_neg g4]⟩)
        · have g3 : ¬ v3 = v3' := by simpa using z3
          exact PySem.W.kat_no (oneLt_any_int ⟨rfl, by rw [step, if_pos g1, step, if_pos g2, step, if_neg g3]⟩)
      · have g2 : ¬ v2 = v2' := by simpa using z2
        exact PySem.W.kat_no (oneLt_any_int ⟨rfl, by rw [step, if_pos g1, step, if_neg g2]⟩)
    · have g1 : ¬ v1 = v1' := by simpa using z1
      exact PySem.W.kat_no (oneLt_any_int ⟨rfl, by rw [step, if_neg g1]⟩)
  · have ne : ¬ (m = m' ∧ o = o') := of_decide_eq_false z
    have e9 : HT.lexLt [m, o] [m', o'] = HT.lexLt [m, o, v1, v2, v3, v4] [m', o', v1', v2', v3', v4'] := by
      unfold HT.lexLt
      by_cases g : m = m'
      · rw [if_pos g, if_pos g]
        have g2 : ¬ o = o' := fun y => ne ⟨g, y⟩
        unfold HT.lexLt
        rw [if_neg g2, if_neg g2]
      · rw [if_neg g, if_neg g]
    refine PySem.W.kat_no (PySem.W.kat_one _ _ (HT.lt_tupInts (ns := [m, o]) (ms := [m', o']) ⟨ob, e5, e6, n', e7⟩ ⟨ob', f5, f6, l', f7⟩ (.cons _ _ (.cons _ _ .nil)) (.cons _ _ (.cons _ _ .nil)) hu (show s = s ∧ HT.lexLt [m, o] [m', o'] = _ from ⟨rfl, e9⟩)))
theorem keys_firsts {h : Heap} {k : Value → List Int} : ∀ {vs : List Value}, (∀ v ∈ vs, IsKey h v (k v)) → ∃ fs : List Value, PySem.W.KatTups h vs fs ∧ fs.length = vs.length ∧ ∀ f ∈ fs, ∃ p op, f = Value.ref p ∧ h.get? p = some op ∧ op.cls = .type "tuple"
  | [], _ => ⟨[], PySem.W.KatTups.nil, rfl, fun _ m => by cases m⟩
  | v :: vs, hk => by
    obtain ⟨fs, h1, h2, h3⟩ := keys_firsts (vs := vs) fun v' m => hk v' (List.mem_cons_of_mem _ m)
    obtain ⟨a, p, oa, op, m, o, v1, v2, v3, v4, t1, t2, t3, t4, u1, u2, n, n', rfl, e2, e3, e4, e5, e6, e7, e8⟩ := hk v (List.mem_cons_self ..)
    refine ⟨.ref p :: fs, PySem.W.KatTups.cons e2 e3 e4 rfl h1, congrArg Nat.succ h2, fun f m => ?_⟩
    rcases List.mem_cons.mp m with e | m
    · exact ⟨p, op, e, e5, e6⟩
    · exact h3 f m
theorem keys_sortable {a : Addr} {vs : List Value} {k : Value → List Int} (hu : A.units < cLine) (h0 : 0 < vs.length) (hk : ∀ v ∈ vs, IsKey s.heap v (k v)) (ha : ∀ o, s.heap.get? a = some o → o.cls ≠ .type "tuple") : SortableO prog w A s a vs fun v u => HT.lexLt (k v) (k u) := by
  intro h' keep
  have hk' : ∀ v ∈ vs, IsKey h' v (k v) := fun v m => (hk v m).keeps fun b o e c => keep b o (fun z => ha o (z ▸ e) c) e
  obtain ⟨fs, h1, h2, h3⟩ := keys_firsts hk'
  refine ⟨tuples' false, fun Q E hq => PySem.W.kat_kind (T := .type "tuple") h1 (by omega) (fun f m => ?_) (by rfl) ?_, keys_cmp hu hk'⟩
  · obtain ⟨p, op, rfl, hp, hc⟩ := h3 f m
    exact fun _ _ _ _ kp q => wpAny_typeOf (T := "tuple") ⟨op, kp _ _ hp, hc⟩ q
  · have e : (Value.type "tuple" != Value.type "tuple") = false := by first | decide +kernel | rfl | decide
    rw [e]
    exact hq
end
section
variable {X : Cx}
def KeyAt (H : Hp) (x : V) (k : List Int) : Prop := ∃ (t p : Addr) (m o v1 v2 v3 v4 : Int), x = .ref t ∧ H t = some (.tup [.ref p, .int v1, .int v2, .int v3, .int v4]) ∧ H p = some (.tup [.int m, .int o]) ∧ k = [m, o, v1, v2, v3, v4]
def rSortedK (K : PySem.W.Frag) : List V → Hp → VK → Prop := fun vs H Q => ∃ (a : Addr) (xs : List V) (k : V → List Int), vs = [V.ref a] ∧ SqL K H a xs ∧ (∀ x ∈ xs, KeyAt H x (k x)) ∧ ∀ ys p, ys.Perm xs → ys.Pairwise (fun x y => HT.lexLt (k y) (k x) = false) → H p = none → Q (.ref p) (upd H p (.lst ys))
theorem cr_sortedK (hu : X.A.units + 64 < cLine) : CallR X (.builtin "sorted") (rSortedK X.K) := by
  intro pins s σ H vs us Q I r hq
  obtain ⟨a, xs, k, rfl, hs, hx, q⟩ := hq
  obtain ⟨its, rv, hl, hz⟩ := I.list hs
  obtain ⟨u, rfl, ru⟩ := vals1 r
  obtain rfl : u = Value.ref a := ru
  obtain ⟨e1, e2⟩ := refs_back rv fun x m => by
    obtain ⟨t, _, _, _, _, _, _, _, e, _⟩ := hx x m
    exact ⟨t, e⟩
  have keys : ∀ v ∈ its, IsKey s.heap v (k (backV v)) := fun v hv => by
    obtain ⟨t, rfl⟩ := e2 v hv
    have hm : V.ref t ∈ xs := by rw [e1]; exact List.mem_map.mpr ⟨_, hv, rfl⟩
    obtain ⟨t', p, m, o, v1, v2, v3, v4, e, ht, hp, ek⟩ := hx _ hm
    cases e
    obtain ⟨_, its2, r2, oa, ho, hc, n, hd⟩ := I.hok _ _ ht
    obtain ⟨_, its3, r3, op, hop, hcp, n', hdp⟩ := I.hok _ _ hp
    cases r2 with
    | cons q1 r2 =>
      cases r2 with
      | cons q2 r2 =>
        cases r2 with
        | cons q3 r2 =>
          cases r2 with
          | cons q4 r2 =>
            cases r2 with
            | cons q5 r2 =>
              cases r2
              cases r3 with
              | cons y1 r3 =>
                cases r3 with
                | cons y2 r3 =>
                  cases r3
                  cases q1
                  obtain ⟨t1, rfl⟩ := q2
                  obtain ⟨t2, rfl⟩ := q3
                  obtain ⟨t3, rfl⟩ := q4
                  obtain ⟨t4, rfl⟩ := q5
                  obtain ⟨w1, rfl⟩ := y1
                  obtain ⟨w2, rfl⟩ := y2
                  exact ⟨t, p, oa, op, m, o, v1, v2, v3, v4, t1, t2, t3, t4, w1, w2, n, n', rfl, ho, hc, hd, hop, hcp, hdp, ek⟩
  have hu2 : X.A.in1.in1.units < cLine := by
    show X.A.units + 1 + 1 < cLine
    omega
  refine SrtO.sorted_ord (swo_keys fun v => k (backV v)) hl.isList (by rw [← rv.length]; exact hz) (fun h2 h₁ a1 ha kp => keys_sortable (s := { s with heap := h₁ }) hu2 (by omega) (fun v m => (keys v m).keeps fun b o e _ => (kp b o e).2) fun o e => ?_) fun out hS hB => ?_
  · have e' : some o = some (seqObj "list" its.toArray 0) := e.symm.trans ha
    cases e'
    exact fun c => absurd (Value.type.inj c) (by decide)
  · have h3 : ∀ u ∈ out, ∃ a, u = Value.ref a := fun u hu => e2 u (hB.perm.mem_iff.mp hu)
    obtain ⟨n, hn⟩ := sortedAll_at s.heap its out.toArray
    refine ⟨.ref _, upd H (s.heap.objs.size + 1) (.lst (out.map backV)), I.laid (t' := s.toks) (fun b o e => sortedAll_old e) (Nat.le_succ _) ⟨?_, out, n, vals_back h3, hn⟩, rfl, q _ _ ?_ (List.pairwise_map.mpr hS) (I.hok.fresh (Nat.le_succ _))⟩
    · rw [List.length_map, hB.perm.length_eq, ← rv.length]
      exact hz
    · rw [e1]
      exact hB.perm.map backV
end
section
variable {P : Program} {w : World} {K : PySem.W.Frag} {mg : Str → Option Value} {base : Heap}

end
/-! ### rules of our own: set(a list of ints) -/
section
variable {P : Program} {w : World} {A : Around} {E : Value → Shared → Prop} {s : Shared}
set_option maxRecDepth 100000 in
set_option maxHeartbeats 3200000 in
theorem set_of_list {l : Addr} {items : Array Value} (ns : List Int) {Q : Value → Shared → Prop} (hh : A.handled = none) (hl : s.heap.IsList l items) (hit : IntsAre items.toList ns) (hb : ns.length + 1 < scanBound)
    (h : ∀ (h' : Heap) (tk c : Nat), SetR w h' s.heap.objs.size (fun j => decide (j ∈ ns)) c → c ≤ ns.length → (∀ b o, s.heap.get? b = some o → h'.get? b = some o) → Q (.ref s.heap.objs.size) { s with heap := h', toks := tk }) :
    wpAny (model P w) A (call (.type "set") [.ref l]) Q E s := by
  have hisz : items.size = ns.length := by have q := IntsAre.length hit; rw [Array.length_toList] at q; exact q
  obtain ⟨c, tl, hmro⟩ := F.called_set.mro; have hmade := F.called_set.made; have hsub := F.called_set.sub
  refine wpAny_call (codeAny_of_tree (show wpAny _ _ (callAny (.type "set") _) _ _ _ from wpAny_pure ⟨Code.quiet_builtin _ (by decide +kernel), codeAny_builtin F.entry_type_call ?_⟩))
  rw [Around.under_plain (weight_type_call_type "set" [.ref l] []) rfl]; have h1 := F.called_set.notType; have h2 := F.called_set.canCreate; have hct := F.typeCall_set_1 (.ref l)
  repeat (any_goals (first | assumption | wp_step))
  generalize eO : ({ cls := .type "set", dict := none, data := .set #[] 0 (.fresh 0 0 (!w.params.followText "set-order")) } : Obj) = ob0
  refine codeAny_mono (L2.code_set_led1 (.ref l) (E := E) (Q₁ := fun obj s₁ => obj = .ref s.heap.objs.size ∧ s₁ = { s with heap := s.heap.push ob0 }) ⟨rfl, by rw [eO]⟩) fun r s₁ hr => ?_
  cases r with
  | error e => exact hr
  | ok fl =>
    cases fl with
    | ret obj =>
      obtain ⟨rfl, rfl⟩ := hr
      have hS : (s.heap.push ob0).get? s.heap.objs.size = some ob0 := Heap.get?_push_size _ (by rw [← eO]; rfl)
      have hT : Shared.TypeIs { s with heap := s.heap.push ob0 } (.ref s.heap.objs.size) "set" := ⟨_, hS, by rw [← eO]⟩
      have hli := F.called_set.init.lookup; have hbi := F.called_set.init.bind (.ref s.heap.objs.size)
      repeat (any_goals (first | assumption | wp_step))
      refine codeAny_mono (codeAny_call_builtin (R := wants (fun r s₂ => r = .none ∧ ∃ h' tk c, s₂ = { s with heap := h', toks := tk } ∧ SetR w h' s.heap.objs.size (fun j => decide (j ∈ ns)) c ∧ c ≤ ns.length ∧ (∀ b o, s.heap.get? b = some o → h'.get? b = some o)) E) F.called_set.init.plain F.entry_set_init (check_set_init_1 hT ?_)) fun r₂ s₂ hr₂ => ?_
      · obtain ⟨⟨ocls, odict, odata, oslots⟩, hol, hcl, nl, hdl⟩ := hl
        simp only at hcl hdl
        subst hcl; subst hdl
        have hol' : (s.heap.push ob0).get? l = some { cls := .type "list", dict := odict, data := .seq items nl, slots := oslots } := Heap.get?_push_of_some _ hol
        have hsls := F.sub_list_set; have hslf := F.sub_list_frozenset; have hne : (Value.type "list" == Value.type "dict") = false := by decide
        have hl1 : (s.heap.push ob0).IsList l items := ⟨_, hol', rfl, nl, rfl⟩
        subst eO
        unfold Builtin.«set.__init__» noKeywords Builtin.Frozenset.updateFrom; generalize hPI : pyIter = PI
        wp_walk
        subst hPI
        refine wpAny_pyIter_list hl1 ?_; refine wpAny_bind (wpAny_runValue ?_)
        have hlS : l < s.heap.objs.size := Heap.lt_size hol; have hh3 : A.in1.in1.in1.handled = none := by simp [hh]
        have hneI : ∀ ob0 : Obj, l ≠ (s.heap.push ob0).objs.size := fun ob0 => by rw [Heap.size_push]; exact Nat.ne_of_lt (Nat.lt_succ_of_lt hlS)
        have hSf : ∀ ob0 : Obj, s.heap.objs.size ∉ [(s.heap.push ob0).objs.size, l] := fun ob0 => by
          rw [Heap.size_push]; simp only [List.mem_cons, List.mem_singleton, List.not_mem_nil, or_false, not_or]; exact ⟨Nat.ne_of_lt (Nat.lt_succ_self _), Nat.ne_of_gt hlS⟩
        have hval : ∀ (i : Nat) (v : Value), items[i]? = some v → ∃ k t, ns[i]? = some k ∧ v = .int k t := fun i v hv => by
          have hi : i < ns.length := by rw [← hisz]; exact (Array.getElem?_eq_some_iff.mp hv).1
          obtain ⟨t, e⟩ := PyProof.Rows.IntsAre.int_at hit i v (by rw [Array.getElem?_toList]; exact hv); refine ⟨ns[i], t, List.getElem?_eq_getElem hi, ?_⟩
          rw [e, List.getD_eq_getElem?_getD, List.getElem?_eq_getElem hi]; rfl
        refine L2.set_update_ints ((Walks.list hh3 _ l (hneI _) items).toS) s.heap.objs.size (hSf _) ns hisz hb hval (items.size - 0) 0 _ (by omega) (Nat.zero_le _) ⟨⟨_, Heap.get?_push_size _ rfl, rfl, rfl⟩, (hl1.push _)⟩ ⟨0, Nat.le_refl 0, L2.setR_new_at ?_⟩ ?_
        · exact Heap.get?_push_of_some _ hS
        · rintro ⟨h', g2, d', tk', os'⟩ c' hm hc' hS'
          have eg : g2 = s.gens := hm.gens; have ed : d' = s.drawn := hm.drawn; have eo : os' = s.os := hm.os
          subst eg; subst ed; subst eo; rw [hisz] at hc'
          show wpAny _ _ _ _ _ _
          refine wpAny_pure (show wpAny _ _ (ret Value.none) _ _ _ from wpAny_pure ⟨rfl, h', tk', c', rfl, hS', hc', fun b o e => ?_⟩)
          have hb0 : b < s.heap.objs.size := Heap.lt_size e
          refine hm.heap b o (fun z => ?_) (Heap.get?_push_of_some _ (Heap.get?_push_of_some _ e))
          simp only [List.mem_cons, List.mem_singleton, List.not_mem_nil, or_false, Heap.size_push] at z
          rcases z with z | z
          · exact absurd z (Nat.ne_of_lt hb0)
          · exact absurd z (Nat.ne_of_lt (Nat.lt_succ_of_lt hb0))
      · cases r₂ with
        | error e => exact hr₂
        | ok fl₂ =>
          cases fl₂ with
          | ret r =>
            obtain ⟨rfl, h', tk, c', rfl, hS', hc', hk'⟩ := hr₂; repeat (any_goals (first | assumption | wp_step))
            exact h _ _ _ hS' hc' hk'
          | _ => exact hr₂.elim
    | _ => exact hr.elim
end
section
variable {X : Cx}
theorem ints_vals : ∀ {ns : List Int} {us : List Value}, Vals (ns.map V.int) us → IntsAre us ns
  | [], _, h => by cases h; exact .nil
  | n :: ns, _, h => by
    cases h with
    | cons r t =>
      obtain ⟨k, rfl⟩ := r
      exact .cons n k (ints_vals t)
def rSetL (K : PySem.W.Frag) (w : World) : List V → Hp → VK → Prop := fun xs H Q => ∃ (l : Addr) (ns : List Int), xs = [.ref l] ∧ SqL K H l (ns.map V.int) ∧ ns.length ≤ 1000 ∧ ∀ p c, H p = none → c ≤ ns.length → Q (.ref p) (upd H p (SetO w p (fun j => decide (j ∈ ns)) c))
theorem cr_setL (hc : X.calm = true) : CallR X (.type "set") (rSetL X.K X.w) := by
  intro pins s σ H xs us Q I r hq
  obtain ⟨l, ns, rfl, hs, hn, q⟩ := hq
  obtain ⟨u, rfl, ru⟩ := vals1 r
  obtain rfl : u = Value.ref l := ru
  obtain ⟨its, rv, pl, hz⟩ := I.list hs
  refine set_of_list ns (I.ok.hd hc) pl.isList (by simpa using ints_vals rv) (by unfold scanBound; omega) fun h' tk c hS hc' hk => ?_
  exact ⟨.ref _, upd H s.heap.objs.size (SetO X.w s.heap.objs.size (fun j => decide (j ∈ ns)) c), I.laid (fun b o e => hk b o e) (Nat.le_refl _) (setO_new hS), rfl, q _ c (I.hok.fresh (Nat.le_refl _)) hc'⟩
end
section
variable {P : Program} {w : World} {K : PySem.W.Frag} {mg : Str → Option Value} {base : Heap}

/-! ### histories: rows, zones, reasons -/
structure HRow where
  t : Int
  wr : Bool
  v : Int
  b : Int
  e : Int
deriving DecidableEq
def kindS (w : Bool) : Str := if w = true then "write" else "read"
def hD (r : HRow) : PyData := .tuple [.int r.t, .str (kindS r.wr), .int r.v, .int r.b, .int r.e]
def hV (r : HRow) : List V := [.int r.t, .str (kindS r.wr), .int r.v, .int r.b, .int r.e]
theorem hD_imm (r : HRow) : imm (hD r) = true := rfl
theorem hs_imm (rs : List HRow) : immAll (rs.map hD) = true := immAll_iff.mpr fun e he => by
  obtain ⟨y, _, rfl⟩ := List.mem_map.mp he
  exact hD_imm y
theorem dp_h {H : Hp} {v : V} {r : HRow} (h : Dp K H v (hD r)) : ∃ a, v = .ref a ∧ SqT K H a (hV r) := by
  cases h with
  | tup hs ha =>
    cases ha with
    | cons h1 ha =>
      cases h1
      cases ha with
      | cons h1 ha =>
        cases h1
        cases ha with
        | cons h1 ha =>
          cases h1
          cases ha with
          | cons h1 ha =>
            cases h1
            cases ha with
            | cons h1 ha =>
              cases h1
              cases ha
              exact ⟨_, rfl, hs⟩
theorem h_dp {H : Hp} {a : Addr} {r : HRow} (h : SqT K H a (hV r)) : Dp K H (.ref a) (hD r) :=
  .tup h (.cons (.int _) (.cons (.str _) (.cons (.int _) (.cons (.int _) (.cons (.int _) .nil)))))
theorem kind_write (w : Bool) : decide (V.str (kindS w) = V.str ("write" : Str)) = w := by
  cases w with
  | true => exact decide_eq_true rfl
  | false => exact decide_eq_false fun z => absurd (V.str.inj z) (by decide)
theorem kind_read (w : Bool) : decide (V.str (kindS w) = V.str ("read" : Str)) = !w := by
  cases w with
  | true => exact decide_eq_false fun z => absurd (V.str.inj z) (by decide)
  | false => exact decide_eq_true rfl
/-- the first end and the last begin of a value, as far as the rows go -/
def zStep (z : Option (Int × Int)) (r : HRow) : Option (Int × Int) := some (match z with
  | none => (r.e, r.b)
  | some (f, l) => (if r.e < f then r.e else f, if r.b > l then r.b else l))
def z0 (v : Int) : Option (Int × Int) := if v = 0 then some (-1, -1) else none
def zoneO (h : List HRow) (v : Int) : Option (Int × Int) := (h.filter fun r => decide (r.v = v)).foldl zStep (z0 v)
theorem zone_take {h : List HRow} {i : Nat} {r : HRow} (e : h[i]? = some r) (v : Int) : zoneO (h.take (i + 1)) v = if r.v = v then zStep (zoneO (h.take i) v) r else zoneO (h.take i) v := by
  unfold zoneO
  rw [List.take_add_one, e, List.filter_append, List.foldl_append]
  by_cases hv : r.v = v <;> simp [hv]
/-- all ends, all begins of a value -/
def endsOf (h : List HRow) (v : Int) : List Int := (if v = 0 then [-1] else []) ++ (h.filter fun r => decide (r.v = v)).map (·.e)
def begsOf (h : List HRow) (v : Int) : List Int := (if v = 0 then [-1] else []) ++ (h.filter fun r => decide (r.v = v)).map (·.b)
structure ZOk (es bs : List Int) (z : Option (Int × Int)) : Prop where
  non : z = none → es = [] ∧ bs = []
  som : ∀ f l, z = some (f, l) → f ∈ es ∧ (∀ x ∈ es, f ≤ x) ∧ l ∈ bs ∧ ∀ x ∈ bs, x ≤ l
theorem ZOk.step {es bs : List Int} {z : Option (Int × Int)} (h : ZOk es bs z) (r : HRow) : ZOk (es ++ [r.e]) (bs ++ [r.b]) (zStep z r) := by
  cases z with
  | none =>
    obtain ⟨rfl, rfl⟩ := h.non rfl
    refine ⟨(fun z => nomatch z), fun f l e => ?_⟩
    cases e
    exact ⟨by simp, (by intro x hx; simp at hx; omega), by simp, (by intro x hx; simp at hx; omega)⟩
  | some p =>
    obtain ⟨f, l⟩ := p
    obtain ⟨h1, h2, h3, h4⟩ := h.som f l rfl
    refine ⟨(fun z => nomatch z), fun f' l' e => ?_⟩
    cases e
    refine ⟨?_, ?_, ?_, ?_⟩
    · split
      · simp
      · exact List.mem_append_left _ h1
    · intro x hx
      rcases List.mem_append.mp hx with hx | hx
      · have := h2 x hx
        split <;> omega
      · rw [List.mem_singleton.mp hx]
        split <;> omega
    · split
      · simp
      · exact List.mem_append_left _ h3
    · intro x hx
      rcases List.mem_append.mp hx with hx | hx
      · have := h4 x hx
        split <;> omega
      · rw [List.mem_singleton.mp hx]
        split <;> omega
theorem zOk_fold : ∀ (rs : List HRow) {es bs : List Int} {z : Option (Int × Int)}, ZOk es bs z → ZOk (es ++ rs.map (·.e)) (bs ++ rs.map (·.b)) (rs.foldl zStep z)
  | [], _, _, _, h => by simpa using h
  | r :: rs, es, bs, z, h => by
    have := zOk_fold rs (h.step r)
    simpa using this
theorem zone_ok (h : List HRow) (v : Int) : ZOk (endsOf h v) (begsOf h v) (zoneO h v) := by
  unfold endsOf begsOf zoneO
  refine zOk_fold _ ?_
  unfold z0
  by_cases hv : v = 0
  · rw [if_pos hv, if_pos hv]
    refine ⟨(fun z => nomatch z), fun f l e => ?_⟩
    cases e
    simp
  · rw [if_neg hv, if_neg hv]
    exact ⟨fun _ => ⟨rfl, rfl⟩, fun f l e => nomatch e⟩
theorem zone_some {h : List HRow} {v : Int} : (∃ z, zoneO h v = some z) ↔ v = 0 ∨ ∃ r ∈ h, r.v = v := by
  have ok := zone_ok h v
  constructor
  · rintro ⟨⟨f, l⟩, e⟩
    obtain ⟨h1, _⟩ := ok.som f l e
    unfold endsOf at h1
    by_cases hv : v = 0
    · exact .inl hv
    · rw [if_neg hv] at h1
      obtain ⟨r, hr, _⟩ := List.mem_map.mp h1
      have := List.mem_filter.mp hr
      exact .inr ⟨r, this.1, of_decide_eq_true this.2⟩
  · intro hh
    cases e : zoneO h v with
    | some z => exact ⟨z, rfl⟩
    | none =>
      have := (ok.non e).1
      unfold endsOf at this
      rcases hh with rfl | ⟨r, hr, rfl⟩
      · rw [if_pos rfl] at this
        exact absurd this (by simp)
      · have h2 := (List.append_eq_nil_iff.mp this).2
        have h3 : r.e ∈ (h.filter fun r' => decide (r'.v = r.v)).map (·.e) := List.mem_map.mpr ⟨r, List.mem_filter.mpr ⟨hr, decide_eq_true rfl⟩, rfl⟩
        rw [h2] at h3
        cases h3
def opn (z : Int × Int) : Bool := decide (z.1 < z.2)
def clsh (z w : Int × Int) : Bool := decide (z.1 < w.2) && decide (w.1 < z.2)
def opnV (h : List HRow) (v : Int) : Bool := match zoneO h v with
  | some z => opn z
  | none => false
def clsV (h : List HRow) (a b : Int) : Bool := match zoneO h a, zoneO h b with
  | some z, some w => clsh z w
  | _, _ => false
abbrev Reason := Str × Int × Int
def reaD (x : Reason) : PyData := .tuple [.str x.1, .int x.2.1, .int x.2.2]
theorem reaD_imm (x : Reason) : imm (reaD x) = true := rfl
theorem rea_dp {H : Hp} {a : Addr} {w : Str} {i j : Int} (h : SqT K H a [.str w, .int i, .int j]) : Dp K H (.ref a) (reaD (w, i, j)) := .tup h (.cons (.str _) (.cons (.int _) (.cons (.int _) .nil)))
/-- what is a value of the history -/
def isVal (h : List HRow) (v : Int) : Prop := v = 0 ∨ ∃ r ∈ h, r.v = v
def EarlyP (h : List HRow) (a b : Int) : Prop := ∃ r ∈ h, ∃ w ∈ h, r.wr = false ∧ w.wr = true ∧ r.v = w.v ∧ r.t = a ∧ w.t = b ∧ r.e < w.b
def BothP (h : List HRow) (a b : Int) : Prop := isVal h a ∧ isVal h b ∧ a < b ∧ opnV h a = true ∧ opnV h b = true ∧ clsV h a b = true
def WithinP (h : List HRow) (a b : Int) : Prop := isVal h a ∧ isVal h b ∧ opnV h a = true ∧ opnV h b = false ∧ clsV h a b = true
/-- each value is written once -/
def OneW (h : List HRow) : Prop := ∀ r w : HRow, r ∈ h → w ∈ h → r.wr = true → w.wr = true → r.v = w.v → r = w
def wOf (h : List HRow) (v : Int) : Option HRow := h.find? fun w => w.wr && decide (w.v = v)
theorem wOf_some {h : List HRow} {v : Int} {w : HRow} (e : wOf h v = some w) : w ∈ h ∧ w.wr = true ∧ w.v = v := by
  have h1 := List.find?_some e
  have h2 : w.wr = true ∧ w.v = v := by simpa using h1
  exact ⟨List.mem_of_find?_eq_some e, h2⟩
theorem wOf_is {h : List HRow} (one : OneW h) {w : HRow} (hw : w ∈ h) (wr : w.wr = true) : wOf h w.v = some w := by
  cases e : wOf h w.v with
  | none =>
    have := List.find?_eq_none.mp e w hw
    simp [wr] at this
  | some w' =>
    obtain ⟨h1, h2, h3⟩ := wOf_some e
    rw [one w' w h1 hw h2 wr h3]

/-! ### zones_of -/
def ZAt (K : PySem.W.Frag) (H : Hp) (D : Addr) (g : Int → Option (Int × Int)) (m : Nat) : Prop := ∃ (kvs : List (Key × V)) (ks : List Int), H D = some (.dK kvs) ∧ kvs.map (·.1) = ks.map Sum.inl ∧ ks.Nodup ∧ ks.length ≤ m ∧ (∀ v, v ∈ ks ↔ (g v).isSome = true) ∧
  ∀ v x, valV kvs (.inl v) = some x → ∃ z p, g v = some z ∧ x = .ref p ∧ SqT K H p [.int z.1, .int z.2]
theorem ZAt.same {H H' : Hp} {D : Addr} {g : Int → Option (Int × Int)} {m : Nat} (h : ZAt K H D g m) (s : Same H H') : ZAt K H' D g m := by
  obtain ⟨kvs, ks, h1, h2, h3, h4, h5, h6⟩ := h
  refine ⟨kvs, ks, s _ _ h1, h2, h3, h4, h5, fun v x e => ?_⟩
  obtain ⟨z, p, e1, e2, e3⟩ := h6 v x e
  exact ⟨z, p, e1, e2, sqT_same s e3⟩
theorem key_val {kvs : List (Key × V)} {ks : List Int} (e : kvs.map (·.1) = ks.map Sum.inl) (v : Int) : (valV kvs (.inl v)).isSome = decide (v ∈ ks) := by
  rw [← valV_any]
  have : (kvs.any fun kv => decide (kv.1 = .inl v)) = ((kvs.map (·.1)).any fun k => decide (k = .inl v)) := by rw [List.any_map]; rfl
  rw [this, e, List.any_map]
  by_cases h : v ∈ ks
  · rw [decide_eq_true h, List.any_eq_true]
    exact ⟨v, h, by simp⟩
  · rw [decide_eq_false h, List.any_eq_false]
    intro x hx
    simp only [Function.comp, decide_eq_true_eq]
    exact fun z => h (Sum.inl.inj z ▸ hx)
theorem putK_keys {kvs : List (Key × V)} {k : Key} {v : V} : (putK kvs k v).map (·.1) = if (valV kvs k).isSome = true then kvs.map (·.1) else kvs.map (·.1) ++ [k] := by
  unfold putK
  rw [valV_any]
  by_cases h : (valV kvs k).isSome = true
  · rw [if_pos h, if_pos h, List.map_map]
    refine List.map_congr_left fun kv _ => ?_
    show (if kv.1 = k then (kv.1, v) else kv).1 = kv.1
    split <;> rfl
  · rw [if_neg h, if_neg h, List.map_append]
    rfl
theorem ZAt.put {H : Hp} {D p : Addr} {g : Int → Option (Int × Int)} {m : Nat} {kvs : List (Key × V)} {v : Int} {z : Int × Int} (h : ZAt K H D g m) (hD : H D = some (.dK kvs)) (hp : SqT K H p [.int z.1, .int z.2]) :
    ZAt K (upd H D (.dK (putK kvs (.inl v) (.ref p)))) D (fun u => if u = v then some z else g u) (m + 1) := by
  obtain ⟨kvs', ks, h1, h2, h3, h4, h5, h6⟩ := h
  rw [hD] at h1
  cases h1
  have kt : Kt H (upd H D (.dK (putK kvs (.inl v) (.ref p)))) := Kt.upd hD (fun z => z)
  have hk := key_val h2 v
  refine ⟨_, if v ∈ ks then ks else ks ++ [v], upd_same, ?_, ?_, ?_, fun u => ?_, fun u x e => ?_⟩
  · rw [putK_keys, hk]
    by_cases hv : v ∈ ks
    · rw [decide_eq_true hv, if_pos rfl, if_pos hv, h2]
    · rw [decide_eq_false hv, if_neg Bool.false_ne_true, if_neg hv, h2, List.map_append]
      rfl
  · split
    · exact h3
    · rename_i hv
      exact List.nodup_append.mpr ⟨h3, by simp, fun x hx y hy => by rw [List.mem_singleton.mp hy]; exact fun z => hv (z ▸ hx)⟩
  · split
    · omega
    · rw [List.length_append]
      show _ + 1 ≤ _
      omega
  · show _ ↔ (if u = v then some z else g u).isSome = true
    by_cases hu : u = v
    · subst hu
      rw [if_pos rfl]
      split
      · rename_i hv
        exact ⟨fun _ => rfl, fun _ => hv⟩
      · simp
    · rw [if_neg hu, ← h5 u]
      split
      · rfl
      · simp [hu]
  · rw [valV_put] at e
    show ∃ z' p', (if u = v then some z else g u) = some z' ∧ _
    split at e
    · rename_i hu
      cases hu
      cases e
      exact ⟨z, p, by rw [if_pos rfl], rfl, sqT_kt kt hp⟩
    · rename_i hu
      obtain ⟨z', p', e1, e2, e3⟩ := h6 u x e
      exact ⟨z', p', by rw [if_neg (fun w => hu (by rw [w]))]; exact e1, e2, sqT_kt kt e3⟩
theorem ZAt.get {H : Hp} {D : Addr} {g : Int → Option (Int × Int)} {m : Nat} (h : ZAt K H D g m) {v : Int} {z : Int × Int} (e : g v = some z) : ∃ kvs p, H D = some (.dK kvs) ∧ valV kvs (.inl v) = some (.ref p) ∧ SqT K H p [.int z.1, .int z.2] := by
  obtain ⟨kvs, ks, h1, h2, h3, h4, h5, h6⟩ := h
  have hs : (valV kvs (.inl v)).isSome = true := by
    rw [key_val h2 v]
    exact decide_eq_true ((h5 v).mpr (by rw [e]; rfl))
  obtain ⟨x, hx⟩ := Option.isSome_iff_exists.mp hs
  obtain ⟨z', p, e1, e2, e3⟩ := h6 v x hx
  rw [e] at e1
  cases e1
  subst e2
  exact ⟨kvs, p, h1, hx, e3⟩
abbrev s_zones_of : Stmt := topS 4
theorem sc_zones_of : FnScope ["history", "zones", "task", "kind", "value", "begin", "end", "first", "last"] ["history"] (defScope s_zones_of) := ⟨rfl, rfl, rfl, by decide +kernel, rfl, by decide +kernel, by decide +kernel⟩
def spzones_of (K : PySem.W.Frag) : Sp := fun vs H Q _ => ∃ (v : V) (h : List HRow), vs = [v] ∧ Dp K H v (.list (h.map hD)) ∧ h.length ≤ 61 ∧ ∀ p H', Same H H' → H p = none → ZAt K H' p (zoneO h) 62 → Q (.ref p) H'
theorem ok_zones_of {f : Addr} {fd : FuncData} (F : Fun K "zones_of" "zones_of" s_zones_of f fd) (gm : mg "zones_of" = some (.ref f)) (N : Fre K mg)  : C8.Cal P w K mg base 1 "zones_of" (spzones_of K) [] := by
  refine mkCal F gm sc_zones_of (F.binds (ps := ["history"]) fun _ _ _ _ _ _ us hl => match us, hl with | [_], _ => rfl) (fun vs H Q E h => ?_) (fun cdv A outer s H vs Q E hr h => ?_)
  · obtain ⟨v, h, rfl, _⟩ := h
    rfl
  · obtain ⟨v, h, rfl, hv, hlen, q⟩ := h
    refine ⟨_, (pss_cons (ps_set (i := 1) sc_zones_of.nd rfl (.inl rfl) (pe_disp (pps_cons pe_int (pe_tup (pa_cons (pe_un un_neg pe_int) (pa_cons (pe_un un_neg pe_int) pa_nil))) pps_nil) rfl rfl (by simp) (by decide)))
 (pss_cons (ps_for PassesOwn.never rfl (pi_list (pv 0)) (pg_tup rfl (pgs_cons (pg_name (i := 2) sc_zones_of.nd rfl (.inl rfl)) (pgs_cons (pg_name (i := 3) sc_zones_of.nd rfl (.inl rfl)) (pgs_cons (pg_name (i := 4) sc_zones_of.nd rfl (.inl rfl)) (pgs_cons (pg_name (i := 5) sc_zones_of.nd rfl (.inl rfl)) (pgs_cons (pg_name (i := 6) sc_zones_of.nd rfl (.inl rfl)) pgs_nil))))))
 (pss_cons (ps_asg (pe_dget2 (hu_of hr) (pv 1) (pv 4) (pe_tup (pa_cons (pv 6) (pa_cons (pv 5) pa_nil))) ⟨rfl, rfl, rfl, rfl⟩) (pg_tup rfl (pgs_cons (pg_name (i := 7) sc_zones_of.nd rfl (.inl rfl)) (pgs_cons (pg_name (i := 8) sc_zones_of.nd rfl (.inl rfl)) pgs_nil))))
 (pss_one (ps_dput (hu_of hr) (pv 1) (pv 4) (pe_tup (pa_cons (pe_callB (call_min2 rfl) (by rfl) N.min (by decide +kernel) (pa_cons (pv 7) (pa_cons (pv 6) pa_nil))) (pa_cons (pe_callB (call_max2 rfl) (by rfl) N.max (by decide +kernel) (pa_cons (pv 8) (pa_cons (pv 5) pa_nil))) pa_nil))) rfl))))
 (pss_one (ps_ret (pv 1))))), ?_⟩
    obtain ⟨a, xs, rfl, hs, ha⟩ := dp_list hv
    have hl := dpAll_len ha
    rw [List.length_map] at hl
    refine fun Z nZ => ⟨1, rfl, 1, rfl, two_ok _ _, fun t nt => ⟨same_upd nt _ _ upd_same, [(.inl 0, .ref t)], rfl, (by show 1 ≤ 15; decide), ?_⟩⟩
    have hZt : upd (upd H Z (.dK [])) t (.tup [V.int (-1), V.int (-1)]) Z = some (.dK []) := same_upd nt _ _ upd_same
    have s1 : Same H (upd (upd (upd H Z (.dK [])) t (.tup [V.int (-1), V.int (-1)])) Z (.dK (mergeK [] [(.inl 0, .ref t)]))) := fun c o e => by
      rw [upd_ne (ne_of_none e nZ)]
      exact same_upd nt _ _ (same_upd nZ _ _ e)
    have z1 : ZAt K (upd (upd (upd H Z (.dK [])) t (.tup [V.int (-1), V.int (-1)])) Z (.dK (mergeK [] [(.inl 0, .ref t)]))) Z (zoneO (h.take 0)) 1 := by
      refine ⟨_, [0], upd_same, rfl, by simp, Nat.le_refl _, fun v => ?_, fun v x e => ?_⟩
      · show v ∈ [0] ↔ (z0 v).isSome = true
        unfold z0
        by_cases hv : v = 0 <;> simp [hv]
      · have e' : valV (putK [] (Sum.inl (0 : Int)) (V.ref t)) (Sum.inl v) = some x := e
        rw [valV_put] at e'
        split at e'
        · rename_i hv
          cases hv
          cases e'
          refine ⟨(-1, -1), t, rfl, rfl, SqT.of ?_⟩
          rw [upd_ne (ne_of_none (upd_same (H := H) (a := Z) (o := .dK [])) nt).symm]
          exact upd_same
        · cases e'
    revert s1 z1
    generalize upd (upd (upd H Z (.dK [])) t (.tup [V.int (-1), V.int (-1)])) Z (.dK (mergeK [] [(.inl 0, .ref t)])) = H1
    intro s1 z1
    refine ⟨_, rfl, a, rfl, ⟨_, s1.seq hs⟩, for_list (xs := xs) (fun i σ H2 => (∃ y2 y3 y4 y5 y6 y7 y8, σ = [some (.ref a), some (.ref Z), y2, y3, y4, y5, y6, y7, y8]) ∧ Same H H2 ∧ ZAt K H2 Z (zoneO (h.take i)) (i + 1)) ⟨⟨_, _, _, _, _, _, _, rfl⟩, s1, z1⟩ (fun i σ H2 _ z => z.2.1.seq hs) ?_ ?_⟩
    · rintro i x σ H2 hx ⟨⟨y2, y3, y4, y5, y6, y7, y8, rfl⟩, s2, z2⟩
      obtain ⟨d, ed, pd⟩ := dpAll_get ha hx
      rw [List.getElem?_map] at ed
      obtain ⟨r, er, rfl⟩ := Option.map_eq_some_iff.mp ed
      obtain ⟨b, rfl, hb⟩ := dp_h (dp_same s2 _ _ pd)
      refine ⟨b, _, rfl, hb, rfl, _, _, rfl, _, _, rfl, _, _, rfl, _, _, rfl, _, _, rfl, rfl, ?_⟩
      obtain ⟨kvs, ks, k1, k2, k3, k4, k5, k6⟩ := id z2
      have hi : i < h.length := (List.getElem?_eq_some_iff.mp er).1
      refine ⟨_, rfl, Z, rfl, .inl ⟨kvs, .inl k1⟩, _, rfl, _, rfl, _, rfl, two_ok _ _, fun u nu => ?_⟩
      have su := same_upd (o := .tup [V.int r.e, V.int r.b]) nu
      have hu := upd_same (H := H2) (a := u) (o := .tup [V.int r.e, V.int r.b])
      refine ⟨_, DGet.k (k := .inl r.v) (su _ _ k1), ?_⟩
      obtain ⟨f, l, p, ep, hp, ez⟩ : ∃ (f l : Int) (p : Addr), (valV kvs (.inl r.v)).getD (.ref u) = .ref p ∧ SqT K (upd H2 u (.tup [V.int r.e, V.int r.b])) p [.int f, .int l] ∧ zStep (zoneO (h.take i) r.v) r = some (if r.e < f then r.e else f, if r.b > l then r.b else l) := by
        cases hval : valV kvs (.inl r.v) with
        | none =>
          refine ⟨r.e, r.b, u, rfl, SqT.of hu, ?_⟩
          have hno : zoneO (h.take i) r.v = none := by
            have := key_val k2 r.v
            rw [hval] at this
            cases hz : zoneO (h.take i) r.v with
            | none => rfl
            | some z =>
              have h2 := (k5 r.v).mpr (by rw [hz]; rfl)
              rw [decide_eq_true h2] at this
              cases this
          rw [hno]
          show some (r.e, r.b) = _
          simp
        | some x =>
          obtain ⟨z, p, e1, e2, e3⟩ := k6 r.v x hval
          subst e2
          refine ⟨z.1, z.2, p, rfl, sqT_same su e3, ?_⟩
          rw [e1]
          rfl
      rw [ep]
      refine ⟨p, _, rfl, hp, rfl, _, _, rfl, _, _, rfl, rfl, ?_⟩
      refine ⟨_, rfl, _, rfl, f, r.e, rfl, _, rfl, _, rfl, l, r.b, rfl, two_ok _ _, fun w nw => ?_⟩
      have sw := same_upd (o := .tup [V.int (if r.e < f then r.e else f), V.int (if r.b > l then r.b else l)]) nw
      have z3 := (z2.same su).same sw
      have hZ3 := sw _ _ (su _ _ k1)
      refine ⟨_, rfl, _, rfl, Z, _, rfl, DPut.k (k := .inl r.v) hZ3 ?_, ⟨_, _, _, _, _, _, _, rfl⟩, ?_, ?_⟩
      · have : kvs.length = ks.length := by
          have := congrArg List.length k2
          simpa using this
        rw [sizeLine_eq]
        omega
      · intro c o e
        rw [upd_ne (ne_of_none e nZ)]
        exact sw _ _ (su _ _ (s2 _ _ e))
      · have := z3.put (v := r.v) (z := (if r.e < f then r.e else f, if r.b > l then r.b else l)) hZ3 (SqT.of (upd_same (o := .tup [V.int (if r.e < f then r.e else f), V.int (if r.b > l then r.b else l)])))
        have eg : zoneO (h.take (i + 1)) = fun u => if u = r.v then some (if r.e < f then r.e else f, if r.b > l then r.b else l) else zoneO (h.take i) u := by
          funext u
          rw [zone_take er]
          by_cases hu : r.v = u
          · subst hu
            rw [if_pos rfl, if_pos rfl, ez]
          · rw [if_neg hu, if_neg (fun z => hu z.symm)]
        rw [eg]
        exact this
    · rintro σ H2 ⟨⟨y2, y3, y4, y5, y6, y7, y8, rfl⟩, s2, z2⟩
      rw [hl, List.take_of_length_le (Nat.le_refl _)] at z2
      refine ⟨_, rfl, q Z H2 s2 nZ ?_⟩
      obtain ⟨kvs, ks, k1, k2, k3, k4, k5, k6⟩ := z2
      exact ⟨kvs, ks, k1, k2, k3, by omega, k5, k6⟩
/-! ### is_open_zone, clash -/
abbrev s_is_open_zone : Stmt := topS 5
theorem sc_is_open_zone : FnScope ["zone", "first", "last"] ["zone"] (defScope s_is_open_zone) := ⟨rfl, rfl, rfl, by decide +kernel, rfl, by decide +kernel, by decide +kernel⟩
def spis_open_zone (K : PySem.W.Frag) : Sp := fun vs H Q _ => ∃ (p : Addr) (z : Int × Int), vs = [.ref p] ∧ SqT K H p [.int z.1, .int z.2] ∧ Q (.bl (opn z)) H
theorem ok_is_open_zone {f : Addr} {fd : FuncData} (F : Fun K "is_open_zone" "is_open_zone" s_is_open_zone f fd) (gm : mg "is_open_zone" = some (.ref f)) (N : Fre K mg)  : C8.Cal P w K mg base 1 "is_open_zone" (spis_open_zone K) [] := by
  refine mkCal F gm sc_is_open_zone (F.binds (ps := ["zone"]) fun _ _ _ _ _ _ us hl => match us, hl with | [_], _ => rfl) (fun vs H Q E h => ?_) (fun cdv A outer s H vs Q E hr h => ?_)
  · obtain ⟨p, z, rfl, _⟩ := h
    rfl
  · obtain ⟨p, z, rfl, hp, q⟩ := h
    refine ⟨_, (pss_cons (ps_asg (pv 0) (pg_tup rfl (pgs_cons (pg_name (i := 1) sc_is_open_zone.nd rfl (.inl rfl)) (pgs_cons (pg_name (i := 2) sc_is_open_zone.nd rfl (.inl rfl)) pgs_nil))))
 (pss_one (ps_ret (pe_cmpR op_lt (pv 1) (pv 2) (nomark _))))), ?_⟩
    exact ⟨_, rfl, p, _, rfl, hp, rfl, _, _, rfl, _, _, rfl, rfl, _, rfl, _, rfl, _, _, rfl, rfl, q⟩
abbrev s_clash : Stmt := topS 6
theorem sc_clash : FnScope ["one", "other"] ["one", "other"] (defScope s_clash) := ⟨rfl, rfl, rfl, by decide +kernel, rfl, by decide +kernel, by decide +kernel⟩
def spclash (K : PySem.W.Frag) : Sp := fun vs H Q _ => ∃ (p u : Addr) (z w : Int × Int), vs = [.ref p, .ref u] ∧ SqT K H p [.int z.1, .int z.2] ∧ SqT K H u [.int w.1, .int w.2] ∧ Q (.bl (clsh z w)) H
theorem ok_clash {f : Addr} {fd : FuncData} (F : Fun K "clash" "clash" s_clash f fd) (gm : mg "clash" = some (.ref f)) (N : Fre K mg)  : C8.Cal P w K mg base 1 "clash" (spclash K) [] := by
  refine mkCal F gm sc_clash (F.binds (ps := ["one", "other"]) fun _ _ _ _ _ _ us hl => match us, hl with | [_, _], _ => rfl) (fun vs H Q E h => ?_) (fun cdv A outer s H vs Q E hr h => ?_)
  · obtain ⟨p, u, z, w, rfl, _⟩ := h
    rfl
  · obtain ⟨p, u, z, w, rfl, hp, hu, q⟩ := h
    refine ⟨_, (pss_one (ps_ret (pe_and (pe_cmpR op_lt (pe_ix ix_tup (pv 0) pe_int (fun _ _ => rfl)) (pe_ix ix_tup (pv 1) pe_int (fun _ _ => rfl)) (nomark _)) (pe_one (pe_cmpR op_lt (pe_ix ix_tup (pv 1) pe_int (fun _ _ => rfl)) (pe_ix ix_tup (pv 0) pe_int (fun _ _ => rfl)) (nomark _)))))), ?_⟩
    refine ⟨_, rfl, p, _, 0, _, rfl, rfl, hp, atI_nat (j := 0) rfl, _, rfl, u, _, 1, _, rfl, rfl, hu, atI_nat (j := 1) rfl, _, _, rfl, rfl, _, rfl, ?_⟩
    by_cases h1 : z.1 < w.2
    · refine iteD' h1 ⟨_, rfl, u, _, 0, _, rfl, rfl, hu, atI_nat (j := 0) rfl, _, rfl, p, _, 1, _, rfl, rfl, hp, atI_nat (j := 1) rfl, _, _, rfl, rfl, ?_⟩
      have e : clsh z w = decide (w.1 < z.2) := by
        unfold clsh
        rw [decide_eq_true h1]
        rfl
      rw [e] at q
      exact q
    · refine iteD h1 ?_
      have e : clsh z w = false := by
        unfold clsh
        rw [decide_eq_false h1]
        rfl
      rw [e] at q
      exact q

/-! ### the reasons -/
def pairHD (p : HRow × HRow) : PyData := .tuple [hD p.1, hD p.2]
theorem pairHD_imm (p : HRow × HRow) : imm (pairHD p) = true := rfl
theorem dp_pairH {H : Hp} {v : V} {p : HRow × HRow} (h : Dp K H v (pairHD p)) : ∃ a b c, v = .ref a ∧ SqT K H a [.ref b, .ref c] ∧ SqT K H b (hV p.1) ∧ SqT K H c (hV p.2) := by
  cases h with
  | tup hs ha =>
    cases ha with
    | cons h1 ha =>
      cases ha with
      | cons h2 ha =>
        cases ha
        obtain ⟨b, rfl, hb⟩ := dp_h h1
        obtain ⟨c, rfl, hc⟩ := dp_h h2
        exact ⟨_, b, c, rfl, hs, hb, hc⟩
abbrev s_early_reasons : Stmt := topS 7
theorem sc_early_reasons : FnScope ["history", "writes", "reads", "pairs", "row", "read", "write"] ["history"] (defScope s_early_reasons) := ⟨rfl, rfl, rfl, by decide +kernel, rfl, by decide +kernel, by decide +kernel⟩
def spearly_reasons (K : PySem.W.Frag) : Sp := fun vs H Q _ => ∃ (v : V) (h : List HRow), vs = [v] ∧ Dp K H v (.list (h.map hD)) ∧ h.length ≤ 61 ∧ OneW h ∧ ∀ (p : Addr) (H' : Hp) (ys : List V) (B : List Reason), Same H H' → H p = none → H' p = some (.lst ys) → DpAll K H' ys (B.map reaD) → (∀ x : Reason, x ∈ B ↔ x.1 = ("early" : Str) ∧ EarlyP h x.2.1 x.2.2) → B.length ≤ 61 → Q (.ref p) H'
theorem ok_early_reasons {f : Addr} {fd : FuncData} (F : Fun K "early_reasons" "early_reasons" s_early_reasons f fd) (gm : mg "early_reasons" = some (.ref f)) (N : Fre K mg)  : C8.Cal P w K mg base 1 "early_reasons" (spearly_reasons K) [] := by
  refine mkCal F gm sc_early_reasons (F.binds (ps := ["history"]) fun _ _ _ _ _ _ us hl => match us, hl with | [_], _ => rfl) (fun vs H Q E h => ?_) (fun cdv A outer s H vs Q E hr h => ?_)
  · obtain ⟨v, h, rfl, _⟩ := h
    rfl
  · obtain ⟨v, h, rfl, hv, hlen, one, q⟩ := h
    refine ⟨_, (pss_cons (ps_set (i := 1) sc_early_reasons.nd rfl (.inr rfl) (pe_dc (own := [("row", 4)]) (g := gName 4) rfl sc_early_reasons.nd (pi_list (pv 0)) (blkOk_by (N := ["history", "writes", "reads", "pairs", "row", "read", "write"]) (sc := defScope s_early_reasons) (by decide +kernel)) (fun _ _ _ _ _ => pg_name (i := 4) sc_early_reasons.nd rfl (Or.inl rfl)) (fun _ _ _ _ _ => pts_one (pt_cmpR op_eq (pe_ix (show IxR _ (rIxT K) from ix_tup) (pv 4) pe_int (fun _ _ => rfl)) pe_str (nomark _))) (fun _ _ _ _ _ => (pe_ix (show IxR _ (rIxT K) from ix_tup) (pv 4) pe_int (fun _ _ => rfl))) (fun _ _ _ _ _ => (pv 4))))
 (pss_cons (ps_setLc (i := 2) (own := [("row", 4)]) (g := gName 4) rfl sc_early_reasons.nd rfl rfl (sw_true rfl rfl rfl (by decide +kernel)) (pi_list (pv 0)) (blkOk_by (N := ["history", "writes", "reads", "pairs", "row", "read", "write"]) (sc := defScope s_early_reasons) (by decide +kernel)) (fun _ _ _ _ _ => pg_name (i := 4) sc_early_reasons.nd rfl (Or.inl rfl)) (fun _ _ _ _ _ => pts_one (PW.pt (pw_and (pt_cmpR op_eq (pe_ix (show IxR _ (rIxT K) from ix_tup) (pv 4) pe_int (fun _ _ => rfl)) pe_str (nomark _)) (pw_and1 (pt_cmp (pc_din (hu_of hr) (pe_ix (show IxR _ (rIxT K) from ix_tup) (pv 4) pe_int (fun _ _ => rfl)) (pv 1)) (by with_unfolding_all rfl)))))) (fun _ _ _ _ _ => (pv 4)))
 (pss_cons (ps_setLc (i := 3) (own := [("read", 5)]) (g := gName 5) (tt := tYes) rfl sc_early_reasons.nd rfl rfl (sw_true rfl rfl rfl (by decide +kernel)) (pi_list (pv 2)) (blkOk_by (N := ["history", "writes", "reads", "pairs", "row", "read", "write"]) (sc := defScope s_early_reasons) (by decide +kernel)) (fun _ _ _ _ _ => pg_name (i := 5) sc_early_reasons.nd rfl (Or.inl rfl)) (fun _ _ _ _ _ => pts_nil) (fun _ _ _ _ _ => (pe_tup (pa_cons (pv 5) (pa_cons (pe_dget (hu_of hr) (pv 1) (pe_ix (show IxR _ (rIxT K) from ix_tup) (pv 5) pe_int (fun _ _ => rfl)) (fun _ _ => rfl)) pa_nil)))))
 (pss_one (ps_ret (pe_lc (own := [("read", 5), ("write", 6)]) (g := gTup K 2 (gCons (gName 5) (gCons (gName 6) gNil))) rfl sc_early_reasons.nd (pi_list (pv 3)) (blkOk_by (N := ["history", "writes", "reads", "pairs", "row", "read", "write"]) (sc := defScope s_early_reasons) (by decide +kernel)) (fun _ _ _ _ _ => pg_tup rfl (pgs_cons (pg_name (i := 5) sc_early_reasons.nd rfl (Or.inl rfl)) (pgs_cons (pg_name (i := 6) sc_early_reasons.nd rfl (Or.inl rfl)) pgs_nil))) (fun _ _ _ _ _ => pts_one (pt_cmpR op_lt (pe_ix (show IxR _ (rIxT K) from ix_tup) (pv 5) pe_int (fun _ _ => rfl)) (pe_ix (show IxR _ (rIxT K) from ix_tup) (pv 6) pe_int (fun _ _ => rfl)) (nomark _))) (fun _ _ _ _ _ => (pe_tup (pa_cons pe_str (pa_cons (pe_ix (show IxR _ (rIxT K) from ix_tup) (pv 5) pe_int (fun _ _ => rfl)) (pa_cons (pe_ix (show IxR _ (rIxT K) from ix_tup) (pv 6) pe_int (fun _ _ => rfl)) pa_nil))))))))))), ?_⟩
    obtain ⟨a, xs, rfl, hs, ha⟩ := dp_list hv
    have hl := dpAll_len ha
    rw [List.length_map] at hl
    -- writes
    refine ⟨_, rfl, a, rfl, ⟨_, hs⟩, fun W nW => dc_it (walk_list (xs := xs)) (fun i H1 => Same H H1 ∧ ∃ kvs, H1 W = some (.dK kvs) ∧ kvs.length ≤ i ∧ (∀ v, valV kvs (.inl v) = none → ∀ w ∈ h.take i, w.wr = true → w.v ≠ v) ∧ ∀ v x, valV kvs (.inl v) = some x → ∃ w ∈ h.take i, w.wr = true ∧ w.v = v ∧ Dp K H1 x (hD w)) ⟨same_upd nW, [], upd_same, Nat.le_refl _, (fun v _ w hw => by cases hw), (fun v x e => by cases e)⟩ (fun i H1 _ z => z.1.seq hs) ?_ ?_⟩
    · rintro i v H1 H2 hi ⟨s1, kvs, hW, hk, hno, hyes⟩ ⟨rfl, hx⟩
      obtain ⟨d, ed, pd⟩ := dpAll_get ha hx
      rw [List.getElem?_map] at ed
      obtain ⟨r, er, rfl⟩ := Option.map_eq_some_iff.mp ed
      have pr := dp_same s1 _ _ pd
      obtain ⟨b, rfl, hb⟩ := dp_h pr
      have hmem : ∀ {w : HRow}, w ∈ h.take (i + 1) ↔ w ∈ h.take i ∨ w = r := fun {w} => by
        rw [List.take_add_one, er, List.mem_append]
        simp
      refine ⟨rfl, ⟨_, rfl, b, _, 1, _, rfl, rfl, hb, atI_nat (j := 1) rfl, rfl, _, rfl, ?_⟩⟩
      rw [kind_write]
      cases hwr : r.wr with
      | false =>
        refine iteF ⟨s1, kvs, hW, by omega, fun v e w hw wr => ?_, fun v x e => ?_⟩
        · rcases hmem.mp hw with z | rfl
          · exact hno v e w z wr
          · rw [hwr] at wr
            cases wr
        · obtain ⟨w, m, r⟩ := hyes v x e
          exact ⟨w, hmem.mpr (.inl m), r⟩
      | true =>
        refine iteT ⟨_, rfl, b, _, 2, _, rfl, rfl, hb, atI_nat (j := 2) rfl, _, rfl, kvs, .inl r.v, rfl, hW, by rw [sizeLine_eq]; omega, ?_, _, upd_same, ?_, fun v e w hw wr => ?_, fun v x e => ?_⟩
        · intro c o e
          rw [upd_ne (ne_of_none e nW)]
          exact s1 _ _ e
        · have := length_putK kvs (.inl r.v) (.ref b)
          omega
        · rw [valV_put] at e
          split at e
          · cases e
          · rename_i hv
            rcases hmem.mp hw with z | rfl
            · exact hno v e w z wr
            · exact fun z => hv (by rw [z])
        · have ku := Kt.upd (o' := .dK (putK kvs (.inl r.v) (.ref b))) hW (fun z => z)
          rw [valV_put] at e
          split at e
          · rename_i hv
            cases hv
            cases e
            exact ⟨r, hmem.mpr (.inr rfl), hwr, rfl, dp_kt ku _ _ (hD_imm r) pr⟩
          · obtain ⟨w, m, w1, w2, w3⟩ := hyes v x e
            exact ⟨w, hmem.mpr (.inl m), w1, w2, dp_kt ku _ _ (hD_imm w) w3⟩
    rintro H1 ⟨s1, kvs, hW, hk, hno, hyes⟩
    rw [hl, List.take_of_length_le (Nat.le_refl _)] at hno hyes
    have hval : ∀ v : Int, (valV kvs (.inl v)).isSome = (wOf h v).isSome := fun v => by
      cases e : valV kvs (.inl v) with
      | none =>
        cases e2 : wOf h v with
        | none => rfl
        | some w =>
          obtain ⟨m, w1, w2⟩ := wOf_some e2
          exact absurd w2 (hno v e w m w1)
      | some x =>
        obtain ⟨w, m, w1, w2, _⟩ := hyes v x e
        subst w2
        rw [wOf_is one m w1]
        rfl
    have hget : ∀ {v : Int} {w : HRow}, wOf h v = some w → ∃ x, valV kvs (.inl v) = some x ∧ Dp K H1 x (hD w) := fun {v w} e => by
      have h2 := hval v
      rw [e] at h2
      obtain ⟨x, hx⟩ := Option.isSome_iff_exists.mp h2
      obtain ⟨w', m, w1, w2, w3⟩ := hyes v x hx
      subst w2
      rw [wOf_is one m w1] at e
      cases e
      exact ⟨x, hx, w3⟩
    -- reads
    have ha1 := dp_sameAll s1 _ _ ha
    refine ⟨_, rfl, a, rfl, ⟨_, s1.seq hs⟩, fun D2 nD2 => lc_ty hD hD (fun r => if !r.wr && (wOf h r.v).isSome then some r else none) (s1.seq hs) ha1 nD2 (by omega) hD_imm ?_ ?_⟩
    · intro i v r H2 k kf er s2 pr hy hn
      obtain ⟨b, rfl, hb⟩ := dp_h pr
      refine ⟨rfl, ⟨_, rfl, b, _, 1, _, rfl, rfl, hb, atI_nat (j := 1) rfl, rfl, _, rfl, ?_⟩⟩
      rw [kind_read]
      cases hwr : r.wr with
      | true => exact iteF (iteF (hn (by rw [hwr]; rfl) _ (Same.refl _)))
      | false =>
        refine iteT ⟨_, rfl, b, _, 2, _, rfl, rfl, hb, atI_nat (j := 2) rfl, _, rfl, W, _, rfl, DGet.k (k := .inl r.v) (s2 _ _ hW), _, rfl, ?_⟩
        rw [hval]
        cases hw : (wOf h r.v).isSome with
        | true => exact iteT ⟨_, rfl, hy r (by rw [hwr, hw]; rfl) _ _ (Same.refl _) pr⟩
        | false => exact iteF (hn (by rw [hwr, hw]; rfl) _ (Same.refl _))
    intro H2 ys s2 hD2 hy
    have ey : h.filterMap (fun r => if !r.wr && (wOf h r.v).isSome then some r else none) = h.filter fun r => !r.wr && (wOf h r.v).isSome := by
      rw [← List.filterMap_eq_filter]
      rfl
    rw [ey] at hy
    have hfl : (h.filter fun r => !r.wr && (wOf h r.v).isSome).length ≤ 61 := Nat.le_trans (List.length_filter_le _ _) hlen
    -- pairs
    refine ⟨_, rfl, D2, rfl, ⟨_, SqL.of hD2⟩, fun D3 nD3 => lc_map hD pairHD (fun r => (r, (wOf h r.v).getD r)) (SqL.of hD2) hy nD3 (by omega) pairHD_imm ?_ ?_⟩
    · intro i v r H3 k er s3 pr hk3
      obtain ⟨b, rfl, hb⟩ := dp_h pr
      have hr' := (List.mem_filter.mp (List.mem_of_getElem? er)).2
      have hr2 : r.wr = false ∧ (wOf h r.v).isSome = true := by simpa using hr'
      obtain ⟨w, hw⟩ := Option.isSome_iff_exists.mp hr2.2
      obtain ⟨x, hx, px⟩ := hget hw
      have px3 := dp_same (s2.trans s3) _ _ px
      obtain ⟨c, rfl, hc⟩ := dp_h px3
      refine ⟨rfl, ⟨_, rfl, _, rfl, _, rfl, b, _, 2, _, rfl, rfl, hb, atI_nat (j := 2) rfl, W, _, rfl, dget_of (k := .inl r.v) ((s2.trans s3) _ _ hW) hx, two_ok _ _, fun t nt => hk3 _ _ (same_upd nt) ?_⟩⟩
      refine .tup (SqT.of upd_same) (.cons (dp_same (same_upd nt) _ _ pr) (.cons (dp_same (same_upd nt) _ _ ?_) .nil))
      show Dp K H3 (.ref c) (hD ((wOf h r.v).getD r))
      rw [hw]
      exact px3
    intro H3 zs s3 hD3 hz
    have hml : ((h.filter fun r => !r.wr && (wOf h r.v).isSome).map fun r => (r, (wOf h r.v).getD r)).length ≤ 61 := by rw [List.length_map]; exact hfl
    -- the reasons
    refine ⟨_, rfl, D3, rfl, ⟨_, SqL.of hD3⟩, fun D4 nD4 => lc_ty pairHD reaD (fun p => if p.1.e < p.2.b then some (("early" : Str), p.1.t, p.2.t) else none) (SqL.of hD3) hz nD4 (by omega) reaD_imm ?_ ?_⟩
    · intro i v p H4 k kf er s4 pr hy4 hn4
      obtain ⟨b, c, d, rfl, hb, hc, hd⟩ := dp_pairH pr
      refine ⟨b, _, rfl, hb, rfl, _, _, rfl, _, _, rfl, rfl, rfl, ?_⟩
      refine ⟨_, rfl, c, _, 4, _, rfl, rfl, hc, atI_nat (j := 4) rfl, _, rfl, d, _, 3, _, rfl, rfl, hd, atI_nat (j := 3) rfl, _, _, rfl, rfl, _, rfl, ?_⟩
      by_cases hlt : p.1.e < p.2.b
      · refine iteD' hlt ⟨_, rfl, c, _, 0, _, rfl, rfl, hc, atI_nat (j := 0) rfl, _, rfl, d, _, 0, _, rfl, rfl, hd, atI_nat (j := 0) rfl, three_ok _ _ _, fun t nt => ?_⟩
        exact hy4 _ (if_pos hlt) _ _ (same_upd nt) (rea_dp (SqT.of upd_same))
      · exact iteD hlt (hn4 (if_neg hlt) _ (Same.refl _))
    · intro H4 us s4 hD4 hu
      refine q D4 H4 us _ (s1.trans (s2.trans (s3.trans s4))) ((s1.trans (s2.trans s3)).free nD4) hD4 hu (fun x => ?_) (Nat.le_trans (List.length_filterMap_le _ _) hml)
      constructor
      · intro hx
        obtain ⟨p, hp, e⟩ := List.mem_filterMap.mp hx
        obtain ⟨r, hr, rfl⟩ := List.mem_map.mp hp
        obtain ⟨hr1, hr2⟩ := List.mem_filter.mp hr
        have hr3 : r.wr = false ∧ (wOf h r.v).isSome = true := by simpa using hr2
        obtain ⟨w, hw⟩ := Option.isSome_iff_exists.mp hr3.2
        obtain ⟨m, w1, w2⟩ := wOf_some hw
        rw [hw] at e
        dsimp only [Option.getD] at e
        split at e
        · rename_i hlt
          cases e
          exact ⟨rfl, r, hr1, w, m, hr3.1, w1, w2.symm, rfl, rfl, hlt⟩
        · cases e
      · rintro ⟨e1, r, hr, w, hw, r1, w1, evw, et, ew, hlt⟩
        refine List.mem_filterMap.mpr ⟨(r, w), List.mem_map.mpr ⟨r, List.mem_filter.mpr ⟨hr, ?_⟩, ?_⟩, ?_⟩
        · rw [evw, wOf_is one hw w1, r1]
          rfl
        · rw [evw, wOf_is one hw w1]
          rfl
        · show (if r.e < w.b then some (("early" : Str), r.t, w.t) else none) = some x
          rw [if_pos hlt, et, ew, ← e1]
abbrev s_both_reasons : Stmt := topS 8
theorem sc_both_reasons : FnScope ["zones", "wide", "pairs", "value", "one", "other"] ["zones"] (defScope s_both_reasons) := ⟨rfl, rfl, rfl, by decide +kernel, rfl, by decide +kernel, by decide +kernel⟩
def spboth_reasons (K : PySem.W.Frag) : Sp := fun vs H Q _ => ∃ (Z : Addr) (h : List HRow), vs = [.ref Z] ∧ ZAt K H Z (zoneO h) 62 ∧ ∀ (p : Addr) (H' : Hp) (ys : List V) (B : List Reason), Same H H' → H p = none → H' p = some (.lst ys) → DpAll K H' ys (B.map reaD) → (∀ x : Reason, x ∈ B ↔ x.1 = ("both" : Str) ∧ BothP h x.2.1 x.2.2) → B.length ≤ 10000 → Q (.ref p) H'
theorem isVal_iff {h : List HRow} {v : Int} : isVal h v ↔ (zoneO h v).isSome = true := by
  rw [Option.isSome_iff_exists]
  exact zone_some.symm
theorem flat_len {α : Type} (xs : List Int) (f : Int → List α) (n : Nat) (h : ∀ x, (f x).length ≤ n) : (xs.flatMap f).length ≤ xs.length * n := by
  induction xs with
  | nil => simp
  | cons x xs ih =>
    rw [List.flatMap_cons, List.length_append, List.length_cons, Nat.add_mul]
    have := h x
    omega
theorem ok_both_reasons {f : Addr} {fd : FuncData} (F : Fun K "both_reasons" "both_reasons" s_both_reasons f fd) (gm : mg "both_reasons" = some (.ref f)) (N : Fre K mg) (c_clash : C8.Cal P w K mg base 1 "clash" (spclash K) []) (c_is_open_zone : C8.Cal P w K mg base 1 "is_open_zone" (spis_open_zone K) []) : C8.Cal P w K mg base 2 "both_reasons" (spboth_reasons K) [] := by
  refine mkCal F gm sc_both_reasons (F.binds (ps := ["zones"]) fun _ _ _ _ _ _ us hl => match us, hl with | [_], _ => rfl) (fun vs H Q E h => ?_) (fun cdv A outer s H vs Q E hr h => ?_)
  · obtain ⟨Z, h, rfl, _⟩ := h
    rfl
  · obtain ⟨Z, h, rfl, hZ, q⟩ := h
    refine ⟨_, (pss_cons (ps_set (i := 1) sc_both_reasons.nd rfl (.inr rfl) (pe_lc (own := [("value", 3)]) (g := gName 3) rfl sc_both_reasons.nd (pi_list (pe_callB (call_sortedDI rfl) (by rfl) N.sorted (by decide +kernel) (pa_cons (pv 0) pa_nil))) (blkOk_by (N := ["zones", "wide", "pairs", "value", "one", "other"]) (sc := defScope s_both_reasons) (by decide +kernel)) (fun _ _ _ _ _ => pg_name (i := 3) sc_both_reasons.nd rfl (Or.inl rfl)) (fun _ _ _ _ _ => pts_one (pt_val (C8.pe_c c_is_open_zone hr (by decide) rfl (pa_cons (pe_dget (hu_of hr) (pv 0) (pv 3) (fun _ _ => rfl)) pa_nil)))) (fun _ _ _ _ _ => (pv 3))))
 (pss_cons (ps_setLc2 (i := 2) (own := [("one", 4), ("other", 5)]) (g := gName 4) (tt := tYes) (wi1 := iList K (tVar 1)) (g1 := gName 5) (vs1 := [5]) rfl sc_both_reasons.nd rfl rfl (sw_true rfl rfl rfl (by decide +kernel)) (pi_list (pv 1)) (blkOk_by (N := ["zones", "wide", "pairs", "value", "one", "other"]) (sc := defScope s_both_reasons) (by decide +kernel)) (by decide) (fun _ _ _ _ _ => pg_name (i := 4) sc_both_reasons.nd rfl (Or.inl rfl)) (fun _ _ _ _ _ => pts_nil) (fun _ _ _ _ _ => (pi_list (pv 1))) (fun _ _ _ _ _ => pg_name (i := 5) sc_both_reasons.nd rfl (Or.inl rfl)) (fun _ _ _ _ _ => pts_one (pt_cmpR op_lt (pv 4) (pv 5) (nomark _))) (fun _ _ _ _ _ => (pe_tup (pa_cons (pv 4) (pa_cons (pv 5) pa_nil)))))
 (pss_one (ps_ret (pe_lc (own := [("one", 4), ("other", 5)]) (g := gTup K 2 (gCons (gName 4) (gCons (gName 5) gNil))) rfl sc_both_reasons.nd (pi_list (pv 2)) (blkOk_by (N := ["zones", "wide", "pairs", "value", "one", "other"]) (sc := defScope s_both_reasons) (by decide +kernel)) (fun _ _ _ _ _ => pg_tup rfl (pgs_cons (pg_name (i := 4) sc_both_reasons.nd rfl (Or.inl rfl)) (pgs_cons (pg_name (i := 5) sc_both_reasons.nd rfl (Or.inl rfl)) pgs_nil))) (fun _ _ _ _ _ => pts_one (pt_val (C8.pe_c c_clash hr (by decide) rfl (pa_cons (pe_dget (hu_of hr) (pv 0) (pv 4) (fun _ _ => rfl)) (pa_cons (pe_dget (hu_of hr) (pv 0) (pv 5) (fun _ _ => rfl)) pa_nil))))) (fun _ _ _ _ _ => (pe_tup (pa_cons pe_str (pa_cons (pv 4) (pa_cons (pv 5) pa_nil)))))))))), ?_⟩
    obtain ⟨kvs, ks, k1, k2, k3, k4, k5, k6⟩ := id hZ
    -- wide
    refine ⟨_, rfl, Z, kvs, ks, rfl, .inl k1, k2, by omega, fun ys p hp hso np => ⟨p, rfl, ⟨_, SqL.of upd_same⟩, fun D nD => ?_⟩⟩
    have sp := same_upd (o := .lst (ys.map V.int)) np
    have hyl : ys.length ≤ 62 := by rw [hp.length_eq]; exact k4
    have hym : ∀ v, v ∈ ys ↔ isVal h v := fun v => by rw [hp.mem_iff, k5 v, isVal_iff]
    refine lc_ty PyData.int PyData.int (fun v => if opnV h v = true then some v else none) (SqL.of upd_same) (ints_dp ys) nD (by omega) (fun _ => rfl) ?_ ?_
    · intro i v x H2 k kf er s2 pr hy hn
      cases pr
      have hv := (hym x).mp (List.mem_of_getElem? er)
      obtain ⟨z, hz⟩ := Option.isSome_iff_exists.mp (isVal_iff.mp hv)
      obtain ⟨kv', t, e1, e2, e3⟩ := ((hZ.same sp).same s2).get hz
      refine ⟨rfl, ⟨_, rfl, _, rfl, Z, _, rfl, dget_of (k := .inl x) e1 e2, t, z, rfl, e3, _, rfl, ?_⟩⟩
      have eo : opnV h x = opn z := by unfold opnV; rw [hz]
      rw [← eo]
      cases ho : opnV h x with
      | true => exact iteT ⟨_, rfl, hy x (if_pos ho) _ _ (Same.refl _) (.int _)⟩
      | false => exact iteF (hn (by rw [ho]; rfl) _ (Same.refl _))
    intro H2 us s2 hD hu
    have eu := dp_ints hu
    subst eu
    have hwm : ∀ v, v ∈ ys.filterMap (fun v => if opnV h v = true then some v else none) ↔ isVal h v ∧ opnV h v = true := fun v => by
      rw [List.mem_filterMap]
      constructor
      · rintro ⟨u, hu, e⟩
        split at e
        · rename_i ho
          cases e
          exact ⟨(hym _).mp hu, ho⟩
        · cases e
      · rintro ⟨h1, h2⟩
        exact ⟨v, (hym v).mpr h1, if_pos h2⟩
    have hwl : (ys.filterMap (fun v => if opnV h v = true then some v else none)).length ≤ 62 := Nat.le_trans (List.length_filterMap_le _ _) hyl
    revert hD hwm hwl
    generalize ys.filterMap (fun v => if opnV h v = true then some v else none) = ws
    intro hD hwm hwl
    clear hu
    -- pairs
    refine ⟨_, rfl, D, rfl, ⟨_, SqL.of hD⟩, fun D2 nD2 => lc2_ints (c := D) (ys := ws) (fun x y => if x < y then some (x, y) else none) (SqL.of hD) (SqL.of hD) nD2 (by omega) (by omega) ?_ ?_⟩
    · intro x H3 k s3 _ kk hk
      refine hk _ rfl (fun R => ⟨fun z => ?_, fun z => ⟨_, rfl, D, rfl, ⟨_, SqL.of (s3 _ _ hD)⟩, z⟩⟩) fun y H4 kt kf s4 hy hn => ⟨rfl, _, rfl, _, rfl, x, y, rfl, rfl, _, rfl, ?_⟩
      · obtain ⟨v, ev, d, ed, _, hR⟩ := z
        cases ev
        cases ed
        exact hR
      · by_cases hlt : x < y
        · exact iteD' hlt ⟨_, rfl, _, rfl, two_ok _ _, fun t nt => hy _ (if_pos hlt) _ _ (same_upd nt) (.tup (SqT.of upd_same) (.cons (.int _) (.cons (.int _) .nil)))⟩
        · exact iteD hlt (hn (if_neg hlt))
    intro H3 zs s3 hD2 hz
    have hpm : ∀ x : Int × Int, x ∈ (ws.flatMap fun x => ws.filterMap fun y => if x < y then some (x, y) else none) ↔ x.1 ∈ ws ∧ x.2 ∈ ws ∧ x.1 < x.2 := fun x => by
      rw [List.mem_flatMap]
      constructor
      · rintro ⟨a, h1, h2⟩
        obtain ⟨b, h3, e⟩ := List.mem_filterMap.mp h2
        split at e
        · cases e
          exact ⟨h1, h3, ‹_›⟩
        · cases e
      · rintro ⟨h1, h2, h3⟩
        exact ⟨x.1, h1, List.mem_filterMap.mpr ⟨x.2, h2, if_pos h3⟩⟩
    have hpl : (ws.flatMap fun x => ws.filterMap fun y => if x < y then some (x, y) else none).length ≤ 3844 := by
      refine Nat.le_trans (flat_len ws _ 62 fun x => Nat.le_trans (List.length_filterMap_le _ _) hwl) ?_
      exact Nat.mul_le_mul_right 62 hwl
    revert hz hpm hpl
    generalize (ws.flatMap fun x => ws.filterMap fun y => if x < y then some (x, y) else none) = ps
    intro hz hpm hpl
    -- the reasons
    refine ⟨_, rfl, D2, rfl, ⟨_, SqL.of hD2⟩, fun D3 nD3 => lc_ty pairD reaD (fun p => if clsV h p.1 p.2 = true then some (("both" : Str), p.1, p.2) else none) (SqL.of hD2) hz nD3 (by omega) reaD_imm ?_ ?_⟩
    · intro i v p H4 k kf er s4 pr hy hn
      obtain ⟨b, rfl, hb⟩ := dp_pair pr
      obtain ⟨m1, m2, _⟩ := (hpm p).mp (List.mem_of_getElem? er)
      obtain ⟨z, hz⟩ := Option.isSome_iff_exists.mp (isVal_iff.mp ((hwm _).mp m1).1)
      obtain ⟨w, hw⟩ := Option.isSome_iff_exists.mp (isVal_iff.mp ((hwm _).mp m2).1)
      have hZ4 := ((((hZ.same sp).same s2).same s3).same s4)
      obtain ⟨kv1, t1, e1, e2, e3⟩ := hZ4.get hz
      obtain ⟨kv2, t2, f1, f2, f3⟩ := hZ4.get hw
      refine ⟨b, _, rfl, hb, rfl, _, _, rfl, _, _, rfl, rfl, rfl, ?_⟩
      refine ⟨_, rfl, _, rfl, Z, _, rfl, dget_of (k := .inl p.1) e1 e2, _, rfl, _, rfl, Z, _, rfl, dget_of (k := .inl p.2) f1 f2, t1, t2, z, w, rfl, e3, f3, _, rfl, ?_⟩
      have ec : clsV h p.1 p.2 = clsh z w := by unfold clsV; rw [hz, hw]
      rw [← ec]
      cases hc : clsV h p.1 p.2 with
      | true => exact iteT ⟨_, rfl, _, rfl, three_ok _ _ _, fun t nt => hy _ (if_pos hc) _ _ (same_upd nt) (rea_dp (SqT.of upd_same))⟩
      | false => exact iteF (hn (by rw [hc]; rfl) _ (Same.refl _))
    · intro H4 us s4 hD3 hu
      have sA := sp.trans (s2.trans s3)
      refine q D3 H4 us _ (sA.trans s4) (sA.free nD3) hD3 hu (fun x => ?_) (Nat.le_trans (List.length_filterMap_le _ _) (by omega))
      rw [List.mem_filterMap]
      constructor
      · rintro ⟨p, hp, e⟩
        split at e
        · rename_i hc
          cases e
          obtain ⟨m1, m2, m3⟩ := (hpm p).mp hp
          exact ⟨rfl, ((hwm _).mp m1).1, ((hwm _).mp m2).1, m3, ((hwm _).mp m1).2, ((hwm _).mp m2).2, hc⟩
        · cases e
      · rintro ⟨e1, v1, v2, lt, o1, o2, hc⟩
        exact ⟨(x.2.1, x.2.2), (hpm _).mpr ⟨(hwm _).mpr ⟨v1, o1⟩, (hwm _).mpr ⟨v2, o2⟩, lt⟩, by rw [if_pos hc, ← e1]⟩

abbrev s_within_reasons : Stmt := topS 9
theorem sc_within_reasons : FnScope ["zones", "wide", "small", "pairs", "value", "one", "other"] ["zones"] (defScope s_within_reasons) := ⟨rfl, rfl, rfl, by decide +kernel, rfl, by decide +kernel, by decide +kernel⟩
def spwithin_reasons (K : PySem.W.Frag) : Sp := fun vs H Q _ => ∃ (Z : Addr) (h : List HRow), vs = [.ref Z] ∧ ZAt K H Z (zoneO h) 62 ∧ ∀ (p : Addr) (H' : Hp) (ys : List V) (B : List Reason), Same H H' → H p = none → H' p = some (.lst ys) → DpAll K H' ys (B.map reaD) → (∀ x : Reason, x ∈ B ↔ x.1 = ("within" : Str) ∧ WithinP h x.2.1 x.2.2) → B.length ≤ 10000 → Q (.ref p) H'
theorem ok_within_reasons {f : Addr} {fd : FuncData} (F : Fun K "within_reasons" "within_reasons" s_within_reasons f fd) (gm : mg "within_reasons" = some (.ref f)) (N : Fre K mg) (c_clash : C8.Cal P w K mg base 1 "clash" (spclash K) []) (c_is_open_zone : C8.Cal P w K mg base 1 "is_open_zone" (spis_open_zone K) []) : C8.Cal P w K mg base 2 "within_reasons" (spwithin_reasons K) [] := by
  refine mkCal F gm sc_within_reasons (F.binds (ps := ["zones"]) fun _ _ _ _ _ _ us hl => match us, hl with | [_], _ => rfl) (fun vs H Q E h => ?_) (fun cdv A outer s H vs Q E hr h => ?_)
  · obtain ⟨Z, h, rfl, _⟩ := h
    rfl
  · obtain ⟨Z, h, rfl, hZ, q⟩ := h
    refine ⟨_, (pss_cons (ps_setLc (i := 1) (own := [("value", 4)]) (g := gName 4) rfl sc_within_reasons.nd rfl rfl (sw_true rfl rfl rfl (by decide +kernel)) (pi_list (pe_callB (call_sortedDI rfl) (by rfl) N.sorted (by decide +kernel) (pa_cons (pv 0) pa_nil))) (blkOk_by (N := ["zones", "wide", "small", "pairs", "value", "one", "other"]) (sc := defScope s_within_reasons) (by decide +kernel)) (fun _ _ _ _ _ => pg_name (i := 4) sc_within_reasons.nd rfl (Or.inl rfl)) (fun _ _ _ _ _ => pts_one (pt_val (C8.pe_c c_is_open_zone hr (by decide) rfl (pa_cons (pe_dget (hu_of hr) (pv 0) (pv 4) (fun _ _ => rfl)) pa_nil)))) (fun _ _ _ _ _ => (pv 4)))
 (pss_cons (ps_set (i := 2) sc_within_reasons.nd rfl (.inr rfl) (pe_lc (own := [("value", 4)]) (g := gName 4) rfl sc_within_reasons.nd (pi_list (pe_callB (call_sortedDI rfl) (by rfl) N.sorted (by decide +kernel) (pa_cons (pv 0) pa_nil))) (blkOk_by (N := ["zones", "wide", "small", "pairs", "value", "one", "other"]) (sc := defScope s_within_reasons) (by decide +kernel)) (fun _ _ _ _ _ => pg_name (i := 4) sc_within_reasons.nd rfl (Or.inl rfl)) (fun _ _ _ _ _ => pts_one (pt_not (pt_val (C8.pe_c c_is_open_zone hr (by decide) rfl (pa_cons (pe_dget (hu_of hr) (pv 0) (pv 4) (fun _ _ => rfl)) pa_nil))))) (fun _ _ _ _ _ => (pv 4))))
 (pss_cons (ps_setLc2 (i := 3) (own := [("one", 5), ("other", 6)]) (g := gName 5) (tt := tYes) (wi1 := iList K (tVar 2)) (g1 := gName 6) (vs1 := [6]) (tt1 := tYes) rfl sc_within_reasons.nd rfl rfl (sw_true rfl rfl rfl (by decide +kernel)) (pi_list (pv 1)) (blkOk_by (N := ["zones", "wide", "small", "pairs", "value", "one", "other"]) (sc := defScope s_within_reasons) (by decide +kernel)) (by decide) (fun _ _ _ _ _ => pg_name (i := 5) sc_within_reasons.nd rfl (Or.inl rfl)) (fun _ _ _ _ _ => pts_nil) (fun _ _ _ _ _ => (pi_list (pv 2))) (fun _ _ _ _ _ => pg_name (i := 6) sc_within_reasons.nd rfl (Or.inl rfl)) (fun _ _ _ _ _ => pts_nil) (fun _ _ _ _ _ => (pe_tup (pa_cons (pv 5) (pa_cons (pv 6) pa_nil)))))
 (pss_one (ps_ret (pe_lc (own := [("one", 5), ("other", 6)]) (g := gTup K 2 (gCons (gName 5) (gCons (gName 6) gNil))) rfl sc_within_reasons.nd (pi_list (pv 3)) (blkOk_by (N := ["zones", "wide", "small", "pairs", "value", "one", "other"]) (sc := defScope s_within_reasons) (by decide +kernel)) (fun _ _ _ _ _ => pg_tup rfl (pgs_cons (pg_name (i := 5) sc_within_reasons.nd rfl (Or.inl rfl)) (pgs_cons (pg_name (i := 6) sc_within_reasons.nd rfl (Or.inl rfl)) pgs_nil))) (fun _ _ _ _ _ => pts_one (pt_val (C8.pe_c c_clash hr (by decide) rfl (pa_cons (pe_dget (hu_of hr) (pv 0) (pv 5) (fun _ _ => rfl)) (pa_cons (pe_dget (hu_of hr) (pv 0) (pv 6) (fun _ _ => rfl)) pa_nil))))) (fun _ _ _ _ _ => (pe_tup (pa_cons pe_str (pa_cons (pv 5) (pa_cons (pv 6) pa_nil))))))))))), ?_⟩
    obtain ⟨kvs, ks, k1, k2, k3, k4, k5, k6⟩ := id hZ
    -- wide
    refine ⟨_, rfl, Z, kvs, ks, rfl, .inl k1, k2, by omega, fun ys p hp hso np => ⟨p, rfl, ⟨_, SqL.of upd_same⟩, fun D nD => ?_⟩⟩
    have sp := same_upd (o := .lst (ys.map V.int)) np
    have hyl : ys.length ≤ 62 := by rw [hp.length_eq]; exact k4
    have hym : ∀ v, v ∈ ys ↔ isVal h v := fun v => by rw [hp.mem_iff, k5 v, isVal_iff]
    refine lc_ty PyData.int PyData.int (fun v => if opnV h v = true then some v else none) (SqL.of upd_same) (ints_dp ys) nD (by omega) (fun _ => rfl) ?_ ?_
    · intro i v x H2 k kf er s2 pr hy hn
      cases pr
      have hv := (hym x).mp (List.mem_of_getElem? er)
      obtain ⟨z, hz⟩ := Option.isSome_iff_exists.mp (isVal_iff.mp hv)
      obtain ⟨kv', t, e1, e2, e3⟩ := ((hZ.same sp).same s2).get hz
      refine ⟨rfl, ⟨_, rfl, _, rfl, Z, _, rfl, dget_of (k := .inl x) e1 e2, t, z, rfl, e3, _, rfl, ?_⟩⟩
      have eo : opnV h x = opn z := by unfold opnV; rw [hz]
      rw [← eo]
      cases ho : opnV h x with
      | true => exact iteT ⟨_, rfl, hy x (if_pos ho) _ _ (Same.refl _) (.int _)⟩
      | false => exact iteF (hn (by rw [ho]; rfl) _ (Same.refl _))
    intro H2 us s2 hD hu
    have eu := dp_ints hu
    subst eu
    have hwm : ∀ v, v ∈ ys.filterMap (fun v => if opnV h v = true then some v else none) ↔ isVal h v ∧ opnV h v = true := fun v => by
      rw [List.mem_filterMap]
      constructor
      · rintro ⟨u, hu, e⟩
        split at e
        · rename_i ho
          cases e
          exact ⟨(hym _).mp hu, ho⟩
        · cases e
      · rintro ⟨h1, h2⟩
        exact ⟨v, (hym v).mpr h1, if_pos h2⟩
    have hwl : (ys.filterMap (fun v => if opnV h v = true then some v else none)).length ≤ 62 := Nat.le_trans (List.length_filterMap_le _ _) hyl
    revert hD hwm hwl
    generalize ys.filterMap (fun v => if opnV h v = true then some v else none) = ws
    intro hD hwm hwl
    clear hu
    -- small
    refine ⟨_, rfl, Z, kvs, ks, rfl, .inl ((sp.trans s2) _ _ k1), k2, by omega, fun ys' p' hp' hso' np' => ⟨p', rfl, ⟨_, SqL.of upd_same⟩, fun D' nD' => ?_⟩⟩
    have sp' := same_upd (o := .lst (ys'.map V.int)) np'
    have hyl' : ys'.length ≤ 62 := by rw [hp'.length_eq]; exact k4
    have hym' : ∀ v, v ∈ ys' ↔ isVal h v := fun v => by rw [hp'.mem_iff, k5 v, isVal_iff]
    refine lc_ty PyData.int PyData.int (fun v => if opnV h v = true then none else some v) (SqL.of upd_same) (ints_dp ys') nD' (by omega) (fun _ => rfl) ?_ ?_
    · intro i v x H3 k kf er s3 pr hy hn
      cases pr
      have hv := (hym' x).mp (List.mem_of_getElem? er)
      obtain ⟨z, hz⟩ := Option.isSome_iff_exists.mp (isVal_iff.mp hv)
      obtain ⟨kv', t, e1, e2, e3⟩ := ((((hZ.same sp).same s2).same sp').same s3).get hz
      refine ⟨rfl, ⟨_, rfl, _, rfl, Z, _, rfl, dget_of (k := .inl x) e1 e2, t, z, rfl, e3, _, rfl, ?_⟩⟩
      have eo : opnV h x = opn z := by unfold opnV; rw [hz]
      rw [← eo]
      cases ho : opnV h x with
      | true => exact iteF (hn (if_pos ho) _ (Same.refl _))
      | false => exact iteT ⟨_, rfl, hy x (by rw [ho]; rfl) _ _ (Same.refl _) (.int _)⟩
    intro H2' us' s2' hD' hu'
    have eu' := dp_ints hu'
    subst eu'
    have hwm' : ∀ v, v ∈ ys'.filterMap (fun v => if opnV h v = true then none else some v) ↔ isVal h v ∧ opnV h v = false := fun v => by
      rw [List.mem_filterMap]
      constructor
      · rintro ⟨u, hu, e⟩
        split at e
        · cases e
        · rename_i ho
          cases e
          exact ⟨(hym' _).mp hu, by simpa using ho⟩
      · rintro ⟨h1, h2⟩
        exact ⟨v, (hym' v).mpr h1, by rw [h2]; rfl⟩
    have hwl' : (ys'.filterMap (fun v => if opnV h v = true then none else some v)).length ≤ 62 := Nat.le_trans (List.length_filterMap_le _ _) hyl'
    revert hD' hwm' hwl'
    generalize ys'.filterMap (fun v => if opnV h v = true then none else some v) = ms
    intro hD' hwm' hwl'
    clear hu'
    have sq := sp'.trans s2'
    have hDq := sq _ _ hD
    -- pairs
    refine ⟨_, rfl, D, rfl, ⟨_, SqL.of hDq⟩, fun D2 nD2 => lc2_ints (c := D') (ys := ms) (fun x y => some (x, y)) (SqL.of hDq) (SqL.of hD') nD2 (by omega) (by omega) ?_ ?_⟩
    · intro x H3 k s3 _ kk hk
      refine hk _ rfl (fun R => ⟨fun z => ?_, fun z => ⟨_, rfl, D', rfl, ⟨_, SqL.of (s3 _ _ hD')⟩, z⟩⟩) fun y H4 kt kf s4 hy hn => ⟨rfl, ?_⟩
      · obtain ⟨v, ev, d, ed, _, hR⟩ := z
        cases ev
        cases ed
        exact hR
      · simp only [tYes, if_true]
        exact ⟨_, rfl, _, rfl, two_ok _ _, fun t nt => hy _ rfl _ _ (same_upd nt) (.tup (SqT.of upd_same) (.cons (.int _) (.cons (.int _) .nil)))⟩
    intro H3 zs s3 hD2 hz
    have hpm : ∀ x : Int × Int, x ∈ (ws.flatMap fun x => ms.filterMap fun y => some (x, y)) ↔ x.1 ∈ ws ∧ x.2 ∈ ms := fun x => by
      rw [List.mem_flatMap]
      constructor
      · rintro ⟨a, h1, h2⟩
        obtain ⟨b, h3, e⟩ := List.mem_filterMap.mp h2
        cases e
        exact ⟨h1, h3⟩
      · rintro ⟨h1, h2⟩
        exact ⟨x.1, h1, List.mem_filterMap.mpr ⟨x.2, h2, rfl⟩⟩
    have hpl : (ws.flatMap fun x => ms.filterMap fun y => some (x, y)).length ≤ 3844 := by
      refine Nat.le_trans (flat_len ws _ 62 fun x => Nat.le_trans (List.length_filterMap_le _ _) hwl') ?_
      exact Nat.mul_le_mul_right 62 hwl
    revert hz hpm hpl
    generalize (ws.flatMap fun x => ms.filterMap fun y => some (x, y)) = ps
    intro hz hpm hpl
    -- the reasons
    refine ⟨_, rfl, D2, rfl, ⟨_, SqL.of hD2⟩, fun D3 nD3 => lc_ty pairD reaD (fun p => if clsV h p.1 p.2 = true then some (("within" : Str), p.1, p.2) else none) (SqL.of hD2) hz nD3 (by omega) reaD_imm ?_ ?_⟩
    · intro i v p H4 k kf er s4 pr hy hn
      obtain ⟨b, rfl, hb⟩ := dp_pair pr
      obtain ⟨m1, m2⟩ := (hpm p).mp (List.mem_of_getElem? er)
      obtain ⟨z, hz⟩ := Option.isSome_iff_exists.mp (isVal_iff.mp ((hwm _).mp m1).1)
      obtain ⟨w, hw⟩ := Option.isSome_iff_exists.mp (isVal_iff.mp ((hwm' _).mp m2).1)
      have hZ4 := ((((hZ.same sp).same s2).same sq).same s3).same s4
      obtain ⟨kv1, t1, e1, e2, e3⟩ := hZ4.get hz
      obtain ⟨kv2, t2, f1, f2, f3⟩ := hZ4.get hw
      refine ⟨b, _, rfl, hb, rfl, _, _, rfl, _, _, rfl, rfl, rfl, ?_⟩
      refine ⟨_, rfl, _, rfl, Z, _, rfl, dget_of (k := .inl p.1) e1 e2, _, rfl, _, rfl, Z, _, rfl, dget_of (k := .inl p.2) f1 f2, t1, t2, z, w, rfl, e3, f3, _, rfl, ?_⟩
      have ec : clsV h p.1 p.2 = clsh z w := by unfold clsV; rw [hz, hw]
      rw [← ec]
      cases hc : clsV h p.1 p.2 with
      | true => exact iteT ⟨_, rfl, _, rfl, three_ok _ _ _, fun t nt => hy _ (if_pos hc) _ _ (same_upd nt) (rea_dp (SqT.of upd_same))⟩
      | false => exact iteF (hn (by rw [hc]; rfl) _ (Same.refl _))
    · intro H4 us s4 hD3 hu
      have sA := (sp.trans s2).trans (sq.trans s3)
      refine q D3 H4 us _ (sA.trans s4) (sA.free nD3) hD3 hu (fun x => ?_) (Nat.le_trans (List.length_filterMap_le _ _) (by omega))
      rw [List.mem_filterMap]
      constructor
      · rintro ⟨p, hp, e⟩
        split at e
        · rename_i hc
          cases e
          obtain ⟨m1, m2⟩ := (hpm p).mp hp
          exact ⟨rfl, ((hwm _).mp m1).1, ((hwm' _).mp m2).1, ((hwm _).mp m1).2, ((hwm' _).mp m2).2, hc⟩
        · cases e
      · rintro ⟨e1, v1, v2, o1, o2, hc⟩
        exact ⟨(x.2.1, x.2.2), (hpm _).mpr ⟨(hwm _).mpr ⟨v1, o1⟩, (hwm' _).mpr ⟨v2, o2⟩⟩, by rw [if_pos hc, ← e1]⟩
abbrev s_reasons_of : Stmt := topS 10
theorem sc_reasons_of : FnScope ["history", "zones"] ["history"] (defScope s_reasons_of) := ⟨rfl, rfl, rfl, by decide +kernel, rfl, by decide +kernel, by decide +kernel⟩
/-- all reasons, by words as they go first -/
structure Reas (h : List HRow) (E B W : List Reason) : Prop where
  e : ∀ x : Reason, x ∈ E ↔ x.1 = ("early" : Str) ∧ EarlyP h x.2.1 x.2.2
  b : ∀ x : Reason, x ∈ B ↔ x.1 = ("both" : Str) ∧ BothP h x.2.1 x.2.2
  w : ∀ x : Reason, x ∈ W ↔ x.1 = ("within" : Str) ∧ WithinP h x.2.1 x.2.2
def spreasons_of (K : PySem.W.Frag) : Sp := fun vs H Q _ => ∃ (v : V) (h : List HRow), vs = [v] ∧ Dp K H v (.list (h.map hD)) ∧ h.length ≤ 61 ∧ OneW h ∧ ∀ (p : Addr) (H' : Hp) (ys : List V) (E B W : List Reason), Same H H' → H p = none → H' p = some (.lst ys) → DpAll K H' ys ((E ++ B ++ W).map reaD) → Reas h E B W → (E ++ B ++ W).length ≤ 30000 → Q (.ref p) H'
theorem ok_reasons_of {f : Addr} {fd : FuncData} (F : Fun K "reasons_of" "reasons_of" s_reasons_of f fd) (gm : mg "reasons_of" = some (.ref f)) (N : Fre K mg) (c_both_reasons : C8.Cal P w K mg base 2 "both_reasons" (spboth_reasons K) []) (c_early_reasons : C8.Cal P w K mg base 1 "early_reasons" (spearly_reasons K) []) (c_within_reasons : C8.Cal P w K mg base 2 "within_reasons" (spwithin_reasons K) []) (c_zones_of : C8.Cal P w K mg base 1 "zones_of" (spzones_of K) []) : C8.Cal P w K mg base 3 "reasons_of" (spreasons_of K) [] := by
  refine mkCal F gm sc_reasons_of (F.binds (ps := ["history"]) fun _ _ _ _ _ _ us hl => match us, hl with | [_], _ => rfl) (fun vs H Q E h => ?_) (fun cdv A outer s H vs Q E hr h => ?_)
  · obtain ⟨v, h, rfl, _⟩ := h
    rfl
  · obtain ⟨v, h, rfl, hv, hlen, one, q⟩ := h
    refine ⟨_, (pss_cons (ps_set (i := 1) sc_reasons_of.nd rfl (.inl rfl) (C8.pe_c c_zones_of hr (by decide) rfl (pa_cons (pv 0) pa_nil)))
 (pss_one (ps_ret (pe_op op_cat (pe_op op_cat (C8.pe_c c_early_reasons hr (by decide) rfl (pa_cons (pv 0) pa_nil)) (C8.pe_c c_both_reasons hr (by decide) rfl (pa_cons (pv 1) pa_nil))) (C8.pe_c c_within_reasons hr (by decide) rfl (pa_cons (pv 1) pa_nil)))))), ?_⟩
    refine ⟨_, rfl, v, h, rfl, hv, hlen, fun Z H1 s1 nZ hZ => ?_⟩
    refine ⟨_, rfl, v, h, rfl, dp_same s1 _ _ hv, hlen, one, fun p1 H2 y1 E s2 n1 h1 a1 c1 l1 => ?_⟩
    refine ⟨_, rfl, Z, h, rfl, hZ.same s2, fun p2 H3 y2 B s3 n2 h2 a2 c2 l2 => ?_⟩
    have e1 := dpAll_len a1
    have e2 := dpAll_len a2
    rw [List.length_map] at e1 e2
    refine ⟨p1, p2, _, _, rfl, rfl, s3 _ _ h1, h2, by rw [sizeLine_eq]; omega, fun p3 n3 => ?_⟩
    have s4 := same_upd (o := .lst (y1 ++ y2)) n3
    refine ⟨_, rfl, Z, h, rfl, ((hZ.same s2).same s3).same s4, fun p5 H5 y5 W s5 n5 h5 a5 c5 l5 => ?_⟩
    have e5 := dpAll_len a5
    rw [List.length_map] at e5
    refine ⟨p3, p5, _, _, rfl, rfl, s5 _ _ upd_same, h5, by rw [List.length_append, sizeLine_eq]; omega, fun p6 n6 => ?_⟩
    have s6 := same_upd (o := .lst (y1 ++ y2 ++ y5)) n6
    have sA := s1.trans (s2.trans (s3.trans (s4.trans s5)))
    refine q p6 _ _ E B W (sA.trans s6) (sA.free n6) upd_same ?_ ⟨c1, c2, c5⟩ (by rw [List.length_append, List.length_append]; omega)
    rw [List.map_append, List.map_append]
    exact dpAll_append (dpAll_append (dp_sameAll (s3.trans (s4.trans (s5.trans s6))) _ _ a1) (dp_sameAll (s4.trans (s5.trans s6)) _ _ a2)) (dp_sameAll s6 _ _ a5)

/-! ### shows_none -/
theorem rea_eqv (x y : Reason) : PyData.eqv (reaD x) (reaD y) = decide (x = y) := by
  obtain ⟨w, a, b⟩ := x
  obtain ⟨w', a', b'⟩ := y
  simp only [reaD, PyData.eqv, PyData.eqvAll, Bool.and_true]
  by_cases h1 : w = w'
  · by_cases h2 : a = a'
    · by_cases h3 : b = b'
      · subst h1; subst h2; subst h3
        simp
      · simp [h3]
    · simp [h2]
  · simp [h1]
theorem rea_lay {x : Reason} (h : PyData.strOk x.1 = true) : (reaD x).canLay0 = true := by simp [reaD, PyData.canLay0, PyData.canLayAll0, h]
theorem rea_deep (x : Reason) : (reaD x).depth ≤ 1 := by simp [reaD, PyData.depth, PyData.depthAll]
theorem rea_sh {x : Reason} (h : PyData.strOk x.1 = true) : SeqAt.shaped (reaD x) = true := by
  unfold SeqAt.shaped
  rw [rea_lay h, decide_eq_true (Nat.le_trans (rea_deep x) (by decide))]
  rfl
theorem reas_sh {xs : List Reason} (h : ∀ x ∈ xs, PyData.strOk x.1 = true) : SeqAt.shaped (.list (xs.map reaD)) = true := by
  have h1 : (PyData.list (xs.map reaD)).canLay0 = true := by
    rw [PyData.canLay0]
    induction xs with
    | nil => simp [PyData.canLayAll0]
    | cons r rs ih =>
      rw [List.map_cons, PyData.canLayAll0, rea_lay (h r List.mem_cons_self), ih fun r' hr' => h r' (List.mem_cons_of_mem _ hr')]
      rfl
  have h2 : (PyData.list (xs.map reaD)).depth ≤ 64 := by
    have : PyData.depthAll (xs.map reaD) ≤ 1 := by
      clear h h1
      induction xs with
      | nil => simp [PyData.depthAll]
      | cons r rs ih =>
        rw [List.map_cons, PyData.depthAll]
        exact Nat.max_le.mpr ⟨rea_deep r, ih⟩
    rw [PyData.depth]
    omega
  unfold SeqAt.shaped
  rw [h1, decide_eq_true h2]
  rfl
theorem early_ok : PyData.strOk ("early" : Str) = true := by decide +kernel
theorem both_ok' : PyData.strOk ("both" : Str) = true := by decide +kernel
theorem within_ok : PyData.strOk ("within" : Str) = true := by decide +kernel
theorem Reas.ok {h : List HRow} {E B W : List Reason} (r : Reas h E B W) : ∀ x ∈ E ++ B ++ W, PyData.strOk x.1 = true := fun x hx => by
  rcases List.mem_append.mp hx with hx | hx
  · rcases List.mem_append.mp hx with hx | hx
    · rw [((r.e x).mp hx).1]
      exact early_ok
    · rw [((r.b x).mp hx).1]
      exact both_ok'
  · rw [((r.w x).mp hx).1]
    exact within_ok
/-- a reason that is just so -/
def ShowsP (h : List HRow) (x : Reason) : Prop := (x.1 = ("early" : Str) ∧ EarlyP h x.2.1 x.2.2) ∨ (x.1 = ("both" : Str) ∧ BothP h x.2.1 x.2.2) ∨ (x.1 = ("within" : Str) ∧ WithinP h x.2.1 x.2.2)
theorem Reas.shows {h : List HRow} {E B W : List Reason} (r : Reas h E B W) (x : Reason) : x ∈ E ++ B ++ W ↔ ShowsP h x := by
  unfold ShowsP
  rw [List.mem_append, List.mem_append, r.e x, r.b x, r.w x, or_assoc]
theorem any_eqv (xs : List Reason) (x : Reason) : ((xs.map reaD).any fun z => PyData.eqv z (reaD x)) = decide (x ∈ xs) := by
  rw [List.any_map]
  by_cases h : x ∈ xs
  · rw [decide_eq_true h, List.any_eq_true]
    exact ⟨x, h, by simp [rea_eqv]⟩
  · rw [decide_eq_false h, List.any_eq_false]
    intro y hy
    simp only [Function.comp, rea_eqv, decide_eq_true_eq]
    exact fun z => h (z ▸ hy)
theorem hu65 {A : Around} {k : Nat} (hr : Room k A) : A.units + 65 < cLine := by
  have := hr.un
  omega

abbrev s_shows_none : Stmt := topS 14
theorem sc_shows_none : FnScope ["history", "reason"] ["history", "reason"] (defScope s_shows_none) := ⟨rfl, rfl, rfl, by decide +kernel, rfl, by decide +kernel, by decide +kernel⟩
def spshows_none (K : PySem.W.Frag) : Sp := fun vs H Q _ => ∃ (v u : V) (h : List HRow) (x : Reason), vs = [v, u] ∧ Dp K H v (.list (h.map hD)) ∧ Dp K H u (reaD x) ∧ PyData.strOk x.1 = true ∧ h.length ≤ 61 ∧ OneW h ∧ ∀ H' c, Same H H' → (c = true ↔ ShowsP h x) → Q (.bl c) H'
theorem ok_shows_none {f : Addr} {fd : FuncData} (F : Fun K "shows_none" "shows_none" s_shows_none f fd) (gm : mg "shows_none" = some (.ref f)) (N : Fre K mg) (c_reasons_of : C8.Cal P w K mg base 3 "reasons_of" (spreasons_of K) []) : C8.Cal P w K mg base 4 "shows_none" (spshows_none K) [] := by
  refine mkCal F gm sc_shows_none (F.binds (ps := ["history", "reason"]) fun _ _ _ _ _ _ us hl => match us, hl with | [_, _], _ => rfl) (fun vs H Q E h => ?_) (fun cdv A outer s H vs Q E hr h => ?_)
  · obtain ⟨v, u, h, x, rfl, _⟩ := h
    rfl
  · obtain ⟨v, u, h, x, rfl, hv, hu, okx, hlen, one, q⟩ := h
    refine ⟨_, (pss_one (ps_ret (pe_cmpR (op_inD (hu65 hr)) (pv 1) (C8.pe_c c_reasons_of hr (by decide) rfl (pa_cons (pv 0) pa_nil)) (by with_unfolding_all rfl)))), ?_⟩
    refine ⟨_, rfl, _, rfl, v, h, rfl, hv, hlen, one, fun p H1 ys E B W s1 np h1 a1 r1 l1 => ?_⟩
    refine ⟨_, _, dp_same s1 _ _ hu, .lst (SqL.of h1) a1, rea_sh okx, reas_sh r1.ok, ?_⟩
    rw [any_eqv]
    exact q H1 _ s1 (by rw [decide_eq_true_iff]; exact r1.shows x)

/-! ### an order -/
def plc (z : Int × Int) : Int × Int := (if z.2 < z.1 then z.2 else z.1, if opn z = true then 1 else 0)
abbrev s_place_of : Stmt := topS 11
theorem sc_place_of : FnScope ["zone", "first", "last"] ["zone"] (defScope s_place_of) := ⟨rfl, rfl, rfl, by decide +kernel, rfl, by decide +kernel, by decide +kernel⟩
def spplace_of (K : PySem.W.Frag) : Sp := fun vs H Q _ => ∃ (p : Addr) (z : Int × Int), vs = [.ref p] ∧ SqT K H p [.int z.1, .int z.2] ∧ ∀ t, H t = none → Q (.ref t) (upd H t (.tup [.int (plc z).1, .int (plc z).2]))
theorem ok_place_of {f : Addr} {fd : FuncData} (F : Fun K "place_of" "place_of" s_place_of f fd) (gm : mg "place_of" = some (.ref f)) (N : Fre K mg) (c_is_open_zone : C8.Cal P w K mg base 1 "is_open_zone" (spis_open_zone K) []) : C8.Cal P w K mg base 2 "place_of" (spplace_of K) [] := by
  refine mkCal F gm sc_place_of (F.binds (ps := ["zone"]) fun _ _ _ _ _ _ us hl => match us, hl with | [_], _ => rfl) (fun vs H Q E h => ?_) (fun cdv A outer s H vs Q E hr h => ?_)
  · obtain ⟨p, z, rfl, _⟩ := h
    rfl
  · obtain ⟨p, z, rfl, hp, q⟩ := h
    refine ⟨_, (pss_cons (ps_asg (pv 0) (pg_tup rfl (pgs_cons (pg_name (i := 1) sc_place_of.nd rfl (.inl rfl)) (pgs_cons (pg_name (i := 2) sc_place_of.nd rfl (.inl rfl)) pgs_nil))))
 (pss_one (ps_ret (pe_tup (pa_cons (pe_callB (call_min2 rfl) (by rfl) N.min (by decide +kernel) (pa_cons (pv 1) (pa_cons (pv 2) pa_nil))) (pa_cons (pe_ifExp (pt_val (C8.pe_c c_is_open_zone hr (by decide) rfl (pa_cons (pv 0) pa_nil))) pe_int pe_int) pa_nil)))))), ?_⟩
    refine ⟨_, rfl, p, _, rfl, hp, rfl, _, _, rfl, _, _, rfl, rfl, ?_⟩
    refine ⟨_, rfl, _, rfl, z.1, z.2, rfl, _, rfl, p, z, rfl, hp, _, rfl, ?_⟩
    cases ho : opn z with
    | true =>
      refine iteT ⟨two_ok _ _, fun t nt => ?_⟩
      have := q t nt
      unfold plc at this
      rw [ho] at this
      exact this
    | false =>
      refine iteF ⟨two_ok _ _, fun t nt => ?_⟩
      have := q t nt
      unfold plc at this
      rw [ho] at this
      exact this
/-- by what a row is put in its place -/
def keyR (h : List HRow) (r : HRow) : List Int := match zoneO h r.v with
  | some z => [(plc z).1, (plc z).2, r.v, (if r.wr = true then 0 else 1), r.b, r.t]
  | none => []
def Placed (h rs : List HRow) : Prop := rs.Perm h ∧ rs.Pairwise fun r w => HT.lexLt (keyR h w) (keyR h r) = false
abbrev KsAt (H : Hp) (h : List HRow) : List V → List HRow → Prop := Paired fun y r => KeyAt H y (keyR h r)
theorem KeyAt.kt {H H' : Hp} {x : V} {k : List Int} (z : KeyAt H x k) (s : Kt H H') : KeyAt H' x k := by
  obtain ⟨t, p, m, o, v1, v2, v3, v4, e, h1, h2, ek⟩ := z
  exact ⟨t, p, m, o, v1, v2, v3, v4, e, s _ _ h1 trivial, s _ _ h2 trivial, ek⟩
theorem KeyAt.uniq {H : Hp} {x : V} {k k' : List Int} (z : KeyAt H x k) (y : KeyAt H x k') : k = k' := by
  obtain ⟨t, p, m, o, v1, v2, v3, v4, e, h1, h2, ek⟩ := z
  obtain ⟨t', p', m', o', v1', v2', v3', v4', e', h1', h2', ek'⟩ := y
  rw [e] at e'
  cases e'
  rw [h1] at h1'
  cases h1'
  rw [h2] at h2'
  cases h2'
  rw [ek, ek']
theorem KsAt.kt {H H' : Hp} {h : List HRow} (s : Kt H H') : ∀ {ys : List V} {rs : List HRow}, KsAt H h ys rs → KsAt H' h ys rs
  | _, _, .nil => .nil
  | _, _, .cons a b => .cons (a.kt s) (KsAt.kt s b)
theorem paired_snoc {α β : Type} {R : α → β → Prop} {x : α} {y : β} (r : R x y) : ∀ {xs : List α} {ys : List β}, Paired R xs ys → Paired R (xs ++ [x]) (ys ++ [y])
  | _, _, .nil => .cons r .nil
  | _, _, .cons a b => .cons a (paired_snoc r b)
theorem paired_perm {α β : Type} {R : α → β → Prop} {xs ys : List α} (p : xs.Perm ys) : ∀ {rs : List β}, Paired R xs rs → ∃ rs', rs.Perm rs' ∧ Paired R ys rs' := by
  induction p with
  | nil =>
    intro rs h
    cases h
    exact ⟨[], .nil, .nil⟩
  | cons x _ ih =>
    intro rs h
    cases h with
    | cons a b =>
      obtain ⟨rs', p1, p2⟩ := ih b
      exact ⟨_, p1.cons _, .cons a p2⟩
  | swap x y l =>
    intro rs h
    cases h with
    | cons a b =>
      cases b with
      | cons c d => exact ⟨_, .swap _ _ _, .cons c (.cons a d)⟩
  | trans _ _ ih1 ih2 =>
    intro rs h
    obtain ⟨r1, p1, q1⟩ := ih1 h
    obtain ⟨r2, p2, q2⟩ := ih2 q1
    exact ⟨r2, p1.trans p2, q2⟩
theorem paired_pair {α β : Type} {R : α → β → Prop} {S : α → α → Prop} {T : β → β → Prop} (st : ∀ (a c : α) (b d : β), R a b → R c d → S a c → T b d) : ∀ {xs : List α} {ys : List β}, Paired R xs ys → xs.Pairwise S → ys.Pairwise T
  | _, _, .nil, _ => List.Pairwise.nil
  | x :: xs, y :: ys, .cons a b, p => by
    obtain ⟨p1, p2⟩ := List.pairwise_cons.mp p
    refine List.pairwise_cons.mpr ⟨fun d hd => ?_, paired_pair st b p2⟩
    have mem : ∀ {xs : List α} {ys : List β}, Paired R xs ys → ∀ d ∈ ys, ∃ c ∈ xs, R c d := by
      intro xs ys q
      induction q with
      | nil => intro d hd; cases hd
      | cons a _ ih =>
        intro d hd
        rcases List.mem_cons.mp hd with rfl | hd
        · exact ⟨_, List.mem_cons_self, a⟩
        · obtain ⟨c, hc, r⟩ := ih d hd
          exact ⟨c, List.mem_cons_of_mem _ hc, r⟩
    obtain ⟨c, hc, r⟩ := mem b d hd
    exact st _ _ _ _ a r (p1 c hc)
theorem paired_get {α β : Type} {R : α → β → Prop} : ∀ {xs : List α} {ys : List β} {i : Nat} {x : α}, Paired R xs ys → xs[i]? = some x → ∃ y, ys[i]? = some y ∧ R x y
  | _, _, 0, _, .cons a _, e => by
    cases e
    exact ⟨_, rfl, a⟩
  | _, _, i + 1, _, .cons _ b, e => paired_get (i := i) b (by simpa using e)
  | _, _, i, _, .nil, e => by simp at e
abbrev s_order_of : Stmt := topS 12
theorem sc_order_of : FnScope ["history", "zones", "keys", "task", "kind", "value", "begin", "end", "behind", "key"] ["history"] (defScope s_order_of) := ⟨rfl, rfl, rfl, by decide +kernel, rfl, by decide +kernel, by decide +kernel⟩
def sporder_of (K : PySem.W.Frag) : Sp := fun vs H Q _ => ∃ (v : V) (h : List HRow), vs = [v] ∧ Dp K H v (.list (h.map hD)) ∧ h.length ≤ 61 ∧ ∀ (p : Addr) (H' : Hp) (rs : List HRow), Same H H' → H p = none → H' p = some (.lst ((rs.map HRow.t).map V.int)) → Placed h rs → Q (.ref p) H'
theorem ok_order_of {f : Addr} {fd : FuncData} (F : Fun K "order_of" "order_of" s_order_of f fd) (gm : mg "order_of" = some (.ref f)) (N : Fre K mg) (c_place_of : C8.Cal P w K mg base 2 "place_of" (spplace_of K) []) (c_zones_of : C8.Cal P w K mg base 1 "zones_of" (spzones_of K) []) : C8.Cal P w K mg base 3 "order_of" (sporder_of K) [] := by
  refine mkCal F gm sc_order_of (F.binds (ps := ["history"]) fun _ _ _ _ _ _ us hl => match us, hl with | [_], _ => rfl) (fun vs H Q E h => ?_) (fun cdv A outer s H vs Q E hr h => ?_)
  · obtain ⟨v, h, rfl, _⟩ := h
    rfl
  · obtain ⟨v, h, rfl, hv, hlen, q⟩ := h
    refine ⟨_, (pss_cons (ps_set (i := 1) sc_order_of.nd rfl (.inl rfl) (C8.pe_c c_zones_of hr (by decide) rfl (pa_cons (pv 0) pa_nil)))
 (pss_cons (ps_set (i := 2) sc_order_of.nd rfl (.inl rfl) (pe_lst pa_nil))
 (pss_cons (ps_for PassesOwn.never rfl (pi_list (pv 0)) (pg_tup rfl (pgs_cons (pg_name (i := 3) sc_order_of.nd rfl (.inl rfl)) (pgs_cons (pg_name (i := 4) sc_order_of.nd rfl (.inl rfl)) (pgs_cons (pg_name (i := 5) sc_order_of.nd rfl (.inl rfl)) (pgs_cons (pg_name (i := 6) sc_order_of.nd rfl (.inl rfl)) (pgs_cons (pg_name (i := 7) sc_order_of.nd rfl (.inl rfl)) pgs_nil))))))
 (pss_cons (ps_set (i := 8) sc_order_of.nd rfl (.inl rfl) (pe_ifExp (pt_cmpR op_eq (pv 4) pe_str (nomark _)) pe_int pe_int))
 (pss_one (ps_expr (pe_bm PySem.F.plainAttrs_list PySem.F.slot_list_append PySem.F.type_list_append mt_append (pv 2) (pa_cons (pe_tup (pa_cons (C8.pe_c c_place_of hr (by decide) rfl (pa_cons (pe_dget (hu_of hr) (pv 1) (pv 5) (fun _ _ => rfl)) pa_nil)) (pa_cons (pv 5) (pa_cons (pv 8) (pa_cons (pv 6) (pa_cons (pv 3) pa_nil)))))) pa_nil))))))
 (pss_one (ps_ret (pe_lc (own := [("key", 9)]) (g := gName 9) (tt := tYes) rfl sc_order_of.nd (pi_list (pe_callB (show CallR _ _ (rSortedK K) from cr_sortedK hr.units) (by rfl) N.sorted (by decide +kernel) (pa_cons (pv 2) pa_nil))) (blkOk_by (N := ["history", "zones", "keys", "task", "kind", "value", "begin", "end", "behind", "key"]) (sc := defScope s_order_of) (by decide +kernel)) (fun _ _ _ _ _ => pg_name (i := 9) sc_order_of.nd rfl (Or.inl rfl)) (fun _ _ _ _ _ => pts_nil) (fun _ _ _ _ _ => (pe_ix (show IxR _ (rIxT K) from ix_tup) (pv 9) pe_int (fun _ _ => rfl))))))))), ?_⟩
    obtain ⟨a, xs, rfl, hs, ha⟩ := dp_list hv
    have hl := dpAll_len ha
    rw [List.length_map] at hl
    refine ⟨_, rfl, _, h, rfl, hv, hlen, fun Z H1 s1 nZ hZ => ?_⟩
    refine ⟨Nat.zero_le _, fun Lk nLk => ?_⟩
    have sk := same_upd (o := .lst []) nLk
    have hLk := upd_same (H := H1) (a := Lk) (o := .lst [])
    have nLk0 : H Lk = none := s1.free nLk
    have s2 := s1.trans sk
    have hZ2 := hZ.same sk
    have ZLk : Z ≠ Lk := by
      obtain ⟨kvs, ks, k1, _⟩ := hZ
      exact ne_of_none k1 nLk
    revert hLk s2 hZ2
    generalize upd H1 Lk (.lst []) = H2
    intro hLk s2 hZ2
    refine ⟨_, rfl, a, rfl, ⟨_, s2.seq hs⟩, for_list (xs := xs) (fun i σ H3 => (∃ y3 y4 y5 y6 y7 y8 y9, σ = [some (.ref a), some (.ref Z), some (.ref Lk), y3, y4, y5, y6, y7, y8, y9]) ∧ Same H H3 ∧ ZAt K H3 Z (zoneO h) 62 ∧ ∃ ys, H3 Lk = some (.lst ys) ∧ ys.length = i ∧ KsAt H3 h ys (h.take i)) ⟨⟨_, _, _, _, _, _, _, rfl⟩, s2, hZ2, [], hLk, rfl, .nil⟩ (fun i σ H3 _ z => z.2.1.seq hs) ?_ ?_⟩
    · rintro i x σ H3 hx ⟨⟨y3, y4, y5, y6, y7, y8, y9, rfl⟩, s3, hZ3, ys, hL3, hyl, hks⟩
      obtain ⟨d, ed, pd⟩ := dpAll_get ha hx
      rw [List.getElem?_map] at ed
      obtain ⟨r, er, rfl⟩ := Option.map_eq_some_iff.mp ed
      obtain ⟨b, rfl, hb⟩ := dp_h (dp_same s3 _ _ pd)
      have hi : i < h.length := (List.getElem?_eq_some_iff.mp er).1
      refine ⟨b, _, rfl, hb, rfl, _, _, rfl, _, _, rfl, _, _, rfl, _, _, rfl, _, _, rfl, rfl, ?_⟩
      obtain ⟨z, hz⟩ := zone_some.mpr (.inr ⟨r, List.mem_of_getElem? er, rfl⟩ : r.v = 0 ∨ ∃ w ∈ h, w.v = r.v)
      obtain ⟨kvs, p, k1, k2, k3⟩ := hZ3.get hz
      have rest : ∀ bh : Int, bh = (if r.wr = true then 0 else 1) → ∀ (t : Addr), H3 t = none → upd H3 t (.tup [.int (plc z).1, .int (plc z).2]) Lk = some (.lst ys) ∧ ∀ u, upd H3 t (.tup [.int (plc z).1, .int (plc z).2]) u = none →
          upd (upd H3 t (.tup [.int (plc z).1, .int (plc z).2])) u (.tup [.ref t, .int r.v, .int bh, .int r.b, .int r.t]) Lk = some (.lst ys) ∧ Same H (upd (upd (upd H3 t (.tup [.int (plc z).1, .int (plc z).2])) u (.tup [.ref t, .int r.v, .int bh, .int r.b, .int r.t])) Lk (.lst (ys ++ [.ref u]))) ∧ ZAt K (upd (upd (upd H3 t (.tup [.int (plc z).1, .int (plc z).2])) u (.tup [.ref t, .int r.v, .int bh, .int r.b, .int r.t])) Lk (.lst (ys ++ [.ref u]))) Z (zoneO h) 62 ∧ KsAt (upd (upd (upd H3 t (.tup [.int (plc z).1, .int (plc z).2])) u (.tup [.ref t, .int r.v, .int bh, .int r.b, .int r.t])) Lk (.lst (ys ++ [.ref u]))) h (ys ++ [.ref u]) (h.take (i + 1)) := by
        intro bh ebh t nt
        have st := same_upd (o := .tup [.int (plc z).1, .int (plc z).2]) nt
        refine ⟨st _ _ hL3, fun u nu => ?_⟩
        have su := same_upd (o := .tup [.ref t, .int r.v, .int bh, .int r.b, .int r.t]) nu
        have hL5 := su _ _ (st _ _ hL3)
        have ku := Kt.upd (o' := .lst (ys ++ [.ref u])) hL5 (fun z => z)
        refine ⟨hL5, fun c o e => ?_, ?_, ?_⟩
        · rw [upd_ne (ne_of_none e nLk0)]
          exact su _ _ (st _ _ (s3 _ _ e))
        · obtain ⟨kvs', ks, q1, q2, q3, q4, q5, q6⟩ := (hZ3.same st).same su
          refine ⟨kvs', ks, by rw [upd_ne ZLk]; exact q1, q2, q3, q4, q5, fun v x e => ?_⟩
          obtain ⟨z', p', e1, e2, e3⟩ := q6 v x e
          exact ⟨z', p', e1, e2, sqT_kt ku e3⟩
        · rw [List.take_add_one, er]
          refine paired_snoc ⟨u, t, (plc z).1, (plc z).2, r.v, bh, r.b, r.t, rfl, ?_, ?_, ?_⟩ (KsAt.kt (((Kt.same st).trans (Kt.same su)).trans ku) hks)
          · exact ku _ _ upd_same trivial
          · exact ku _ _ (su _ _ upd_same) trivial
          · unfold keyR
            rw [hz, ebh]
      refine ⟨_, rfl, rfl, _, rfl, ?_⟩
      rw [kind_read]
      cases hwr : r.wr with
      | true =>
        refine iteF ?_
        refine ⟨_, rfl, .inl ⟨rfl, _, SqL.of hL3⟩, _, rfl, _, rfl, Z, _, rfl, dget_of (k := .inl r.v) k1 k2, p, z, rfl, k3, fun t nt => ?_⟩
        obtain ⟨g1, g2⟩ := rest 0 (by rw [hwr]; rfl) t nt
        refine ⟨_, rfl, _, rfl, _, rfl, _, rfl, (by show 5 ≤ sizeLine; decide), fun u nu => ?_⟩
        obtain ⟨g3, g4, g5, g6⟩ := g2 u nu
        exact ⟨Lk, ys, _, rfl, rfl, g3, by rw [sizeLine_eq]; omega, ⟨_, _, _, _, _, _, _, rfl⟩, g4, g5, _, upd_same, by rw [List.length_append, hyl]; rfl, g6⟩
      | false =>
        refine iteT ?_
        refine ⟨_, rfl, .inl ⟨rfl, _, SqL.of hL3⟩, _, rfl, _, rfl, Z, _, rfl, dget_of (k := .inl r.v) k1 k2, p, z, rfl, k3, fun t nt => ?_⟩
        obtain ⟨g1, g2⟩ := rest 1 (by rw [hwr]; rfl) t nt
        refine ⟨_, rfl, _, rfl, _, rfl, _, rfl, (by show 5 ≤ sizeLine; decide), fun u nu => ?_⟩
        obtain ⟨g3, g4, g5, g6⟩ := g2 u nu
        exact ⟨Lk, ys, _, rfl, rfl, g3, by rw [sizeLine_eq]; omega, ⟨_, _, _, _, _, _, _, rfl⟩, g4, g5, _, upd_same, by rw [List.length_append, hyl]; rfl, g6⟩
    · rintro σ H3 ⟨⟨y3, y4, y5, y6, y7, y8, y9, rfl⟩, s3, hZ3, ys, hL3, hyl, hks⟩
      rw [hl, List.take_of_length_le (Nat.le_refl _)] at hks
      have kf : ∀ x ∈ ys, KeyAt H3 x (Classical.epsilon (KeyAt H3 x)) := fun x hx => by
        obtain ⟨j, hj⟩ := List.mem_iff_getElem?.mp hx
        obtain ⟨r, _, hr⟩ := paired_get hks hj
        exact Classical.epsilon_spec (p := KeyAt H3 x) ⟨_, hr⟩
      refine ⟨_, rfl, Lk, ys, fun x => Classical.epsilon (KeyAt H3 x), rfl, SqL.of hL3, kf, fun zs p pm pw np => ?_⟩
      have sp := same_upd (o := .lst zs) np
      obtain ⟨rs, prs, hrs⟩ := paired_perm pm.symm hks
      have pl : Placed h rs := by
        refine ⟨prs.symm, paired_pair (fun a c b d ra rc hlt => ?_) hrs pw⟩
        rw [KeyAt.uniq rc (Classical.epsilon_spec (p := KeyAt H3 c) ⟨_, rc⟩), KeyAt.uniq ra (Classical.epsilon_spec (p := KeyAt H3 a) ⟨_, ra⟩)]
        exact hlt
      have hzl : zs.length ≤ 61 := by rw [pm.length_eq, hyl, hl]; exact hlen
      refine ⟨p, rfl, ⟨_, SqL.of upd_same⟩, fun D nD => lc_it (walk_list (K := K) (a := p) (xs := zs)) (fun j H4 => Same (upd H3 p (.lst zs)) H4 ∧ H4 D = some (.lst (((rs.take j).map HRow.t).map V.int))) ⟨same_upd nD, upd_same⟩ (fun j H4 _ z => SqL.of (z.1 _ _ upd_same)) ?_ ?_⟩
      · rintro j x H4 H5 hj ⟨s4, hD4⟩ ⟨rfl, hx⟩
        obtain ⟨r, er, hr⟩ := paired_get hrs hx
        obtain ⟨t, p', m, o, v1, v2, v3, v4, rfl, h1, h2, ek⟩ := hr
        have e4 : v4 = r.t := by
          unfold keyR at ek
          cases hz : zoneO h r.v with
          | none =>
            rw [hz] at ek
            cases ek
          | some z =>
            rw [hz] at ek
            injection ek with _ ek
            injection ek with _ ek
            injection ek with _ ek
            injection ek with _ ek
            injection ek with _ ek
            injection ek with ek _
            exact ek.symm
        subst e4
        refine ⟨rfl, ⟨_, rfl, t, _, 4, _, rfl, rfl, SqT.of ((sp.trans s4) _ _ h1), atI_nat (j := 4) rfl, _, hD4, ?_, ?_, ?_⟩⟩
        · rw [List.length_map, List.length_map, List.length_take, sizeLine_eq]
          omega
        · intro c o' e
          rw [upd_ne (ne_of_none e nD)]
          exact s4 _ _ e
        · rw [upd_same, List.take_add_one, er, List.map_append, List.map_append]
          rfl
      · rintro H4 ⟨s4, hD4⟩
        have hrl : zs.length = rs.length := Paired.length hrs
        rw [hrl, List.take_of_length_le (Nat.le_refl _)] at hD4
        exact q D H4 rs (s3.trans (sp.trans s4)) ((s3.trans sp).free nD) hD4 pl
abbrev s_ordered : Stmt := topS 13
theorem sc_ordered : FnScope ["history", "reasons"] ["history"] (defScope s_ordered) := ⟨rfl, rfl, rfl, by decide +kernel, rfl, by decide +kernel, by decide +kernel⟩
def spordered (K : PySem.W.Frag) : Sp := fun vs H Q _ => ∃ (v : V) (h : List HRow), vs = [v] ∧ Dp K H v (.list (h.map hD)) ∧ h.length ≤ 61 ∧ OneW h ∧
  (∀ (p : Addr) (H' : Hp) (E B W : List Reason) (x : Reason), Same H H' → Reas h E B W → (E ++ B ++ W)[0]? = some x → Dp K H' (.ref p) (reaD x) → Q (.ref p) H') ∧
  ∀ (p L : Addr) (H' : Hp) (rs : List HRow), Same H H' → H L = none → (∀ x, ¬ ShowsP h x) → H' L = some (.lst ((rs.map HRow.t).map V.int)) → Placed h rs → H' p = some (.tup [.str "order", .ref L]) → Q (.ref p) H'
theorem ok_ordered {f : Addr} {fd : FuncData} (F : Fun K "ordered" "ordered" s_ordered f fd) (gm : mg "ordered" = some (.ref f)) (N : Fre K mg) (c_order_of : C8.Cal P w K mg base 3 "order_of" (sporder_of K) []) (c_reasons_of : C8.Cal P w K mg base 3 "reasons_of" (spreasons_of K) []) : C8.Cal P w K mg base 4 "ordered" (spordered K) [] := by
  refine mkCal F gm sc_ordered (F.binds (ps := ["history"]) fun _ _ _ _ _ _ us hl => match us, hl with | [_], _ => rfl) (fun vs H Q E h => ?_) (fun cdv A outer s H vs Q E hr h => ?_)
  · obtain ⟨v, h, rfl, _⟩ := h
    rfl
  · obtain ⟨v, h, rfl, hv, hlen, one, q1, q2⟩ := h
    refine ⟨_, (pss_cons (ps_set (i := 1) sc_ordered.nd rfl (.inl rfl) (C8.pe_c c_reasons_of hr (by decide) rfl (pa_cons (pv 0) pa_nil)))
 (pss_cons (ps_if (pt_truth (pv 1) (by intro _; rfl))
 (pss_one (ps_ret (pe_ix ix_list (pv 1) pe_int (fun _ _ => rfl))))
 pss_nil)
 (pss_one (ps_ret (pe_tup (pa_cons pe_str (pa_cons (C8.pe_c c_order_of hr (by decide) rfl (pa_cons (pv 0) pa_nil)) pa_nil))))))), ?_⟩
    refine ⟨_, rfl, v, h, rfl, hv, hlen, one, fun p H1 ys E B W s1 np h1 a1 r1 l1 => ?_⟩
    have hl1 := dpAll_len a1
    rw [List.length_map] at hl1
    refine ⟨_, rfl, _, .inl ⟨_, SqL.of h1, rfl⟩, ?_⟩
    cases hE : E ++ B ++ W with
    | nil =>
      have hy0 : ys = [] := by
        rw [hE] at hl1
        exact List.eq_nil_of_length_eq_zero hl1
      rw [hy0]
      refine iteF ⟨_, rfl, v, h, rfl, dp_same s1 _ _ hv, hlen, fun L H2 rs s2 nL hL pl => ⟨two_ok _ _, fun t nt => ?_⟩⟩
      have no : ∀ x, ¬ ShowsP h x := fun x z => by
        have := (r1.shows x).mpr z
        rw [hE] at this
        cases this
      have st := same_upd (o := .tup [V.str "order", V.ref L]) nt
      exact q2 t L _ rs ((s1.trans s2).trans st) (s1.free nL) no (st _ _ hL) pl upd_same
    | cons x xs =>
      rw [hE] at a1
      cases a1 with
      | cons px pxs =>
        obtain ⟨p', us, e, _, _⟩ := dp_tuple px
        subst e
        refine iteT ⟨_, rfl, p, _, 0, _, rfl, rfl, SqL.of h1, atI_nat (j := 0) rfl, ?_⟩
        exact q1 p' H1 E B W x s1 r1 (by rw [hE]; rfl) px

/-! ### a history drawn -/
structure HGood (h : List HRow) : Prop where
  one : OneW h
  tn : (h.map (·.t)).Nodup
  rd : ∀ r ∈ h, r.wr = false → r.v = 0 ∨ ∃ w ∈ h, w.wr = true ∧ w.v = r.v
  tm : ∀ r ∈ h, 0 ≤ r.b ∧ r.b < r.e ∧ r.e ≤ 10000
  vb : ∀ r ∈ h, 0 ≤ r.v ∧ r.v ≤ 999 ∧ (r.wr = true → 1 ≤ r.v)
  tt : ∀ r ∈ h, 0 ≤ r.t ∧ r.t < 70
theorem HGood.perm {h h' : List HRow} (g : HGood h) (p : h.Perm h') : HGood h' := by
  have m : ∀ {r}, r ∈ h' → r ∈ h := fun hr => p.mem_iff.mpr hr
  refine ⟨fun r w hr hw => g.one r w (m hr) (m hw), (p.map (·.t)).nodup_iff.mp g.tn, fun r hr e => ?_, fun r hr => g.tm r (m hr), fun r hr => g.vb r (m hr), fun r hr => g.tt r (m hr)⟩
  rcases g.rd r (m hr) e with z | ⟨w, hw, z⟩
  · exact .inl z
  · exact .inr ⟨w, p.mem_iff.mp hw, z⟩
structure HInv (i : Nat) (vals : List Int) (rs : List HRow) (ns : List Int) : Prop where
  good : HGood rs
  len : rs.length = i
  nl : ns.length + i = 70
  nn : ns.Nodup
  nd : ∀ r ∈ rs, r.t ∉ ns
  nb : ∀ n ∈ ns, 0 ≤ n ∧ n < 70
  v0 : vals ≠ []
  vl : vals.length ≤ i + 1
  vv : ∀ v ∈ vals, v = 0 ∨ ∃ w ∈ rs, w.wr = true ∧ w.v = v
  wv : ∀ r ∈ rs, r.wr = true → ∃ j : Nat, j < i ∧ r.v = 1 + ((j : Int) * 100 + 11) % 999
theorem erase_sub {ns : List Int} {k : Nat} {n : Int} (h : n ∈ ns.eraseIdx k) : n ∈ ns := List.mem_of_mem_eraseIdx h
theorem erase_not {ns : List Int} {k : Nat} {n : Int} (nd : ns.Nodup) (e : ns[k]? = some n) : n ∉ ns.eraseIdx k := by
  intro h
  obtain ⟨hk, ek⟩ := List.getElem?_eq_some_iff.mp e
  have e1 : ns = ns.take k ++ n :: ns.drop (k + 1) := by rw [← ek, List.getElem_cons_drop, List.take_append_drop]
  rw [List.eraseIdx_eq_take_drop_succ] at h
  rw [e1] at nd
  rw [List.nodup_append] at nd
  obtain ⟨_, n2, n3⟩ := nd
  rcases List.mem_append.mp h with h | h
  · exact n3 n h n List.mem_cons_self rfl
  · exact (List.nodup_cons.mp n2).1 h
theorem HInv.step {i : Nat} {vals vals' : List Int} {rs : List HRow} {ns : List Int} {k : Nat} {r : HRow} (h : HInv i vals rs ns) (hk : ns[k]? = some r.t) (tm : 0 ≤ r.b ∧ r.b < r.e ∧ r.e ≤ 10000) (hi : i < 61)
    (hv : (r.wr = true ∧ r.v = 1 + ((i : Int) * 100 + 11) % 999 ∧ vals' = vals ++ [r.v]) ∨ (r.wr = false ∧ r.v ∈ vals ∧ vals' = vals)) : HInv (i + 1) vals' (rs ++ [r]) (ns.eraseIdx k) := by
  have hkl := (List.getElem?_eq_some_iff.mp hk).1
  have mn : r.t ∈ ns := List.mem_of_getElem? hk
  have new : r.wr = true → ∀ w ∈ rs, w.wr = true → w.v ≠ r.v := fun hw w hwm hww e => by
    rcases hv with ⟨_, ev, _⟩ | ⟨z, _⟩
    · obtain ⟨j, hj, ej⟩ := h.wv w hwm hww
      rw [ev, ej] at e
      omega
    · rw [hw] at z
      cases z
  have mem : ∀ {w : HRow}, w ∈ rs ++ [r] ↔ w ∈ rs ∨ w = r := fun {w} => by simp
  refine ⟨⟨fun x w hx hw x1 w1 e => ?_, ?_, fun x hx e => ?_, fun x hx => ?_, fun x hx => ?_, fun x hx => ?_⟩, ?_, ?_, ?_, fun x hx z => ?_, fun n hn => h.nb n (erase_sub hn), ?_, ?_, fun v hv' => ?_, fun x hx e => ?_⟩
  · rcases mem.mp hx with a | a
    · rcases mem.mp hw with c | c
      · exact h.good.one x w a c x1 w1 e
      · rw [c] at w1 e
        exact absurd e (new w1 x a x1)
    · rcases mem.mp hw with c | c
      · rw [a] at x1 e
        exact absurd e.symm (new x1 w c w1)
      · rw [a, c]
  · rw [List.map_append, List.nodup_append]
    refine ⟨h.good.tn, by simp, fun a ha c hc e => ?_⟩
    obtain ⟨w, hw, rfl⟩ := List.mem_map.mp ha
    have : c = r.t := by simpa using hc
    subst this
    exact h.nd w hw (e ▸ mn)
  · rcases mem.mp hx with hx | rfl
    · rcases h.good.rd x hx e with z | ⟨w, hw, z⟩
      · exact .inl z
      · exact .inr ⟨w, mem.mpr (.inl hw), z⟩
    · rcases hv with ⟨z, _⟩ | ⟨_, z, _⟩
      · rw [e] at z
        cases z
      · rcases h.vv _ z with z | ⟨w, hw, z⟩
        · exact .inl z
        · exact .inr ⟨w, mem.mpr (.inl hw), z⟩
  · rcases mem.mp hx with hx | rfl
    · exact h.good.tm x hx
    · exact tm
  · rcases mem.mp hx with hx | rfl
    · exact h.good.vb x hx
    · rcases hv with ⟨_, z, _⟩ | ⟨z0, z, _⟩
      · rw [z]
        omega
      · rcases h.vv _ z with z | ⟨w, hw, w1, w2⟩
        · exact ⟨by omega, by omega, fun z1 => by rw [z0] at z1; cases z1⟩
        · obtain ⟨b1, b2, _⟩ := h.good.vb w hw
          exact ⟨by omega, by omega, fun z1 => by rw [z0] at z1; cases z1⟩
  · rcases mem.mp hx with hx | rfl
    · exact h.good.tt x hx
    · exact h.nb _ mn
  · rw [List.length_append, h.len]
    rfl
  · have := h.nl
    rw [List.length_eraseIdx_of_lt hkl]
    omega
  · exact h.nn.sublist (List.eraseIdx_sublist _ _)
  · rcases mem.mp hx with hx | rfl
    · exact h.nd x hx (erase_sub z)
    · exact erase_not h.nn hk z
  · rcases hv with ⟨_, _, rfl⟩ | ⟨_, _, rfl⟩
    · simp
    · exact h.v0
  · have := h.vl
    rcases hv with ⟨_, _, rfl⟩ | ⟨_, _, rfl⟩
    · rw [List.length_append]
      show _ + 1 ≤ _
      omega
    · omega
  · rcases hv with ⟨z0, _, rfl⟩ | ⟨_, _, rfl⟩
    · rcases List.mem_append.mp hv' with hv' | hv'
      · rcases h.vv v hv' with z | ⟨w, hw, z⟩
        · exact .inl z
        · exact .inr ⟨w, mem.mpr (.inl hw), z⟩
      · rw [List.mem_singleton.mp hv']
        exact .inr ⟨r, mem.mpr (.inr rfl), z0, rfl⟩
    · rcases h.vv v hv' with z | ⟨w, hw, z⟩
      · exact .inl z
      · exact .inr ⟨w, mem.mpr (.inl hw), z⟩
  · rcases mem.mp hx with hx | rfl
    · obtain ⟨j, hj, ej⟩ := h.wv x hx e
      exact ⟨j, by omega, ej⟩
    · rcases hv with ⟨_, z, _⟩ | ⟨z, _⟩
      · exact ⟨i, by omega, z⟩
      · rw [e] at z
        cases z
theorem Bag.put {H : Hp} {b L : Addr} {o : HO} (g : Bag H b) (n : L ≠ b) : Bag (upd H L o) b := by
  obtain ⟨x, y, e, r⟩ := g
  exact ⟨x, y, by rw [upd_ne n.symm]; exact e, r⟩
theorem Bag.keep {H H' : Hp} {b : Addr} (g : Bag H b) (s : Same H H') : Bag H' b := by
  obtain ⟨x, y, e, r⟩ := g
  exact ⟨x, y, s _ _ e, r⟩
/-- a list of rows, as it stands -/
def HsAt (K : PySem.W.Frag) (H : Hp) (L : Addr) (rs : List HRow) : Prop := ∃ ys, H L = some (.lst ys) ∧ DpAll K H ys (rs.map hD)
theorem HsAt.same {H H' : Hp} {L : Addr} {rs : List HRow} (h : HsAt K H L rs) (s : Same H H') : HsAt K H' L rs := by
  obtain ⟨zs, h1, h2⟩ := h
  exact ⟨zs, s _ _ h1, dp_sameAll s _ _ h2⟩
theorem HsAt.but {H H' : Hp} {L b : Addr} {o : HO} {rs : List HRow} (h : HsAt K H L rs) (hb : H b = some o) (nf : ¬ Fix o) (n : L ≠ b) (s : But b H H') : HsAt K H' L rs := by
  obtain ⟨zs, h1, h2⟩ := h
  exact ⟨zs, s _ _ n h1, dp_ktAll (Kt.but s hb nf) _ _ (hs_imm _) h2⟩
theorem HsAt.bag {H H' : Hp} {L b : Addr} {rs : List HRow} (h : HsAt K H L rs) (g : Bag H b) (n : L ≠ b) (s : But b H H') : HsAt K H' L rs := by
  obtain ⟨x, y, e, _⟩ := g
  exact h.but e (fun z => z) n s
theorem HsAt.len {H : Hp} {L : Addr} {rs : List HRow} {ys : List V} (h : HsAt K H L rs) (e : H L = some (.lst ys)) : ys.length = rs.length := by
  obtain ⟨zs, h1, h2⟩ := h
  rw [e] at h1
  cases h1
  have := dpAll_len h2
  rwa [List.length_map] at this
theorem HsAt.dp {H : Hp} {L : Addr} {rs : List HRow} (h : HsAt K H L rs) : Dp K H (.ref L) (.list (rs.map hD)) := by
  obtain ⟨zs, h1, h2⟩ := h
  exact .lst (SqL.of h1) h2
theorem HsAt.app {H : Hp} {L p : Addr} {rs : List HRow} {r : HRow} {ys : List V} (h : HsAt K H L rs) (e : H L = some (.lst ys)) (hp : Dp K H (.ref p) (hD r)) : HsAt K (upd H L (.lst (ys ++ [.ref p]))) L (rs ++ [r]) := by
  obtain ⟨zs, h1, h2⟩ := h
  rw [e] at h1
  cases h1
  have ku := Kt.upd (o' := .lst (ys ++ [.ref p])) e (fun z => z)
  refine ⟨_, upd_same, ?_⟩
  rw [List.map_append]
  exact dpAll_append (dp_ktAll ku _ _ (hs_imm _) h2) (.cons (dp_kt ku _ _ (hD_imm r) hp) .nil)
structure L3 (K : PySem.W.Frag) (H : Hp) (b Lv Lr Ln : Addr) (vals : List Int) (rs : List HRow) (ns : List Int) : Prop where
  bag : Bag H b
  v : H Lv = some (.lst (vals.map V.int))
  r : HsAt K H Lr rs
  n : H Ln = some (.lst (ns.map V.int))
  d1 : Lv ≠ b
  d2 : Lr ≠ b
  d3 : Ln ≠ b
  d4 : Lv ≠ Lr
  d5 : Lv ≠ Ln
  d6 : Lr ≠ Ln
section
variable {H H' : Hp} {b Lv Lr Ln : Addr} {vals : List Int} {rs : List HRow} {ns : List Int}
theorem L3.but (h : L3 K H b Lv Lr Ln vals rs ns) (s : But b H H') (g : Bag H' b) : L3 K H' b Lv Lr Ln vals rs ns := ⟨g, s _ _ h.d1 h.v, h.r.bag h.bag h.d2 s, s _ _ h.d3 h.n, h.d1, h.d2, h.d3, h.d4, h.d5, h.d6⟩
theorem L3.same (h : L3 K H b Lv Lr Ln vals rs ns) (s : Same H H') : L3 K H' b Lv Lr Ln vals rs ns := ⟨h.bag.keep s, s _ _ h.v, h.r.same s, s _ _ h.n, h.d1, h.d2, h.d3, h.d4, h.d5, h.d6⟩
theorem L3.putV (h : L3 K H b Lv Lr Ln vals rs ns) (vals' : List Int) : L3 K (upd H Lv (.lst (vals'.map V.int))) b Lv Lr Ln vals' rs ns :=
  ⟨h.bag.put h.d1, upd_same, h.r.but h.v (fun z => z) h.d4.symm But.put, by rw [upd_ne h.d5.symm]; exact h.n, h.d1, h.d2, h.d3, h.d4, h.d5, h.d6⟩
theorem L3.putN (h : L3 K H b Lv Lr Ln vals rs ns) (ns' : List Int) : L3 K (upd H Ln (.lst (ns'.map V.int))) b Lv Lr Ln vals rs ns' :=
  ⟨h.bag.put h.d3, by rw [upd_ne h.d5]; exact h.v, h.r.but h.n (fun z => z) h.d6 But.put, upd_same, h.d1, h.d2, h.d3, h.d4, h.d5, h.d6⟩
theorem L3.putR (h : L3 K H b Lv Lr Ln vals rs ns) {ys : List V} {p : Addr} {r : HRow} (e : H Lr = some (.lst ys)) (hp : Dp K H (.ref p) (hD r)) : L3 K (upd H Lr (.lst (ys ++ [.ref p]))) b Lv Lr Ln vals (rs ++ [r]) ns :=
  ⟨h.bag.put h.d2, by rw [upd_ne h.d4]; exact h.v, h.r.app e hp, by rw [upd_ne h.d6.symm]; exact h.n, h.d1, h.d2, h.d3, h.d4, h.d5, h.d6⟩
end
theorem dpA_erase {H : Hp} : ∀ {vs : List V} {ds : List PyData} (n : Nat), DpAll K H vs ds → DpAll K H (vs.eraseIdx n) (ds.eraseIdx n)
  | _, _, 0, .nil => .nil
  | _, _, n + 1, .nil => .nil
  | _, _, 0, .cons h1 h2 => h2
  | _, _, n + 1, .cons h1 h2 => .cons h1 (dpA_erase n h2)
theorem _root_.List.eraseIdx_map' {α β : Type} (f : α → β) : ∀ (l : List α) (k : Nat), (l.map f).eraseIdx k = (l.eraseIdx k).map f
  | [], _ => rfl
  | _ :: _, 0 => rfl
  | a :: l, k + 1 => congrArg (f a :: ·) (List.eraseIdx_map' f l k)
theorem erase_perm {α : Type} {l : List α} {k : Nat} {r : α} (e : l[k]? = some r) : ([r] ++ l.eraseIdx k).Perm l := by
  obtain ⟨hk, ek⟩ := List.getElem?_eq_some_iff.mp e
  have e1 : l = l.take k ++ r :: l.drop (k + 1) := by rw [← ek, List.getElem_cons_drop, List.take_append_drop]
  rw [List.eraseIdx_eq_take_drop_succ]
  conv => rhs; rw [e1]
  exact (show (r :: (l.take k ++ l.drop (k + 1))).Perm _ from List.perm_middle.symm)
abbrev s__law_history : Stmt := topS 18
theorem sc__law_history : FnScope ["bag", "most", "many", "loose", "wild", "values", "rows", "numbers", "turn", "time", "start", "end", "number", "value", "left"] ["bag", "most"] (defScope s__law_history) := ⟨rfl, rfl, rfl, by decide +kernel, rfl, by decide +kernel, by decide +kernel⟩
def sp_law_history (K : PySem.W.Frag) : Sp := fun vs H Q _ => ∃ (b : Addr) (m : Int), vs = [.ref b, .int m] ∧ Bag H b ∧ 0 ≤ m ∧ m ≤ 60 ∧ ∀ (p : Addr) (H' : Hp) (h : List HRow), HGood h → (h.length : Int) ≤ m → H p = none → But b H H' → Bag H' b → HsAt K H' p h → Q (.ref p) H'
theorem ints_at {vals : List Int} {k : Nat} {v : Int} (e : vals[k]? = some v) : (vals.map V.int)[k]? = some (.int v) := by
  rw [List.getElem?_map, e]
  rfl
theorem erase_ints (ns : List Int) (k : Nat) : (ns.map V.int).eraseIdx k = (ns.eraseIdx k).map V.int := by
  exact L2.erase_mapI ns k
theorem seqIx {n k : Nat} (h : k < n) : seqIndex? ((k : Nat) : Int) n = some k := by
  unfold seqIndex?
  rw [if_neg (show ¬ ((k : Nat) : Int) < 0 by omega)]
  simp
  omega
theorem last_int {vals : List Int} (h : vals ≠ []) : ∃ v, v ∈ vals ∧ atI (vals.map V.int) (-1) = some (.int v) := by
  rcases List.eq_nil_or_concat vals with rfl | ⟨ys, y, rfl⟩
  · exact absurd rfl h
  rw [List.concat_eq_append]
  refine ⟨y, by simp, ?_⟩
  rw [List.map_append]
  exact last_at _ _
theorem ok__law_history {f : Addr} {fd : FuncData} (F : Fun K "_law_history" "_law_history" s__law_history f fd) (gm : mg "_law_history" = some (.ref f)) (N : Fre K mg) (c__law_take : C8.Cal P w K mg base 1 "_law_take" sp_law_take []) : C8.Cal P w K mg base 2 "_law_history" (sp_law_history K) [] := by
  refine mkCal F gm sc__law_history (F.binds (ps := ["bag", "most"]) fun _ _ _ _ _ _ us hl => match us, hl with | [_, _], _ => rfl) (fun vs H Q E h => ?_) (fun cdv A outer s H vs Q E hr h => ?_)
  · obtain ⟨b, m, rfl, _⟩ := h
    rfl
  · obtain ⟨b, m, rfl, hB, hm0, hm1, q⟩ := h
    refine ⟨_, (pss_cons (ps_set (i := 2) sc__law_history.nd rfl (.inl rfl) (C8.pe_c c__law_take hr (by decide) rfl (pa_cons (pv 0) (pa_cons (pe_op op_add (pv 1) pe_int) pa_nil))))
 (pss_cons (ps_set (i := 3) sc__law_history.nd rfl (.inl rfl) (pe_ix ix_list (pe_lst (pa_cons pe_int (pa_cons pe_int (pa_cons pe_int (pa_cons pe_int pa_nil))))) (C8.pe_c c__law_take hr (by decide) rfl (pa_cons (pv 0) (pa_cons pe_int pa_nil))) (fun _ _ => rfl)))
 (pss_cons (ps_set (i := 4) sc__law_history.nd rfl (.inl rfl) (C8.pe_c c__law_take hr (by decide) rfl (pa_cons (pv 0) (pa_cons pe_int pa_nil))))
 (pss_cons (ps_set (i := 5) sc__law_history.nd rfl (.inl rfl) (pe_lst (pa_cons pe_int pa_nil)))
 (pss_cons (ps_set (i := 6) sc__law_history.nd rfl (.inl rfl) (pe_lst pa_nil))
 (pss_cons (ps_set (i := 7) sc__law_history.nd rfl (.inl rfl) (pe_listRg rfl (by rfl) N.list (prg_1 (by rfl) N.range pe_int)))
 (pss_cons (ps_for PassesOwn.never rfl (pi_range1 (by rfl) N.range (pa_cons (pv 2) pa_nil)) (pg_name (i := 8) sc__law_history.nd rfl (.inl rfl))
 (pss_cons (ps_set (i := 9) sc__law_history.nd rfl (.inl rfl) (pe_op op_add (pe_op op_mul pe_int (pv 8)) pe_int))
 (pss_cons (ps_set (i := 10) sc__law_history.nd rfl (.inl rfl) (pe_callB (call_max2 rfl) (by rfl) N.max (by decide +kernel) (pa_cons pe_int (pa_cons (pe_op op_sub (pv 9) (C8.pe_c c__law_take hr (by decide) rfl (pa_cons (pv 0) (pa_cons (pe_op op_mul pe_int (pv 3)) pa_nil)))) pa_nil))))
 (pss_cons (ps_set (i := 11) sc__law_history.nd rfl (.inl rfl) (pe_op op_add (pe_op op_add (pv 9) pe_int) (C8.pe_c c__law_take hr (by decide) rfl (pa_cons (pv 0) (pa_cons (pe_op op_mul pe_int (pv 3)) pa_nil)))))
 (pss_cons (ps_set (i := 12) sc__law_history.nd rfl (.inl rfl) (pe_bm PySem.F.plainAttrs_list PySem.F.slot_list_pop PySem.F.type_list_pop mt_popAt (pv 7) (pa_cons (C8.pe_c c__law_take hr (by decide) rfl (pa_cons (pv 0) (pa_cons (pe_callB call_len_seq (by rfl) N.len (by decide +kernel) (pa_cons (pv 7) pa_nil)) pa_nil))) pa_nil)))
 (pss_one (ps_if (pt_cmpR op_eq (C8.pe_c c__law_take hr (by decide) rfl (pa_cons (pv 0) (pa_cons pe_int pa_nil))) pe_int (nomark _))
 (pss_cons (ps_expr (pe_bm PySem.F.plainAttrs_list PySem.F.slot_list_append PySem.F.type_list_append mt_append (pv 5) (pa_cons (pe_op op_add pe_int (pe_op op_mod (pe_op op_add (pe_op op_mul (pv 8) pe_int) pe_int) pe_int)) pa_nil)))
 (pss_one (ps_expr (pe_bm PySem.F.plainAttrs_list PySem.F.slot_list_append PySem.F.type_list_append mt_append (pv 6) (pa_cons (pe_tup (pa_cons (pv 12) (pa_cons pe_str (pa_cons (pe_ix ix_list (pv 5) (pe_un un_neg pe_int) (fun _ _ => rfl)) (pa_cons (pv 10) (pa_cons (pv 11) pa_nil)))))) pa_nil)))))
 (pss_cons (ps_set (i := 13) sc__law_history.nd rfl (.inl rfl) (pe_ix ix_list (pv 5) (pe_un un_neg pe_int) (fun _ _ => rfl)))
 (C8.pss_cut (ps_if (PW.pt (pw_and (pt_cmpR op_eq (pv 4) pe_int (nomark _)) (pw_and1 (pt_cmpR op_eq (C8.pe_c c__law_take hr (by decide) rfl (pa_cons (pv 0) (pa_cons pe_int pa_nil))) pe_int (nomark _)))))
 (pss_one (ps_set (i := 13) sc__law_history.nd rfl (.inl rfl) (pe_ix ix_list (pv 5) (C8.pe_c c__law_take hr (by decide) rfl (pa_cons (pv 0) (pa_cons (pe_callB call_len_seq (by rfl) N.len (by decide +kernel) (pa_cons (pv 5) pa_nil)) pa_nil))) (fun _ _ => rfl))))
 pss_nil)
 (pss_one (ps_expr (pe_bm PySem.F.plainAttrs_list PySem.F.slot_list_append PySem.F.type_list_append mt_append (pv 6) (pa_cons (pe_tup (pa_cons (pv 12) (pa_cons pe_str (pa_cons (pv 13) (pa_cons (pv 10) (pa_cons (pv 11) pa_nil)))))) pa_nil)))))))))))))
 (pss_cons (ps_set (i := 14) sc__law_history.nd rfl (.inl rfl) (pe_callTy call_list_of (by rfl) N.list (by decide +kernel) (pa_cons (pv 6) pa_nil)))
 (pss_cons (ps_set (i := 6) sc__law_history.nd rfl (.inl rfl) (pe_lst pa_nil))
 (pss_cons (ps_while PassesOwn.never (pt_cmpR (op_neNil (hu0 hr)) (pv 14) (pe_lst pa_nil) (nomark _))
 (pss_one (ps_expr (pe_bm PySem.F.plainAttrs_list PySem.F.slot_list_append PySem.F.type_list_append mt_append (pv 6) (pa_cons (pe_bm PySem.F.plainAttrs_list PySem.F.slot_list_pop PySem.F.type_list_pop mt_popAt (pv 14) (pa_cons (C8.pe_c c__law_take hr (by decide) rfl (pa_cons (pv 0) (pa_cons (pe_callB call_len_seq (by rfl) N.len (by decide +kernel) (pa_cons (pv 14) pa_nil)) pa_nil))) pa_nil)) pa_nil)))))
 (pss_one (ps_ret (pv 6))))))))))))), ?_⟩
    -- many, loose, wild
    refine ⟨_, rfl, _, rfl, m, 1, rfl, rfl, b, _, rfl, hB, by omega, by omega, fun many H1 mn0 mn1 B1 G1 => ?_⟩
    refine ⟨four_ok _ _ _ _, fun L nL => ?_⟩
    refine ⟨_, rfl, b, 4, rfl, G1.new nL, by decide, by decide, fun i H2 i0 i1 B2 G2 => ?_⟩
    obtain ⟨loose, hlo, elo⟩ := pickInt [1, 3, 8, 40] i0 (by show i < 4; exact i1)
    have hL : H2 L = some (.lst ([1, 3, 8, 40].map V.int)) := B2 _ _ (G1.ne nL) upd_same
    refine ⟨L, _, i, _, rfl, rfl, SqL.of hL, elo, ?_⟩
    have hlo2 : 1 ≤ loose ∧ loose ≤ 40 := by
      simp only [List.mem_cons, List.not_mem_nil, or_false] at hlo
      omega
    have b2 : But b H H2 := B1.trans ((But.new nL).trans B2)
    clear hL B1 B2 nL elo hlo G1
    refine ⟨_, rfl, b, 4, rfl, G2, by decide, by decide, fun wild H3 w0 w1 B3 G3 => ?_⟩
    have b3 := b2.trans B3
    -- values, rows, numbers
    refine ⟨(by show 1 ≤ sizeLine; decide), fun Lv nLv => ⟨Nat.zero_le _, fun Lr nLr => ⟨70, rfl, ⟨by decide, by decide, by decide, by decide, by decide⟩, fun Ln nLn => ?_⟩⟩⟩
    have sv := same_upd (o := .lst [V.int 0]) nLv
    have sr := same_upd (o := .lst []) nLr
    have sn := same_upd (o := .lst (rgV 0 70)) nLn
    have hv0 := upd_same (H := H3) (a := Lv) (o := .lst [V.int 0])
    have hr0 := upd_same (H := upd H3 Lv (.lst [V.int 0])) (a := Lr) (o := .lst [])
    have l0 : L3 K (upd (upd (upd H3 Lv (.lst [V.int 0])) Lr (.lst [])) Ln (.lst (rgV 0 70))) b Lv Lr Ln [0] [] ((List.range 70).map fun (i : Nat) => (i : Int)) := by
      refine ⟨((G3.new nLv).new nLr).new nLn, sn _ _ (sr _ _ hv0), ⟨[], sn _ _ hr0, .nil⟩, ?_, G3.ne nLv, (G3.new nLv).ne nLr, ((G3.new nLv).new nLr).ne nLn, ne_of_none hv0 nLr, ne_of_none (sr _ _ hv0) nLn, ne_of_none hr0 nLn⟩
      rw [upd_same, List.map_map]
      unfold rgV
      rw [show ((70 : Int) - 0).toNat = 70 from rfl]
      have e : (List.range 70).map (fun (i : Nat) => V.int (0 + (i : Int))) = (List.range 70).map (V.int ∘ fun (i : Nat) => (i : Int)) := List.map_congr_left fun i _ => by
        show V.int (0 + (i : Int)) = V.int (i : Int)
        rw [Int.zero_add]
      rw [e]
    have nLv0 : H Lv = none := free_of b3 hB G3 nLv
    have b4 : But b H (upd H3 Lv (.lst [V.int 0])) := b3.trans (But.new nLv)
    have nLr0 : H Lr = none := free_of b4 hB (G3.new nLv) nLr
    have b5 : But b H (upd (upd H3 Lv (.lst [V.int 0])) Lr (.lst [])) := b4.trans (But.new nLr)
    have nLn0 : H Ln = none := free_of b5 hB ((G3.new nLv).new nLr) nLn
    have b6 := b5.trans (But.new (o := .lst (rgV 0 70)) nLn)
    have i0' : HInv 0 [0] [] ((List.range 70).map fun (i : Nat) => (i : Int)) := by
      refine ⟨⟨(fun r w hr => by cases hr), by simp, (fun r hr => by cases hr), (fun r hr => by cases hr), (fun r hr => by cases hr), (fun r hr => by cases hr)⟩, rfl, by simp, ?_, (fun r hr => by cases hr), fun n hn => ?_, by simp, Nat.le_refl _, fun v hv => .inl (by simpa using hv), (fun r hr => by cases hr)⟩
      · exact List.pairwise_map.mpr (List.Pairwise.imp (fun h e => h (by omega)) List.nodup_range)
      · obtain ⟨j, hj, rfl⟩ := List.mem_map.mp hn
        have := List.mem_range.mp hj
        omega
    revert l0 b6
    generalize upd (upd (upd H3 Lv (.lst [V.int 0])) Lr (.lst [])) Ln (.lst (rgV 0 70)) = H6
    intro l0 b6
    clear sv sr sn hv0 hr0 b4 b5
    -- turns
    refine ⟨_, rfl, many, rfl, by omega, by omega, for_range (fun i σ H' => (∃ y8 y9 y10 y11 y12 y13 y14, σ = [some (.ref b), some (.int m), some (.int many), some (.int loose), some (.int wild), some (.ref Lv), some (.ref Lr), some (.ref Ln), y8, y9, y10, y11, y12, y13, y14]) ∧ But b H H' ∧ ∃ vals rs ns, L3 K H' b Lv Lr Ln vals rs ns ∧ HInv i vals rs ns) ⟨⟨_, _, _, _, _, _, _, rfl⟩, b6, _, _, _, l0, i0'⟩ ?_ ?_⟩
    · rintro i σ Ha hi ⟨⟨y8, y9, y10, y11, y12, y13, y14, rfl⟩, ba, vals, rs, ns, la, inv⟩
      have hi60 : i < 60 := by omega
      -- time
      refine ⟨_, rfl, 10, _, rfl, rfl, .inl ⟨by decide, by decide⟩, _, 1, rfl, rfl, ?_⟩
      -- start
      refine ⟨_, rfl, _, rfl, _, rfl, 10, loose, rfl, rfl, .inl ⟨by decide, by decide⟩, b, _, rfl, la.bag, by omega, by omega, fun x Hb x0 x1 Bb Gb => ⟨_, x, rfl, rfl, 0, _, rfl, ?_⟩⟩
      have hst : 0 ≤ (if 10 * (0 + (i : Int)) + 1 - x > 0 then 10 * (0 + (i : Int)) + 1 - x else 0) ∧ (if 10 * (0 + (i : Int)) + 1 - x > 0 then 10 * (0 + (i : Int)) + 1 - x else 0) ≤ 10 * (0 + (i : Int)) + 1 := by
        split <;> omega
      generalize (if 10 * (0 + (i : Int)) + 1 - x > 0 then 10 * (0 + (i : Int)) + 1 - x else 0) = start at hst ⊢
      have lb := la.but Bb Gb
      -- end
      refine ⟨_, rfl, _, 1, rfl, rfl, _, rfl, _, rfl, 10, loose, rfl, rfl, .inl ⟨by decide, by decide⟩, b, _, rfl, Gb, by omega, by omega, fun y Hc e0 e1 Bc Gc => ⟨_, y, rfl, rfl, ?_⟩⟩
      have lc := lb.but Bc Gc
      have bc := ba.trans (Bb.trans Bc)
      have hnl := inv.nl
      -- number
      refine ⟨_, rfl, .inl ⟨rfl, _, SqL.of lc.n⟩, _, rfl, _, rfl, Ln, _, rfl, .inl (SqL.of lc.n), b, _, rfl, Gc, by rw [List.length_map]; omega, by rw [List.length_map]; omega, fun k Hd k0 k1 Bd Gd => ?_⟩
      rw [List.length_map] at k1
      obtain ⟨kk, hkk, rfl, n, hn, _⟩ := pickAt (xs := ns) k0 k1
      have ld := lc.but Bd Gd
      refine ⟨Ln, _, _, kk, _, rfl, rfl, ld.n, by omega, by omega, seqIx (by rw [List.length_map]; exact hkk), ints_at hn, ?_⟩
      rw [erase_ints]
      have le := ld.putN (ns.eraseIdx kk)
      have be : But b H (upd Hd Ln (.lst ((ns.eraseIdx kk).map V.int))) := fun c o ne e => by
        rw [upd_ne (ne_of_none e nLn0)]
        exact Bd _ _ ne (bc _ _ ne e)
      revert le be
      generalize upd Hd Ln (.lst ((ns.eraseIdx kk).map V.int)) = He
      intro le be
      have tm : 0 ≤ start ∧ start < 10 * (0 + (i : Int)) + 1 + 1 + y ∧ 10 * (0 + (i : Int)) + 1 + 1 + y ≤ 10000 := ⟨hst.1, by omega, by omega⟩
      -- which
      refine ⟨_, rfl, b, 2, rfl, le.bag, by decide, by decide, fun z Hf z0 z1 Bf Gf => ⟨rfl, _, rfl, ite2 (fun e => ?_) (fun e => ?_)⟩⟩
      · have lf := le.but Bf Gf
        have bf := be.trans Bf
        refine ⟨_, rfl, .inl ⟨rfl, _, SqL.of lf.v⟩, _, rfl, _, 100, rfl, rfl, .inr ⟨by decide, by decide⟩, _, 11, rfl, rfl, _, 999, rfl, rfl, (by show (0 : Int) < 999; decide), 1, _, rfl, rfl, Lv, _, _, rfl, rfl, lf.v, ?_, ?_⟩
        · have := inv.vl
          rw [List.length_map, sizeLine_eq]
          omega
        have e9 : vals.map V.int ++ [V.int (1 + ((0 + (i : Int)) * 100 + 11) % 999)] = (vals ++ [1 + ((0 + (i : Int)) * 100 + 11) % 999]).map V.int := by simp
        rw [e9]
        have lg := lf.putV (vals ++ [1 + ((0 + (i : Int)) * 100 + 11) % 999])
        have bg : But b H (upd Hf Lv (.lst ((vals ++ [1 + ((0 + (i : Int)) * 100 + 11) % 999]).map V.int))) := fun c o ne e => by
          rw [upd_ne (ne_of_none e nLv0)]
          exact bf _ _ ne e
        revert lg bg
        generalize upd Hf Lv (.lst ((vals ++ [1 + ((0 + (i : Int)) * 100 + 11) % 999]).map V.int)) = Hg
        intro lg bg
        obtain ⟨ys, hys, _⟩ := lg.r
        have hyl := lg.r.len hys
        have hrl := inv.len
        refine ⟨_, rfl, .inl ⟨rfl, _, SqL.of hys⟩, _, rfl, _, rfl, 1, rfl, Lv, _, _, _, rfl, rfl, SqL.of lg.v, by rw [List.map_append]; exact last_at _ _, _, rfl, _, rfl, (by show 5 ≤ sizeLine; decide), fun t nt => ?_⟩
        have lh := lg.same (same_upd (o := .tup [V.int n, V.str "write", V.int (1 + ((0 + (i : Int)) * 100 + 11) % 999), V.int start, V.int (10 * (0 + (i : Int)) + 1 + 1 + y)]) nt)
        have hys' := same_upd (o := .tup [V.int n, V.str "write", V.int (1 + ((0 + (i : Int)) * 100 + 11) % 999), V.int start, V.int (10 * (0 + (i : Int)) + 1 + 1 + y)]) nt _ _ hys
        refine ⟨Lr, ys, _, rfl, rfl, hys', by rw [sizeLine_eq]; omega, ⟨_, _, _, _, _, _, _, rfl⟩, ?_, _, _, _, lh.putR (r := ⟨n, true, 1 + ((0 + (i : Int)) * 100 + 11) % 999, start, 10 * (0 + (i : Int)) + 1 + 1 + y⟩) hys' (h_dp (SqT.of upd_same)), inv.step hn tm (by omega) (.inl ⟨rfl, by show 1 + ((0 + (i : Int)) * 100 + 11) % 999 = _; rw [Int.zero_add], rfl⟩)⟩
        intro c o ne e
        rw [upd_ne (ne_of_none e nLr0)]
        exact same_upd nt _ _ (bg _ _ ne e)
      · have lf := le.but Bf Gf
        have bf := be.trans Bf
        obtain ⟨v0, hv0, ev0⟩ := last_int inv.v0
        refine ⟨_, rfl, 1, rfl, Lv, _, _, _, rfl, rfl, SqL.of lf.v, ev0, ?_⟩
        refine ⟨fun σ' H' => (∃ v, v ∈ vals ∧ σ' = [some (.ref b), some (.int m), some (.int many), some (.int loose), some (.int wild), some (.ref Lv), some (.ref Lr), some (.ref Ln), some (.int (0 + (i : Int))), some (.int (10 * (0 + (i : Int)) + 1)), some (.int start), some (.int (10 * (0 + (i : Int)) + 1 + 1 + y)), some (.int n), some (.int v), y14]) ∧ But b H H' ∧ L3 K H' b Lv Lr Ln vals rs (ns.eraseIdx kk), ?_, ?_⟩
        · refine ⟨_, rfl, rfl, _, rfl, ite2 (fun e2 => ?_) (fun e2 => ?_)⟩
          · refine ⟨_, rfl, b, 2, rfl, lf.bag, by decide, by decide, fun u Hg u0 u1 Bg Gg => ⟨rfl, _, rfl, ite2 (fun e3 => ?_) (fun e3 => ?_)⟩⟩
            · have lg := lf.but Bg Gg
              have hvl : 0 < vals.length := List.length_pos_iff.mpr inv.v0
              have := inv.vl
              refine ⟨_, rfl, _, rfl, _, rfl, Lv, _, rfl, .inl (SqL.of lg.v), b, _, rfl, Gg, by rw [List.length_map]; omega, by rw [List.length_map]; omega, fun j Hh j0 j1 Bh Gh => ?_⟩
              rw [List.length_map] at j1
              obtain ⟨v1, hv1, ev1⟩ := pickInt vals j0 j1
              have lh := lg.but Bh Gh
              exact ⟨Lv, _, _, _, rfl, rfl, SqL.of lh.v, ev1, ⟨v1, hv1, rfl⟩, bf.trans (Bg.trans Bh), lh⟩
            · exact ⟨⟨v0, hv0, rfl⟩, bf.trans Bg, lf.but Bg Gg⟩
          · exact iteF ⟨⟨v0, hv0, rfl⟩, bf, lf⟩
        · rintro σ' Hg ⟨⟨v, hv, rfl⟩, bg, lg⟩
          obtain ⟨ys, hys, _⟩ := lg.r
          have hyl := lg.r.len hys
          have hrl := inv.len
          refine ⟨_, rfl, .inl ⟨rfl, _, SqL.of hys⟩, _, rfl, _, rfl, _, rfl, _, rfl, (by show 5 ≤ sizeLine; decide), fun t nt => ?_⟩
          have lh := lg.same (same_upd (o := .tup [V.int n, V.str "read", V.int v, V.int start, V.int (10 * (0 + (i : Int)) + 1 + 1 + y)]) nt)
          have hys' := same_upd (o := .tup [V.int n, V.str "read", V.int v, V.int start, V.int (10 * (0 + (i : Int)) + 1 + 1 + y)]) nt _ _ hys
          refine ⟨Lr, ys, _, rfl, rfl, hys', by rw [sizeLine_eq]; omega, ⟨_, _, _, _, _, _, _, rfl⟩, ?_, _, _, _, lh.putR (r := ⟨n, false, v, start, 10 * (0 + (i : Int)) + 1 + 1 + y⟩) hys' (h_dp (SqT.of upd_same)), inv.step hn tm (by omega) (.inr ⟨rfl, hv, rfl⟩)⟩
          intro c o ne e
          rw [upd_ne (ne_of_none e nLr0)]
          exact same_upd nt _ _ (bg _ _ ne e)
    · rintro σ Ha ⟨⟨y8, y9, y10, y11, y12, y13, y14, rfl⟩, ba, vals, rs, ns, la, inv⟩
      obtain ⟨ys, hys, hya⟩ := la.r
      have hyl := la.r.len hys
      have hrl := inv.len
      -- left, rows
      refine ⟨_, rfl, Lr, _, rfl, .inl (SqL.of hys), fun Lf nLf => ⟨Nat.zero_le _, fun Lq nLq => ?_⟩⟩
      have sf := same_upd (o := .lst ys) nLf
      have sq := same_upd (o := .lst []) nLq
      have Gq := (la.bag.new (o := .lst ys) nLf).new (o := .lst []) nLq
      have bq := (ba.trans (But.new (o := .lst ys) nLf)).trans (But.new (o := .lst []) nLq)
      have hLf := sq _ _ (upd_same (H := Ha) (a := Lf) (o := .lst ys))
      have hLq := upd_same (H := upd Ha Lf (.lst ys)) (a := Lq) (o := .lst [])
      have gf : HsAt K _ Lf rs := ⟨ys, hLf, dp_sameAll (sf.trans sq) _ _ hya⟩
      have nLq0 : H Lq = none := free_of (ba.trans (But.new (o := .lst ys) nLf)) hB (la.bag.new nLf) nLq
      have nLf0 : H Lf = none := free_of ba hB la.bag nLf
      have Lfb : Lf ≠ b := la.bag.ne nLf
      have Lqb : Lq ≠ b := (la.bag.new (o := .lst ys) nLf).ne nLq
      have Lfq : Lf ≠ Lq := ne_of_none (upd_same (H := Ha) (a := Lf) (o := .lst ys)) nLq
      revert Gq bq hLq gf
      generalize upd (upd Ha Lf (.lst ys)) Lq (.lst []) = Hq
      intro Gq bq hLq gf
      refine ⟨fun mm σ H' => (∃ s8 s9 s10 s11 s12 s13, σ = [some (.ref b), some (.int m), some (.int many), some (.int loose), some (.int wild), some (.ref Lv), some (.ref Lq), some (.ref Ln), s8, s9, s10, s11, s12, s13, some (.ref Lf)]) ∧ But b H H' ∧ Bag H' b ∧ ∃ left hs, left.length = mm ∧ HsAt K H' Lf left ∧ HsAt K H' Lq hs ∧ (hs ++ left).Perm rs, ⟨_, ⟨_, _, _, _, _, _, rfl⟩, bq, Gq, rs, [], rfl, gf, ⟨[], hLq, .nil⟩, List.Perm.refl _⟩, ?_⟩
      rintro mm σ H' ⟨⟨s8, s9, s10, s11, s12, s13, rfl⟩, b', G', left, hs, hml, gl, gh, pm⟩
      refine ⟨_, rfl, Nat.zero_le _, fun e ne => ?_⟩
      have se := same_upd (o := .lst []) ne
      obtain ⟨zs, hzs, hza⟩ := gl.same se
      have hzl := (gl.same se).len hzs
      refine ⟨Lf, e, _, rfl, rfl, SqL.of hzs, SqL.of upd_same, _, rfl, ?_⟩
      have be : But b H (upd H' e (.lst [])) := b'.trans (But.new ne)
      have Ge := G'.new (o := .lst []) ne
      have ghe := gh.same se
      revert hzs hza be Ge ghe
      generalize upd H' e (.lst []) = Hx
      intro hzs hza be Ge ghe
      have pl := pm.length_eq
      rw [List.length_append] at pl
      cases hze : zs with
      | nil =>
        have hl0 : left = [] := by
          rw [hze] at hzl
          exact List.eq_nil_of_length_eq_zero hzl.symm
        rw [hl0, List.append_nil] at pm
        refine iteF ⟨_, rfl, q Lq Hx hs (inv.good.perm pm.symm) ?_ nLq0 be Ge ghe⟩
        rw [hl0] at pl
        simp only [List.length_nil] at pl
        omega
      | cons z0 zs0 =>
        have hpos : 0 < zs.length := by rw [hze]; exact Nat.succ_pos _
        refine iteT ⟨fun σ' H'' => (∃ s8 s9 s10 s11 s12 s13, σ' = [some (.ref b), some (.int m), some (.int many), some (.int loose), some (.int wild), some (.ref Lv), some (.ref Lq), some (.ref Ln), s8, s9, s10, s11, s12, s13, some (.ref Lf)]) ∧ But b H H'' ∧ Bag H'' b ∧ ∃ left' hs', left'.length + 1 = left.length ∧ HsAt K H'' Lf left' ∧ HsAt K H'' Lq hs' ∧ (hs' ++ left').Perm rs, fun σ' H'' ⟨w1, w2, w3, left', hs', w4, w5, w6, w7⟩ => ⟨left'.length, by omega, w1, w2, w3, left', hs', rfl, w5, w6, w7⟩, ?_⟩
        obtain ⟨us, hus, hua⟩ := ghe
        have hul := HsAt.len ⟨us, hus, hua⟩ hus
        refine ⟨_, rfl, .inl ⟨rfl, _, SqL.of hus⟩, _, rfl, .inl ⟨rfl, _, SqL.of hzs⟩, _, rfl, _, rfl, Lf, _, rfl, .inl (SqL.of hzs), b, _, rfl, Ge, by omega, by omega, fun k Hk k0 k1 Bk Gk => ?_⟩
        obtain ⟨kk, hkk, rfl, y, hy, _⟩ := pickAt (xs := zs) k0 k1
        obtain ⟨d, ed, pd⟩ := dpAll_get hza hy
        rw [List.getElem?_map] at ed
        obtain ⟨r, er, rfl⟩ := Option.map_eq_some_iff.mp ed
        have kb := Kt.bag Bk Ge
        obtain ⟨p, rfl, hp⟩ := dp_h (dp_kt kb _ _ (hD_imm r) pd)
        have hzk := Bk _ _ Lfb hzs
        have huk := Bk _ _ Lqb hus
        have k1' := Kt.upd (o' := .lst (zs.eraseIdx kk)) hzk (fun z => z)
        have hu2 : upd Hk Lf (.lst (zs.eraseIdx kk)) Lq = some (.lst us) := by rw [upd_ne Lfq.symm]; exact huk
        have k2' := Kt.upd (o' := .lst (us ++ [.ref p])) hu2 (fun z => z)
        refine ⟨Lf, zs, _, kk, _, rfl, rfl, hzk, by omega, by omega, seqIx hkk, hy, Lq, us, _, rfl, rfl, hu2, by rw [sizeLine_eq]; omega, ⟨_, _, _, _, _, _, rfl⟩, ?_, (Gk.put Lfb).put Lqb, left.eraseIdx kk, hs ++ [r], ?_, ⟨zs.eraseIdx kk, ?_, ?_⟩, ⟨us ++ [.ref p], upd_same, ?_⟩, ?_⟩
        · intro c o ne2 e2
          rw [upd_ne (ne_of_none e2 nLq0), upd_ne (ne_of_none e2 nLf0)]
          exact Bk _ _ ne2 (be _ _ ne2 e2)
        · rw [List.length_eraseIdx_of_lt (by omega)]
          omega
        · rw [upd_ne Lfq]
          exact upd_same
        · refine dp_ktAll ((kb.trans k1').trans k2') _ _ (hs_imm _) ?_
          rw [← List.eraseIdx_map']
          exact dpA_erase kk hza
        · rw [List.map_append]
          exact dpAll_append (dp_ktAll ((kb.trans k1').trans k2') _ _ (hs_imm _) hua) (.cons (h_dp (sqT_kt (k1'.trans k2') hp)) .nil)
        · refine List.Perm.trans ?_ pm
          rw [List.append_assoc]
          exact List.Perm.append_left hs (erase_perm er)

/-! ### orders: the mathematics -/
theorem pw_get {α : Type} {R : α → α → Prop} : ∀ {l : List α} {i j : Nat} {x y : α}, l.Pairwise R → l[i]? = some x → l[j]? = some y → i < j → R x y
  | a :: l, 0, j + 1, x, y, p, hi, hj, _ => by
    cases hi
    exact (List.pairwise_cons.mp p).1 y (List.mem_of_getElem? (by simpa using hj))
  | a :: l, i + 1, j + 1, x, y, p, hi, hj, lt => pw_get (List.pairwise_cons.mp p).2 (by simpa using hi) (by simpa using hj) (by omega)
  | a :: l, i, 0, x, y, p, hi, hj, lt => absurd lt (Nat.not_lt_zero _)
  | [], i, j, x, y, p, hi, hj, lt => by simp at hi
def NoBack (o : List HRow) : Prop := o.Pairwise fun x y => ¬ y.e < x.b
def seesL : Int → List HRow → Prop
  | _, [] => True
  | last, r :: rs => (r.wr = true ∨ r.v = last) ∧ seesL r.v rs
def SomeO (left : List HRow) (last : Int) : Prop := ∃ o, o.Perm left ∧ NoBack o ∧ seesL last o
/-- what is asked of a history for orders -/
structure HMid (h : List HRow) : Prop where
  one : OneW h
  tn : (h.map (·.t)).Nodup
  rd : ∀ r ∈ h, r.wr = false → r.v = 0 ∨ ∃ w ∈ h, w.wr = true ∧ w.v = r.v
  tm : ∀ r ∈ h, 0 ≤ r.b ∧ r.b < r.e
  vb : ∀ r ∈ h, r.wr = true → 1 ≤ r.v
theorem HGood.mid {h : List HRow} (g : HGood h) : HMid h := ⟨g.one, g.tn, g.rd, fun r hr => ⟨(g.tm r hr).1, (g.tm r hr).2.1⟩, fun r hr => (g.vb r hr).2.2⟩
theorem sees_step : ∀ {o : List HRow} {last : Int} {i : Nat} {r : HRow}, seesL last o → o[i]? = some r → r.wr = false → (i = 0 ∧ r.v = last) ∨ ∃ j p, i = j + 1 ∧ o[j]? = some p ∧ p.v = r.v
  | x :: xs, last, 0, r, s, e, hw => by
    cases e
    rcases s.1 with z | z
    · rw [hw] at z
      cases z
    · exact .inl ⟨rfl, z⟩
  | x :: xs, last, i + 1, r, s, e, hw => by
    have e' : xs[i]? = some r := by simpa using e
    rcases sees_step s.2 e' hw with ⟨rfl, z⟩ | ⟨j, p, rfl, hp, z⟩
    · exact .inr ⟨0, x, rfl, rfl, z.symm⟩
    · exact .inr ⟨j + 1, p, rfl, by simpa using hp, z⟩
  | [], _, _, _, _, e, _ => by simp at e
theorem sees_of : ∀ {o : List HRow} {last : Int}, (∀ (i : Nat) (r : HRow), o[i]? = some r → r.wr = false → (i = 0 ∧ r.v = last) ∨ ∃ j p, i = j + 1 ∧ o[j]? = some p ∧ p.v = r.v) → seesL last o
  | [], _, _ => trivial
  | x :: xs, last, h => by
    refine ⟨?_, sees_of fun i r e hw => ?_⟩
    · cases hx : x.wr with
      | true => exact .inl rfl
      | false =>
        rcases h 0 x rfl hx with ⟨_, z⟩ | ⟨j, p, z, _⟩
        · exact .inr z
        · cases z
    · rcases h (i + 1) r (by simpa using e) hw with ⟨z, _⟩ | ⟨j, p, z, hp, ev⟩
      · cases z
      · have : j = i := by omega
        subst this
        cases j with
        | zero =>
          cases hp
          exact .inl ⟨rfl, ev.symm⟩
        | succ j => exact .inr ⟨j, p, rfl, by simpa using hp, ev⟩
section
variable {h o : List HRow}
/-- where a value other than 0 comes from -/
theorem sees_src (s : seesL 0 o) : ∀ {i : Nat} {r : HRow}, o[i]? = some r → r.v ≠ 0 → ∃ k w, k ≤ i ∧ o[k]? = some w ∧ w.wr = true ∧ w.v = r.v := by
  intro i
  induction i with
  | zero =>
    intro r e hv
    cases hw : r.wr with
    | true => exact ⟨0, r, Nat.le_refl _, e, hw, rfl⟩
    | false =>
      rcases sees_step s e hw with ⟨_, z⟩ | ⟨j, p, z, _⟩
      · exact absurd z hv
      · cases z
  | succ i ih =>
    intro r e hv
    cases hw : r.wr with
    | true => exact ⟨i + 1, r, Nat.le_refl _, e, hw, rfl⟩
    | false =>
      rcases sees_step s e hw with ⟨z, _⟩ | ⟨j, p, z, hp, ev⟩
      · cases z
      · have : j = i := by omega
        subst this
        obtain ⟨k, w, hk, ek, w1, w2⟩ := ih hp (by rw [ev]; exact hv)
        exact ⟨k, w, by omega, ek, w1, w2.trans ev⟩
/-- going back from a place to one with another value there is a write of the value -/
theorem sees_back (s : seesL 0 o) : ∀ {d i : Nat} {x y : HRow}, o[i]? = some x → o[i + d]? = some y → x.v ≠ y.v → ∃ k w, i < k ∧ k ≤ i + d ∧ o[k]? = some w ∧ w.wr = true ∧ w.v = y.v := by
  intro d
  induction d with
  | zero =>
    intro i x y ex ey ne
    rw [Nat.add_zero, ex] at ey
    cases ey
    exact absurd rfl ne
  | succ d ih =>
    intro i x y ex ey ne
    cases hw : y.wr with
    | true => exact ⟨i + (d + 1), y, by omega, Nat.le_refl _, ey, hw, rfl⟩
    | false =>
      rcases sees_step s ey hw with ⟨z, _⟩ | ⟨j, p, z, hp, ev⟩
      · omega
      · have : j = i + d := by omega
        subst this
        obtain ⟨k, w, k1, k2, k3, k4, k5⟩ := ih ex hp (by rw [ev]; exact ne)
        exact ⟨k, w, k1, by omega, k3, k4, k5.trans ev⟩
theorem mem_perm (p : o.Perm h) {i : Nat} {r : HRow} (e : o[i]? = some r) : r ∈ h := p.mem_iff.mp (List.mem_of_getElem? e)
theorem at_inj (m : HMid h) (p : o.Perm h) {i j : Nat} {r : HRow} (e : o[i]? = some r) (e' : o[j]? = some r) : i = j := by
  have nd : (o.map (·.t)).Nodup := (p.map (·.t)).nodup_iff.mpr m.tn
  have nd' : o.Pairwise fun x y => x.t ≠ y.t := List.pairwise_map.mp nd
  rcases Nat.lt_trichotomy i j with z | z | z
  · exact absurd rfl (pw_get nd' e e' z)
  · exact z
  · exact absurd rfl (pw_get nd' e' e z)
/-- the tasks of one value stand side by side -/
theorem blocks (m : HMid h) (p : o.Perm h) (s : seesL 0 o) {i j k : Nat} {x y z : HRow} (hi : o[i]? = some x) (hj : o[j]? = some y) (hk : o[k]? = some z) (ij : i < j) (jk : j < k) (e : x.v = z.v) : y.v = x.v := by
  by_cases ne : y.v = x.v
  · exact ne
  · obtain ⟨d, rfl⟩ : ∃ d, k = j + d := ⟨k - j, by omega⟩
    obtain ⟨q, w, q1, q2, q3, q4, q5⟩ := sees_back s hj hk (by rw [← e]; exact ne)
    have wv := m.vb w (mem_perm p q3) q4
    have xv : x.v ≠ 0 := by
      rw [e, ← q5]
      omega
    obtain ⟨q', w', r1, r2, r3, r4⟩ := sees_src s hi xv
    have ew := m.one w w' (mem_perm p q3) (mem_perm p r2) q4 r3 (by rw [q5, r4, e])
    subst ew
    have := at_inj m p q3 r2
    omega
theorem zeros (m : HMid h) (p : o.Perm h) (s : seesL 0 o) {j k : Nat} {y z : HRow} (hj : o[j]? = some y) (hk : o[k]? = some z) (jk : j < k) (e : z.v = 0) : y.v = 0 := by
  by_cases ne : y.v = 0
  · exact ne
  · obtain ⟨d, rfl⟩ : ∃ d, k = j + d := ⟨k - j, by omega⟩
    obtain ⟨q, w, q1, q2, q3, q4, q5⟩ := sees_back s hj hk (by rw [e]; exact ne)
    have := m.vb w (mem_perm p q3) q4
    omega
theorem first_at (p : o.Perm h) {r : HRow} (hr : r ∈ h) : ∃ i : Nat, o[i]? = some r := List.mem_iff_getElem?.mp (p.mem_iff.mpr hr)
/-- who is over ahead of another one's begin stands ahead -/
theorem ahead (nb : NoBack o) {i j : Nat} {x y : HRow} (hi : o[i]? = some x) (hj : o[j]? = some y) (lt : x.e < y.b) (tmx : x.b < x.e) : i < j := by
  rcases Nat.lt_trichotomy i j with z | z | z
  · exact z
  · subst z
    rw [hi] at hj
    cases hj
    omega
  · exact absurd lt (pw_get nb hj hi z)
theorem ends_mem {v x : Int} (hx : x ∈ endsOf h v) : (v = 0 ∧ x = -1) ∨ ∃ r ∈ h, r.v = v ∧ r.e = x := by
  unfold endsOf at hx
  rcases List.mem_append.mp hx with z | z
  · by_cases hv : v = 0
    · rw [if_pos hv] at z
      exact .inl ⟨hv, by simpa using z⟩
    · rw [if_neg hv] at z
      cases z
  · obtain ⟨r, hr, e⟩ := List.mem_map.mp z
    have := List.mem_filter.mp hr
    exact .inr ⟨r, this.1, of_decide_eq_true this.2, e⟩
theorem begs_mem {v x : Int} (hx : x ∈ begsOf h v) : (v = 0 ∧ x = -1) ∨ ∃ r ∈ h, r.v = v ∧ r.b = x := by
  unfold begsOf at hx
  rcases List.mem_append.mp hx with z | z
  · by_cases hv : v = 0
    · rw [if_pos hv] at z
      exact .inl ⟨hv, by simpa using z⟩
    · rw [if_neg hv] at z
      cases z
  · obtain ⟨r, hr, e⟩ := List.mem_map.mp z
    have := List.mem_filter.mp hr
    exact .inr ⟨r, this.1, of_decide_eq_true this.2, e⟩
theorem zone_row {r : HRow} (hr : r ∈ h) {z : Int × Int} (hz : zoneO h r.v = some z) : z.1 ≤ r.e ∧ r.b ≤ z.2 := by
  obtain ⟨_, h2, _, h4⟩ := (zone_ok h r.v).som z.1 z.2 hz
  refine ⟨h2 _ ?_, h4 _ ?_⟩
  · unfold endsOf
    exact List.mem_append_right _ (List.mem_map.mpr ⟨r, List.mem_filter.mpr ⟨hr, decide_eq_true rfl⟩, rfl⟩)
  · unfold begsOf
    exact List.mem_append_right _ (List.mem_map.mpr ⟨r, List.mem_filter.mpr ⟨hr, decide_eq_true rfl⟩, rfl⟩)
/-- in an order no two values are in each other's way -/
theorem no_clash (m : HMid h) (p : o.Perm h) (nb : NoBack o) (s : seesL 0 o) {a b : Int} (ne : a ≠ b) {z w : Int × Int} (hz : zoneO h a = some z) (hw : zoneO h b = some w) : ¬ (z.1 < w.2 ∧ w.1 < z.2) := by
  rintro ⟨c1, c2⟩
  obtain ⟨z1, _, z3, _⟩ := (zone_ok h a).som z.1 z.2 hz
  obtain ⟨w1, _, w3, _⟩ := (zone_ok h b).som w.1 w.2 hw
  -- one of them 0: its reads stand first
  have zero : ∀ {a b : Int} {w z : Int × Int}, a = 0 → a ≠ b → w.1 ∈ endsOf h b → z.2 ∈ begsOf h a → w.1 < z.2 → False := by
    intro a b w z ha ne w1 z3 c
    rcases ends_mem w1 with ⟨hb, _⟩ | ⟨y, hy, yv, ye⟩
    · exact ne (ha.trans hb.symm)
    · have ty := m.tm y hy
      rcases begs_mem z3 with ⟨_, e⟩ | ⟨x, hx, xv, xb⟩
      · omega
      · obtain ⟨i, hi⟩ := first_at p hy
        obtain ⟨j, hj⟩ := first_at p hx
        have := ahead nb hi hj (by omega) ty.2
        have := zeros m p s hi hj this (by rw [xv, ha])
        exact ne (by omega)
  by_cases ha : a = 0
  · exact zero ha ne w1 z3 c2
  · by_cases hb : b = 0
    · exact zero hb (fun e => ne e.symm) z1 w3 c1
    · rcases ends_mem z1 with ⟨e, _⟩ | ⟨x, hx, xv, xe⟩
      · exact ha e
      · rcases begs_mem w3 with ⟨e, _⟩ | ⟨y, hy, yv, yb⟩
        · exact hb e
        · rcases ends_mem w1 with ⟨e, _⟩ | ⟨y', hy', yv', ye'⟩
          · exact hb e
          · rcases begs_mem z3 with ⟨e, _⟩ | ⟨x', hx', xv', xb'⟩
            · exact ha e
            · obtain ⟨i, hi⟩ := first_at p hx
              obtain ⟨j, hj⟩ := first_at p hy
              obtain ⟨j', hj'⟩ := first_at p hy'
              obtain ⟨i', hi'⟩ := first_at p hx'
              have l1 := ahead nb hi hj (by omega) (m.tm x hx).2
              have l2 := ahead nb hj' hi' (by omega) (m.tm y' hy').2
              rcases Nat.lt_trichotomy i j' with q | q | q
              · have := blocks m p s hi hj' hi' q l2 (by rw [xv, xv'])
                exact ne (by omega)
              · subst q
                rw [hi] at hj'
                cases hj'
                exact ne (by omega)
              · have := blocks m p s hj' hi hj q l1 (by rw [yv, yv'])
                exact ne (by omega)
/-- where there is an order nothing shows that there is none -/
theorem order_sound (m : HMid h) (so : SomeO h 0) (x : Reason) : ¬ ShowsP h x := by
  obtain ⟨o, p, nb, s⟩ := so
  rintro (⟨_, r, hr, w, hw, r1, w1, ev, _, _, lt⟩ | ⟨_, _, _, lt, o1, o2, c⟩ | ⟨_, _, _, o1, o2, c⟩)
  · obtain ⟨i, hi⟩ := first_at p hr
    obtain ⟨j, hj⟩ := first_at p hw
    have ij := ahead nb hi hj lt (m.tm r hr).2
    have := m.vb w hw w1
    obtain ⟨k, w', k1, k2, k3, k4⟩ := sees_src s hi (by omega)
    have ew := m.one w' w (mem_perm p k2) hw k3 w1 (by omega)
    subst ew
    have := at_inj m p k2 hj
    omega
  · unfold clsV at c
    split at c
    · rename_i z w hz hw
      unfold clsh at c
      simp only [Bool.and_eq_true, decide_eq_true_eq] at c
      exact no_clash m p nb s (by omega) hz hw c
    · cases c
  · unfold clsV at c
    split at c
    · rename_i z w hz hw
      unfold clsh at c
      simp only [Bool.and_eq_true, decide_eq_true_eq] at c
      refine no_clash m p nb s (fun e => ?_) hz hw c
      rw [e, o2] at o1
      cases o1
    · cases c
theorem lex_le {x y : Int} {xs ys : List Int} (h : HT.lexLt (y :: ys) (x :: xs) = false) : x < y ∨ (x = y ∧ HT.lexLt ys xs = false) := by
  unfold HT.lexLt at h
  by_cases e : y = x
  · rw [if_pos e] at h
    exact .inr ⟨e.symm, h⟩
  · rw [if_neg e] at h
    have := of_decide_eq_false h
    exact .inl (by omega)
theorem key_eq {r : HRow} {z : Int × Int} (hz : zoneO h r.v = some z) : keyR h r = [(plc z).1, (plc z).2, r.v, (if r.wr = true then 0 else 1), r.b, r.t] := by
  unfold keyR
  rw [hz]
theorem zone_of {r : HRow} (hr : r ∈ h) : ∃ z, zoneO h r.v = some z := zone_some.mpr (.inr ⟨r, hr, rfl⟩)
theorem plc_open {z : Int × Int} (o : z.1 < z.2) : plc z = (z.1, 1) := by
  unfold plc opn
  rw [if_neg (by omega), if_pos (decide_eq_true o)]
theorem plc_shut {z : Int × Int} (o : ¬ z.1 < z.2) : plc z = (z.2, 0) := by
  have e1 : (if opn z = true then (1 : Int) else 0) = 0 := if_neg (by unfold opn; rw [decide_eq_false o]; exact Bool.false_ne_true)
  have e2 : (if z.2 < z.1 then z.2 else z.1) = z.2 := by
    by_cases e : z.2 < z.1
    · rw [if_pos e]
    · rw [if_neg e]; omega
  unfold plc
  first
  | rw [e1, e2]
  | (simp only [opn, decide_eq_false o]; simp; omega)
theorem opnV_of {v : Int} {z : Int × Int} (hz : zoneO h v = some z) : opnV h v = decide (z.1 < z.2) := by
  unfold opnV
  rw [hz]
  rfl
theorem clsV_of {a b : Int} {z w : Int × Int} (hz : zoneO h a = some z) (hw : zoneO h b = some w) : clsV h a b = (decide (z.1 < w.2) && decide (w.1 < z.2)) := by
  unfold clsV
  rw [hz, hw]
  rfl
/-- rows in their places: none stands behind one that begins after its end -/
theorem placed_times (m : HMid h) (no : ∀ x, ¬ ShowsP h x) (pl : Placed h o) : NoBack o := by
  refine List.Pairwise.imp_of_mem (fun {r w} hr hw hk => ?_) pl.2
  have hr := pl.1.mem_iff.mp hr
  have hw := pl.1.mem_iff.mp hw
  obtain ⟨z, hz⟩ := zone_of hr
  obtain ⟨u, hu⟩ := zone_of hw
  rw [key_eq hz, key_eq hu] at hk
  have tr := m.tm r hr
  have tw := m.tm w hw
  by_cases ev : r.v = w.v
  · rw [ev, hu] at hz
    cases hz
    rcases lex_le hk with q | ⟨_, hk⟩
    · omega
    rcases lex_le hk with q | ⟨_, hk⟩
    · omega
    rcases lex_le hk with q | ⟨_, hk⟩
    · omega
    cases hrw : r.wr with
    | true =>
      cases hww : w.wr with
      | true =>
        have := m.one r w hr hw hrw hww ev
        subst this
        omega
      | false =>
        intro lt
        exact no (("early" : Str), w.t, r.t) (.inl ⟨rfl, w, hw, r, hr, hww, hrw, ev.symm, rfl, rfl, lt⟩)
    | false =>
      rw [hrw] at hk
      cases hww : w.wr with
      | true =>
        rw [hww] at hk
        rcases lex_le hk with q | ⟨q, _⟩
        · simp at q
        · simp at q
      | false =>
        rw [hww] at hk
        rcases lex_le hk with q | ⟨_, hk⟩
        · simp at q
        rcases lex_le hk with q | ⟨q, _⟩
        · omega
        · omega
  · intro lt
    have zr := zone_row hr hz
    have zw := zone_row hw hu
    have c2 : u.1 < z.2 := by omega
    have vr : isVal h r.v := .inr ⟨r, hr, rfl⟩
    have vw : isVal h w.v := .inr ⟨w, hw, rfl⟩
    by_cases oz : z.1 < z.2
    · by_cases ou : u.1 < u.2
      · rw [plc_open oz, plc_open ou] at hk
        have c1 : z.1 < u.2 := by
          rcases lex_le hk with q | ⟨q, _⟩
          · omega
          · omega
        rcases Int.lt_or_gt_of_ne ev with q | q
        · exact no (("both" : Str), r.v, w.v) (.inr (.inl ⟨rfl, vr, vw, q, by rw [opnV_of hz]; exact decide_eq_true oz, by rw [opnV_of hu]; exact decide_eq_true ou, by rw [clsV_of hz hu, decide_eq_true c1, decide_eq_true c2]; rfl⟩))
        · exact no (("both" : Str), w.v, r.v) (.inr (.inl ⟨rfl, vw, vr, q, by rw [opnV_of hu]; exact decide_eq_true ou, by rw [opnV_of hz]; exact decide_eq_true oz, by rw [clsV_of hu hz, decide_eq_true c1, decide_eq_true c2]; rfl⟩))
      · rw [plc_open oz, plc_shut ou] at hk
        have c1 : z.1 < u.2 := by
          rcases lex_le hk with q | ⟨q, hk⟩
          · exact q
          · rcases lex_le hk with q | ⟨q, _⟩
            · simp at q
            · simp at q
        exact no (("within" : Str), r.v, w.v) (.inr (.inr ⟨rfl, vr, vw, by rw [opnV_of hz]; exact decide_eq_true oz, by rw [opnV_of hu]; exact decide_eq_false ou, by rw [clsV_of hz hu, decide_eq_true c1, decide_eq_true c2]; rfl⟩))
    · rw [plc_shut oz] at hk
      by_cases ou : u.1 < u.2
      · rw [plc_open ou] at hk
        rcases lex_le hk with q | ⟨q, _⟩
        · simp at q
          omega
        · simp at q
          omega
      · rw [plc_shut ou] at hk
        rcases lex_le hk with q | ⟨q, _⟩
        · simp at q
          omega
        · simp at q
          omega
theorem zone_zero {z : Int × Int} (hz : zoneO h 0 = some z) (m : HMid h) {r : HRow} (hr : r ∈ h) (ev : r.v = 0) : plc z = (-1, 1) := by
  obtain ⟨z1, z2, z3, z4⟩ := (zone_ok h 0).som z.1 z.2 hz
  have e1 : z.1 = -1 := by
    have a := z2 (-1) (by unfold endsOf; simp)
    rcases ends_mem z1 with ⟨_, e⟩ | ⟨x, hx, _, e⟩
    · exact e
    · have := m.tm x hx
      omega
  have e2 : r.b ≤ z.2 := (zone_row hr (by rw [ev]; exact hz)).2
  have := m.tm r hr
  rw [plc_open (by omega), e1]
theorem zone_pos {r : HRow} {z : Int × Int} (m : HMid h) (hr : r ∈ h) (hv : r.v ≠ 0) (hz : zoneO h r.v = some z) : 0 ≤ (plc z).1 := by
  obtain ⟨z1, _, z3, _⟩ := (zone_ok h r.v).som z.1 z.2 hz
  have e1 : 0 ≤ z.1 := by
    rcases ends_mem z1 with ⟨e, _⟩ | ⟨x, hx, _, e⟩
    · exact absurd e hv
    · have := m.tm x hx
      omega
  have e2 : 0 ≤ z.2 := by
    rcases begs_mem z3 with ⟨e, _⟩ | ⟨x, hx, _, e⟩
    · exact absurd e hv
    · have := m.tm x hx
      omega
  unfold plc
  show 0 ≤ if z.2 < z.1 then z.2 else z.1
  split <;> omega
theorem placed_sees (m : HMid h) (pl : Placed h o) : seesL 0 o := by
  refine sees_of fun i r e hw => ?_
  have hr := mem_perm pl.1 e
  obtain ⟨z, hz⟩ := zone_of hr
  by_cases hv : r.v = 0
  · cases i with
    | zero => exact .inl ⟨rfl, hv⟩
    | succ j =>
      obtain ⟨q, hq⟩ : ∃ q, o[j]? = some q := ⟨o[j]'(by have := (List.getElem?_eq_some_iff.mp e).1; omega), List.getElem?_eq_getElem _⟩
      refine .inr ⟨j, q, rfl, hq, ?_⟩
      have hqm := mem_perm pl.1 hq
      by_cases hq0 : q.v = 0
      · rw [hq0, hv]
      · obtain ⟨u, hu⟩ := zone_of hqm
        have hk := pw_get pl.2 hq e (Nat.lt_succ_self j)
        rw [key_eq hz, key_eq hu] at hk
        have p1 := zone_pos m hqm hq0 hu
        rw [hv] at hz
        rw [zone_zero hz m hr hv] at hk
        rcases lex_le hk with y | ⟨y, _⟩
        · simp at y
          omega
        · simp at y
          omega
  · rcases m.rd r hr hw with z0 | ⟨w, hwm, w1, w2⟩
    · exact absurd z0 hv
    · obtain ⟨j, hj⟩ := first_at pl.1 hwm
      have hzw : zoneO h w.v = some z := by rw [w2]; exact hz
      have ji : j < i := by
        rcases Nat.lt_trichotomy j i with y | y | y
        · exact y
        · subst y
          rw [hj] at e
          cases e
          rw [hw] at w1
          cases w1
        · have hk := pw_get pl.2 e hj y
          rw [key_eq hz, key_eq hzw, w1, hw, w2] at hk
          rcases lex_le hk with y | ⟨_, hk⟩
          · omega
          rcases lex_le hk with y | ⟨_, hk⟩
          · omega
          rcases lex_le hk with y | ⟨_, hk⟩
          · omega
          rcases lex_le hk with y | ⟨y, _⟩
          · simp at y
          · simp at y
      obtain ⟨i', rfl⟩ : ∃ i', i = i' + 1 := ⟨i - 1, by omega⟩
      obtain ⟨q, hq⟩ : ∃ q, o[i']? = some q := ⟨o[i']'(by have := (List.getElem?_eq_some_iff.mp e).1; omega), List.getElem?_eq_getElem _⟩
      refine .inr ⟨i', q, rfl, hq, ?_⟩
      have hqm := mem_perm pl.1 hq
      obtain ⟨u, hu⟩ := zone_of hqm
      by_cases eji : j = i'
      · subst eji
        rw [hj] at hq
        cases hq
        exact w2
      · have k1 := pw_get pl.2 hj hq (by omega)
        have k2 := pw_get pl.2 hq e (Nat.lt_succ_self i')
        rw [key_eq hzw, key_eq hu, w2] at k1
        rw [key_eq hz, key_eq hu] at k2
        rcases lex_le k1 with a | ⟨a, k1⟩
        · rcases lex_le k2 with c | ⟨c, k2⟩ <;> omega
        rcases lex_le k2 with c | ⟨c, k2⟩
        · omega
        rcases lex_le k1 with a | ⟨a, k1⟩
        · rcases lex_le k2 with c | ⟨c, k2⟩ <;> omega
        rcases lex_le k2 with c | ⟨c, k2⟩
        · omega
        rcases lex_le k1 with a | ⟨a, k1⟩
        · rcases lex_le k2 with c | ⟨c, k2⟩ <;> omega
        exact a.symm
theorem order_found (m : HMid h) (no : ∀ x, ¬ ShowsP h x) (pl : Placed h o) : SomeO h 0 := ⟨o, pl.1, placed_times m no pl, placed_sees m pl⟩
/-- one step of the search -/
theorem someO_nil (last : Int) : SomeO [] last := ⟨[], .nil, List.Pairwise.nil, trivial⟩
theorem someO_step {left : List HRow} {last : Int} (nd : (left.map (·.t)).Nodup) (tm : ∀ r ∈ left, r.b < r.e) (ne : left ≠ []) :
    SomeO left last ↔ ∃ r ∈ left, (r.wr = true ∨ r.v = last) ∧ (∀ x ∈ left, ¬ x.e < r.b) ∧ SomeO (left.filter fun x => decide (x ≠ r)) r.v := by
  have nd' : left.Nodup := (List.pairwise_map.mp nd).imp fun hne e => hne (by rw [e])
  constructor
  · rintro ⟨o, p, nb, s⟩
    cases o with
    | nil => exact absurd p.symm.eq_nil ne
    | cons r o' =>
      have hr : r ∈ left := p.mem_iff.mp List.mem_cons_self
      obtain ⟨n1, n2⟩ := List.pairwise_cons.mp nb
      refine ⟨r, hr, s.1, fun x hx => ?_, o', ?_, n2, s.2⟩
      · rcases List.mem_cons.mp (p.mem_iff.mpr hx) with rfl | hx'
        · have := tm x hx
          omega
        · exact n1 x hx'
      · have ndo : (r :: o').Nodup := p.nodup_iff.mpr nd'
        obtain ⟨m1, m2⟩ := List.nodup_cons.mp ndo
        have f1 : (r :: o').filter (fun x => decide (x ≠ r)) = o' := by
          rw [List.filter_cons, if_neg (by simp)]
          exact List.filter_eq_self.mpr fun x hx => decide_eq_true fun e => m1 (e ▸ hx)
        rw [← f1]
        exact p.filter _
  · rintro ⟨r, hr, s1, nb1, o', p, n2, s2⟩
    refine ⟨r :: o', ?_, List.pairwise_cons.mpr ⟨fun y hy => nb1 y (List.mem_filter.mp (p.mem_iff.mp hy)).1, n2⟩, s1, s2⟩
    refine (p.cons r).trans ?_
    obtain ⟨i, hi⟩ := List.mem_iff_getElem?.mp hr
    have e1 := erase_perm hi
    have f1 : ([r] ++ left.eraseIdx i).filter (fun x => decide (x ≠ r)) = left.eraseIdx i := by
      have ndo : ([r] ++ left.eraseIdx i).Nodup := e1.nodup_iff.mpr nd'
      obtain ⟨m1, m2⟩ := List.nodup_cons.mp (show (r :: left.eraseIdx i).Nodup from ndo)
      rw [List.filter_append, List.filter_cons, if_neg (by simp), List.filter_nil, List.nil_append]
      exact List.filter_eq_self.mpr fun x hx => decide_eq_true fun e => m1 (e ▸ hx)
    have f2 := e1.filter (fun x => decide (x ≠ r))
    rw [f1] at f2
    exact (f2.symm.cons r).trans e1
end

/-! ### is_order -/
abbrev s_sees_last_writes : Stmt := topS 1
theorem sc_sees_last_writes : FnScope ["rows", "last", "task", "kind", "value", "begin", "end"] ["rows"] (defScope s_sees_last_writes) := ⟨rfl, rfl, rfl, by decide +kernel, rfl, by decide +kernel, by decide +kernel⟩
def spsees (K : PySem.W.Frag) : Sp := fun vs H Q _ => ∃ (v : V) (h : List HRow), vs = [v] ∧ Dp K H v (.list (h.map hD)) ∧ h.length ≤ 61 ∧ ∀ H' c, Same H H' → (c = true ↔ seesL 0 h) → Q (.bl c) H'
theorem ok_sees_last_writes {f : Addr} {fd : FuncData} (F : Fun K "sees_last_writes" "sees_last_writes" s_sees_last_writes f fd) (gm : mg "sees_last_writes" = some (.ref f)) (N : Fre K mg)  : C8.Cal P w K mg base 1 "sees_last_writes" (spsees K) [] := by
  refine mkCal F gm sc_sees_last_writes (F.binds (ps := ["rows"]) fun _ _ _ _ _ _ us hl => match us, hl with | [_], _ => rfl) (fun vs H Q E h => ?_) (fun cdv A outer s H vs Q E hr h => ?_)
  · obtain ⟨v, h, rfl, _⟩ := h
    rfl
  · obtain ⟨v, h, rfl, hv, hlen, q⟩ := h
    refine ⟨_, (pss_cons (ps_set (i := 1) sc_sees_last_writes.nd rfl (.inl rfl) pe_int)
 (pss_cons (ps_for PassesOwn.never rfl (pi_list (pv 0)) (pg_tup rfl (pgs_cons (pg_name (i := 2) sc_sees_last_writes.nd rfl (.inl rfl)) (pgs_cons (pg_name (i := 3) sc_sees_last_writes.nd rfl (.inl rfl)) (pgs_cons (pg_name (i := 4) sc_sees_last_writes.nd rfl (.inl rfl)) (pgs_cons (pg_name (i := 5) sc_sees_last_writes.nd rfl (.inl rfl)) (pgs_cons (pg_name (i := 6) sc_sees_last_writes.nd rfl (.inl rfl)) pgs_nil))))))
 (pss_one (ps_if (pt_cmpR op_eq (pv 3) pe_str (nomark _))
 (pss_one (ps_set (i := 1) sc_sees_last_writes.nd rfl (.inl rfl) (pv 4)))
 (pss_one (ps_if (pt_cmpR op_ne (pv 4) (pv 1) (nomark _))
 (pss_one (ps_ret pe_bl))
 pss_nil)))))
 (pss_one (ps_ret pe_bl)))), ?_⟩
    obtain ⟨a, xs, rfl, hs, ha⟩ := dp_list hv
    have el := dpAll_len ha
    rw [List.length_map] at el
    have take1 : ∀ {i : Nat} {r : HRow}, h[i]? = some r → h.drop i = r :: h.drop (i + 1) := fun {i r} er => by
      obtain ⟨hi, ei⟩ := List.getElem?_eq_some_iff.mp er
      rw [← ei]
      exact List.drop_eq_getElem_cons hi
    refine ⟨_, rfl, a, rfl, ⟨_, hs⟩, for_list (xs := xs) (fun i σ H2 => (∃ (last : Int) (y2 y3 y4 y5 y6 : Option V), σ = [some (.ref a), some (.int last), y2, y3, y4, y5, y6] ∧ (seesL 0 h ↔ seesL last (h.drop i))) ∧ Same H H2) ⟨⟨0, _, _, _, _, _, rfl, by rw [List.drop_zero]⟩, Same.refl H⟩ (fun i σ H2 _ z => z.2.seq hs) ?_ ?_⟩
    · rintro i x σ H2 hx ⟨⟨last, y2, y3, y4, y5, y6, rfl, iv⟩, s2⟩
      obtain ⟨d, ed, pd⟩ := dpAll_get ha hx
      rw [List.getElem?_map] at ed
      obtain ⟨r, er, rfl⟩ := Option.map_eq_some_iff.mp ed
      obtain ⟨b, rfl, hb⟩ := dp_h (dp_same s2 _ _ pd)
      rw [take1 er] at iv
      refine ⟨b, _, rfl, hb, rfl, _, _, rfl, _, _, rfl, _, _, rfl, _, _, rfl, _, _, rfl, rfl, ?_⟩
      refine ⟨_, rfl, rfl, _, rfl, ite2 (fun e => ?_) (fun e => ?_)⟩
      · rw [kind_write] at e
        exact ⟨_, rfl, ⟨r.v, _, _, _, _, _, rfl, iv.trans ⟨fun z => z.2, fun z => ⟨.inl e, z⟩⟩⟩, s2⟩
      · rw [kind_write] at e
        refine ⟨_, rfl, _, rfl, rfl, _, rfl, ?_⟩
        by_cases ev : r.v = last
        · rw [ev]
          rw [show (!decide (V.int last = V.int last)) = false by simp]
          exact iteF ⟨⟨last, _, _, _, _, _, rfl, iv.trans ⟨fun z => ev ▸ z.2, fun z => ⟨.inr ev, ev.symm ▸ z⟩⟩⟩, s2⟩
        · rw [decide_eq_false (fun z => ev (V.int.inj z))]
          refine iteT (q H2 false s2 ⟨(fun z => by cases z), fun z => ?_⟩)
          rcases (iv.mp z).1 with z | z
          · exact absurd z e
          · exact absurd z ev
    · rintro σ H2 ⟨⟨last, y2, y3, y4, y5, y6, rfl, iv⟩, s2⟩
      rw [el, List.drop_length] at iv
      exact q H2 true s2 ⟨fun _ => iv.mpr trivial, fun _ => rfl⟩
abbrev s_keeps_times : Stmt := topS 2
theorem sc_keeps_times : FnScope ["rows", "latest", "task", "kind", "value", "begin", "end"] ["rows"] (defScope s_keeps_times) := ⟨rfl, rfl, rfl, by decide +kernel, rfl, by decide +kernel, by decide +kernel⟩
def spkeeps (K : PySem.W.Frag) : Sp := fun vs H Q _ => ∃ (v : V) (h : List HRow), vs = [v] ∧ Dp K H v (.list (h.map hD)) ∧ h.length ≤ 61 ∧ (∀ r ∈ h, 0 ≤ r.b ∧ r.b < r.e) ∧ ∀ H' c, Same H H' → (c = true ↔ NoBack h) → Q (.bl c) H'
theorem ok_keeps_times {f : Addr} {fd : FuncData} (F : Fun K "keeps_times" "keeps_times" s_keeps_times f fd) (gm : mg "keeps_times" = some (.ref f)) (N : Fre K mg)  : C8.Cal P w K mg base 1 "keeps_times" (spkeeps K) [] := by
  refine mkCal F gm sc_keeps_times (F.binds (ps := ["rows"]) fun _ _ _ _ _ _ us hl => match us, hl with | [_], _ => rfl) (fun vs H Q E h => ?_) (fun cdv A outer s H vs Q E hr h => ?_)
  · obtain ⟨v, h, rfl, _⟩ := h
    rfl
  · obtain ⟨v, h, rfl, hv, hlen, tm, q⟩ := h
    refine ⟨_, (pss_cons (ps_set (i := 1) sc_keeps_times.nd rfl (.inl rfl) pe_int)
 (pss_cons (ps_for PassesOwn.never rfl (pi_list (pv 0)) (pg_tup rfl (pgs_cons (pg_name (i := 2) sc_keeps_times.nd rfl (.inl rfl)) (pgs_cons (pg_name (i := 3) sc_keeps_times.nd rfl (.inl rfl)) (pgs_cons (pg_name (i := 4) sc_keeps_times.nd rfl (.inl rfl)) (pgs_cons (pg_name (i := 5) sc_keeps_times.nd rfl (.inl rfl)) (pgs_cons (pg_name (i := 6) sc_keeps_times.nd rfl (.inl rfl)) pgs_nil))))))
 (pss_cons (ps_if (pt_cmpR op_lt (pv 6) (pv 1) (nomark _))
 (pss_one (ps_ret pe_bl))
 pss_nil)
 (pss_one (ps_set (i := 1) sc_keeps_times.nd rfl (.inl rfl) (pe_callB (call_max2 rfl) (by rfl) N.max (by decide +kernel) (pa_cons (pv 1) (pa_cons (pv 5) pa_nil)))))))
 (pss_one (ps_ret pe_bl)))), ?_⟩
    obtain ⟨a, xs, rfl, hs, ha⟩ := dp_list hv
    have el := dpAll_len ha
    rw [List.length_map] at el
    refine ⟨_, rfl, a, rfl, ⟨_, hs⟩, for_list (xs := xs) (fun i σ H2 => (∃ (lt : Int) (y2 y3 y4 y5 y6 : Option V), σ = [some (.ref a), some (.int lt), y2, y3, y4, y5, y6] ∧ NoBack (h.take i) ∧ (∀ r ∈ h.take i, r.b ≤ lt) ∧ (lt = 0 ∨ ∃ r ∈ h.take i, r.b = lt)) ∧ Same H H2) ⟨⟨0, _, _, _, _, _, rfl, List.Pairwise.nil, (fun r hr => by cases hr), .inl rfl⟩, Same.refl H⟩ (fun i σ H2 _ z => z.2.seq hs) ?_ ?_⟩
    · rintro i x σ H2 hx ⟨⟨lt, y2, y3, y4, y5, y6, rfl, nb, le, hl⟩, s2⟩
      obtain ⟨d, ed, pd⟩ := dpAll_get ha hx
      rw [List.getElem?_map] at ed
      obtain ⟨r, er, rfl⟩ := Option.map_eq_some_iff.mp ed
      obtain ⟨b, rfl, hb⟩ := dp_h (dp_same s2 _ _ pd)
      have tk : h.take (i + 1) = h.take i ++ [r] := by
        obtain ⟨hi, ei⟩ := List.getElem?_eq_some_iff.mp er
        rw [← ei]
        exact (List.take_append_getElem hi).symm
      have tr := tm r (List.mem_of_getElem? er)
      refine ⟨b, _, rfl, hb, rfl, _, _, rfl, _, _, rfl, _, _, rfl, _, _, rfl, _, _, rfl, rfl, ?_⟩
      refine ⟨_, rfl, _, rfl, _, _, rfl, rfl, _, rfl, ite2 (fun e => ?_) (fun e => ?_)⟩
      · have e := of_decide_eq_true e
        refine q H2 false s2 ⟨(fun z => by cases z), fun z => ?_⟩
        rcases hl with hl | ⟨w, hw, ew⟩
        · omega
        · have z1 : NoBack (h.take (i + 1)) := z.sublist (List.take_sublist _ _)
          rw [tk] at z1
          have := (List.pairwise_append.mp z1).2.2 w hw r (List.mem_singleton.mpr rfl)
          omega
      · have e : ¬ r.e < lt := fun z => e (decide_eq_true z)
        have nb' : NoBack (h.take (i + 1)) := by
          rw [tk]
          refine List.pairwise_append.mpr ⟨nb, List.pairwise_singleton _ _, fun w hw u hu => ?_⟩
          rw [List.mem_singleton.mp hu]
          have := le w hw
          omega
        refine ⟨_, rfl, _, rfl, _, _, rfl, ?_⟩
        refine ⟨⟨_, _, _, _, _, _, rfl, nb', fun w hw => ?_, ?_⟩, s2⟩
        · rw [tk] at hw
          rcases List.mem_append.mp hw with hw | hw
          · have := le w hw
            split <;> omega
          · rw [List.mem_singleton.mp hw]
            split <;> omega
        · rw [tk]
          split
          · exact .inr ⟨r, by simp, rfl⟩
          · rcases hl with hl | ⟨w, hw, ew⟩
            · exact .inl hl
            · exact .inr ⟨w, List.mem_append.mpr (.inl hw), ew⟩
    · rintro σ H2 ⟨⟨lt, y2, y3, y4, y5, y6, rfl, nb, le, hl⟩, s2⟩
      rw [el, List.take_length] at nb
      exact q H2 true s2 ⟨fun _ => nb, fun _ => rfl⟩

/-! ### the tasks of a history put in a row -/
def rowAt (h : List HRow) (t : Int) : Option HRow := h.find? fun r => decide (r.t = t)
def rowsOf (h : List HRow) (ts : List Int) : List HRow := ts.filterMap (rowAt h)
def OrdP (h : List HRow) (ts : List Int) : Prop := ∃ o, o.Perm h ∧ o.map HRow.t = ts ∧ NoBack o ∧ seesL 0 o
theorem rowAt_some {h : List HRow} {t : Int} {r : HRow} (e : rowAt h t = some r) : r ∈ h ∧ r.t = t := by
  unfold rowAt at e
  exact ⟨List.mem_of_find?_eq_some e, by simpa using List.find?_some e⟩
theorem rowAt_self {h : List HRow} (nd : (h.map HRow.t).Nodup) {r : HRow} (hr : r ∈ h) : rowAt h r.t = some r := by
  cases e : rowAt h r.t with
  | none =>
    unfold rowAt at e
    have := List.find?_eq_none.mp e r hr
    simp at this
  | some w =>
    obtain ⟨a, c⟩ := rowAt_some e
    obtain ⟨i, hi⟩ := List.mem_iff_getElem?.mp a
    obtain ⟨j, hj⟩ := List.mem_iff_getElem?.mp hr
    have e1 : (h.map HRow.t)[i]? = (h.map HRow.t)[j]? := by rw [List.getElem?_map, List.getElem?_map, hi, hj]; show some w.t = some r.t; rw [c]
    have hi' := (List.getElem?_eq_some_iff.mp hi).1
    have : i = j := (List.getElem?_inj (by rw [List.length_map]; exact hi') nd).mp e1
    rw [this, hj] at hi
    rw [hi]
theorem rowsOf_map {h : List HRow} (nd : (h.map HRow.t).Nodup) : ∀ {o : List HRow}, (∀ r ∈ o, r ∈ h) → rowsOf h (o.map HRow.t) = o
  | [], _ => rfl
  | r :: o, m => by
    show (r.t :: o.map HRow.t).filterMap (rowAt h) = _
    rw [List.filterMap_cons, rowAt_self nd (m r List.mem_cons_self)]
    show r :: rowsOf h (o.map HRow.t) = _
    rw [rowsOf_map nd fun x hx => m x (List.mem_cons_of_mem _ hx)]
theorem map_rowsOf {h : List HRow} : ∀ {ts : List Int}, (∀ t ∈ ts, t ∈ h.map HRow.t) → (rowsOf h ts).map HRow.t = ts
  | [], _ => rfl
  | t :: ts, m => by
    obtain ⟨r, hr, er⟩ := List.mem_map.mp (m t List.mem_cons_self)
    cases e : rowAt h t with
    | none =>
      unfold rowAt at e
      have := List.find?_eq_none.mp e r hr
      simp [er] at this
    | some w =>
      show ((t :: ts).filterMap (rowAt h)).map HRow.t = _
      rw [List.filterMap_cons, e]
      show w.t :: (rowsOf h ts).map HRow.t = _
      rw [map_rowsOf fun x hx => m x (List.mem_cons_of_mem _ hx), (rowAt_some e).2]
theorem nodup_of_map {α β : Type} {f : α → β} {l : List α} (nd : (l.map f).Nodup) : l.Nodup := (List.pairwise_map.mp nd).imp fun hne e => hne (by rw [e])
theorem rowsOf_perm {h : List HRow} (nd : (h.map HRow.t).Nodup) {ts : List Int} (p : ts.Perm (h.map HRow.t)) : (rowsOf h ts).Perm h := by
  have em := map_rowsOf (h := h) (ts := ts) fun t ht => p.mem_iff.mp ht
  have nt : ((rowsOf h ts).map HRow.t).Nodup := by rw [em]; exact p.nodup_iff.mpr nd
  refine (List.perm_ext_iff_of_nodup (nodup_of_map nt) (nodup_of_map nd)).mpr fun r => ⟨fun hr => ?_, fun hr => ?_⟩
  · obtain ⟨t, _, e⟩ := List.mem_filterMap.mp hr
    exact (rowAt_some e).1
  · exact List.mem_filterMap.mpr ⟨r.t, p.mem_iff.mpr (List.mem_map.mpr ⟨r, hr, rfl⟩), rowAt_self nd hr⟩
theorem ordP_iff {h : List HRow} (nd : (h.map HRow.t).Nodup) {ts : List Int} : OrdP h ts ↔ ts.Perm (h.map HRow.t) ∧ NoBack (rowsOf h ts) ∧ seesL 0 (rowsOf h ts) := by
  constructor
  · rintro ⟨o, p, e, nb, s⟩
    have er : rowsOf h ts = o := by rw [← e]; exact rowsOf_map nd fun r hr => p.mem_iff.mp hr
    rw [er]
    exact ⟨by rw [← e]; exact p.map _, nb, s⟩
  · rintro ⟨p, nb, s⟩
    exact ⟨rowsOf h ts, rowsOf_perm nd p, map_rowsOf fun t ht => p.mem_iff.mp ht, nb, s⟩
theorem ints_sh (ns : List Int) : SeqAt.shaped (.list (ns.map PyData.int)) = true := by
  have h1 : (PyData.list (ns.map PyData.int)).canLay0 = true := by
    rw [PyData.canLay0]
    induction ns with
    | nil => simp [PyData.canLayAll0]
    | cons r rs ih =>
      rw [List.map_cons, PyData.canLayAll0, ih]
      simp [PyData.canLay0]
  have h2 : (PyData.list (ns.map PyData.int)).depth ≤ 64 := by
    have : PyData.depthAll (ns.map PyData.int) ≤ 1 := by
      clear h1
      induction ns with
      | nil => simp [PyData.depthAll]
      | cons r rs ih =>
        rw [List.map_cons, PyData.depthAll]
        exact Nat.max_le.mpr ⟨by simp [PyData.depth], ih⟩
    rw [PyData.depth]
    omega
  unfold SeqAt.shaped
  rw [h1, decide_eq_true h2]
  rfl
theorem ints_eqvAll : ∀ (ms ns : List Int), PyData.eqvAll (ms.map PyData.int) (ns.map PyData.int) = decide (ms = ns)
  | [], [] => by simp [PyData.eqvAll]
  | [], _ :: _ => by simp [PyData.eqvAll]
  | _ :: _, [] => by simp [PyData.eqvAll]
  | m :: ms, n :: ns => by
    rw [List.map_cons, List.map_cons, PyData.eqvAll, ints_eqvAll ms ns]
    have : PyData.eqv (.int m) (.int n) = decide (m = n) := by
      simp only [PyData.eqv]
      first | rfl | (by_cases h : m = n <;> simp [h])
    rw [this]
    by_cases h1 : m = n
    · by_cases h2 : ms = ns <;> simp [h1, h2]
    · simp [h1]
theorem ints_eqv (ms ns : List Int) : PyData.eqv (.list (ms.map PyData.int)) (.list (ns.map PyData.int)) = decide (ms = ns) := by
  rw [← ints_eqvAll]
  simp only [PyData.eqv]
theorem srt_eq {ys zs ts us : List Int} (py : ys.Perm ts) (sy : ys.Pairwise (· ≤ ·)) (pz : zs.Perm us) (sz : zs.Pairwise (· ≤ ·)) : ys = zs ↔ ts.Perm us := by
  constructor
  · intro e
    exact py.symm.trans (e ▸ pz)
  · intro p
    exact List.Perm.eq_of_pairwise (fun _ _ _ _ a b => Int.le_antisymm a b) sy sz (py.trans (p.trans pz.symm))
abbrev s_is_order : Stmt := topS 3
theorem sc_is_order : FnScope ["history", "tasks", "by_task", "rows", "row", "task"] ["history", "tasks"] (defScope s_is_order) := ⟨rfl, rfl, rfl, by decide +kernel, rfl, by decide +kernel, by decide +kernel⟩
def spis_order (K : PySem.W.Frag) : Sp := fun vs H Q _ => ∃ (v : V) (T : Addr) (h : List HRow) (ts : List Int), vs = [v, .ref T] ∧ Dp K H v (.list (h.map hD)) ∧ SqL K H T (ts.map V.int) ∧ h.length ≤ 61 ∧ ts.length ≤ 1000 ∧ (h.map HRow.t).Nodup ∧ (∀ r ∈ h, 0 ≤ r.b ∧ r.b < r.e) ∧ ∀ H' c, Same H H' → (c = true ↔ OrdP h ts) → Q (.bl c) H'
theorem ok_is_order {f : Addr} {fd : FuncData} (F : Fun K "is_order" "is_order" s_is_order f fd) (gm : mg "is_order" = some (.ref f)) (N : Fre K mg) (c_keeps_times : C8.Cal P w K mg base 1 "keeps_times" (spkeeps K) []) (c_sees_last_writes : C8.Cal P w K mg base 1 "sees_last_writes" (spsees K) []) : C8.Cal P w K mg base 2 "is_order" (spis_order K) [] := by
  refine mkCal F gm sc_is_order (F.binds (ps := ["history", "tasks"]) fun _ _ _ _ _ _ us hl => match us, hl with | [_, _], _ => rfl) (fun vs H Q E h => ?_) (fun cdv A outer s H vs Q E hr h => ?_)
  · obtain ⟨v, T, h, ts, rfl, _⟩ := h
    rfl
  · obtain ⟨v, T, h, ts, rfl, hv, hT, hlen, htl, nd, tm, q⟩ := h
    refine ⟨_, (pss_cons (ps_set (i := 2) sc_is_order.nd rfl (.inr rfl) (pe_dc (own := [("row", 4)]) (g := gName 4) (tt := tYes) rfl sc_is_order.nd (pi_list (pv 0)) (blkOk_by (N := ["history", "tasks", "by_task", "rows", "row", "task"]) (sc := defScope s_is_order) (by decide +kernel)) (fun _ _ _ _ _ => pg_name (i := 4) sc_is_order.nd rfl (Or.inl rfl)) (fun _ _ _ _ _ => pts_nil) (fun _ _ _ _ _ => (pe_ix (show IxR _ (rIxT K) from ix_tup) (pv 4) pe_int (fun _ _ => rfl))) (fun _ _ _ _ _ => (pv 4))))
 (pss_cons (ps_if (pt_cmpR (op_neD hr.units) (pe_callB (show CallR _ _ (rSortedI K) from cr_sortedI) (by rfl) N.sorted (by decide +kernel) (pa_cons (pv 1) pa_nil)) (pe_callB (call_sortedDI rfl) (by rfl) N.sorted (by decide +kernel) (pa_cons (pv 2) pa_nil)) (nomark _))
 (pss_one (ps_ret pe_bl))
 pss_nil)
 (pss_cons (ps_setLc (i := 3) (own := [("task", 5)]) (g := gName 5) (tt := tYes) rfl sc_is_order.nd rfl rfl (sw_true rfl rfl rfl (by decide +kernel)) (pi_list (pv 1)) (blkOk_by (N := ["history", "tasks", "by_task", "rows", "row", "task"]) (sc := defScope s_is_order) (by decide +kernel)) (fun _ _ _ _ _ => pg_name (i := 5) sc_is_order.nd rfl (Or.inl rfl)) (fun _ _ _ _ _ => pts_nil) (fun _ _ _ _ _ => (pe_dget (hu_of hr) (pv 2) (pv 5) (fun _ _ => rfl))))
 (pss_one (ps_ret (pe_and (C8.pe_c c_keeps_times hr (by decide) rfl (pa_cons (pv 3) pa_nil)) (pe_one (C8.pe_c c_sees_last_writes hr (by decide) rfl (pa_cons (pv 3) pa_nil))))))))), ?_⟩
    obtain ⟨a, xs, rfl, hs, ha⟩ := dp_list hv
    have el := dpAll_len ha
    rw [List.length_map] at el
    refine ⟨_, rfl, a, rfl, ⟨_, hs⟩, fun D nD => dc_it (walk_list (xs := xs)) (fun i H1 => Same H H1 ∧ ∃ kvs, H1 D = some (.dK kvs) ∧ kvs.map (·.1) = ((h.take i).map HRow.t).map Sum.inl ∧ ∀ r ∈ h.take i, ∃ x, valV kvs (.inl r.t) = some x ∧ Dp K H1 x (hD r)) ⟨same_upd nD, [], upd_same, rfl, (fun r hr => by cases hr)⟩ (fun i H1 _ z => z.1.seq hs) ?_ ?_⟩
    · rintro i v H1 H2 hi ⟨s1, kvs, hD1, hk, hv1⟩ ⟨rfl, hx⟩
      obtain ⟨d, ed, pd⟩ := dpAll_get ha hx
      rw [List.getElem?_map] at ed
      obtain ⟨r, er, rfl⟩ := Option.map_eq_some_iff.mp ed
      obtain ⟨b, rfl, hb⟩ := dp_h (dp_same s1 _ _ pd)
      have hr' : r ∈ h := List.mem_of_getElem? er
      have tk : h.take (i + 1) = h.take i ++ [r] := by
        obtain ⟨hi, ei⟩ := List.getElem?_eq_some_iff.mp er
        rw [← ei]
        exact (List.take_append_getElem hi).symm
      have ndt : ((h.take (i + 1)).map HRow.t).Nodup := ((List.take_sublist _ _).map _).nodup nd
      rw [tk, List.map_append] at ndt
      have new : r.t ∉ (h.take i).map HRow.t := fun z => (List.nodup_append.mp ndt).2.2 _ z r.t (List.mem_singleton.mpr rfl) rfl
      have vn : valV kvs (.inl r.t) = none := by
        have := key_val hk r.t
        rw [decide_eq_false new] at this
        exact Option.isSome_eq_false_iff.mp this |> Option.isNone_iff_eq_none.mp
      have kl : kvs.length ≤ 61 := by
        have : (kvs.map (·.1)).length = _ := congrArg List.length hk
        rw [List.length_map, List.length_map, List.length_map, List.length_take] at this
        omega
      refine ⟨rfl, ?_⟩
      refine ⟨_, rfl, b, _, 0, _, rfl, rfl, hb, atI_nat (j := 0) rfl, _, rfl, kvs, .inl r.t, rfl, hD1, by rw [sizeLine_eq]; omega, ?_, _, upd_same, ?_, fun w hw => ?_⟩
      · intro c o ec
        rw [upd_ne (ne_of_none ec nD)]
        exact s1 _ _ ec
      · rw [putK_new _ vn, List.map_append, hk, tk, List.map_append, List.map_append]
        rfl
      · rw [valV_put]
        rw [tk] at hw
        rcases List.mem_append.mp hw with hw | hw
        · rw [if_neg (fun z => new (by rw [← Sum.inl.inj z]; exact List.mem_map.mpr ⟨w, hw, rfl⟩))]
          obtain ⟨x, e1, e2⟩ := hv1 w hw
          exact ⟨x, e1, dp_kt (Kt.upd hD1 (fun z => z)) _ _ (hD_imm _) e2⟩
        · rw [List.mem_singleton.mp hw, if_pos rfl]
          exact ⟨_, rfl, dp_kt (Kt.upd hD1 (fun z => z)) _ _ (hD_imm _) (dp_same s1 _ _ pd)⟩
    · rintro H1 ⟨s1, kvs, hD1, hk, hv1⟩
      rw [el, List.take_length] at hk hv1
      refine ⟨_, rfl, T, ts, rfl, s1.seq hT, fun ys p1 py sy n1 => ?_⟩
      have u1 := same_upd (o := .lst (ys.map V.int)) n1
      refine ⟨_, rfl, D, kvs, h.map HRow.t, rfl, .inl (u1 _ _ hD1), hk, by rw [List.length_map]; omega, fun zs p2 pz sz n2 => ?_⟩
      have u2 := same_upd (o := .lst (zs.map V.int)) n2
      refine ⟨_, _, .lst (SqL.of (u2 _ _ upd_same)) (ints_dp ys), .lst (SqL.of upd_same) (ints_dp zs), ints_sh _, ints_sh _, _, rfl, ?_⟩
      rw [ints_eqv]
      have s2 := s1.trans (u1.trans u2)
      have hD2 := (u1.trans u2) _ _ hD1
      have hv2 : ∀ r ∈ h, ∃ x, valV kvs (.inl r.t) = some x ∧ Dp K (upd (upd H1 p1 (.lst (ys.map V.int))) p2 (.lst (zs.map V.int))) x (hD r) := fun r hr' => by
        obtain ⟨x, e1, e2⟩ := hv1 r hr'
        exact ⟨x, e1, dp_same (u1.trans u2) _ _ e2⟩
      revert s2 hD2 hv2
      generalize upd (upd H1 p1 (.lst (ys.map V.int))) p2 (.lst (zs.map V.int)) = H2
      intro s2 hD2 hv2
      by_cases hp : ts.Perm (h.map HRow.t)
      · rw [decide_eq_true ((srt_eq py sy pz sz).mpr hp)]
        refine iteF ⟨_, rfl, T, rfl, ⟨_, s2.seq hT⟩, fun L nL => lc_ty PyData.int hD (rowAt h) (s2.seq hT) (ints_dp ts) nL (by omega) hD_imm ?_ ?_⟩
        · intro i v t H3 k kf et s3 pv hy hn
          cases pv
          obtain ⟨r, hr', e⟩ := List.mem_map.mp (hp.mem_iff.mp (List.mem_of_getElem? et))
          obtain ⟨x, e1, e2⟩ := hv2 r hr'
          rw [e] at e1
          exact ⟨rfl, ⟨_, rfl, _, rfl, D, _, rfl, dget_of (k := .inl t) (s3 _ _ hD2) e1, hy r (by rw [← e]; exact rowAt_self nd hr') _ _ (Same.refl _) (dp_same s3 _ _ e2)⟩⟩
        intro H3 y3 s3 hL3 hy3
        have s4 := s2.trans s3
        have om : ∀ r ∈ rowsOf h ts, r ∈ h := fun r hr' => (rowsOf_perm nd hp).mem_iff.mp hr'
        have ol : (rowsOf h ts).length ≤ 61 := by rw [(rowsOf_perm nd hp).length_eq]; exact hlen
        have dpo : ∀ {H'}, Same H3 H' → Dp K H' (.ref L) (.list ((rowsOf h ts).map hD)) := fun s => .lst (SqL.of (s _ _ hL3)) (dp_sameAll s _ _ hy3)
        refine ⟨_, rfl, _, _, rfl, dpo (Same.refl _), ol, fun r hr' => tm r (om r hr'), fun H4 c s5 hc => ⟨_, rfl, ?_⟩⟩
        cases c with
        | true =>
          refine iteT ⟨_, rfl, _, _, rfl, dpo s5, ol, fun H5 c2 s6 hc2 => q H5 c2 (s4.trans (s5.trans s6)) ?_⟩
          rw [hc2, ordP_iff nd]
          exact ⟨fun z => ⟨hp, hc.mp rfl, z⟩, fun z => z.2.2⟩
        | false =>
          refine iteF (q H4 false (s4.trans s5) ⟨(fun z => by cases z), fun z => ?_⟩)
          exact hc.mpr ((ordP_iff nd).mp z).2.1
      · rw [decide_eq_false (fun z => hp ((srt_eq py sy pz sz).mp z))]
        exact iteT (q H2 false s2 ⟨(fun z => by cases z), fun z => absurd ((ordP_iff nd).mp z).1 hp⟩)

/-! ### the law's own walk -/
def Walked (o : List HRow) (i : Nat) : Prop := ∀ (j : Nat) (x : HRow), j < i → o[j]? = some x → ∀ y ∈ o.drop (j + 1), ¬ y.e < x.b
theorem walked_all : ∀ {o : List HRow}, Walked o o.length → NoBack o
  | [], _ => List.Pairwise.nil
  | x :: o, w => by
    refine List.pairwise_cons.mpr ⟨fun y hy => w 0 x (Nat.succ_pos _) rfl y hy, walked_all fun j z hj e y hy => ?_⟩
    exact w (j + 1) z (Nat.succ_lt_succ hj) (by simpa using e) y (by simpa using hy)
theorem noBack_at : ∀ {o : List HRow}, NoBack o → ∀ (j : Nat) (x : HRow), o[j]? = some x → ∀ y ∈ o.drop (j + 1), ¬ y.e < x.b
  | [], _, j, x, e, _, _ => by simp at e
  | z :: o, nb, 0, x, e, y, hy => by
    have : z = x := by simpa using e
    subst this
    exact (List.pairwise_cons.mp nb).1 y (by simpa using hy)
  | z :: o, nb, j + 1, x, e, y, hy => noBack_at (List.pairwise_cons.mp nb).2 j x (by simpa using e) y (by simpa using hy)
abbrev s__law_order_right : Stmt := topS 19
theorem sc__law_order_right : FnScope ["history", "tasks", "rows", "row", "last", "at", "task"] ["history", "tasks"] (defScope s__law_order_right) := ⟨rfl, rfl, rfl, by decide +kernel, rfl, by decide +kernel, by decide +kernel⟩
def sp_law_order_right (K : PySem.W.Frag) : Sp := fun vs H Q _ => ∃ (v : V) (T : Addr) (h : List HRow) (ts : List Int), vs = [v, .ref T] ∧ Dp K H v (.list (h.map hD)) ∧ SqL K H T (ts.map V.int) ∧ h.length ≤ 61 ∧ ts.length ≤ 1000 ∧ (h.map HRow.t).Nodup ∧ (∀ r ∈ h, 0 ≤ r.b ∧ r.b < r.e) ∧ ∀ H' c, Same H H' → (c = true ↔ OrdP h ts) → Q (.bl c) H'
theorem ok__law_order_right {f : Addr} {fd : FuncData} (F : Fun K "_law_order_right" "_law_order_right" s__law_order_right f fd) (gm : mg "_law_order_right" = some (.ref f)) (N : Fre K mg)  : C8.Cal P w K mg base 1 "_law_order_right" (sp_law_order_right K) [] := by
  refine mkCal F gm sc__law_order_right (F.binds (ps := ["history", "tasks"]) fun _ _ _ _ _ _ us hl => match us, hl with | [_, _], _ => rfl) (fun vs H Q E h => ?_) (fun cdv A outer s H vs Q E hr h => ?_)
  · obtain ⟨v, T, h, ts, rfl, _⟩ := h
    rfl
  · obtain ⟨v, T, h, ts, rfl, hv, hT, hlen, htl, nd, tm, q⟩ := h
    refine ⟨_, (pss_cons (ps_set (i := 2) sc__law_order_right.nd rfl (.inr rfl) pe_dnewK)
 (pss_cons (ps_for PassesOwn.never rfl (pi_list (pv 0)) (pg_name (i := 3) sc__law_order_right.nd rfl (.inr rfl))
 (pss_one (ps_dput (hu_of hr) (pv 2) (pe_ix ix_tup (pv 3) pe_int (fun _ _ => rfl)) (pv 3) rfl)))
 (pss_cons (ps_if (PW.pt (pw_or (pt_not (pt_val (pe_callB call_isi (by rfl) N.isinstance (by decide +kernel) (pa_cons (pv 1) (pa_cons (pe_bltn (v := .ty "list") (u := .type "list") rfl N.list (by decide +kernel) rfl) pa_nil))))) (pw_or1 (pt_cmpR (op_neD hr.units) (pe_callB (call_sortedDI rfl) (by rfl) N.sorted (by decide +kernel) (pa_cons (pv 2) pa_nil)) (pe_callB (show CallR _ _ (rSortedI K) from cr_sortedI) (by rfl) N.sorted (by decide +kernel) (pa_cons (pv 1) pa_nil)) (nomark _)))))
 (pss_one (ps_ret pe_bl))
 pss_nil)
 (pss_cons (ps_set (i := 4) sc__law_order_right.nd rfl (.inl rfl) pe_int)
 (pss_cons (ps_for PassesOwn.never rfl (pi_range1 (by rfl) N.range (pa_cons (pe_callB call_len_seq (by rfl) N.len (by decide +kernel) (pa_cons (pv 1) pa_nil)) pa_nil)) (pg_name (i := 5) sc__law_order_right.nd rfl (.inl rfl))
 (pss_cons (ps_set (i := 3) sc__law_order_right.nd rfl (.inr rfl) (pe_dget (hu_of hr) (pv 2) (pe_ix ix_list (pv 1) (pv 5) (fun _ _ => rfl)) (fun _ _ => rfl)))
 (pss_cons (ps_if (pt_cmpR (op_neNil (hu0 hr)) (pe_lc (own := [("task", 6)]) (g := gName 6) rfl sc__law_order_right.nd (pi_list (pe_slice sl_list (pv 1) (po_some (pe_op op_add (pv 5) pe_int)) po_none)) (blkOk_by (N := ["history", "tasks", "rows", "row", "last", "at", "task"]) (sc := defScope s__law_order_right) (by decide +kernel)) (fun _ _ _ _ _ => pg_name (i := 6) sc__law_order_right.nd rfl (Or.inl rfl)) (fun _ _ _ _ _ => pts_one (pt_cmpR op_lt (pe_ix (show IxR _ (rIxT K) from ix_tup) (pe_dget (hu_of hr) (pv 2) (pv 6) (fun _ _ => rfl)) pe_int (fun _ _ => rfl)) (pe_ix (show IxR _ (rIxT K) from ix_tup) (pv 3) pe_int (fun _ _ => rfl)) (nomark _))) (fun _ _ _ _ _ => (pv 6))) (pe_lst pa_nil) (nomark _))
 (pss_one (ps_ret pe_bl))
 pss_nil)
 (pss_cons (ps_if (PW.pt (pw_and (pt_cmpR op_eq (pe_ix ix_tup (pv 3) pe_int (fun _ _ => rfl)) pe_str (nomark _)) (pw_and1 (pt_cmpR op_ne (pe_ix ix_tup (pv 3) pe_int (fun _ _ => rfl)) (pv 4) (nomark _)))))
 (pss_one (ps_ret pe_bl))
 pss_nil)
 (pss_one (ps_set (i := 4) sc__law_order_right.nd rfl (.inl rfl) (pe_ix ix_tup (pv 3) pe_int (fun _ _ => rfl))))))))
 (pss_one (ps_ret pe_bl))))))), ?_⟩
    obtain ⟨a, xs, rfl, hs, ha⟩ := dp_list hv
    have el := dpAll_len ha
    rw [List.length_map] at el
    refine fun D nD => ?_
    refine ⟨_, rfl, a, rfl, ⟨_, (same_upd nD).seq hs⟩, for_list (xs := xs) (fun i σ H1 => (∃ y3 y4 y5 y6, σ = [some (.ref a), some (.ref T), some (.ref D), y3, y4, y5, y6]) ∧ Same H H1 ∧ ∃ kvs, H1 D = some (.dK kvs) ∧ kvs.map (·.1) = ((h.take i).map HRow.t).map Sum.inl ∧ ∀ r ∈ h.take i, ∃ x, valV kvs (.inl r.t) = some x ∧ Dp K H1 x (hD r)) ⟨⟨_, _, _, _, rfl⟩, same_upd nD, [], upd_same, rfl, (fun r hr => by cases hr)⟩ (fun i σ H1 _ z => z.2.1.seq hs) ?_ ?_⟩
    · rintro i x σ H1 hx ⟨⟨y3, y4, y5, y6, rfl⟩, s1, kvs, hD1, hk, hv1⟩
      obtain ⟨d, ed, pd⟩ := dpAll_get ha hx
      rw [List.getElem?_map] at ed
      obtain ⟨r, er, rfl⟩ := Option.map_eq_some_iff.mp ed
      obtain ⟨b, rfl, hb⟩ := dp_h (dp_same s1 _ _ pd)
      have tk : h.take (i + 1) = h.take i ++ [r] := by
        obtain ⟨hi, ei⟩ := List.getElem?_eq_some_iff.mp er
        rw [← ei]
        exact (List.take_append_getElem hi).symm
      have ndt : ((h.take (i + 1)).map HRow.t).Nodup := ((List.take_sublist _ _).map _).nodup nd
      rw [tk, List.map_append] at ndt
      have new : r.t ∉ (h.take i).map HRow.t := fun z => (List.nodup_append.mp ndt).2.2 _ z r.t (List.mem_singleton.mpr rfl) rfl
      have vn : valV kvs (.inl r.t) = none := by
        have := key_val hk r.t
        rw [decide_eq_false new] at this
        exact Option.isSome_eq_false_iff.mp this |> Option.isNone_iff_eq_none.mp
      have kl : kvs.length ≤ 61 := by
        have : (kvs.map (·.1)).length = _ := congrArg List.length hk
        rw [List.length_map, List.length_map, List.length_map, List.length_take] at this
        omega
      refine ⟨_, rfl, _, rfl, _, rfl, b, _, 0, _, rfl, rfl, hb, atI_nat (j := 0) rfl, D, _, rfl, DPut.k (k := .inl r.t) hD1 (by rw [sizeLine_eq]; omega), ⟨_, _, _, _, rfl⟩, ?_, _, upd_same, ?_, fun w hw => ?_⟩
      · intro c o ec
        rw [upd_ne (ne_of_none ec nD)]
        exact s1 _ _ ec
      · rw [putK_new _ vn, List.map_append, hk, tk, List.map_append, List.map_append]
        rfl
      · rw [valV_put]
        rw [tk] at hw
        rcases List.mem_append.mp hw with hw | hw
        · rw [if_neg (fun z => new (by rw [← Sum.inl.inj z]; exact List.mem_map.mpr ⟨w, hw, rfl⟩))]
          obtain ⟨x, e1, e2⟩ := hv1 w hw
          exact ⟨x, e1, dp_kt (Kt.upd hD1 (fun z => z)) _ _ (hD_imm _) e2⟩
        · rw [List.mem_singleton.mp hw, if_pos rfl]
          exact ⟨_, rfl, dp_kt (Kt.upd hD1 (fun z => z)) _ _ (hD_imm _) (dp_same s1 _ _ pd)⟩
    · rintro σ H1 ⟨⟨y3, y4, y5, y6, rfl⟩, s1, kvs, hD1, hk, hv1⟩
      rw [el, List.take_length] at hk hv1
      refine ⟨_, rfl, _, _, _, _, true, rfl, .ty _, dp_ty (show Dp K H1 (.ref T) (.list (ts.map PyData.int)) from .lst (s1.seq hT) (ints_dp ts)), kit_ty (show kitB "list" "list" = some true by decide +kernel), _, rfl, ?_⟩
      refine iteF ⟨_, rfl, D, kvs, h.map HRow.t, rfl, .inl hD1, hk, by rw [List.length_map]; omega, fun zs p2 pz sz n2 => ?_⟩
      have u2 := same_upd (o := .lst (zs.map V.int)) n2
      refine ⟨_, rfl, T, ts, rfl, (s1.trans u2).seq hT, fun ys p1 py sy n1 => ?_⟩
      have u1 := same_upd (o := .lst (ys.map V.int)) n1
      refine ⟨_, _, .lst (SqL.of (u1 _ _ upd_same)) (ints_dp zs), .lst (SqL.of upd_same) (ints_dp ys), ints_sh _, ints_sh _, _, rfl, ?_⟩
      rw [ints_eqv]
      have s2 := s1.trans (u2.trans u1)
      have hD2 := (u2.trans u1) _ _ hD1
      have hv2 : ∀ r ∈ h, ∃ x, valV kvs (.inl r.t) = some x ∧ Dp K (upd (upd H1 p2 (.lst (zs.map V.int))) p1 (.lst (ys.map V.int))) x (hD r) := fun r hr' => by
        obtain ⟨x, e1, e2⟩ := hv1 r hr'
        exact ⟨x, e1, dp_same (u2.trans u1) _ _ e2⟩
      revert s2 hD2 hv2
      generalize upd (upd H1 p2 (.lst (zs.map V.int))) p1 (.lst (ys.map V.int)) = H2
      intro s2 hD2 hv2
      by_cases hp : ts.Perm (h.map HRow.t)
      · rw [decide_eq_true ((srt_eq py sy pz sz).mpr hp).symm]
        refine iteF ?_
        have em := map_rowsOf (h := h) (ts := ts) fun t ht => hp.mem_iff.mp ht
        have op := rowsOf_perm nd hp
        have oiff := ordP_iff nd (ts := ts)
        revert em op oiff
        generalize rowsOf h ts = o
        intro em op oiff
        have ol : o.length = ts.length := by rw [← em, List.length_map]
        refine ⟨_, rfl, T, _, rfl, .inl (s2.seq hT), _, rfl, by omega, by rw [List.length_map]; omega, for_range (fun i σ H3 => (∃ (last : Int) (y3 y5 y6 : Option V), σ = [some (.ref a), some (.ref T), some (.ref D), y3, some (.int last), y5, y6] ∧ (seesL 0 o ↔ seesL last (o.drop i))) ∧ Walked o i ∧ Same H2 H3) ⟨⟨0, _, _, _, rfl, by rw [List.drop_zero]⟩, (fun j x hj => absurd hj (Nat.not_lt_zero _)), Same.refl _⟩ ?_ ?_⟩
        · rintro i σ H3 hi ⟨⟨last, y3, y5, y6, rfl, iv⟩, wk, s3⟩
          have hi' : i < o.length := by rw [ol]; rw [List.length_map] at hi; omega
          obtain ⟨r, er⟩ : ∃ r, o[i]? = some r := ⟨_, List.getElem?_eq_getElem hi'⟩
          have hr' : r ∈ h := op.mem_iff.mp (List.mem_of_getElem? er)
          have et : (ts.map V.int)[i]? = some (.int r.t) := by rw [← em, List.getElem?_map, List.getElem?_map, er]; rfl
          have hat : atI (ts.map V.int) (0 + (i : Int)) = some (.int r.t) := by rw [Int.zero_add]; exact atI_nat et
          have dr : o.drop i = r :: o.drop (i + 1) := by
            obtain ⟨h1, e1⟩ := List.getElem?_eq_some_iff.mp er
            rw [← e1]
            exact List.drop_eq_getElem_cons h1
          rw [dr] at iv
          obtain ⟨x, e1, e2⟩ := hv2 r hr'
          obtain ⟨b, rfl, hb⟩ := dp_h (dp_same s3 _ _ e2)
          refine ⟨_, rfl, _, rfl, _, rfl, T, _, 0 + (i : Int), _, rfl, rfl, (s2.trans s3).seq hT, hat, D, _, rfl, dget_of (k := .inl r.t) (s3 _ _ hD2) e1, ?_⟩
          refine ⟨_, rfl, _, rfl, 0 + (i : Int), 1, rfl, rfl, _, rfl, T, _, rfl, (s2.trans s3).seq hT, fun p np => ?_⟩
          have ecut : cutV (ts.map V.int) (some (0 + (i : Int) + 1)) none = (ts.drop (i + 1)).map V.int := by
            have : (0 + (i : Int) + 1) = ((i + 1 : Nat) : Int) := by omega
            rw [this]
            unfold cutV
            rw [HT.sIx_none, HT.sIx_nat]
            have e2 : min (i + 1) (ts.map V.int).length = i + 1 := by rw [List.length_map]; omega
            rw [e2, List.map_drop]
            exact List.take_of_length_le (by rw [List.length_drop]; exact Nat.le_refl _)
          rw [ecut]
          have sp := same_upd (o := .lst ((ts.drop (i + 1)).map V.int)) np
          have hp3 := upd_same (H := H3) (a := p) (o := .lst ((ts.drop (i + 1)).map V.int))
          revert sp hp3
          generalize upd H3 p (.lst ((ts.drop (i + 1)).map V.int)) = H4
          intro sp hp3
          have s4 := s3.trans sp
          have dm : (o.drop (i + 1)).map HRow.t = ts.drop (i + 1) := by rw [List.map_drop, em]
          refine ⟨p, rfl, ⟨_, SqL.of hp3⟩, fun L nL => lc_ty PyData.int PyData.int (fun t => if (match rowAt h t with | some y => decide (y.e < r.b) | none => false) = true then some t else none) (SqL.of hp3) (ints_dp _) nL (by rw [List.length_drop]; omega) (fun _ => rfl) ?_ ?_⟩
          · intro j v t H5 k kf etj s5 pv hy hn
            cases pv
            have mt := List.mem_of_getElem? etj
            rw [← dm] at mt
            obtain ⟨y, hy', ey⟩ := List.mem_map.mp mt
            have yh : y ∈ h := op.mem_iff.mp (List.mem_of_mem_drop hy')
            obtain ⟨yv, f1, f2⟩ := hv2 y yh
            obtain ⟨c, rfl, hc⟩ := dp_h (dp_same (s4.trans s5) _ _ f2)
            rw [ey] at f1
            have era : rowAt h t = some y := by rw [← ey]; exact rowAt_self nd yh
            refine ⟨rfl, ⟨_, rfl, _, rfl, D, _, rfl, dget_of (k := .inl t) ((s4.trans s5) _ _ hD2) f1, c, _, 4, _, rfl, rfl, hc, atI_nat (j := 4) rfl, _, rfl, b, _, 3, _, rfl, rfl, sqT_same (sp.trans s5) hb, atI_nat (j := 3) rfl, _, _, rfl, rfl, _, rfl, ite2 (fun e => ?_) (fun e => ?_)⟩⟩
            · exact ⟨_, rfl, hy t (by rw [era]; exact if_pos e) _ _ (Same.refl _) (.int _)⟩
            · exact hn (by rw [era]; exact if_neg e) _ (Same.refl _)
          intro H5 ws s5 hL5 hws
          refine ⟨Nat.zero_le _, fun n2 nn2 => ?_⟩
          have sn2 := same_upd (o := .lst []) nn2
          refine ⟨L, n2, _, rfl, rfl, SqL.of (sn2 _ _ hL5), SqL.of upd_same, _, rfl, ?_⟩
          have s6 := s4.trans (s5.trans sn2)
          have hb6 := sqT_same (sp.trans (s5.trans sn2)) hb
          revert s6 hb6
          generalize upd H5 n2 (.lst []) = H6
          intro s6 hb6
          have s26 := s2.trans s6
          cases hf : (ts.drop (i + 1)).filterMap (fun t => if (match rowAt h t with | some y => decide (y.e < r.b) | none => false) = true then some t else none) with
          | cons t0 _ =>
            rw [hf] at hws
            cases hws
            refine iteT (q H6 false s26 ⟨(fun z => by cases z), fun z => ?_⟩)
            have nb := (oiff.mp z).2.1
            have mt : t0 ∈ (ts.drop (i + 1)).filterMap (fun t => if (match rowAt h t with | some y => decide (y.e < r.b) | none => false) = true then some t else none) := by rw [hf]; exact List.mem_cons_self
            obtain ⟨t, ht, e⟩ := List.mem_filterMap.mp mt
            rw [← dm] at ht
            obtain ⟨y, hy', ey⟩ := List.mem_map.mp ht
            rw [← ey, rowAt_self nd (op.mem_iff.mp (List.mem_of_mem_drop hy'))] at e
            by_cases lt : y.e < r.b
            · exact absurd lt (noBack_at nb i r er y hy')
            · simp [lt] at e
          | nil =>
            rw [hf] at hws
            cases hws
            have wk' : Walked o (i + 1) := fun j z hj ez y hy' lt => by
              by_cases ej : j = i
              · subst ej
                rw [er] at ez
                cases ez
                have : y.t ∈ (ts.drop (j + 1)).filterMap (fun t => if (match rowAt h t with | some y => decide (y.e < r.b) | none => false) = true then some t else none) := List.mem_filterMap.mpr ⟨y.t, by rw [← dm]; exact List.mem_map.mpr ⟨y, hy', rfl⟩, by rw [rowAt_self nd (op.mem_iff.mp (List.mem_of_mem_drop hy'))]; exact if_pos (decide_eq_true lt)⟩
                rw [hf] at this
                cases this
              · exact wk j z (by omega) ez y hy' lt
            have go : (r.wr = true ∨ r.v = last) → (∃ (last' : Int) (z3 z5 z6 : Option V), [some (V.ref a), some (V.ref T), some (V.ref D), some (V.ref b), some (V.int r.v), some (V.int (0 + (i : Int))), y6] = [some (V.ref a), some (V.ref T), some (V.ref D), z3, some (V.int last'), z5, z6] ∧ (seesL 0 o ↔ seesL last' (o.drop (i + 1)))) ∧ Walked o (i + 1) ∧ Same H2 H6 := fun c => ⟨⟨r.v, _, _, _, rfl, iv.trans ⟨fun z => z.2, fun z => ⟨c, z⟩⟩⟩, wk', s6⟩
            refine iteF ⟨_, rfl, b, _, 1, _, rfl, rfl, hb6, atI_nat (j := 1) rfl, rfl, _, rfl, ite2 (fun e => ⟨_, rfl, b, _, 2, _, rfl, rfl, hb6, atI_nat (j := 2) rfl, _, rfl, rfl, _, rfl, ?_⟩) (fun e => ?_)⟩
            · have ew : ¬ r.wr = true := fun z => by rw [z] at e; exact absurd (V.str.inj (of_decide_eq_true e)) (by decide)
              by_cases ev : r.v = last
              · rw [ev, show (!decide (V.int last = V.int last)) = false by simp]
                exact iteF ⟨_, rfl, b, _, 2, _, rfl, rfl, hb6, atI_nat (j := 2) rfl, go (.inr ev)⟩
              · rw [decide_eq_false (fun z => ev (V.int.inj z))]
                refine iteT (q H6 false s26 ⟨(fun z => by cases z), fun z => ?_⟩)
                rcases (iv.mp (oiff.mp z).2.2).1 with z | z
                · exact absurd z ew
                · exact absurd z ev
            · have ew : r.wr = true := by
                cases hw : r.wr with
                | true => rfl
                | false => rw [hw] at e; exact absurd (decide_eq_true rfl) e
              exact ⟨_, rfl, b, _, 2, _, rfl, rfl, hb6, atI_nat (j := 2) rfl, go (.inl ew)⟩
        · rintro σ H3 ⟨⟨last, y3, y5, y6, rfl, iv⟩, wk, s3⟩
          rw [List.length_map, Int.toNat_natCast, ← ol] at wk iv
          rw [List.drop_length] at iv
          exact q H3 true (s2.trans s3) ⟨fun _ => oiff.mpr ⟨hp, walked_all wk, iv.mpr trivial⟩, fun _ => rfl⟩
      · rw [decide_eq_false (fun z => hp ((srt_eq py sy pz sz).mp z.symm))]
        exact iteT (q H2 false s2 ⟨(fun z => by cases z), fun z => absurd ((ordP_iff nd).mp z).1 hp⟩)

/-! ### the law's own zones and reasons -/
abbrev s__law_zone : Stmt := topS 20
theorem sc__law_zone : FnScope ["history", "value", "nought", "ends", "row"] ["history", "value"] (defScope s__law_zone) := ⟨rfl, rfl, rfl, by decide +kernel, rfl, by decide +kernel, by decide +kernel⟩
def sp_law_zone (K : PySem.W.Frag) : Sp := fun vs H Q _ => ∃ (v : V) (h : List HRow) (u : Int), vs = [v, .int u] ∧ Dp K H v (.list (h.map hD)) ∧ h.length ≤ 61 ∧ isVal h u ∧ ∀ (p : Addr) (H' : Hp) (z : Int × Int), zoneO h u = some z → Same H H' → H p = none → H' p = some (.tup [.int z.1, .int z.2]) → Q (.ref p) H'
theorem min_uniq {es : List Int} {m f : Int} (h1 : m ∈ es) (h2 : ∀ y, y ∈ es → m ≤ y) (h3 : f ∈ es) (h4 : ∀ x ∈ es, f ≤ x) : m = f := by
  have a := h2 f h3
  have c := h4 m h1
  omega
theorem max_uniq {es : List Int} {m f : Int} (h1 : m ∈ es) (h2 : ∀ y, y ∈ es → y ≤ m) (h3 : f ∈ es) (h4 : ∀ x ∈ es, x ≤ f) : m = f := by
  have a := h2 f h3
  have c := h4 m h1
  omega
theorem nought_eq (u : Int) : (List.replicate ((if decide (V.int u = V.int 0) = true then (1 : Int) else 0)).toNat [V.int (-1)]).flatten = ((if u = 0 then [-1] else []) : List Int).map V.int := by
  by_cases h : u = 0
  · subst h
    rw [if_pos (decide_eq_true rfl), if_pos rfl]
    rfl
  · rw [if_neg (by rw [decide_eq_false (fun z => h (V.int.inj z))]; exact Bool.false_ne_true), if_neg h]
    rfl
theorem fm_ends (u : Int) (g : HRow → Int) : ∀ (h : List HRow), h.filterMap (fun r => if r.v = u then some (g r) else none) = (h.filter fun r => decide (r.v = u)).map g
  | [] => rfl
  | r :: rs => by
    rw [List.filterMap_cons, List.filter_cons, fm_ends u g rs]
    by_cases hv : r.v = u <;> simp [hv]
theorem ok__law_zone {f : Addr} {fd : FuncData} (F : Fun K "_law_zone" "_law_zone" s__law_zone f fd) (gm : mg "_law_zone" = some (.ref f)) (N : Fre K mg)  : C8.Cal P w K mg base 1 "_law_zone" (sp_law_zone K) [] := by
  refine mkCal F gm sc__law_zone (F.binds (ps := ["history", "value"]) fun _ _ _ _ _ _ us hl => match us, hl with | [_, _], _ => rfl) (fun vs H Q E h => ?_) (fun cdv A outer s H vs Q E hr h => ?_)
  · obtain ⟨v, h, u, rfl, _⟩ := h
    rfl
  · obtain ⟨v, h, u, rfl, hv, hlen, hval, q⟩ := h
    refine ⟨_, (pss_cons (ps_set (i := 2) sc__law_zone.nd rfl (.inl rfl) (pe_op op_rep (pe_lst (pa_cons (pe_un un_neg pe_int) pa_nil)) (pe_callTy call_int1 (by rfl) N.int (by decide +kernel) (pa_cons (pe_cmpR op_eq (pv 1) pe_int (nomark _)) pa_nil))))
 (pss_cons (ps_set (i := 3) sc__law_zone.nd rfl (.inl rfl) (pe_op op_cat (pv 2) (pe_lc (own := [("row", 4)]) (g := gName 4) rfl sc__law_zone.nd (pi_list (pv 0)) (blkOk_by (N := ["history", "value", "nought", "ends", "row"]) (sc := defScope s__law_zone) (by decide +kernel)) (fun _ _ _ _ _ => pg_name (i := 4) sc__law_zone.nd rfl (Or.inl rfl)) (fun _ _ _ _ _ => pts_one (pt_cmpR op_eq (pe_ix (show IxR _ (rIxT K) from ix_tup) (pv 4) pe_int (fun _ _ => rfl)) (pv 1) (nomark _))) (fun _ _ _ _ _ => (pe_ix (show IxR _ (rIxT K) from ix_tup) (pv 4) pe_int (fun _ _ => rfl))))))
 (pss_one (ps_ret (pe_tup (pa_cons (pe_callB (cr_min rfl) (by rfl) N.min (by decide +kernel) (pa_cons (pv 3) pa_nil)) (pa_cons (pe_callB (cr_max rfl) (by rfl) N.max (by decide +kernel) (pa_cons (pe_op op_cat (pv 2) (pe_lc (own := [("row", 4)]) (g := gName 4) rfl sc__law_zone.nd (pi_list (pv 0)) (blkOk_by (N := ["history", "value", "nought", "ends", "row"]) (sc := defScope s__law_zone) (by decide +kernel)) (fun _ _ _ _ _ => pg_name (i := 4) sc__law_zone.nd rfl (Or.inl rfl)) (fun _ _ _ _ _ => pts_one (pt_cmpR op_eq (pe_ix (show IxR _ (rIxT K) from ix_tup) (pv 4) pe_int (fun _ _ => rfl)) (pv 1) (nomark _))) (fun _ _ _ _ _ => (pe_ix (show IxR _ (rIxT K) from ix_tup) (pv 4) pe_int (fun _ _ => rfl))))) pa_nil)) pa_nil))))))), ?_⟩
    obtain ⟨a, xs, rfl, hs, ha⟩ := dp_list hv
    obtain ⟨⟨f, l⟩, hz⟩ := zone_some.mpr hval
    obtain ⟨z1, z2, z3, z4⟩ := (zone_ok h u).som f l hz
    -- nought
    refine ⟨1, rfl, (by show 1 ≤ sizeLine; decide), fun L nL => ⟨_, rfl, rfl, .inr ⟨_, rfl, L, _, _, rfl, rfl, upd_same, ?_, ?_, ?_, fun N nN => ?_⟩⟩⟩
    · split <;> decide
    · split <;> decide
    · split <;> decide
    rw [nought_eq]
    have sL := same_upd (o := .lst [V.int (-1)]) nL
    have sN := same_upd (o := .lst (((if u = 0 then [-1] else []) : List Int).map V.int)) nN
    have hN := upd_same (H := upd H L (.lst [V.int (-1)])) (a := N) (o := .lst (((if u = 0 then [-1] else []) : List Int).map V.int))
    have s1 := sL.trans sN
    revert hN s1
    generalize upd (upd H L (.lst [V.int (-1)])) N (.lst (((if u = 0 then [-1] else []) : List Int).map V.int)) = H1
    intro hN s1
    have nl : ((if u = 0 then [-1] else []) : List Int).length ≤ 1 := by split <;> simp
    -- ends
    refine ⟨_, rfl, _, rfl, a, rfl, ⟨_, s1.seq hs⟩, fun D nD => lc_ty hD PyData.int (fun r => if r.v = u then some r.e else none) (s1.seq hs) (dp_sameAll s1 _ _ ha) nD (by omega) (fun _ => rfl) ?_ ?_⟩
    · intro i v r H2 k kf er s2 pr hy hn
      obtain ⟨b, rfl, hb⟩ := dp_h pr
      refine ⟨rfl, ⟨_, rfl, b, _, 2, _, rfl, rfl, hb, atI_nat (j := 2) rfl, _, rfl, rfl, _, rfl, ite2 (fun e => ?_) (fun e => ?_)⟩⟩
      · have e1 : r.v = u := V.int.inj (of_decide_eq_true e)
        exact ⟨_, rfl, b, _, 4, _, rfl, rfl, hb, atI_nat (j := 4) rfl, hy _ (if_pos e1) _ _ (Same.refl _) (.int _)⟩
      · have e1 : ¬ r.v = u := fun z => e (decide_eq_true (by rw [z]))
        exact hn (if_neg e1) _ (Same.refl _)
    intro H2 y1 s2 hDe hy1
    have e1 := dp_ints hy1
    rw [fm_ends] at e1
    subst e1
    have el : ((h.filter fun r => decide (r.v = u)).map HRow.e).length ≤ 61 := by rw [List.length_map]; exact Nat.le_trans (List.length_filter_le _ _) hlen
    refine ⟨N, D, _, _, rfl, rfl, s2 _ _ hN, hDe, by rw [List.length_map, List.length_map, sizeLine_eq]; omega, fun R nR => ?_⟩
    have sR := same_upd (o := .lst (((if u = 0 then [-1] else []) : List Int).map V.int ++ ((h.filter fun r => decide (r.v = u)).map HRow.e).map V.int)) nR
    have hR : upd H2 R (.lst (((if u = 0 then [-1] else []) : List Int).map V.int ++ ((h.filter fun r => decide (r.v = u)).map HRow.e).map V.int)) R = some (.lst ((endsOf h u).map V.int)) := by
      rw [upd_same]
      show _ = some (HO.lst ((((if u = 0 then [-1] else []) : List Int) ++ (h.filter fun r => decide (r.v = u)).map HRow.e).map V.int))
      rw [List.map_append]
    have hN2 := sR _ _ (s2 _ _ hN)
    have s12 := s1.trans (s2.trans sR)
    revert hR hN2 s12
    generalize upd H2 R (.lst (((if u = 0 then [-1] else []) : List Int).map V.int ++ ((h.filter fun r => decide (r.v = u)).map HRow.e).map V.int)) = H3
    intro hR hN2 s12
    -- the least end
    refine ⟨_, rfl, R, _, rfl, SqL.of hR, List.length_pos_of_mem z1, fun m hm hmin => ?_⟩
    have em := min_uniq hm hmin z1 z2
    subst em
    -- the greatest begin
    refine ⟨_, rfl, _, rfl, a, rfl, ⟨_, s12.seq hs⟩, fun D2 nD2 => lc_ty hD PyData.int (fun r => if r.v = u then some r.b else none) (s12.seq hs) (dp_sameAll s12 _ _ ha) nD2 (by omega) (fun _ => rfl) ?_ ?_⟩
    · intro i v r H4 k kf er s4 pr hy hn
      obtain ⟨b, rfl, hb⟩ := dp_h pr
      refine ⟨rfl, ⟨_, rfl, b, _, 2, _, rfl, rfl, hb, atI_nat (j := 2) rfl, _, rfl, rfl, _, rfl, ite2 (fun e => ?_) (fun e => ?_)⟩⟩
      · have e1 : r.v = u := V.int.inj (of_decide_eq_true e)
        exact ⟨_, rfl, b, _, 3, _, rfl, rfl, hb, atI_nat (j := 3) rfl, hy _ (if_pos e1) _ _ (Same.refl _) (.int _)⟩
      · have e1 : ¬ r.v = u := fun z => e (decide_eq_true (by rw [z]))
        exact hn (if_neg e1) _ (Same.refl _)
    intro H4 y2 s4 hD2 hy2
    have e2 := dp_ints hy2
    rw [fm_ends] at e2
    subst e2
    have bl : ((h.filter fun r => decide (r.v = u)).map HRow.b).length ≤ 61 := by rw [List.length_map]; exact Nat.le_trans (List.length_filter_le _ _) hlen
    refine ⟨N, D2, _, _, rfl, rfl, s4 _ _ hN2, hD2, by rw [List.length_map, List.length_map, sizeLine_eq]; omega, fun R2 nR2 => ?_⟩
    have sR2 := same_upd (o := .lst (((if u = 0 then [-1] else []) : List Int).map V.int ++ ((h.filter fun r => decide (r.v = u)).map HRow.b).map V.int)) nR2
    have hR2 : upd H4 R2 (.lst (((if u = 0 then [-1] else []) : List Int).map V.int ++ ((h.filter fun r => decide (r.v = u)).map HRow.b).map V.int)) R2 = some (.lst ((begsOf h u).map V.int)) := by
      rw [upd_same]
      show _ = some (HO.lst ((((if u = 0 then [-1] else []) : List Int) ++ (h.filter fun r => decide (r.v = u)).map HRow.b).map V.int))
      rw [List.map_append]
    refine ⟨R2, _, rfl, SqL.of hR2, List.length_pos_of_mem z3, fun m' hm' hmax => ?_⟩
    have em := max_uniq hm' hmax z3 z4
    subst em
    refine ⟨two_ok _ _, fun p np => ?_⟩
    have sA := s12.trans (s4.trans sR2)
    exact q p _ (m, m') hz (sA.trans (same_upd np)) (sA.free np) upd_same
theorem fm_filter {α : Type} (p : α → Bool) (xs : List α) : xs.filterMap (fun r => if p r = true then some r else none) = xs.filter p := by
  rw [← List.filterMap_eq_filter]
  rfl

/-! ### all reasons of a word, by the law -/
def zoneD (h : List HRow) (v : Int) : Int × Int := (zoneO h v).getD (0, 0)
theorem zoneD_is {h : List HRow} {v : Int} {z : Int × Int} (e : zoneO h v = some z) : zoneD h v = z := by
  unfold zoneD
  rw [e]
  rfl
def HitP (h : List HRow) (wd : Str) (a b : Int) : Prop := a ≠ b ∧ (zoneD h a).1 < (zoneD h b).2 ∧ (zoneD h b).1 < (zoneD h a).2 ∧ (zoneD h a).1 < (zoneD h a).2 ∧ ((wd = ("both" : Str) ∧ a < b ∧ (zoneD h b).1 < (zoneD h b).2) ∨ (wd = ("within" : Str) ∧ ¬ (zoneD h b).1 < (zoneD h b).2))
theorem hit_iff {h : List HRow} {wd : Str} {a b : Int} (ne : wd ≠ ("early" : Str)) (ha : isVal h a) (hb : isVal h b) : HitP h wd a b ↔ ShowsP h (wd, a, b) := by
  obtain ⟨z, hz⟩ := zone_some.mpr ha
  obtain ⟨w, hw⟩ := zone_some.mpr hb
  unfold HitP ShowsP BothP WithinP opnV clsV
  simp only [zoneD_is hz, zoneD_is hw, hz, hw, opn, clsh, Bool.and_eq_true, decide_eq_true_eq, decide_eq_false_iff_not]
  constructor
  · rintro ⟨n, c1, c2, o1, ⟨e, lt, o2⟩ | ⟨e, o2⟩⟩
    · exact .inr (.inl ⟨e, ha, hb, lt, o1, o2, c1, c2⟩)
    · exact .inr (.inr ⟨e, ha, hb, o1, o2, c1, c2⟩)
  · rintro (⟨e, _⟩ | ⟨e, _, _, lt, o1, o2, c1, c2⟩ | ⟨e, _, _, o1, o2, c1, c2⟩)
    · exact absurd e ne
    · exact ⟨by omega, c1, c2, o1, .inl ⟨e, lt, o2⟩⟩
    · refine ⟨fun z => ?_, c1, c2, o1, .inr ⟨e, o2⟩⟩
      subst z
      rw [hz] at hw
      cases hw
      exact o2 o1
def earlyR (w r : HRow) : Option Reason := if w.v = r.v ∧ r.e < w.b then some ("early", r.t, w.t) else none
def RPv (K : PySem.W.Frag) (h : List HRow) (wd : Str) (a F p D2 t1 : Addr) (vs : List Int) (i : Nat) (one : Int) (y3 y4 y11 : Option V) (H5 : Hp) (j : Nat) (σ : L2.St) (H8 : Hp) : Prop :=
  (∃ (y9 y10 : Option V) (ys : List V) (R : List Reason), σ = [some (.ref a), some (.str wd), some (.ref F), y3, y4, some (.int one), some (.ref p), some (.ref D2), some (.ref t1), y9, y10, y11] ∧ H8 F = some (.lst ys) ∧ DpAll K H8 ys (R.map reaD) ∧ R.length ≤ 61 * i + j ∧ ∀ x, x ∈ R ↔ (x.1 = wd ∧ x.2.1 ∈ vs.take i ∧ x.2.2 ∈ vs ∧ HitP h wd x.2.1 x.2.2) ∨ (x.1 = wd ∧ x.2.1 = one ∧ x.2.2 ∈ vs.take j ∧ HitP h wd one x.2.2)) ∧ But F H5 H8
abbrev s__law_reasons : Stmt := topS 21
theorem sc__law_reasons : FnScope ["history", "word", "found", "row", "writes", "one", "values", "places", "first", "other", "second", "value"] ["history", "word"] (defScope s__law_reasons) := ⟨rfl, rfl, rfl, by decide +kernel, rfl, by decide +kernel, by decide +kernel⟩
def sp_law_reasons (K : PySem.W.Frag) : Sp := fun vs H Q _ => ∃ (v : V) (h : List HRow) (wd : Str), vs = [v, .str wd] ∧ Dp K H v (.list (h.map hD)) ∧ h.length ≤ 60 ∧ (wd = "early" ∨ wd = "both" ∨ wd = "within") ∧ ∀ (p : Addr) (H' : Hp) (ys : List V) (R : List Reason), Same H H' → H p = none → H' p = some (.lst ys) → DpAll K H' ys (R.map reaD) → R.length ≤ 4000 → (∀ x, x ∈ R ↔ x.1 = wd ∧ ShowsP h x) → Q (.ref p) H'
theorem ok__law_reasons {f : Addr} {fd : FuncData} (F : Fun K "_law_reasons" "_law_reasons" s__law_reasons f fd) (gm : mg "_law_reasons" = some (.ref f)) (N : Fre K mg) (c__law_zone : C8.Cal P w K mg base 1 "_law_zone" (sp_law_zone K) []) : C8.Cal P w K mg base 2 "_law_reasons" (sp_law_reasons K) [] := by
  refine mkCal F gm sc__law_reasons (F.binds (ps := ["history", "word"]) fun _ _ _ _ _ _ us hl => match us, hl with | [_, _], _ => rfl) (fun vs H Q E h => ?_) (fun cdv A outer s H vs Q E hr h => ?_)
  · obtain ⟨v, h, wd, rfl, _⟩ := h
    rfl
  · obtain ⟨v, h, wd, rfl, hv, hlen, hwd, q⟩ := h
    refine ⟨_, (pss_cons (ps_set (i := 2) sc__law_reasons.nd rfl (.inl rfl) (pe_lst pa_nil))
 (pss_cons (ps_if (pt_cmpR op_eq (pv 1) pe_str (nomark _))
 (pss_cons (ps_setLc (i := 4) (own := [("row", 3)]) (g := gName 3) rfl sc__law_reasons.nd rfl rfl (sw_true rfl rfl rfl (by decide +kernel)) (pi_list (pv 0)) (blkOk_by (N := ["history", "word", "found", "row", "writes", "one", "values", "places", "first", "other", "second", "value"]) (sc := defScope s__law_reasons) (by decide +kernel)) (fun _ _ _ _ _ => pg_name (i := 3) sc__law_reasons.nd rfl (Or.inl rfl)) (fun _ _ _ _ _ => pts_one (pt_cmpR op_eq (pe_ix (show IxR _ (rIxT K) from ix_tup) (pv 3) pe_int (fun _ _ => rfl)) pe_str (nomark _))) (fun _ _ _ _ _ => (pv 3)))
 (pss_cons (ps_for PassesOwn.never rfl (pi_list (pe_lc (own := [("row", 3)]) (g := gName 3) rfl sc__law_reasons.nd (pi_list (pv 0)) (blkOk_by (N := ["history", "word", "found", "row", "writes", "one", "values", "places", "first", "other", "second", "value"]) (sc := defScope s__law_reasons) (by decide +kernel)) (fun _ _ _ _ _ => pg_name (i := 3) sc__law_reasons.nd rfl (Or.inl rfl)) (fun _ _ _ _ _ => pts_one (pt_cmpR op_eq (pe_ix (show IxR _ (rIxT K) from ix_tup) (pv 3) pe_int (fun _ _ => rfl)) pe_str (nomark _))) (fun _ _ _ _ _ => (pv 3)))) (pg_name (i := 3) sc__law_reasons.nd rfl (.inr rfl))
 (pss_one (ps_set (i := 2) sc__law_reasons.nd rfl (.inl rfl) (pe_op op_cat (pv 2) (pe_lc (own := [("one", 5)]) (g := gName 5) rfl sc__law_reasons.nd (pi_list (pv 4)) (blkOk_by (N := ["history", "word", "found", "row", "writes", "one", "values", "places", "first", "other", "second", "value"]) (sc := defScope s__law_reasons) (by decide +kernel)) (fun _ _ _ _ _ => pg_name (i := 5) sc__law_reasons.nd rfl (Or.inl rfl)) (fun _ _ _ _ _ => pts_one (PW.pt (pw_and (pt_cmpR op_eq (pe_ix (show IxR _ (rIxT K) from ix_tup) (pv 5) pe_int (fun _ _ => rfl)) (pe_ix (show IxR _ (rIxT K) from ix_tup) (pv 3) pe_int (fun _ _ => rfl)) (nomark _)) (pw_and1 (pt_cmpR op_lt (pe_ix (show IxR _ (rIxT K) from ix_tup) (pv 3) pe_int (fun _ _ => rfl)) (pe_ix (show IxR _ (rIxT K) from ix_tup) (pv 5) pe_int (fun _ _ => rfl)) (nomark _)))))) (fun _ _ _ _ _ => (pe_tup (pa_cons (pv 1) (pa_cons (pe_ix (show IxR _ (rIxT K) from ix_tup) (pv 3) pe_int (fun _ _ => rfl)) (pa_cons (pe_ix (show IxR _ (rIxT K) from ix_tup) (pv 5) pe_int (fun _ _ => rfl)) pa_nil))))))))))
 (pss_one (ps_ret (pv 2)))))
 pss_nil)
 (pss_cons (ps_set (i := 6) sc__law_reasons.nd rfl (.inl rfl) (pe_callB (show CallR _ _ (rSortedSet w) from cr_sortedSet rfl) (by rfl) N.sorted (by decide +kernel) (pa_cons (pe_callTy (show CallR _ _ (rSetL K w) from cr_setL rfl) (by rfl) N.set (by decide +kernel) (pa_cons (pe_op op_cat (pe_lst (pa_cons pe_int pa_nil)) (pe_lc (own := [("row", 3)]) (g := gName 3) (tt := tYes) rfl sc__law_reasons.nd (pi_list (pv 0)) (blkOk_by (N := ["history", "word", "found", "row", "writes", "one", "values", "places", "first", "other", "second", "value"]) (sc := defScope s__law_reasons) (by decide +kernel)) (fun _ _ _ _ _ => pg_name (i := 3) sc__law_reasons.nd rfl (Or.inl rfl)) (fun _ _ _ _ _ => pts_nil) (fun _ _ _ _ _ => (pe_ix (show IxR _ (rIxT K) from ix_tup) (pv 3) pe_int (fun _ _ => rfl))))) pa_nil)) pa_nil)))
 (pss_cons (ps_setLc (i := 7) (own := [("value", 11)]) (g := gName 11) (tt := tYes) rfl sc__law_reasons.nd rfl rfl (sw_true rfl rfl rfl (by decide +kernel)) (pi_list (pv 6)) (blkOk_by (N := ["history", "word", "found", "row", "writes", "one", "values", "places", "first", "other", "second", "value"]) (sc := defScope s__law_reasons) (by decide +kernel)) (fun _ _ _ _ _ => pg_name (i := 11) sc__law_reasons.nd rfl (Or.inl rfl)) (fun _ _ _ _ _ => pts_nil) (fun _ _ _ _ _ => (C8.pe_c c__law_zone hr (by decide) rfl (pa_cons (pv 0) (pa_cons (pv 11) pa_nil)))))
 (pss_cons (ps_for PassesOwn.never rfl (pi_zip (by rfl) N.zip (pa_cons (pv 6) (pa_cons (pv 7) pa_nil))) (pg_tup rfl (pgs_cons (pg_name (i := 5) sc__law_reasons.nd rfl (.inl rfl)) (pgs_cons (pg_name (i := 8) sc__law_reasons.nd rfl (.inl rfl)) pgs_nil)))
 (pss_one (ps_for PassesOwn.never rfl (pi_zip (by rfl) N.zip (pa_cons (pv 6) (pa_cons (pv 7) pa_nil))) (pg_tup rfl (pgs_cons (pg_name (i := 9) sc__law_reasons.nd rfl (.inl rfl)) (pgs_cons (pg_name (i := 10) sc__law_reasons.nd rfl (.inl rfl)) pgs_nil)))
 (pss_one (ps_if (PW.pt (pw_and (pt_cmpR op_ne (pv 5) (pv 9) (nomark _)) (pw_and (pt_cmpR op_lt (pe_ix ix_tup (pv 8) pe_int (fun _ _ => rfl)) (pe_ix ix_tup (pv 10) pe_int (fun _ _ => rfl)) (nomark _)) (pw_and (pt_cmpR op_lt (pe_ix ix_tup (pv 10) pe_int (fun _ _ => rfl)) (pe_ix ix_tup (pv 8) pe_int (fun _ _ => rfl)) (nomark _)) (pw_and1 (pt_cmpR op_lt (pe_ix ix_tup (pv 8) pe_int (fun _ _ => rfl)) (pe_ix ix_tup (pv 8) pe_int (fun _ _ => rfl)) (nomark _)))))))
 (pss_cons (ps_if (PW.pt (pw_and (pt_cmpR op_eq (pv 1) pe_str (nomark _)) (pw_and (pt_cmpR op_lt (pv 5) (pv 9) (nomark _)) (pw_and1 (pt_cmpR op_lt (pe_ix ix_tup (pv 10) pe_int (fun _ _ => rfl)) (pe_ix ix_tup (pv 10) pe_int (fun _ _ => rfl)) (nomark _))))))
 (pss_one (ps_expr (pe_bm PySem.F.plainAttrs_list PySem.F.slot_list_append PySem.F.type_list_append mt_append (pv 2) (pa_cons (pe_tup (pa_cons (pv 1) (pa_cons (pv 5) (pa_cons (pv 9) pa_nil)))) pa_nil))))
 pss_nil)
 (pss_one (ps_if (PW.pt (pw_and (pt_cmpR op_eq (pv 1) pe_str (nomark _)) (pw_and1 (pt_cmpR op_ge (pe_ix ix_tup (pv 10) pe_int (fun _ _ => rfl)) (pe_ix ix_tup (pv 10) pe_int (fun _ _ => rfl)) (nomark _)))))
 (pss_one (ps_expr (pe_bm PySem.F.plainAttrs_list PySem.F.slot_list_append PySem.F.type_list_append mt_append (pv 2) (pa_cons (pe_tup (pa_cons (pv 1) (pa_cons (pv 5) (pa_cons (pv 9) pa_nil)))) pa_nil))))
 pss_nil)))
 pss_nil)))))
 (pss_one (ps_ret (pv 2)))))))), ?_⟩
    obtain ⟨a, xs, rfl, hs, ha⟩ := dp_list hv
    have el := dpAll_len ha
    rw [List.length_map] at el
    refine ⟨Nat.zero_le _, fun F nF => ?_⟩
    have sF := same_upd (o := .lst []) nF
    have hF := upd_same (H := H) (a := F) (o := .lst [])
    revert sF hF
    generalize upd H F (.lst []) = H1
    intro sF hF
    refine ⟨_, rfl, rfl, _, rfl, ite2 (fun e => ?_) (fun e => ?_)⟩
    · have ew : wd = "early" := V.str.inj (of_decide_eq_true e)
      subst ew
      refine ⟨_, rfl, a, rfl, ⟨_, sF.seq hs⟩, fun D nD => lc_ty hD hD (fun r => if r.wr = true then some r else none) (sF.seq hs) (dp_sameAll sF _ _ ha) nD (by omega) hD_imm ?_ ?_⟩
      · intro i v r H2 k kf er s2 pr hy hn
        obtain ⟨b, rfl, hb⟩ := dp_h pr
        refine ⟨rfl, ⟨_, rfl, b, _, 1, _, rfl, rfl, hb, atI_nat (j := 1) rfl, rfl, _, rfl, ite2 (fun e => ?_) (fun e => ?_)⟩⟩
        · rw [kind_write] at e
          exact ⟨_, rfl, hy r (if_pos e) _ _ (Same.refl _) pr⟩
        · rw [kind_write] at e
          exact hn (if_neg e) _ (Same.refl _)
      intro H2 yw s2 hDw hyw
      rw [fm_filter (fun r : HRow => r.wr)] at hyw
      have s12 := sF.trans s2
      refine ⟨_, rfl, a, rfl, ⟨_, s12.seq hs⟩, fun D2 nD2 => lc_ty hD hD (fun r => if (!r.wr) = true then some r else none) (s12.seq hs) (dp_sameAll s12 _ _ ha) nD2 (by omega) hD_imm ?_ ?_⟩
      · intro i v r H3 k kf er s3 pr hy hn
        obtain ⟨b, rfl, hb⟩ := dp_h pr
        refine ⟨rfl, ⟨_, rfl, b, _, 1, _, rfl, rfl, hb, atI_nat (j := 1) rfl, rfl, _, rfl, ite2 (fun e => ?_) (fun e => ?_)⟩⟩
        · rw [kind_read] at e
          exact ⟨_, rfl, hy r (if_pos e) _ _ (Same.refl _) pr⟩
        · rw [kind_read] at e
          exact hn (if_neg e) _ (Same.refl _)
      intro H3 yr s3 hDr hyr
      rw [fm_filter (fun r : HRow => !r.wr)] at hyr
      have lr := dpAll_len hyr
      rw [List.length_map] at lr
      have lw := dpAll_len hyw
      rw [List.length_map] at lw
      have lr60 : (h.filter fun r => !r.wr).length ≤ 60 := Nat.le_trans (List.length_filter_le _ _) hlen
      have lw60 : (h.filter fun r => r.wr).length ≤ 60 := Nat.le_trans (List.length_filter_le _ _) hlen
      have s13 := s12.trans s3
      have nF0 : H F = none := nF
      refine ⟨D2, rfl, ⟨_, SqL.of hDr⟩, for_list (xs := yr) (fun i σ H4 => (∃ (F : Addr) (y3 y5 y6 y7 y8 y9 y10 y11 : Option V) (ys : List V) (R : List Reason), σ = [some (.ref a), some (.str "early"), some (.ref F), y3, some (.ref D), y5, y6, y7, y8, y9, y10, y11] ∧ H F = none ∧ H4 F = some (.lst ys) ∧ DpAll K H4 ys (R.map reaD) ∧ R.length ≤ 60 * i ∧ ∀ x, x ∈ R ↔ ∃ r ∈ (h.filter fun r => !r.wr).take i, ∃ w ∈ h.filter fun r => r.wr, earlyR w r = some x) ∧ Same H3 H4) ⟨⟨F, _, _, _, _, _, _, _, _, [], [], rfl, nF, (s2.trans s3) _ _ hF, .nil, Nat.zero_le _, fun x => ⟨(fun z => nomatch z), fun ⟨r, hr, _⟩ => nomatch hr⟩⟩, Same.refl _⟩ (fun i σ H4 _ z => z.2.seq (SqL.of hDr)) ?_ ?_⟩
      · rintro i x σ H4 hx ⟨⟨F, y3, y5, y6, y7, y8, y9, y10, y11, ys, R, rfl, nF, hF4, hys, lR, mR⟩, s4⟩
        have hi : i < 60 := by
          have := (List.getElem?_eq_some_iff.mp hx).1
          omega
        obtain ⟨d, ed, pd⟩ := dpAll_get hyr hx
        rw [List.getElem?_map] at ed
        obtain ⟨r, er, rfl⟩ := Option.map_eq_some_iff.mp ed
        obtain ⟨b, rfl, hb⟩ := dp_h (dp_same s4 _ _ pd)
        have s34 := s3.trans s4
        refine ⟨_, rfl, _, rfl, D, rfl, ⟨_, SqL.of (s34 _ _ hDw)⟩, fun E nE => lc_ty hD reaD (fun w => earlyR w r) (SqL.of (s34 _ _ hDw)) (dp_sameAll s34 _ _ hyw) nE (by omega) reaD_imm ?_ ?_⟩
        · intro j v u H5 k kf eu s5 pu hy hn
          obtain ⟨c, rfl, hc⟩ := dp_h pu
          have hb5 := sqT_same s5 hb
          refine ⟨rfl, ⟨_, rfl, c, _, 2, _, rfl, rfl, hc, atI_nat (j := 2) rfl, _, rfl, b, _, 2, _, rfl, rfl, hb5, atI_nat (j := 2) rfl, rfl, _, rfl, ite2 (fun e1 => ?_) (fun e1 => ?_)⟩⟩
          · have e1 : u.v = r.v := V.int.inj (of_decide_eq_true e1)
            refine ⟨_, rfl, b, _, 4, _, rfl, rfl, hb5, atI_nat (j := 4) rfl, _, rfl, c, _, 3, _, rfl, rfl, hc, atI_nat (j := 3) rfl, _, _, rfl, rfl, _, rfl, ite2 (fun e2 => ?_) (fun e2 => ?_)⟩
            · have e2 : r.e < u.b := of_decide_eq_true e2
              exact ⟨_, rfl, _, rfl, b, _, 0, _, rfl, rfl, hb5, atI_nat (j := 0) rfl, _, rfl, c, _, 0, _, rfl, rfl, hc, atI_nat (j := 0) rfl, three_ok _ _ _, fun t nt => hy ("early", r.t, u.t) (if_pos ⟨e1, e2⟩) _ _ (same_upd nt) (rea_dp (SqT.of upd_same))⟩
            · exact hn (if_neg fun z => e2 (decide_eq_true z.2)) _ (Same.refl _)
          · exact iteF (hn (if_neg fun z => e1 (decide_eq_true (by rw [z.1]))) _ (Same.refl _))
        intro H5 ye s5 hDe hye
        have le : ((h.filter fun r => r.wr).filterMap fun w => earlyR w r).length ≤ 60 := Nat.le_trans (List.length_filterMap_le _ _) lw60
        have ly := dpAll_len hys
        have lye := dpAll_len hye
        rw [List.length_map] at ly lye
        refine ⟨F, E, _, _, rfl, rfl, s5 _ _ hF4, hDe, by rw [sizeLine_eq]; omega, fun p np => ?_⟩
        have sp := same_upd (o := .lst (ys ++ ye)) np
        have s45 := s5.trans sp
        refine ⟨⟨p, _, _, _, _, _, _, _, _, ys ++ ye, R ++ ((h.filter fun r => r.wr).filterMap fun w => earlyR w r), rfl, (s13.trans (s4.trans s5)).free np, upd_same, ?_, ?_, ?_⟩, s4.trans s45⟩
        · rw [List.map_append]
          exact dpAll_append (dp_sameAll s45 _ _ hys) (dp_sameAll sp _ _ hye)
        · rw [List.length_append]
          omega
        · intro x
          have tk : (h.filter fun r => !r.wr).take (i + 1) = (h.filter fun r => !r.wr).take i ++ [r] := by
            obtain ⟨hi, ei⟩ := List.getElem?_eq_some_iff.mp er
            rw [← ei]
            exact (List.take_append_getElem hi).symm
          rw [List.mem_append, mR x, tk]
          constructor
          · rintro (⟨r', hr', z⟩ | z)
            · exact ⟨r', List.mem_append.mpr (.inl hr'), z⟩
            · obtain ⟨u, hu, eu⟩ := List.mem_filterMap.mp z
              exact ⟨r, List.mem_append.mpr (.inr (List.mem_singleton.mpr rfl)), u, hu, eu⟩
          · rintro ⟨r', hr', u, hu, eu⟩
            rcases List.mem_append.mp hr' with hr' | hr'
            · exact .inl ⟨r', hr', u, hu, eu⟩
            · rw [List.mem_singleton.mp hr'] at eu
              exact .inr (List.mem_filterMap.mpr ⟨u, hu, eu⟩)
      · rintro σ H4 ⟨⟨F, y3, y5, y6, y7, y8, y9, y10, y11, ys, R, rfl, nF, hF4, hys, lR, mR⟩, s4⟩
        rw [lr, List.take_length] at mR
        refine ⟨_, rfl, q F H4 ys R (s13.trans s4) nF hF4 hys (by omega) fun x => ?_⟩
        rw [mR x]
        unfold ShowsP EarlyP
        constructor
        · rintro ⟨r, hr, u, hu, eu⟩
          have hr' := List.mem_filter.mp hr
          have hu' := List.mem_filter.mp hu
          unfold earlyR at eu
          split at eu
          · rename_i c
            cases eu
            exact ⟨rfl, .inl ⟨rfl, r, hr'.1, u, hu'.1, by simpa using hr'.2, hu'.2, c.1.symm, rfl, rfl, c.2⟩⟩
          · cases eu
        · rintro ⟨ex, ⟨_, r, hr, u, hu, rw1, uw, ev, e1, e2, lt⟩ | ⟨ex2, _⟩ | ⟨ex2, _⟩⟩
          · refine ⟨r, List.mem_filter.mpr ⟨hr, by simp [rw1]⟩, u, List.mem_filter.mpr ⟨hu, uw⟩, ?_⟩
            unfold earlyR
            rw [if_pos ⟨ev.symm, lt⟩, e1, e2, ← ex]
          · rw [ex] at ex2
            exact absurd ex2 (by decide)
          · rw [ex] at ex2
            exact absurd ex2 (by decide)
    · have ne : wd ≠ "early" := fun z => e (decide_eq_true (by rw [z]))
      -- values
      refine ⟨(by show 1 ≤ sizeLine; decide), fun Z nZ => ?_⟩
      have sZ := same_upd (o := .lst [V.int 0]) nZ
      have hZ := upd_same (H := H1) (a := Z) (o := .lst [V.int 0])
      revert sZ hZ
      generalize upd H1 Z (.lst [V.int 0]) = H2
      intro sZ hZ
      have s02 := sF.trans sZ
      refine ⟨_, rfl, a, rfl, ⟨_, s02.seq hs⟩, fun D nD => lc_map hD PyData.int HRow.v (s02.seq hs) (dp_sameAll s02 _ _ ha) nD (by omega) (fun _ => rfl) ?_ ?_⟩
      · intro i v r H3 k er s3 pr hy
        obtain ⟨b, rfl, hb⟩ := dp_h pr
        exact ⟨rfl, ⟨_, rfl, b, _, 2, _, rfl, rfl, hb, atI_nat (j := 2) rfl, hy _ _ (Same.refl _) (.int _)⟩⟩
      intro H3 yv s3 hDv hyv
      have ev := dp_ints hyv
      subst ev
      refine ⟨Z, D, _, _, rfl, rfl, s3 _ _ hZ, hDv, by rw [List.length_map, List.length_map, sizeLine_eq]; simp only [List.length_cons, List.length_nil]; omega, fun C nC => ?_⟩
      have sC := same_upd (o := .lst ([V.int 0] ++ (h.map HRow.v).map V.int)) nC
      refine ⟨C, 0 :: h.map HRow.v, rfl, SqL.of upd_same, by rw [List.length_cons, List.length_map]; omega, fun S c nS hc => ?_⟩
      have sS := same_upd (o := SetO w S (fun j => decide (j ∈ 0 :: h.map HRow.v)) c) nS
      rw [List.length_cons, List.length_map] at hc
      refine ⟨S, _, c, rfl, upd_same, by omega, fun vs p hos hom hol np => ?_⟩
      have sp := same_upd (o := .lst (vs.map V.int)) np
      have hp := upd_same (H := upd (upd H3 C (.lst ([V.int 0] ++ (h.map HRow.v).map V.int))) S (SetO w S (fun j => decide (j ∈ 0 :: h.map HRow.v)) c)) (a := p) (o := .lst (vs.map V.int))
      have s04 := s02.trans (s3.trans (sC.trans (sS.trans sp)))
      have s14 := sZ.trans (s3.trans (sC.trans (sS.trans sp)))
      have nFp : p ≠ F := (ne_of_none ((sZ.trans (s3.trans (sC.trans sS))) _ _ hF) np).symm
      revert hp s04 s14
      generalize upd (upd (upd H3 C (.lst ([V.int 0] ++ (h.map HRow.v).map V.int))) S (SetO w S (fun j => decide (j ∈ 0 :: h.map HRow.v)) c)) p (.lst (vs.map V.int)) = H4
      intro hp s04 s14
      have isv : ∀ u, u ∈ vs ↔ isVal h u := fun u => by
        rw [hom u, decide_eq_true_iff, List.mem_cons]
        unfold isVal
        exact or_congr Iff.rfl ⟨fun z => by obtain ⟨r, hr, e⟩ := List.mem_map.mp z; exact ⟨r, hr, e⟩, fun ⟨r, hr, e⟩ => List.mem_map.mpr ⟨r, hr, e⟩⟩
      have lv : vs.length ≤ 61 := by omega
      -- places
      refine ⟨_, rfl, p, rfl, ⟨_, SqL.of hp⟩, fun D2 nD2 => lc_map PyData.int pairD (zoneD h) (SqL.of hp) (ints_dp vs) nD2 (by omega) pairD_imm ?_ ?_⟩
      · intro i v u H5 k eu s5 pu hy
        cases pu
        refine ⟨rfl, ⟨_, rfl, _, rfl, _, h, u, rfl, dp_same (s04.trans s5) _ _ hv, by omega, (isv u).mp (List.mem_of_getElem? eu), fun p2 H6 z hz s6 np2 hp2 => hy _ _ s6 ?_⟩⟩
        rw [zoneD_is hz]
        exact .tup (SqT.of hp2) (.cons (.int _) (.cons (.int _) .nil))
      intro H5 yp s5 hDp hyp
      have lp := dpAll_len hyp
      rw [List.length_map, List.length_map] at lp
      have s05 := s04.trans s5
      have hF5 := (s14.trans s5) _ _ hF
      have hp5 := s5 _ _ hp
      have zpl : ∀ {i : Nat} {x y : V}, (vs.map V.int)[i]? = some x → yp[i]? = some y → ∃ u t, vs[i]? = some u ∧ x = .int u ∧ y = .ref t ∧ SqT K H5 t [.int (zoneD h u).1, .int (zoneD h u).2] := fun {i x y} ex ey => by
        rw [List.getElem?_map] at ex
        obtain ⟨u, eu, rfl⟩ := Option.map_eq_some_iff.mp ex
        obtain ⟨d, ed, pd⟩ := dpAll_get hyp ey
        rw [List.getElem?_map, List.getElem?_map, eu] at ed
        cases ed
        obtain ⟨t, rfl, ht⟩ := dp_pair pd
        exact ⟨u, t, eu, rfl, rfl, ht⟩
      have nFD : D2 ≠ F := (ne_of_none (s14 _ _ hF) nD2).symm
      have rimm : ∀ R : List Reason, immAll (R.map reaD) = true := fun R => immAll_iff.mpr fun e he => by
        obtain ⟨y, _, rfl⟩ := List.mem_map.mp he
        exact reaD_imm y
      have ktb : ∀ {H6 : Hp}, But F H5 H6 → Kt H5 H6 := fun b6 => Kt.but b6 hF5 (fun z => z)
      refine ⟨_, rfl, _, rfl, p, D2, _, _, rfl, SqL.of hp5, SqL.of hDp, RZ.for_zipL (by rw [List.length_map]; omega) (fun i σ H6 => (∃ (y3 y4 y5 y8 y9 y10 y11 : Option V) (ys : List V) (R : List Reason), σ = [some (.ref a), some (.str wd), some (.ref F), y3, y4, y5, some (.ref p), some (.ref D2), y8, y9, y10, y11] ∧ H6 F = some (.lst ys) ∧ DpAll K H6 ys (R.map reaD) ∧ R.length ≤ 61 * i ∧ ∀ x, x ∈ R ↔ x.1 = wd ∧ x.2.1 ∈ vs.take i ∧ x.2.2 ∈ vs ∧ HitP h wd x.2.1 x.2.2) ∧ But F H5 H6) ⟨⟨_, _, _, _, _, _, _, [], [], rfl, hF5, .nil, Nat.zero_le _, fun x => ⟨(fun z => nomatch z), fun z => nomatch z.2.1⟩⟩, But.refl F H5⟩ (fun i σ H6 z => ⟨SqL.of (z.2 _ _ nFp hp5), SqL.of (z.2 _ _ nFD hDp)⟩) ?_ ?_⟩
      · rintro i x y T σ H6 ex ey ⟨⟨y3, y4, y5, y8, y9, y10, y11, ys, R, rfl, hF6, hys, lR, mR⟩, b6⟩ nT
        obtain ⟨one, t1, eone, rfl, rfl, ht1⟩ := zpl ex ey
        have hi : i < 61 := by
          have := (List.getElem?_eq_some_iff.mp eone).1
          omega
        have tki : vs.take (i + 1) = vs.take i ++ [one] := by
          obtain ⟨hi, ei⟩ := List.getElem?_eq_some_iff.mp eone
          rw [← ei]
          exact (List.take_append_getElem hi).symm
        refine ⟨T, _, rfl, SqT.of upd_same, rfl, _, _, rfl, _, _, rfl, rfl, ?_⟩
        have sT := same_upd (o := .tup [V.int one, V.ref t1]) nT
        have b7 : But F H5 (upd H6 T (.tup [V.int one, V.ref t1])) := fun c o nc ec => sT _ _ (b6 c o nc ec)
        have hF7 := sT _ _ hF6
        have hys7 := dp_sameAll sT _ _ hys
        revert b7 hF7 hys7
        generalize upd H6 T (.tup [V.int one, V.ref t1]) = H7
        intro b7 hF7 hys7
        refine ⟨_, rfl, _, rfl, p, D2, _, _, rfl, SqL.of (b7 _ _ nFp hp5), SqL.of (b7 _ _ nFD hDp), RZ.for_zipL (by rw [List.length_map]; omega) (RPv K h wd a F p D2 t1 vs i one y3 y4 y11 H5) ⟨⟨_, _, ys, R, rfl, hF7, hys7, lR, fun x => (mR x).trans ⟨.inl, fun z => z.elim id fun z => nomatch z.2.2.1⟩⟩, b7⟩ (fun j σ H8 z => ⟨SqL.of (z.2 _ _ nFp hp5), SqL.of (z.2 _ _ nFD hDp)⟩) ?_ ?_⟩
        · clear hF7 hys7 b7 hF6 hys lR mR b6 nT sT
          clear ys R H7
          rintro j x y T2 σ H8 ex2 ey2 ⟨⟨y9, y10, ys, R, rfl, hF8, hys8, lR, mR⟩, b8⟩ nT2
          obtain ⟨oth, t2, eoth, rfl, rfl, ht2⟩ := zpl ex2 ey2
          have hj : j < 61 := by
            have := (List.getElem?_eq_some_iff.mp eoth).1
            omega
          have tkj : vs.take (j + 1) = vs.take j ++ [oth] := by
            obtain ⟨hi, ei⟩ := List.getElem?_eq_some_iff.mp eoth
            rw [← ei]
            exact (List.take_append_getElem hi).symm
          refine ⟨T2, _, rfl, SqT.of upd_same, rfl, _, _, rfl, _, _, rfl, rfl, ?_⟩
          have sT := same_upd (o := .tup [V.int oth, V.ref t2]) nT2
          have b9 : But F H5 (upd H8 T2 (.tup [V.int oth, V.ref t2])) := fun c o nc ec => sT _ _ (b8 c o nc ec)
          have hF9 := sT _ _ hF8
          have hys9 := dp_sameAll sT _ _ hys8
          revert b9 hF9 hys9
          generalize upd H8 T2 (.tup [V.int oth, V.ref t2]) = H9
          intro b9 hF9 hys9
          have k1 := sqT_kt (ktb b9) ht1
          have k2 := sqT_kt (ktb b9) ht2
          have ly := dpAll_len hys9
          rw [List.length_map] at ly
          have skip : ¬ HitP h wd one oth → RPv K h wd a F p D2 t1 vs i one y3 y4 y11 H5 (j + 1) [some (V.ref a), some (V.str wd), some (V.ref F), y3, y4, some (V.int one), some (V.ref p), some (V.ref D2), some (V.ref t1), some (V.int oth), some (V.ref t2), y11] H9 := fun nh => by
            refine ⟨⟨_, _, ys, R, rfl, hF9, hys9, by omega, fun x => (mR x).trans (or_congr Iff.rfl ⟨fun ⟨e1, e2, e3, e4⟩ => ⟨e1, e2, by rw [tkj]; exact List.mem_append.mpr (.inl e3), e4⟩, fun ⟨e1, e2, e3, e4⟩ => ?_⟩)⟩, b9⟩
            rw [tkj] at e3
            rcases List.mem_append.mp e3 with e3 | e3
            · exact ⟨e1, e2, e3, e4⟩
            · rw [List.mem_singleton.mp e3] at e4
              exact absurd e4 nh
          have app : HitP h wd one oth → ∀ (t : Addr), H9 t = none → RPv K h wd a F p D2 t1 vs i one y3 y4 y11 H5 (j + 1) [some (V.ref a), some (V.str wd), some (V.ref F), y3, y4, some (V.int one), some (V.ref p), some (V.ref D2), some (V.ref t1), some (V.int oth), some (V.ref t2), y11] (upd (upd H9 t (.tup [.str wd, .int one, .int oth])) F (.lst (ys ++ [.ref t]))) := fun hh t nt => by
            have st := same_upd (o := .tup [.str wd, .int one, .int oth]) nt
            have tF : t ≠ F := (ne_of_none hF9 nt).symm
            have hFt := st _ _ hF9
            have kt := Kt.upd (o' := .lst (ys ++ [.ref t])) hFt (fun z => z)
            refine ⟨⟨_, _, ys ++ [.ref t], R ++ [(wd, one, oth)], rfl, upd_same, ?_, by rw [List.length_append, List.length_singleton]; omega, fun x => ?_⟩, fun c o nc ec => by rw [upd_ne nc]; exact st _ _ (b9 c o nc ec)⟩
            · rw [List.map_append]
              exact dpAll_append (dp_ktAll kt _ _ (rimm _) (dp_sameAll st _ _ hys9)) (.cons (rea_dp (SqT.of (by rw [upd_ne tF]; exact upd_same))) .nil)
            · rw [List.mem_append, mR x, tkj]
              obtain ⟨w0, x1, x2⟩ := x
              constructor
              · rintro ((z | ⟨e1, e2, e3, e4⟩) | z)
                · exact .inl z
                · exact .inr ⟨e1, e2, List.mem_append.mpr (.inl e3), e4⟩
                · cases List.mem_singleton.mp z
                  exact .inr ⟨rfl, rfl, List.mem_append.mpr (.inr (List.mem_singleton.mpr rfl)), hh⟩
              · rintro (z | ⟨e1, e2, e3, e4⟩)
                · exact .inl (.inl z)
                · rcases List.mem_append.mp e3 with e3 | e3
                  · exact .inl (.inr ⟨e1, e2, e3, e4⟩)
                  · have e3 := List.mem_singleton.mp e3
                    exact .inr (by rw [show w0 = wd from e1, show x1 = one from e2, show x2 = oth from e3]; exact List.mem_singleton.mpr rfl)
          refine ⟨_, rfl, _, rfl, rfl, _, rfl, ite2 (fun e1 => ?_) (fun e1 => iteF (skip fun z => ?_))⟩
          rotate_left
          · have e1 : one = oth := by
              by_cases c : one = oth
              · exact c
              · rw [decide_eq_false (fun z => c (V.int.inj z))] at e1
                exact absurd rfl e1
            exact z.1 e1
          have n1 : one ≠ oth := fun z => by
            subst z
            rw [decide_eq_true rfl] at e1
            cases e1
          refine ⟨_, rfl, t1, _, 0, _, rfl, rfl, k1, atI_nat (j := 0) rfl, _, rfl, t2, _, 1, _, rfl, rfl, k2, atI_nat (j := 1) rfl, _, _, rfl, rfl, _, rfl, ite2 (fun e2 => ?_) (fun e2 => iteF (skip fun z => e2 (decide_eq_true z.2.1)))⟩
          refine ⟨_, rfl, t2, _, 0, _, rfl, rfl, k2, atI_nat (j := 0) rfl, _, rfl, t1, _, 1, _, rfl, rfl, k1, atI_nat (j := 1) rfl, _, _, rfl, rfl, _, rfl, ite2 (fun e3 => ?_) (fun e3 => iteF (skip fun z => e3 (decide_eq_true z.2.2.1)))⟩
          refine ⟨_, rfl, t1, _, 0, _, rfl, rfl, k1, atI_nat (j := 0) rfl, _, rfl, t1, _, 1, _, rfl, rfl, k1, atI_nat (j := 1) rfl, _, _, rfl, rfl, _, rfl, ite2 (fun e4 => ?_) (fun e4 => skip fun z => e4 (decide_eq_true z.2.2.2.1))⟩
          have e2 := of_decide_eq_true e2
          have e3 := of_decide_eq_true e3
          have e4 := of_decide_eq_true e4
          rcases hwd with z | z | z
          · exact absurd z ne
          · subst z
            refine ⟨_, rfl, rfl, _, rfl, iteT ⟨_, rfl, _, rfl, _, _, rfl, rfl, _, rfl, ite2 (fun e5 => ?_) (fun e5 => iteF ?_)⟩⟩
            · have e5 := of_decide_eq_true e5
              refine ⟨_, rfl, t2, _, 0, _, rfl, rfl, k2, atI_nat (j := 0) rfl, _, rfl, t2, _, 1, _, rfl, rfl, k2, atI_nat (j := 1) rfl, _, _, rfl, rfl, _, rfl, ite2 (fun e6 => ?_) (fun e6 => ?_)⟩
              · have e6 := of_decide_eq_true e6
                refine ⟨_, rfl, .inl ⟨rfl, _, SqL.of hF9⟩, _, rfl, _, rfl, _, rfl, three_ok _ _ _, fun t nt => ?_⟩
                have st := same_upd (o := .tup [.str "both", .int one, .int oth]) nt
                refine ⟨F, _, _, rfl, rfl, st _ _ hF9, by rw [sizeLine_eq]; omega, ⟨_, rfl, rfl, _, rfl, iteF (iteF (app ⟨n1, e2, e3, e4, .inl ⟨rfl, e5, e6⟩⟩ t nt))⟩⟩
              · exact ⟨_, rfl, rfl, _, rfl, iteF (iteF (skip fun z => z.2.2.2.2.elim (fun z => e6 (decide_eq_true z.2.2)) fun z => absurd z.1 (by decide)))⟩
            · exact ⟨_, rfl, rfl, _, rfl, iteF (iteF (skip fun z => z.2.2.2.2.elim (fun z => e5 (decide_eq_true z.2.1)) fun z => absurd z.1 (by decide)))⟩
          · subst z
            refine ⟨_, rfl, rfl, _, rfl, iteF (iteF ⟨_, rfl, rfl, _, rfl, iteT ?_⟩)⟩
            refine ⟨_, rfl, t2, _, 0, _, rfl, rfl, k2, atI_nat (j := 0) rfl, _, rfl, t2, _, 1, _, rfl, rfl, k2, atI_nat (j := 1) rfl, _, _, rfl, rfl, _, rfl, ite2 (fun e6 => ?_) (fun e6 => ?_)⟩
            · have e6 := of_decide_eq_true e6
              refine ⟨_, rfl, .inl ⟨rfl, _, SqL.of hF9⟩, _, rfl, _, rfl, _, rfl, three_ok _ _ _, fun t nt => ?_⟩
              have st := same_upd (o := .tup [.str "within", .int one, .int oth]) nt
              exact ⟨F, _, _, rfl, rfl, st _ _ hF9, by rw [sizeLine_eq]; omega, app ⟨n1, e2, e3, e4, .inr ⟨rfl, by omega⟩⟩ t nt⟩
            · refine skip fun z => z.2.2.2.2.elim (fun z => absurd z.1 (by decide)) fun z => e6 (decide_eq_true ?_)
              have := z.2
              omega
        · rintro σ H8 ⟨⟨y9', y10', ys', R', rfl, hF8, hys8, lR8, mR8⟩, b8⟩
          rw [List.length_map] at lR8 mR8
          refine ⟨⟨_, _, _, _, _, _, _, ys', R', rfl, hF8, hys8, by omega, fun x => (mR8 x).trans ?_⟩, b8⟩
          rw [tki, List.take_length]
          constructor
          · rintro (⟨e1, e2, e3, e4⟩ | ⟨e1, e2, e3, e4⟩)
            · exact ⟨e1, List.mem_append.mpr (.inl e2), e3, e4⟩
            · exact ⟨e1, List.mem_append.mpr (.inr (by rw [e2]; exact List.mem_singleton.mpr rfl)), e3, by rw [e2]; exact e4⟩
          · rintro ⟨e1, e2, e3, e4⟩
            rcases List.mem_append.mp e2 with e2 | e2
            · exact .inl ⟨e1, e2, e3, e4⟩
            · have e2 := List.mem_singleton.mp e2
              exact .inr ⟨e1, e2, e3, by rw [← e2]; exact e4⟩
      · rintro σ H6 ⟨⟨y3, y4, y5, y8, y9, y10, y11, ys, R, rfl, hF6, hys, lR, mR⟩, b6⟩
        rw [List.length_map] at lR mR
        rw [List.take_length] at mR
        refine ⟨_, rfl, q F H6 ys R (same_but s05 nF b6) nF hF6 hys (by omega) fun x => (mR x).trans ?_⟩
        obtain ⟨w0, x1, x2⟩ := x
        constructor
        · rintro ⟨rfl, e2, e3, e4⟩
          exact ⟨rfl, (hit_iff ne ((isv _).mp e2) ((isv _).mp e3)).mp e4⟩
        · rintro ⟨rfl, e4⟩
          have both : isVal h x1 ∧ isVal h x2 := by
            rcases e4 with z | z | z
            · exact absurd z.1 ne
            · exact ⟨z.2.1, z.2.2.1⟩
            · exact ⟨z.2.1, z.2.2.1⟩
          exact ⟨rfl, (isv _).mpr both.1, (isv _).mpr both.2, (hit_iff ne both.1 both.2).mpr e4⟩

/-! ### the law -/
theorem kind_ok' (w : Bool) : PyData.strOk (kindS w) = true := by
  cases w
  · show PyData.strOk ("read" : Str) = true
    decide +kernel
  · show PyData.strOk ("write" : Str) = true
    decide +kernel
theorem hD_lay (r : HRow) : (hD r).canLay0 = true := by simp [hD, PyData.canLay0, PyData.canLayAll0, kind_ok']
theorem hs_lay (rs : List HRow) : (PyData.list (rs.map hD)).canLay0 = true := by
  rw [PyData.canLay0]
  induction rs with
  | nil => simp [PyData.canLayAll0]
  | cons r rs ih =>
    rw [List.map_cons, PyData.canLayAll0, hD_lay r, ih]
    rfl
theorem hs_sh (rs : List HRow) : SeqAt.shaped (.list (rs.map hD)) = true := by
  have h2 : (PyData.list (rs.map hD)).depth ≤ 64 := by
    have : PyData.depthAll (rs.map hD) ≤ 1 := by
      induction rs with
      | nil => simp [PyData.depthAll]
      | cons r rs ih =>
        rw [List.map_cons, PyData.depthAll]
        exact Nat.max_le.mpr ⟨by simp [hD, PyData.depth, PyData.depthAll], ih⟩
    rw [PyData.depth]
    omega
  unfold SeqAt.shaped
  rw [hs_lay rs, decide_eq_true h2]
  rfl
theorem hs_ne (rs : List HRow) : (!PyData.eqv (.list (rs.map hD)) (.list (rs.map hD))) = false := by
  rw [SeqAt.eqv_refl _ (hs_lay rs)]
  rfl
/-- what the three words have shown so far -/
structure Rs (h : List HRow) (done : List Str) (R : List Reason) : Prop where
  non : R = [] → ∀ x, x.1 ∈ done → ¬ ShowsP h x
  som : R ≠ [] → ∃ wd, wd ∈ done ∧ (∀ x, x ∈ R ↔ x.1 = wd ∧ ShowsP h x) ∧ (∀ x, ShowsP h x → (x.1 = ("early" : Str) → wd = "early") ∧ (x.1 = ("both" : Str) → wd = "early" ∨ wd = "both"))
def words3 : List Str := ["early", "both", "within"]
theorem shows_word {h : List HRow} {x : Reason} (s : ShowsP h x) : x.1 = ("early" : Str) ∨ x.1 = ("both" : Str) ∨ x.1 = ("within" : Str) := by
  rcases s with z | z | z
  · exact .inl z.1
  · exact .inr (.inl z.1)
  · exact .inr (.inr z.1)
theorem Rs.step {h : List HRow} {i : Nat} {wd : Str} (hw : words3[i]? = some wd) (r : Rs h (words3.take i) []) {R : List Reason} (m : ∀ x, x ∈ R ↔ x.1 = wd ∧ ShowsP h x) : Rs h (words3.take (i + 1)) R := by
  have tk : words3.take (i + 1) = words3.take i ++ [wd] := by
    obtain ⟨hi, ei⟩ := List.getElem?_eq_some_iff.mp hw
    rw [← ei]
    exact (List.take_append_getElem hi).symm
  rw [tk]
  refine ⟨fun e x hx s => ?_, fun ne => ⟨wd, List.mem_append.mpr (.inr (List.mem_singleton.mpr rfl)), m, fun x s => ?_⟩⟩
  · subst e
    rcases List.mem_append.mp hx with hx | hx
    · exact r.non rfl x hx s
    · have := (m x).mpr ⟨List.mem_singleton.mp hx, s⟩
      cases this
  · have old := r.non rfl x
    match i, hw with
    | 0, hw =>
      cases hw
      exact ⟨fun _ => rfl, fun _ => .inl rfl⟩
    | 1, hw =>
      cases hw
      exact ⟨fun e => absurd s (old (by rw [e]; decide)), fun _ => .inr rfl⟩
    | 2, hw =>
      cases hw
      exact ⟨fun e => absurd s (old (by rw [e]; decide)), fun e => absurd s (old (by rw [e]; decide))⟩
    | n + 3, hw => cases hw
theorem Rs.keep {h : List HRow} {i : Nat} {R : List Reason} (ne : R ≠ []) (r : Rs h (words3.take i) R) : Rs h (words3.take (i + 1)) R := by
  refine ⟨fun e => absurd e ne, fun _ => ?_⟩
  obtain ⟨wd, h1, h2⟩ := r.som ne
  refine ⟨wd, ?_, h2⟩
  rw [List.take_add_one]
  exact List.mem_append.mpr (.inl h1)
theorem Rs.none {h : List HRow} (r : Rs h words3 []) (x : Reason) : ¬ ShowsP h x := fun s => by
  refine r.non rfl x ?_ s
  unfold words3
  rcases shows_word s with e | e | e
  · rw [e]; decide
  · rw [e]; decide
  · rw [e]; decide
theorem Rs.told {h : List HRow} {R : List Reason} (ne : R ≠ []) (r : Rs h words3 R) {E B W : List Reason} (rs : Reas h E B W) {x : Reason} (e0 : (E ++ B ++ W)[0]? = some x) : x ∈ R := by
  obtain ⟨wd, hw, m, fst⟩ := r.som ne
  have sx : ShowsP h x := (rs.shows x).mp (List.mem_of_getElem? e0)
  obtain ⟨y, hy⟩ := List.exists_mem_of_ne_nil R ne
  obtain ⟨yw, ys⟩ := (m y).mp hy
  refine (m x).mpr ⟨?_, sx⟩
  have fx := fst x sx
  have ym := (rs.shows y).mpr ys
  cases E with
  | cons z zs =>
    have : z = x := by simpa using e0
    subst this
    have ez := ((rs.e z).mp List.mem_cons_self).1
    rw [ez, fx.1 ez]
  | nil =>
    cases B with
    | cons z zs =>
      have : z = x := by simpa using e0
      subst this
      have ez := ((rs.b z).mp List.mem_cons_self).1
      rcases fx.2 ez with q | q
      · have : y ∈ ([] : List Reason) := (rs.e y).mpr ⟨by rw [yw, q], by
          rcases ys with s | s | s
          · exact s.2
          · rw [yw, q] at s
            exact absurd s.1 (by decide)
          · rw [yw, q] at s
            exact absurd s.1 (by decide)⟩
        cases this
      · rw [ez, q]
    | nil =>
      have yW : y ∈ W := by simpa using ym
      have xW : x ∈ W := by
        have := List.mem_of_getElem? e0
        simpa using this
      rw [((rs.w x).mp xW).1, ← yw, ((rs.w y).mp yW).1]
abbrev s_law : Stmt := topS 22
theorem sc_law : FnScope ["script", "k", "bag", "history", "handed", "told", "reasons", "word"] ["script"] (defScope s_law) := ⟨rfl, rfl, rfl, by decide +kernel, rfl, by decide +kernel, by decide +kernel⟩
def splaw (K : PySem.W.Frag) : Sp := fun vs H Q _ => ∃ (a : Addr) (ns : List Int), vs = [.ref a] ∧ SqL K H a (ns.map V.int) ∧ ns.length ≤ 63 ∧ ∀ H', Q (.bl true) H'
theorem ok_law {f : Addr} {fd : FuncData} (F : Fun K "law" "law" s_law f fd) (N : Fre K mg) (c__law_bag : C8.Cal P w K mg base 1 "_law_bag" (sp_law_bag K) []) (c__law_history : C8.Cal P w K mg base 2 "_law_history" (sp_law_history K) []) (c__law_order_right : C8.Cal P w K mg base 1 "_law_order_right" (sp_law_order_right K) []) (c__law_reasons : C8.Cal P w K mg base 2 "_law_reasons" (sp_law_reasons K) []) (c__law_take : C8.Cal P w K mg base 1 "_law_take" sp_law_take []) (c_is_order : C8.Cal P w K mg base 2 "is_order" (spis_order K) []) (c_ordered : C8.Cal P w K mg base 4 "ordered" (spordered K) []) (c_shows_none : C8.Cal P w K mg base 4 "shows_none" (spshows_none K) []) : FnOk P w K mg base CX0 5 f fd ["script"] (splaw K) := by
  refine F.ok sc_law (fun vs H Q E h => ?_) (fun cdv A outer s H vs Q E hr h => ?_)
  · obtain ⟨a, ns, rfl, _⟩ := h
    rfl
  · obtain ⟨a, ns, rfl, hS, hlen, q⟩ := h
    refine ⟨_, (pss_cons (ps_for PassesOwn.never rfl (pi_range1 (by rfl) N.range (pa_cons (pe_op op_add pe_int (pe_callB (call_min2 rfl) (by rfl) N.min (by decide +kernel) (pa_cons (pe_callB call_len_seq (by rfl) N.len (by decide +kernel) (pa_cons (pv 0) pa_nil)) (pa_cons pe_int pa_nil)))) pa_nil)) (pg_name (i := 1) sc_law.nd rfl (.inl rfl))
 (pss_cons (ps_set (i := 2) sc_law.nd rfl (.inl rfl) (C8.pe_c c__law_bag hr (by decide) rfl (pa_cons (pv 0) (pa_cons (pv 1) pa_nil))))
 (pss_cons (ps_set (i := 3) sc_law.nd rfl (.inl rfl) (C8.pe_c c__law_history hr (by decide) rfl (pa_cons (pv 2) (pa_cons (pe_ix ix_list (pe_lst (pa_cons pe_int (pa_cons pe_int (pa_cons pe_int (pa_cons pe_int pa_nil))))) (C8.pe_c c__law_take hr (by decide) rfl (pa_cons (pv 2) (pa_cons pe_int pa_nil))) (fun _ _ => rfl)) pa_nil))))
 (pss_cons (ps_set (i := 4) sc_law.nd rfl (.inl rfl) (pe_callTy call_list_of (by rfl) N.list (by decide +kernel) (pa_cons (pv 3) pa_nil)))
 (pss_cons (ps_set (i := 5) sc_law.nd rfl (.inl rfl) (C8.pe_c c_ordered hr (by decide) rfl (pa_cons (pv 4) pa_nil)))
 (pss_cons (ps_if (PW.pt (pw_or (pt_cmpR (op_neD hr.units) (pv 4) (pv 3) (nomark _)) (pw_or1 (pt_not (pt_val (pe_callB call_isi (by rfl) N.isinstance (by decide +kernel) (pa_cons (pv 5) (pa_cons (pe_bltn (v := .ty "tuple") (u := .type "tuple") rfl N.tuple (by decide +kernel) rfl) pa_nil))))))))
 (pss_one (ps_ret pe_bl))
 pss_nil)
 (pss_cons (ps_set (i := 6) sc_law.nd rfl (.inl rfl) (pe_lst pa_nil))
 (pss_cons (ps_for PassesOwn.never rfl (pi_list (pe_lst (pa_cons pe_str (pa_cons pe_str (pa_cons pe_str pa_nil))))) (pg_name (i := 7) sc_law.nd rfl (.inl rfl))
 (pss_one (ps_if (pt_cmpR (op_eqNil (hu0 hr)) (pv 6) (pe_lst pa_nil) (nomark _))
 (pss_one (ps_set (i := 6) sc_law.nd rfl (.inl rfl) (C8.pe_c c__law_reasons hr (by decide) rfl (pa_cons (pv 3) (pa_cons (pv 7) pa_nil)))))
 pss_nil)))
 (pss_one (ps_if (pt_cmpR (op_eqNil (hu0 hr)) (pv 6) (pe_lst pa_nil) (nomark _))
 (pss_cons (ps_if (PW.pt (pw_or (pt_cmpR op_ne (pe_callB call_len_seq (by rfl) N.len (by decide +kernel) (pa_cons (pv 5) pa_nil)) pe_int (nomark _)) (pw_or (pt_cmpR op_ne (pe_ix ix_tup (pv 5) pe_int (fun _ _ => rfl)) pe_str (nomark _)) (pw_or1 (pt_not (pt_val (C8.pe_c c__law_order_right hr (by decide) rfl (pa_cons (pv 3) (pa_cons (pe_ix ix_tup (pv 5) pe_int (fun _ _ => rfl)) pa_nil)))))))))
 (pss_one (ps_ret pe_bl))
 pss_nil)
 (pss_one (ps_if (pt_not (pt_val (C8.pe_c c_is_order hr (by decide) rfl (pa_cons (pv 3) (pa_cons (pe_ix ix_tup (pv 5) pe_int (fun _ _ => rfl)) pa_nil)))))
 (pss_one (ps_ret pe_bl))
 pss_nil)))
 (pss_one (ps_if (PW.pt (pw_or (pt_cmpR (op_notInD (hu65 hr)) (pv 5) (pv 6) (by with_unfolding_all rfl)) (pw_or1 (pt_not (pt_val (C8.pe_c c_shows_none hr (by decide) rfl (pa_cons (pv 3) (pa_cons (pv 5) pa_nil))))))))
 (pss_one (ps_ret pe_bl))
 pss_nil))))))))))))
 (pss_one (ps_ret pe_bl))), ?_⟩
    refine ⟨_, rfl, a, _, rfl, .inl hS, _, 3, rfl, 1, _, rfl, rfl, ?_⟩
    have hm : 0 ≤ (if (3 : Int) < ((ns.map V.int).length : Nat) then (3 : Int) else ((ns.map V.int).length : Nat)) ∧ (if (3 : Int) < ((ns.map V.int).length : Nat) then (3 : Int) else ((ns.map V.int).length : Nat)) ≤ 3 := by
      split <;> omega
    generalize (if (3 : Int) < ((ns.map V.int).length : Nat) then (3 : Int) else ((ns.map V.int).length : Nat)) = mn at hm ⊢
    refine ⟨1 + mn, rfl, by omega, by omega, for_range (fun _ σ H1 => ∃ y1 y2 y3 y4 y5 y6 y7, σ = [some (.ref a), y1, y2, y3, y4, y5, y6, y7] ∧ Same H H1) ⟨none, none, none, none, none, none, none, rfl, Same.refl H⟩ ?_ (fun σ H1 _ => q H1)⟩
    rintro i σ H1 hi ⟨y1, y2, y3, y4, y5, y6, y7, rfl, sm1⟩
    -- bag
    refine ⟨_, rfl, _, rfl, a, ns, _, rfl, sm1.seq hS, by omega, by omega, fun b H2 nb sm2 G2 => ?_⟩
    have nb0 : H b = none := sm1.free nb
    have s2 : Same H H2 := sm1.trans sm2
    -- history
    refine ⟨_, rfl, four_ok _ _ _ _, fun L4 nL4 => ?_⟩
    have sL4 := same_upd (o := .lst [V.int 6, V.int 12, V.int 30, V.int 60]) nL4
    have hL4 := upd_same (H := H2) (a := L4) (o := .lst [V.int 6, V.int 12, V.int 30, V.int 60])
    have G2' := G2.new (o := .lst [V.int 6, V.int 12, V.int 30, V.int 60]) nL4
    have n4b := G2.ne nL4
    have s2' := s2.trans sL4
    revert hL4 G2' s2'
    generalize upd H2 L4 (.lst [V.int 6, V.int 12, V.int 30, V.int 60]) = H2'
    intro hL4 G2' s2'
    refine ⟨_, rfl, b, 4, rfl, G2', by decide, by decide, fun r H3 r0 r1 B3 G3 => ?_⟩
    have s3 : Same H H3 := same_but s2' nb0 B3
    obtain ⟨m, hmm, eat⟩ := pickInt [6, 12, 30, 60] r0 r1
    have hmb : 0 ≤ m ∧ m ≤ 60 := by
      simp only [List.mem_cons, List.not_mem_nil, or_false] at hmm
      omega
    refine ⟨L4, _, r, _, rfl, rfl, SqL.of (B3 _ _ n4b hL4), eat, b, m, rfl, G3, hmb.1, hmb.2, fun L H4 h good hl np B4 G4 hL => ?_⟩
    have s4 : Same H H4 := same_but s3 nb0 B4
    have hn : h.length ≤ 60 := by omega
    obtain ⟨ys, hys, hya⟩ := id hL
    -- handed
    refine ⟨_, rfl, L, _, rfl, .inl (SqL.of hys), fun Lh nLh => ?_⟩
    have sLh := same_upd (o := .lst ys) nLh
    have hLh : HsAt K (upd H4 Lh (.lst ys)) Lh h := ⟨ys, upd_same, dp_sameAll sLh _ _ hya⟩
    have s5 := s4.trans sLh
    have hL5 := hL.same sLh
    revert hLh s5 hL5
    generalize upd H4 Lh (.lst ys) = H5
    intro hLh s5 hL5
    refine ⟨_, rfl, _, h, rfl, hLh.dp, by omega, good.one, fun p H6 E B W x s6 rs e0 dp => ?_, fun p T H6 rs s6 nT no hT pl hp => ?_⟩
    · -- a reason is told
      have sx : ShowsP h x := (rs.shows x).mp (List.mem_of_getElem? e0)
      have okx : PyData.strOk x.1 = true := rs.ok x (List.mem_of_getElem? e0)
      refine ⟨_, rfl, _, rfl, _, _, (hLh.same s6).dp, (hL5.same s6).dp, hs_sh h, hs_sh h, _, rfl, ?_⟩
      rw [hs_ne]
      refine iteF ⟨_, rfl, _, _, _, _, true, rfl, .ty _, dp_ty dp, kit_d (reaD x) (T := "tuple") (.inr (.inr (.inr (.inl rfl)))), _, rfl, iteF ?_⟩
      refine ⟨Nat.zero_le _, fun R0 nR0 => ⟨three_ok _ _ _, fun Lw nLw => ⟨Lw, rfl, ⟨_, SqL.of upd_same⟩, ?_⟩⟩⟩
      have sR0 := same_upd (o := .lst []) nR0
      have sw := same_upd (o := .lst [V.str "early", V.str "both", V.str "within"]) nLw
      have hLw := upd_same (H := upd H6 R0 (.lst [])) (a := Lw) (o := .lst [V.str "early", V.str "both", V.str "within"])
      have hR0 := sw _ _ (upd_same (H := H6) (a := R0) (o := .lst []))
      have s7 := s6.trans (sR0.trans sw)
      have dp7 := dp_same (sR0.trans sw) _ _ dp
      revert hLw hR0 s7 dp7
      generalize upd (upd H6 R0 (.lst [])) Lw (.lst [V.str "early", V.str "both", V.str "within"]) = H7
      intro hLw hR0 s7 dp7
      refine for_list (xs := words3.map V.str) (fun j σ H8 => (∃ (Rl : Addr) (y7 : Option V) (zs : List V) (R : List Reason), σ = [some (.ref a), some (.int (0 + (i : Int))), some (.ref b), some (.ref L), some (.ref Lh), some (.ref p), some (.ref Rl), y7] ∧ H8 Rl = some (.lst zs) ∧ DpAll K H8 zs (R.map reaD) ∧ Rs h (words3.take j) R) ∧ Same H7 H8) ⟨⟨R0, _, [], [], rfl, hR0, .nil, ⟨fun _ x hx => (by cases hx), fun z => absurd rfl z⟩⟩, Same.refl _⟩ (fun _ σ H8 _ z => SqL.of (z.2 _ _ hLw)) ?_ ?_
      · rintro j v σ H8 hv ⟨⟨Rl, y7, zs, R, rfl, hRl, hzs, rR⟩, s8⟩
        rw [List.getElem?_map] at hv
        obtain ⟨wd, ew, rfl⟩ := Option.map_eq_some_iff.mp hv
        have lz := dpAll_len hzs
        rw [List.length_map] at lz
        refine ⟨_, rfl, Nat.zero_le _, fun n1 nn1 => ?_⟩
        have sn := same_upd (o := .lst []) nn1
        refine ⟨Rl, n1, zs, rfl, rfl, SqL.of (sn _ _ hRl), SqL.of upd_same, _, rfl, ?_⟩
        have hRl9 := sn _ _ hRl
        have hzs9 := dp_sameAll sn _ _ hzs
        have s9 := s8.trans sn
        revert hRl9 hzs9 s9
        generalize upd H8 n1 (.lst []) = H9
        intro hRl9 hzs9 s9
        cases R with
        | nil =>
          obtain rfl : zs = [] := List.eq_nil_of_length_eq_zero (by simpa using lz)
          have w3 : wd = "early" ∨ wd = "both" ∨ wd = "within" := by
            have := List.mem_of_getElem? ew
            simpa [words3] using this
          refine iteT ⟨_, rfl, _, rfl, _, h, wd, rfl, (hL5.same (s7.trans s9)).dp, hn, w3, fun Rn Ha za Ra sa nRn hRn hza lRa mRa => ?_⟩
          exact ⟨⟨Rn, _, za, Ra, rfl, hRn, hza, Rs.step ew rR mRa⟩, s9.trans sa⟩
        | cons r0 rr =>
          cases zs with
          | nil => cases hzs
          | cons z0 zr => exact iteF ⟨⟨Rl, _, _, _, rfl, hRl9, hzs9, rR.keep (by simp)⟩, s9⟩
      · rintro σ H8 ⟨⟨Rl, y7, zs, R, rfl, hRl, hzs, rR⟩, s8⟩
        have rR : Rs h words3 R := rR
        have lz := dpAll_len hzs
        rw [List.length_map] at lz
        refine ⟨_, rfl, Nat.zero_le _, fun n1 nn1 => ?_⟩
        have sn := same_upd (o := .lst []) nn1
        refine ⟨Rl, n1, zs, rfl, rfl, SqL.of (sn _ _ hRl), SqL.of upd_same, _, rfl, ?_⟩
        have hRl9 := sn _ _ hRl
        have hzs9 := dp_sameAll sn _ _ hzs
        have s9 := s8.trans sn
        revert hRl9 hzs9 s9
        generalize upd H8 n1 (.lst []) = H9
        intro hRl9 hzs9 s9
        cases R with
        | nil => exact absurd sx (rR.none x)
        | cons r0 rr =>
          have ne : (r0 :: rr) ≠ [] := by simp
          have xin := rR.told ne rs e0
          obtain ⟨wd, hwd, mR, _⟩ := rR.som ne
          have okR : ∀ y ∈ r0 :: rr, PyData.strOk y.1 = true := fun y hy => rs.ok y ((rs.shows y).mpr ((mR y).mp hy).2)
          have dp9 := dp_same s9 _ _ dp7
          cases zs with
          | nil => cases hzs
          | cons z0 zr =>
            refine iteF ⟨_, rfl, _, rfl, _, _, dp9, .lst (SqL.of hRl9) hzs9, rea_sh okx, reas_sh okR, _, rfl, ?_⟩
            rw [any_eqv, decide_eq_true xin]
            refine iteF ⟨_, rfl, _, rfl, _, _, h, x, rfl, (hL5.same (s7.trans s9)).dp, dp9, okx, by omega, good.one, fun Ha c sa hc => ⟨_, rfl, ?_⟩⟩
            rw [hc.mpr sx]
            exact iteF ⟨_, _, _, _, _, _, _, rfl, s5.trans (s7.trans (s9.trans sa))⟩
    · -- an order is told
      refine ⟨_, rfl, _, rfl, _, _, (hLh.same s6).dp, (hL5.same s6).dp, hs_sh h, hs_sh h, _, rfl, ?_⟩
      rw [hs_ne]
      refine iteF ⟨_, rfl, _, _, _, _, true, rfl, .ty _, .base (.tup hp), kit_ty (by decide +kernel), _, rfl, iteF ?_⟩
      refine ⟨Nat.zero_le _, fun R0 nR0 => ⟨three_ok _ _ _, fun Lw nLw => ⟨Lw, rfl, ⟨_, SqL.of upd_same⟩, ?_⟩⟩⟩
      have sR0 := same_upd (o := .lst []) nR0
      have sw := same_upd (o := .lst [V.str "early", V.str "both", V.str "within"]) nLw
      have hLw := upd_same (H := upd H6 R0 (.lst [])) (a := Lw) (o := .lst [V.str "early", V.str "both", V.str "within"])
      have hR0 := sw _ _ (upd_same (H := H6) (a := R0) (o := .lst []))
      have s7 := s6.trans (sR0.trans sw)
      have hp7 := (sR0.trans sw) _ _ hp
      have hT7 := (sR0.trans sw) _ _ hT
      revert hLw hR0 s7 hp7 hT7
      generalize upd (upd H6 R0 (.lst [])) Lw (.lst [V.str "early", V.str "both", V.str "within"]) = H7
      intro hLw hR0 s7 hp7 hT7
      refine for_list (xs := words3.map V.str) (fun j σ H8 => (∃ (Rl : Addr) (y7 : Option V), σ = [some (.ref a), some (.int (0 + (i : Int))), some (.ref b), some (.ref L), some (.ref Lh), some (.ref p), some (.ref Rl), y7] ∧ H8 Rl = some (.lst [])) ∧ Same H7 H8) ⟨⟨R0, _, rfl, hR0⟩, Same.refl _⟩ (fun _ σ H8 _ z => SqL.of (z.2 _ _ hLw)) ?_ ?_
      · rintro j v σ H8 hv ⟨⟨Rl, y7, rfl, hRl⟩, s8⟩
        rw [List.getElem?_map] at hv
        obtain ⟨wd, ew, rfl⟩ := Option.map_eq_some_iff.mp hv
        refine ⟨_, rfl, Nat.zero_le _, fun n1 nn1 => ?_⟩
        have sn := same_upd (o := .lst []) nn1
        refine ⟨Rl, n1, [], rfl, rfl, SqL.of (sn _ _ hRl), SqL.of upd_same, _, rfl, ?_⟩
        have s9 := s8.trans sn
        revert s9
        generalize upd H8 n1 (.lst []) = H9
        intro s9
        have w3 : wd = "early" ∨ wd = "both" ∨ wd = "within" := by
          have := List.mem_of_getElem? ew
          simpa [words3] using this
        refine iteT ⟨_, rfl, _, rfl, _, h, wd, rfl, (hL5.same (s7.trans s9)).dp, hn, w3, fun Rn Ha za Ra sa nRn hRn hza lRa mRa => ?_⟩
        have : Ra = [] := List.eq_nil_iff_forall_not_mem.mpr fun x hx => no x ((mRa x).mp hx).2
        subst this
        cases hza
        exact ⟨⟨Rn, _, rfl, hRn⟩, s9.trans sa⟩
      · rintro σ H8 ⟨⟨Rl, y7, rfl, hRl⟩, s8⟩
        refine ⟨_, rfl, Nat.zero_le _, fun n1 nn1 => ?_⟩
        have sn := same_upd (o := .lst []) nn1
        refine ⟨Rl, n1, [], rfl, rfl, SqL.of (sn _ _ hRl), SqL.of upd_same, _, rfl, ?_⟩
        have s9 := s8.trans sn
        revert s9
        generalize upd H8 n1 (.lst []) = H9
        intro s9
        have hp9 := s9 _ _ hp7
        have hT9 := s9 _ _ hT7
        have ord : OrdP h (rs.map HRow.t) := ⟨rs, pl.1, rfl, placed_times good.mid no pl, placed_sees good.mid pl⟩
        have rl : (rs.map HRow.t).length ≤ 1000 := by
          rw [List.length_map, pl.1.length_eq]
          omega
        refine iteT ⟨_, rfl, p, _, rfl, .inr (SqT.of hp9), rfl, _, rfl, iteF ⟨_, rfl, p, _, 0, _, rfl, rfl, SqT.of hp9, atI_nat (j := 0) rfl, rfl, _, rfl, iteF ?_⟩⟩
        refine ⟨_, rfl, _, rfl, p, _, 1, _, rfl, rfl, SqT.of hp9, atI_nat (j := 1) rfl, _, T, h, _, rfl, (hL5.same (s7.trans s9)).dp, SqL.of hT9, by omega, rl, good.tn, fun r hr => ⟨(good.tm r hr).1, (good.tm r hr).2.1⟩, fun Ha c sa hc => ⟨_, rfl, ?_⟩⟩
        rw [hc.mpr ord]
        refine iteF ⟨_, rfl, _, rfl, p, _, 1, _, rfl, rfl, SqT.of (sa _ _ hp9), atI_nat (j := 1) rfl, _, T, h, _, rfl, (hL5.same (s7.trans (s9.trans sa))).dp, SqL.of (sa _ _ hT9), by omega, rl, good.tn, fun r hr => ⟨(good.tm r hr).1, (good.tm r hr).2.1⟩, fun Hb c2 sb hc2 => ⟨_, rfl, ?_⟩⟩
        rw [hc2.mpr ord]
        exact iteF ⟨_, _, _, _, _, _, _, rfl, s5.trans (s7.trans (s9.trans (sa.trans sb)))⟩

end
theorem all_mk {l : PySem.W.OpenLaw} {w : World} {K : PySem.W.Frag} {h : Heap} {mg : Str → Option Value} {fa f0 f1 f2 f3 f4 f5 f6 f7 f8 f9 f10 f11 f12 f13 f14 f15 f16 f17 f18 f19 f20 : Addr} (X : K.In h) (G : h.Ns mainGlobals mg) (hfa : mg "law" = some (.ref fa))
    {od0 an0 : Option Addr} {sl0 : Array (Option Value)} {oc0 kV0 dc0 pm0 cd0 ct0 : Value} {od1 an1 : Option Addr} {sl1 : Array (Option Value)} {oc1 kV1 dc1 pm1 cd1 ct1 : Value} {od2 an2 : Option Addr} {sl2 : Array (Option Value)} {oc2 kV2 dc2 pm2 cd2 ct2 : Value} {od3 an3 : Option Addr} {sl3 : Array (Option Value)} {oc3 kV3 dc3 pm3 cd3 ct3 : Value} {od4 an4 : Option Addr} {sl4 : Array (Option Value)} {oc4 kV4 dc4 pm4 cd4 ct4 : Value} {od5 an5 : Option Addr} {sl5 : Array (Option Value)} {oc5 kV5 dc5 pm5 cd5 ct5 : Value} {od6 an6 : Option Addr} {sl6 : Array (Option Value)} {oc6 kV6 dc6 pm6 cd6 ct6 : Value} {od7 an7 : Option Addr} {sl7 : Array (Option Value)} {oc7 kV7 dc7 pm7 cd7 ct7 : Value} {od8 an8 : Option Addr} {sl8 : Array (Option Value)} {oc8 kV8 dc8 pm8 cd8 ct8 : Value} {od9 an9 : Option Addr} {sl9 : Array (Option Value)} {oc9 kV9 dc9 pm9 cd9 ct9 : Value} {od10 an10 : Option Addr} {sl10 : Array (Option Value)} {oc10 kV10 dc10 pm10 cd10 ct10 : Value} {od11 an11 : Option Addr} {sl11 : Array (Option Value)} {oc11 kV11 dc11 pm11 cd11 ct11 : Value} {od12 an12 : Option Addr} {sl12 : Array (Option Value)} {oc12 kV12 dc12 pm12 cd12 ct12 : Value} {od13 an13 : Option Addr} {sl13 : Array (Option Value)} {oc13 kV13 dc13 pm13 cd13 ct13 : Value} {od14 an14 : Option Addr} {sl14 : Array (Option Value)} {oc14 kV14 dc14 pm14 cd14 ct14 : Value} {od15 an15 : Option Addr} {sl15 : Array (Option Value)} {oc15 kV15 dc15 pm15 cd15 ct15 : Value} {od16 an16 : Option Addr} {sl16 : Array (Option Value)} {oc16 kV16 dc16 pm16 cd16 ct16 : Value} {od17 an17 : Option Addr} {sl17 : Array (Option Value)} {oc17 kV17 dc17 pm17 cd17 ct17 : Value} {od18 an18 : Option Addr} {sl18 : Array (Option Value)} {oc18 kV18 dc18 pm18 cd18 ct18 : Value} {od19 an19 : Option Addr} {sl19 : Array (Option Value)} {oc19 kV19 dc19 pm19 cd19 ct19 : Value} {od20 an20 : Option Addr} {sl20 : Array (Option Value)} {oc20 kV20 dc20 pm20 cd20 ct20 : Value}
    (a0 : PySem.W.nsIn K mainGlobals "sees_last_writes" = some (some (.ref f0)))
    (l0 : K.lookup f0 = some ⟨oc0, od0, .func (PySem.W.fnOf "sees_last_writes" "sees_last_writes" (defArgs s_sees_last_writes) (defBody s_sees_last_writes) (defScope s_sees_last_writes) .none kV0 dc0 pm0 an0 cd0 ct0), sl0⟩)
    (c0 : PySem.W.codeIn K cd0 "sees_last_writes" = true) (k0 : PySem.W.keepIn K (.ref f0) = true)
    (a1 : PySem.W.nsIn K mainGlobals "keeps_times" = some (some (.ref f1)))
    (l1 : K.lookup f1 = some ⟨oc1, od1, .func (PySem.W.fnOf "keeps_times" "keeps_times" (defArgs s_keeps_times) (defBody s_keeps_times) (defScope s_keeps_times) .none kV1 dc1 pm1 an1 cd1 ct1), sl1⟩)
    (c1 : PySem.W.codeIn K cd1 "keeps_times" = true) (k1 : PySem.W.keepIn K (.ref f1) = true)
    (a2 : PySem.W.nsIn K mainGlobals "is_order" = some (some (.ref f2)))
    (l2 : K.lookup f2 = some ⟨oc2, od2, .func (PySem.W.fnOf "is_order" "is_order" (defArgs s_is_order) (defBody s_is_order) (defScope s_is_order) .none kV2 dc2 pm2 an2 cd2 ct2), sl2⟩)
    (c2 : PySem.W.codeIn K cd2 "is_order" = true) (k2 : PySem.W.keepIn K (.ref f2) = true)
    (a3 : PySem.W.nsIn K mainGlobals "zones_of" = some (some (.ref f3)))
    (l3 : K.lookup f3 = some ⟨oc3, od3, .func (PySem.W.fnOf "zones_of" "zones_of" (defArgs s_zones_of) (defBody s_zones_of) (defScope s_zones_of) .none kV3 dc3 pm3 an3 cd3 ct3), sl3⟩)
    (c3 : PySem.W.codeIn K cd3 "zones_of" = true) (k3 : PySem.W.keepIn K (.ref f3) = true)
    (a4 : PySem.W.nsIn K mainGlobals "is_open_zone" = some (some (.ref f4)))
    (l4 : K.lookup f4 = some ⟨oc4, od4, .func (PySem.W.fnOf "is_open_zone" "is_open_zone" (defArgs s_is_open_zone) (defBody s_is_open_zone) (defScope s_is_open_zone) .none kV4 dc4 pm4 an4 cd4 ct4), sl4⟩)
    (c4 : PySem.W.codeIn K cd4 "is_open_zone" = true) (k4 : PySem.W.keepIn K (.ref f4) = true)
    (a5 : PySem.W.nsIn K mainGlobals "clash" = some (some (.ref f5)))
    (l5 : K.lookup f5 = some ⟨oc5, od5, .func (PySem.W.fnOf "clash" "clash" (defArgs s_clash) (defBody s_clash) (defScope s_clash) .none kV5 dc5 pm5 an5 cd5 ct5), sl5⟩)
    (c5 : PySem.W.codeIn K cd5 "clash" = true) (k5 : PySem.W.keepIn K (.ref f5) = true)
    (a6 : PySem.W.nsIn K mainGlobals "early_reasons" = some (some (.ref f6)))
    (l6 : K.lookup f6 = some ⟨oc6, od6, .func (PySem.W.fnOf "early_reasons" "early_reasons" (defArgs s_early_reasons) (defBody s_early_reasons) (defScope s_early_reasons) .none kV6 dc6 pm6 an6 cd6 ct6), sl6⟩)
    (c6 : PySem.W.codeIn K cd6 "early_reasons" = true) (k6 : PySem.W.keepIn K (.ref f6) = true)
    (a7 : PySem.W.nsIn K mainGlobals "both_reasons" = some (some (.ref f7)))
    (l7 : K.lookup f7 = some ⟨oc7, od7, .func (PySem.W.fnOf "both_reasons" "both_reasons" (defArgs s_both_reasons) (defBody s_both_reasons) (defScope s_both_reasons) .none kV7 dc7 pm7 an7 cd7 ct7), sl7⟩)
    (c7 : PySem.W.codeIn K cd7 "both_reasons" = true) (k7 : PySem.W.keepIn K (.ref f7) = true)
    (a8 : PySem.W.nsIn K mainGlobals "within_reasons" = some (some (.ref f8)))
    (l8 : K.lookup f8 = some ⟨oc8, od8, .func (PySem.W.fnOf "within_reasons" "within_reasons" (defArgs s_within_reasons) (defBody s_within_reasons) (defScope s_within_reasons) .none kV8 dc8 pm8 an8 cd8 ct8), sl8⟩)
    (c8 : PySem.W.codeIn K cd8 "within_reasons" = true) (k8 : PySem.W.keepIn K (.ref f8) = true)
    (a9 : PySem.W.nsIn K mainGlobals "reasons_of" = some (some (.ref f9)))
    (l9 : K.lookup f9 = some ⟨oc9, od9, .func (PySem.W.fnOf "reasons_of" "reasons_of" (defArgs s_reasons_of) (defBody s_reasons_of) (defScope s_reasons_of) .none kV9 dc9 pm9 an9 cd9 ct9), sl9⟩)
    (c9 : PySem.W.codeIn K cd9 "reasons_of" = true) (k9 : PySem.W.keepIn K (.ref f9) = true)
    (a10 : PySem.W.nsIn K mainGlobals "place_of" = some (some (.ref f10)))
    (l10 : K.lookup f10 = some ⟨oc10, od10, .func (PySem.W.fnOf "place_of" "place_of" (defArgs s_place_of) (defBody s_place_of) (defScope s_place_of) .none kV10 dc10 pm10 an10 cd10 ct10), sl10⟩)
    (c10 : PySem.W.codeIn K cd10 "place_of" = true) (k10 : PySem.W.keepIn K (.ref f10) = true)
    (a11 : PySem.W.nsIn K mainGlobals "order_of" = some (some (.ref f11)))
    (l11 : K.lookup f11 = some ⟨oc11, od11, .func (PySem.W.fnOf "order_of" "order_of" (defArgs s_order_of) (defBody s_order_of) (defScope s_order_of) .none kV11 dc11 pm11 an11 cd11 ct11), sl11⟩)
    (c11 : PySem.W.codeIn K cd11 "order_of" = true) (k11 : PySem.W.keepIn K (.ref f11) = true)
    (a12 : PySem.W.nsIn K mainGlobals "ordered" = some (some (.ref f12)))
    (l12 : K.lookup f12 = some ⟨oc12, od12, .func (PySem.W.fnOf "ordered" "ordered" (defArgs s_ordered) (defBody s_ordered) (defScope s_ordered) .none kV12 dc12 pm12 an12 cd12 ct12), sl12⟩)
    (c12 : PySem.W.codeIn K cd12 "ordered" = true) (k12 : PySem.W.keepIn K (.ref f12) = true)
    (a13 : PySem.W.nsIn K mainGlobals "shows_none" = some (some (.ref f13)))
    (l13 : K.lookup f13 = some ⟨oc13, od13, .func (PySem.W.fnOf "shows_none" "shows_none" (defArgs s_shows_none) (defBody s_shows_none) (defScope s_shows_none) .none kV13 dc13 pm13 an13 cd13 ct13), sl13⟩)
    (c13 : PySem.W.codeIn K cd13 "shows_none" = true) (k13 : PySem.W.keepIn K (.ref f13) = true)
    (a14 : PySem.W.nsIn K mainGlobals "_law_bag" = some (some (.ref f14)))
    (l14 : K.lookup f14 = some ⟨oc14, od14, .func (PySem.W.fnOf "_law_bag" "_law_bag" (defArgs s__law_bag) (defBody s__law_bag) (defScope s__law_bag) .none kV14 dc14 pm14 an14 cd14 ct14), sl14⟩)
    (c14 : PySem.W.codeIn K cd14 "_law_bag" = true) (k14 : PySem.W.keepIn K (.ref f14) = true)
    (a15 : PySem.W.nsIn K mainGlobals "_law_take" = some (some (.ref f15)))
    (l15 : K.lookup f15 = some ⟨oc15, od15, .func (PySem.W.fnOf "_law_take" "_law_take" (defArgs s__law_take) (defBody s__law_take) (defScope s__law_take) .none kV15 dc15 pm15 an15 cd15 ct15), sl15⟩)
    (c15 : PySem.W.codeIn K cd15 "_law_take" = true) (k15 : PySem.W.keepIn K (.ref f15) = true)
    (a16 : PySem.W.nsIn K mainGlobals "_law_history" = some (some (.ref f16)))
    (l16 : K.lookup f16 = some ⟨oc16, od16, .func (PySem.W.fnOf "_law_history" "_law_history" (defArgs s__law_history) (defBody s__law_history) (defScope s__law_history) .none kV16 dc16 pm16 an16 cd16 ct16), sl16⟩)
    (c16 : PySem.W.codeIn K cd16 "_law_history" = true) (k16 : PySem.W.keepIn K (.ref f16) = true)
    (a17 : PySem.W.nsIn K mainGlobals "_law_order_right" = some (some (.ref f17)))
    (l17 : K.lookup f17 = some ⟨oc17, od17, .func (PySem.W.fnOf "_law_order_right" "_law_order_right" (defArgs s__law_order_right) (defBody s__law_order_right) (defScope s__law_order_right) .none kV17 dc17 pm17 an17 cd17 ct17), sl17⟩)
    (c17 : PySem.W.codeIn K cd17 "_law_order_right" = true) (k17 : PySem.W.keepIn K (.ref f17) = true)
    (a18 : PySem.W.nsIn K mainGlobals "_law_zone" = some (some (.ref f18)))
    (l18 : K.lookup f18 = some ⟨oc18, od18, .func (PySem.W.fnOf "_law_zone" "_law_zone" (defArgs s__law_zone) (defBody s__law_zone) (defScope s__law_zone) .none kV18 dc18 pm18 an18 cd18 ct18), sl18⟩)
    (c18 : PySem.W.codeIn K cd18 "_law_zone" = true) (k18 : PySem.W.keepIn K (.ref f18) = true)
    (a19 : PySem.W.nsIn K mainGlobals "_law_reasons" = some (some (.ref f19)))
    (l19 : K.lookup f19 = some ⟨oc19, od19, .func (PySem.W.fnOf "_law_reasons" "_law_reasons" (defArgs s__law_reasons) (defBody s__law_reasons) (defScope s__law_reasons) .none kV19 dc19 pm19 an19 cd19 ct19), sl19⟩)
    (c19 : PySem.W.codeIn K cd19 "_law_reasons" = true) (k19 : PySem.W.keepIn K (.ref f19) = true)
    (a20 : PySem.W.nsIn K mainGlobals "law" = some (some (.ref f20)))
    (l20 : K.lookup f20 = some ⟨oc20, od20, .func (PySem.W.fnOf "law" "law" (defArgs s_law) (defBody s_law) (defScope s_law) .none kV20 dc20 pm20 an20 cd20 ct20), sl20⟩)
    (c20 : PySem.W.codeIn K cd20 "law" = true) (k20 : PySem.W.keepIn K (.ref f20) = true)
    (z_abs : PySem.W.nsIn K mainGlobals "abs" = some none)
    (z_int : PySem.W.nsIn K mainGlobals "int" = some none)
    (z_isinstance : PySem.W.nsIn K mainGlobals "isinstance" = some none)
    (z_len : PySem.W.nsIn K mainGlobals "len" = some none)
    (z_list : PySem.W.nsIn K mainGlobals "list" = some none)
    (z_max : PySem.W.nsIn K mainGlobals "max" = some none)
    (z_min : PySem.W.nsIn K mainGlobals "min" = some none)
    (z_range : PySem.W.nsIn K mainGlobals "range" = some none)
    (z_set : PySem.W.nsIn K mainGlobals "set" = some none)
    (z_sorted : PySem.W.nsIn K mainGlobals "sorted" = some none)
    (z_tuple : PySem.W.nsIn K mainGlobals "tuple" = some none)
    (z_zip : PySem.W.nsIn K mainGlobals "zip" = some none) :
    ∃ fd : FuncData, (∀ (s : Shared) (v : Value), BindsTo s fd ⟨[v], []⟩ [("script", v)]) ∧ ∀ base : Heap, K.In base → base.Ns mainGlobals mg → FnOk l.prog w K mg base CX0 5 fa fd ["script"] (splaw K) := by
  have N : Fre K mg := ⟨PySem.W.mg_none_of X G z_abs, PySem.W.mg_none_of X G z_int, PySem.W.mg_none_of X G z_isinstance, PySem.W.mg_none_of X G z_len, PySem.W.mg_none_of X G z_list, PySem.W.mg_none_of X G z_max, PySem.W.mg_none_of X G z_min, PySem.W.mg_none_of X G z_range, PySem.W.mg_none_of X G z_set, PySem.W.mg_none_of X G z_sorted, PySem.W.mg_none_of X G z_tuple, PySem.W.mg_none_of X G z_zip⟩
  have e := hfa.symm.trans (PySem.W.mg_of X G a20)
  cases e
  have F0 := fun_mk (st := s_sees_last_writes) l0 c0 k0
  have F1 := fun_mk (st := s_keeps_times) l1 c1 k1
  have F2 := fun_mk (st := s_is_order) l2 c2 k2
  have F3 := fun_mk (st := s_zones_of) l3 c3 k3
  have F4 := fun_mk (st := s_is_open_zone) l4 c4 k4
  have F5 := fun_mk (st := s_clash) l5 c5 k5
  have F6 := fun_mk (st := s_early_reasons) l6 c6 k6
  have F7 := fun_mk (st := s_both_reasons) l7 c7 k7
  have F8 := fun_mk (st := s_within_reasons) l8 c8 k8
  have F9 := fun_mk (st := s_reasons_of) l9 c9 k9
  have F10 := fun_mk (st := s_place_of) l10 c10 k10
  have F11 := fun_mk (st := s_order_of) l11 c11 k11
  have F12 := fun_mk (st := s_ordered) l12 c12 k12
  have F13 := fun_mk (st := s_shows_none) l13 c13 k13
  have F14 := fun_mk (st := s__law_bag) l14 c14 k14
  have F15 := fun_mk (st := s__law_take) l15 c15 k15
  have F16 := fun_mk (st := s__law_history) l16 c16 k16
  have F17 := fun_mk (st := s__law_order_right) l17 c17 k17
  have F18 := fun_mk (st := s__law_zone) l18 c18 k18
  have F19 := fun_mk (st := s__law_reasons) l19 c19 k19
  have F20 := fun_mk (st := s_law) l20 c20 k20
  refine ⟨PySem.W.fnOf "law" "law" (defArgs s_law) (defBody s_law) (defScope s_law) .none kV20 dc20 pm20 an20 cd20 ct20, fun s v => .of_eq rfl, fun base _ _ => ?_⟩
  have c_sees_last_writes := ok_sees_last_writes (base := base) (P := l.prog) (w := w) F0 (PySem.W.mg_of X G a0) N
  have c_keeps_times := ok_keeps_times (base := base) (P := l.prog) (w := w) F1 (PySem.W.mg_of X G a1) N
  have c_is_order := ok_is_order (base := base) (P := l.prog) (w := w) F2 (PySem.W.mg_of X G a2) N c_keeps_times c_sees_last_writes
  have c_zones_of := ok_zones_of (base := base) (P := l.prog) (w := w) F3 (PySem.W.mg_of X G a3) N
  have c_is_open_zone := ok_is_open_zone (base := base) (P := l.prog) (w := w) F4 (PySem.W.mg_of X G a4) N
  have c_clash := ok_clash (base := base) (P := l.prog) (w := w) F5 (PySem.W.mg_of X G a5) N
  have c_early_reasons := ok_early_reasons (base := base) (P := l.prog) (w := w) F6 (PySem.W.mg_of X G a6) N
  have c_both_reasons := ok_both_reasons (base := base) (P := l.prog) (w := w) F7 (PySem.W.mg_of X G a7) N c_clash c_is_open_zone
  have c_within_reasons := ok_within_reasons (base := base) (P := l.prog) (w := w) F8 (PySem.W.mg_of X G a8) N c_clash c_is_open_zone
  have c_reasons_of := ok_reasons_of (base := base) (P := l.prog) (w := w) F9 (PySem.W.mg_of X G a9) N c_both_reasons c_early_reasons c_within_reasons c_zones_of
  have c_place_of := ok_place_of (base := base) (P := l.prog) (w := w) F10 (PySem.W.mg_of X G a10) N c_is_open_zone
  have c_order_of := ok_order_of (base := base) (P := l.prog) (w := w) F11 (PySem.W.mg_of X G a11) N c_place_of c_zones_of
  have c_ordered := ok_ordered (base := base) (P := l.prog) (w := w) F12 (PySem.W.mg_of X G a12) N c_order_of c_reasons_of
  have c_shows_none := ok_shows_none (base := base) (P := l.prog) (w := w) F13 (PySem.W.mg_of X G a13) N c_reasons_of
  have c__law_bag := ok__law_bag (base := base) (P := l.prog) (w := w) F14 (PySem.W.mg_of X G a14) N
  have c__law_take := ok__law_take (base := base) (P := l.prog) (w := w) F15 (PySem.W.mg_of X G a15) N
  have c__law_history := ok__law_history (base := base) (P := l.prog) (w := w) F16 (PySem.W.mg_of X G a16) N c__law_take
  have c__law_order_right := ok__law_order_right (base := base) (P := l.prog) (w := w) F17 (PySem.W.mg_of X G a17) N
  have c__law_zone := ok__law_zone (base := base) (P := l.prog) (w := w) F18 (PySem.W.mg_of X G a18) N
  have c__law_reasons := ok__law_reasons (base := base) (P := l.prog) (w := w) F19 (PySem.W.mg_of X G a19) N c__law_zone
  exact ok_law (base := base) (P := l.prog) (w := w) F20 N c__law_bag c__law_history c__law_order_right c__law_reasons c__law_take c_is_order c_ordered c_shows_none
end My
open PySem PySem.W PyProof.Rows
set_option maxRecDepth 100000 in
set_option maxHeartbeats 0 in
theorem PySem.Challenge.cw_pagelend_k49_whole_an_order_or_why_none_holds : PySem.Challenge.rw_pagelend_k49_whole_an_order_or_why_none.Holds := by
  w_on; o_law; k_head; (case hw => w_witness2)
  k_fill
  refine L2.walk_of (l := PySem.Challenge.rw_pagelend_k49_whole_an_order_or_why_none) (n := 63) (k := 5) (x := "script") (CX := fun _ => L2.CX0) (sp := fun w => My.splaw _) rfl (by decide) rfl ⟨rfl, by decide, by decide⟩ (fun w h Y => PySem.W.kIn_of Y) ?F (fun _ _ a ns hl _ hS => ⟨a, ns, rfl, hS, hl, fun _ => rfl⟩) (fun _ _ _ _ _ h => h)
  case F =>
    intro w mg fa h KX G hmg
    refine' My.all_mk KX G hmg ?a0 ?l0 ?c0 ?k0 ?a1 ?l1 ?c1 ?k1 ?a2 ?l2 ?c2 ?k2 ?a3 ?l3 ?c3 ?k3 ?a4 ?l4 ?c4 ?k4 ?a5 ?l5 ?c5 ?k5 ?a6 ?l6 ?c6 ?k6 ?a7 ?l7 ?c7 ?k7 ?a8 ?l8 ?c8 ?k8 ?a9 ?l9 ?c9 ?k9 ?a10 ?l10 ?c10 ?k10 ?a11 ?l11 ?c11 ?k11 ?a12 ?l12 ?c12 ?k12 ?a13 ?l13 ?c13 ?k13 ?a14 ?l14 ?c14 ?k14 ?a15 ?l15 ?c15 ?k15 ?a16 ?l16 ?c16 ?k16 ?a17 ?l17 ?c17 ?k17 ?a18 ?l18 ?c18 ?k18 ?a19 ?l19 ?c19 ?k19 ?a20 ?l20 ?c20 ?k20 ?z_abs ?z_int ?z_isinstance ?z_len ?z_list ?z_max ?z_min ?z_range ?z_set ?z_sorted ?z_tuple ?z_zip
    (case a0 => k_is); (case l0 => k_is); (case c0 => k_is); (case k0 => k_is); (case a1 => k_is); (case l1 => k_is); (case c1 => k_is); (case k1 => k_is); (case a2 => k_is); (case l2 => k_is); (case c2 => k_is); (case k2 => k_is); (case a3 => k_is); (case l3 => k_is); (case c3 => k_is); (case k3 => k_is); (case a4 => k_is); (case l4 => k_is); (case c4 => k_is); (case k4 => k_is); (case a5 => k_is); (case l5 => k_is); (case c5 => k_is); (case k5 => k_is); (case a6 => k_is); (case l6 => k_is); (case c6 => k_is); (case k6 => k_is); (case a7 => k_is); (case l7 => k_is); (case c7 => k_is); (case k7 => k_is); (case a8 => k_is); (case l8 => k_is); (case c8 => k_is); (case k8 => k_is); (case a9 => k_is); (case l9 => k_is); (case c9 => k_is); (case k9 => k_is); (case a10 => k_is); (case l10 => k_is); (case c10 => k_is); (case k10 => k_is); (case a11 => k_is); (case l11 => k_is); (case c11 => k_is); (case k11 => k_is); (case a12 => k_is); (case l12 => k_is); (case c12 => k_is); (case k12 => k_is); (case a13 => k_is); (case l13 => k_is); (case c13 => k_is); (case k13 => k_is); (case a14 => k_is); (case l14 => k_is); (case c14 => k_is); (case k14 => k_is); (case a15 => k_is); (case l15 => k_is); (case c15 => k_is); (case k15 => k_is); (case a16 => k_is); (case l16 => k_is); (case c16 => k_is); (case k16 => k_is); (case a17 => k_is); (case l17 => k_is); (case c17 => k_is); (case k17 => k_is); (case a18 => k_is); (case l18 => k_is); (case c18 => k_is); (case k18 => k_is); (case a19 => k_is); (case l19 => k_is); (case c19 => k_is); (case k19 => k_is); (case a20 => k_is); (case l20 => k_is); (case c20 => k_is); (case k20 => k_is); (case z_abs => k_is); (case z_int => k_is); (case z_isinstance => k_is); (case z_len => k_is); (case z_list => k_is); (case z_max => k_is); (case z_min => k_is); (case z_range => k_is); (case z_set => k_is); (case z_sorted => k_is); (case z_tuple => k_is); (case z_zip => k_is)

