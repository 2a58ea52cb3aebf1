
import PyProof.Rows.All
import Wide.All
import OpenK.AllK
import Wide.FinOn
import PySem.Challenge.RW_pagelend_k48_what_shows_that_there_is_no
import HandS.ForMost
import HandS.Wide
import HandS.Defaults
import HandS.MakeKwOnly
import HandS.IsInst
import HandS.Codes
import HandS.Walk
import HandS.TupAny
import HandS.More
import HandS.Sort
import HandS.Conv
import HandS.HotCalls
import HandS.ExcIs
import KE.KSortTupAny
import HandS.DictComp
import HandS.Deep
import HandS.Rev
import KE.KDictKeyed
import HandS.SetFor
import HandS.Strs
set_option Elab.async false
set_option linter.all false
set_option maxRecDepth 100000
set_option maxHeartbeats 1000000
namespace My
open PySem PySem.Spec PyProof.Rows L2
def topS (i : Nat) : Stmt := PySem.Challenge.pw_pagelend_k48_what_shows_that_there_is_no.main.body.getD i (.Pass ⟨0, 0, 0, 0⟩)
structure Fre (K : PySem.W.Frag) (mg : Str → Option Value) : Prop where
  abs : mg "abs" = none
  bool : mg "bool" = none
  int : mg "int" = none
  isinstance : mg "isinstance" = none
  len : mg "len" = none
  list : mg "list" = none
  max : mg "max" = none
  min : mg "min" = none
  range : mg "range" = none
  set : mg "set" = none
  sorted : mg "sorted" = none
/-! ### calls with keywords, a def kept as its promise -/
structure CalN (P : Program) (w : World) (K : PySem.W.Frag) (mg : Str → Option Value) (base : Heap) (k : Nat) (x : Str) (sp : Sp) (n : Nat) (ks : List Str) (gV : List V → List V → List V) : Prop where
  ex : ∃ (f : Addr) (fd : FuncData) (ps : List Str) (g : List Value → List Value → List Value), FnOk P w K mg base CX0 k f fd ps sp ∧ mg x = some (.ref f) ∧ PySem.W.keepIn K (.ref f) = true ∧ KBn K fd ps n ks g gV
section
variable {X : Cx} {k j n : Nat} {x : Str} {sp : Sp} {ks : List Str} {gV : List V → List V → List V} {p pos : Pos} {e : Expr} {es : List Expr} {kws : List Keyword} {t tk : TA}
theorem pe_cn (c : CalN X.prog X.w X.K X.mg X.base k x sp n ks gV) (hr : Room j X.A) (hk : k ≤ j) (hg : Gl X x) (ha : PA X (e :: es) t) (hkw : PK X kws tk)
    (hall : (backToKw pos (keywordEach kws X.env)).all (·.1.isSome) = true := by rfl) (hks : (backToKw pos (keywordEach kws X.env)).filterMap (·.1) = ks := by rfl)
    (hdb : (x == ("__debug__" : Str)) = false := by decide) (he : starEach (e :: es) X.env = (false, eval e X.env) :: starEach es X.env := by rfl)
    (hpl : ((backTo pos (starEach (e :: es) X.env)).any (·.1) || (backToKw pos (keywordEach kws X.env)).any (·.1.isNone)) = false := by rfl) :
    PE X (.Call (.Name x p) (e :: es) kws pos) (tCallN n ks.length sp gV E0 t tk) := by
  obtain ⟨f, fd, ps, g, F, hm, kp, b⟩ := c.ex
  exact pe_callN F (hr.mono hk) hg hm kp b pass0 ha hkw hall hks hdb he hpl
theorem pe_cn0 (c : CalN X.prog X.w X.K X.mg X.base k x sp 0 ks gV) (hr : Room j X.A) (hk : k ≤ j) (hg : Gl X x) (hkw : PK X kws tk)
    (hall : (backToKw pos (keywordEach kws X.env)).all (·.1.isSome) = true := by rfl) (hks : (backToKw pos (keywordEach kws X.env)).filterMap (·.1) = ks := by rfl)
    (hdb : (x == ("__debug__" : Str)) = false := by decide)
    (hpl : ((backTo pos (starEach [] X.env)).any (·.1) || (backToKw pos (keywordEach kws X.env)).any (·.1.isNone)) = false := by rfl) :
    PE X (.Call (.Name x p) [] kws pos) (tCallN 0 ks.length sp gV E0 tNil tk) := by
  obtain ⟨f, fd, ps, g, F, hm, kp, b⟩ := c.ex
  refine ⟨fun pins s σ H Q I h => ?_⟩
  refine wpAny_Call_Name_kw (ld_glob I hg hm ?_ hdb)
  refine PySem.W.callWith_KW0 (h₀ := X.base) I.ok.mod.kin kp hall ?_ hpl
  refine thn (hkw.run pos pins s σ H _ I h) fun ws s2 ⟨zs, H2, I2, rz, l1, l2, q2⟩ => ⟨I2.kIn, ?_⟩
  rw [hks]
  exact run_fnN (us := []) (vs := []) F (hr.mono hk) b pass0 I2 .nil rz rfl l2 q2
end
section
variable {P : Program} {w : World} {K : PySem.W.Frag} {mg : Str → Option Value} {base : Heap}
theorem mkCal {x : Str} {st : Stmt} {f : Addr} {fd : FuncData} {N ps : List Str} {k : Nat} {sp : Sp} (F : Fun K x x st f fd) (gm : mg x = some (.ref f)) (S : FnScope N ps (defScope st)) (b : Binds K fd ps []) (len : ∀ vs H Q E, sp vs H Q E → vs.length = ps.length)
    (hbody : ∀ (cdv : Value) (A : Around) (outer : List Env) (s : Shared) (H : Hp) (vs : List V) (Q : VK) (E : XK), Room k (A.deeper (envOfC x (defScope st) s.heap.objs.size f cdv)) → sp vs H Q E →
      ∃ t, PSs (cxOf CX0 P w K mg base N x (defScope st) f cdv A outer s H E).nox (defBody st) t ∧ t { nx := fun _ H' => Q .non H', rt := Q } (start N vs) H) : C8.Cal P w K mg base (k + 1) x sp [] :=
  ⟨f, fd, ps, [], F.ok S len hbody, gm, F.kp, b, .nil⟩
end
/-! ### heaps -/
def But (b : Addr) (H H' : Hp) : Prop := ∀ a o, a ≠ b → H a = some o → H' a = some o
theorem But.trans {b : Addr} {H H1 H2 : Hp} (h : But b H H1) (g : But b H1 H2) : But b H H2 := fun a o n e => g a o n (h a o n e)
theorem But.refl (b : Addr) (H : Hp) : But b H H := fun _ _ _ e => e
theorem But.put {b : Addr} {H : Hp} {o : HO} : But b H (L2.upd H b o) := fun a _ n e => by rw [upd_ne n]; exact e
theorem But.new {b p : Addr} {H : Hp} {o : HO} (h : H p = none) : But b H (L2.upd H p o) := fun a _ n e => by rw [upd_ne (ne_of_none e h)]; exact e
theorem same_upd {H : Hp} {p : Addr} {o : HO} (h : H p = none) : Same H (upd H p o) := fun b x e => by
  rw [upd_ne (ne_of_none e h)]
  exact e
def Bag (H : Hp) (b : Addr) : Prop := ∃ x y : Int, H b = some (.lst [.int x, .int y]) ∧ 0 ≤ x ∧ 0 ≤ y ∧ y < 2147483647
theorem Bag.new {H : Hp} {b p : Addr} {o : HO} (g : Bag H b) (h : H p = none) : Bag (L2.upd H p o) b := by
  obtain ⟨x, y, e, r⟩ := g
  exact ⟨x, y, by rw [upd_ne (ne_of_none e h)]; exact e, r⟩
theorem Bag.ne {H : Hp} {b p : Addr} (g : Bag H b) (h : H p = none) : p ≠ b := by
  obtain ⟨x, y, e, r⟩ := g
  exact (ne_of_none e h).symm
theorem Bag.ne_tup {H : Hp} {b p : Addr} {xs : List V} (g : Bag H b) (h : H p = some (.tup xs)) : p ≠ b := by
  obtain ⟨x, y, e, r⟩ := g
  exact ne_of h e (by intro z; cases z)
theorem seqBut {K : PySem.W.Frag} {H H' : Hp} {a b : Addr} {xs : List V} (e : But b H H') (n : a ≠ b) (h : SqL K H a xs) : SqL K H' a xs := by
  rcases h with (h | ⟨o, h⟩) | h
  · exact .inl (.inl (e _ _ n h))
  · exact .inl (.inr ⟨o, e _ _ n h⟩)
  · exact .inr h
theorem dT {a : Bool} {b : Bool} (h : a = b) : decide (V.bl a = V.bl b) = true := by rw [h]; exact decide_eq_true rfl
theorem two_ok (a b : V) : [a, b].length ≤ sizeLine := by show 2 ≤ sizeLine; decide
theorem three_ok (a b c : V) : [a, b, c].length ≤ sizeLine := by show 3 ≤ sizeLine; decide
theorem four_ok (a b c d : V) : [a, b, c, d].length ≤ sizeLine := by show 4 ≤ sizeLine; decide
theorem free_of {b p : Addr} {H H' : Hp} (g : But b H H') (hB : Bag H b) (hB' : Bag H' b) (np : H' p = none) : H p = none := by
  cases e : H p with
  | none => rfl
  | some o =>
    have z := g p o (hB'.ne np) e
    rw [np] at z
    cases z
theorem same_but {b : Addr} {H0 H1 H2 : Hp} (sm : Same H0 H1) (nb : H0 b = none) (g : But b H1 H2) : Same H0 H2 := fun c o e => g c o (ne_of_none e nb) (sm c o e)
theorem iteD {p A B : Prop} [Decidable p] (h : ¬ p) (b : B) : if decide p = true then A else B := by
  rw [if_neg (by rw [decide_eq_false h]; exact Bool.false_ne_true)]
  exact b
theorem iteD' {p A B : Prop} [Decidable p] (h : p) (b : A) : if decide p = true then A else B := by
  rw [if_pos (decide_eq_true h)]
  exact b
theorem vone {vs : List V} {us : List Value} (i : Nat) (r : Vals vs us) : Vals ((vs.drop i).take 1) ((us.drop i).take 1) := by
  exact (r.drop i).take 1
section
variable {P : Program} {w : World} {K : PySem.W.Frag} {mg : Str → Option Value} {base : Heap}

/-! ### _law_take: any draw below many -/
abbrev s__law_take : Stmt := topS 11
theorem sc__law_take : FnScope ["bag", "many", "found"] ["bag", "many"] (defScope s__law_take) := ⟨rfl, rfl, rfl, by decide +kernel, rfl, by decide +kernel, by decide +kernel⟩
def sp_law_take : Sp := fun vs H Q _ => ∃ (b : Addr) (m : Int), vs = [.ref b, .int m] ∧ Bag H b ∧ 0 < m ∧ m < 2 ^ 200 ∧ ∀ r H', 0 ≤ r → r < m → But b H H' → Bag H' b → Q (.int r) H'
theorem ok__law_take {f : Addr} {fd : FuncData} (F : Fun K "_law_take" "_law_take" s__law_take f fd) (gm : mg "_law_take" = some (.ref f)) (N : Fre K mg)  : C8.Cal P w K mg base 1 "_law_take" sp_law_take [] := by
  refine mkCal F gm sc__law_take (F.binds (ps := ["bag", "many"]) fun _ _ _ _ _ _ us hl => match us, hl with | [_, _], _ => rfl) (fun vs H Q E h => ?_) (fun cdv A outer s H vs Q E hr h => ?_)
  · obtain ⟨b, m, rfl, _⟩ := h
    rfl
  · obtain ⟨b, m, rfl, ⟨x, y, hb, hx, hy, hy2⟩, hm, hm2, q⟩ := h
    refine ⟨_, (pss_cons (ps_if (pt_cmpR op_gt (pe_ix ix_list (pv 0) pe_int (fun _ _ => rfl)) pe_int (nomark _))
 (pss_cons (ps_set (i := 2) sc__law_take.nd rfl (.inl rfl) (pe_op op_mod (pe_ix ix_list (pv 0) pe_int (fun _ _ => rfl)) (pv 1)))
 (pss_cons (ps_asg (pe_op op_fdivW (pe_ix ix_list (pv 0) pe_int (fun _ _ => rfl)) (pv 1)) (pg_sub (pv 0) pe_int set_list))
 (pss_one (ps_ret (pv 2)))))
 pss_nil)
 (pss_cons (ps_asg (pe_op op_mod (pe_op op_mul (pe_ix ix_list (pv 0) pe_int (fun _ _ => rfl)) pe_int) pe_int) (pg_sub (pv 0) pe_int set_list))
 (pss_one (ps_ret (pe_op op_mod (pe_op op_fdiv (pe_op op_mod (pe_op op_mul (pe_ix ix_list (pv 0) pe_int (fun _ _ => rfl)) (pe_ix ix_list (pv 0) pe_int (fun _ _ => rfl))) pe_int) pe_int) (pv 1)))))), ?_⟩
    refine ⟨_, rfl, b, _, 0, .int x, rfl, rfl, SqL.of hb, atI_nat (j := 0) rfl, x, 0, rfl, rfl, _, rfl, ite2 (fun e => ?_) (fun e => ?_)⟩
    · have hx0 : 0 < x := of_decide_eq_true e
      refine ⟨_, rfl, b, _, 0, .int x, rfl, rfl, SqL.of hb, atI_nat (j := 0) rfl, _, rfl, x, m, rfl, rfl, hm, ?_⟩
      refine ⟨_, rfl, b, _, 0, .int x, rfl, rfl, SqL.of hb, atI_nat (j := 0) rfl, _, rfl, x, m, rfl, rfl, wide_div (b := 200) hm (by omega) (by decide) (by decide), _, rfl, b, _, 0, 0, rfl, rfl, hb, rfl, ?_⟩
      refine ⟨_, rfl, q _ _ (Int.emod_nonneg _ (by omega)) (Int.emod_lt_of_pos _ hm) But.put ⟨x / m, y, upd_same, Int.ediv_nonneg hx (by omega), hy, hy2⟩⟩
    · refine ⟨_, rfl, b, _, 1, .int y, rfl, rfl, SqL.of hb, atI_nat (j := 1) rfl, y, 48271, rfl, rfl, .inr ⟨by decide, by decide⟩, _, 2147483647, rfl, rfl, (by show (0 : Int) < 2147483647; decide), _, rfl, b, _, 1, 1, rfl, rfl, hb, rfl, ?_⟩
      have hb2 : (upd H b (.lst ([V.int x, V.int y].set 1 (.int (y * 48271 % 2147483647))))) b = some (.lst [.int x, .int (y * 48271 % 2147483647)]) := upd_same
      have hz1 : 0 ≤ y * 48271 % 2147483647 := Int.emod_nonneg _ (by decide)
      have hz2 : y * 48271 % 2147483647 < 2147483647 := Int.emod_lt_of_pos _ (by decide)
      refine ⟨_, rfl, b, _, 1, _, rfl, rfl, SqL.of hb2, atI_nat (j := 1) rfl, _, rfl, b, _, 1, _, rfl, rfl, SqL.of hb2, atI_nat (j := 1) rfl, _, _, rfl, rfl, .inl ⟨by omega, by omega⟩, _, 2147483629, rfl, rfl, (by show (0 : Int) < 2147483629; decide), _, 64, rfl, rfl, ⟨by decide, by decide⟩, _, rfl, _, m, rfl, rfl, hm, ?_⟩
      exact q _ _ (Int.emod_nonneg _ (by omega)) (Int.emod_lt_of_pos _ hm) But.put ⟨x, _, hb2, hx, hz1, hz2⟩
/-! ### _law_bag -/
abbrev s__law_bag : Stmt := topS 10
theorem sc__law_bag : FnScope ["script", "k", "cell"] ["script", "k"] (defScope s__law_bag) := ⟨rfl, rfl, rfl, by decide +kernel, rfl, by decide +kernel, by decide +kernel⟩
def sp_law_bag (K : PySem.W.Frag) : Sp := fun vs H Q _ => ∃ (a : Addr) (ns : List Int) (k : Int), vs = [.ref a, .int k] ∧ SqL K H a (ns.map V.int) ∧ 0 ≤ k ∧ k < 100 ∧ ∀ p H', H p = none → Same H H' → Bag H' p → Q (.ref p) H'
theorem bag_pos (c k : Int) (n : Int) : 0 ≤ 1 + (c + k) % 2147483646 ∧ 1 + (c + k) % 2147483646 < 2147483647 := by
  have h1 : 0 ≤ (c + k) % 2147483646 := Int.emod_nonneg _ (by decide)
  have h2 : (c + k) % 2147483646 < 2147483646 := Int.emod_lt_of_pos _ (by decide)
  omega
theorem ok__law_bag {f : Addr} {fd : FuncData} (F : Fun K "_law_bag" "_law_bag" s__law_bag f fd) (gm : mg "_law_bag" = some (.ref f)) (N : Fre K mg)  : C8.Cal P w K mg base 1 "_law_bag" (sp_law_bag K) [] := by
  refine mkCal F gm sc__law_bag (F.binds (ps := ["script", "k"]) fun _ _ _ _ _ _ us hl => match us, hl with | [_, _], _ => rfl) (fun vs H Q E h => ?_) (fun cdv A outer s H vs Q E hr h => ?_)
  · obtain ⟨a, ns, k, rfl, _⟩ := h
    rfl
  · obtain ⟨a, ns, k, rfl, hS, hk, hk2, q⟩ := h
    refine ⟨_, (pss_cons (ps_set (i := 2) sc__law_bag.nd rfl (.inl rfl) pe_int)
 (pss_cons (ps_if (pt_cmpR op_lt (pv 1) (pe_callB call_len_seq (by rfl) N.len (by decide +kernel) (pa_cons (pv 0) pa_nil)) (nomark _))
 (pss_one (ps_set (i := 2) sc__law_bag.nd rfl (.inl rfl) (pe_callB call_abs (by rfl) N.abs (by decide +kernel) (pa_cons (pe_ix ix_list (pv 0) (pv 1) (fun _ _ => rfl)) pa_nil))))
 pss_nil)
 (pss_cons (ps_if (pt_cmpR op_lt (pv 2) (pe_op op_pow pe_int pe_int) (nomark _))
 (pss_one (ps_ret (pe_lst (pa_cons pe_int (pa_cons (pe_op op_add pe_int (pe_op op_mod (pe_op op_add (pe_op op_mul (pv 2) pe_int) (pe_op op_mul pe_int (pv 1))) pe_int)) pa_nil)))))
 pss_nil)
 (pss_one (ps_ret (pe_lst (pa_cons (pv 2) (pa_cons (pe_op op_add pe_int (pe_op op_mod (pe_op op_add (pv 2) (pv 1)) pe_int)) pa_nil)))))))), ?_⟩
    refine ⟨_, rfl, _, rfl, a, _, rfl, .inl hS, k, _, rfl, rfl, _, rfl, ite2 (fun e => ?_) (fun e => ?_)⟩
    · have hlt : k.toNat < ns.length := by
        have e1 := of_decide_eq_true e
        rw [List.length_map] at e1
        omega
      have g1 : (ns.map V.int)[k.toNat]? = some (.int ns[k.toNat]) := by
        rw [List.getElem?_map, List.getElem?_eq_getElem hlt]
        rfl
      generalize ns[k.toNat] = c at g1
      have g2 : atI (ns.map V.int) k = some (.int c) := by
        have e2 : ((k.toNat : Nat) : Int) = k := by omega
        rw [← e2]
        exact atI_nat g1
      refine ⟨_, rfl, _, rfl, a, _, k, _, rfl, rfl, hS, g2, c, rfl, ?_⟩
      have hc : 0 ≤ (if c < 0 then -c else c) := by split <;> omega
      generalize (if c < 0 then -c else c) = d at hc
      refine ⟨_, rfl, 10, 18, rfl, rfl, ⟨by decide, by decide, by decide⟩, d, _, rfl, rfl, _, rfl, ite2 (fun e2 => ?_) (fun e2 => ?_)⟩
      · refine ⟨_, rfl, d, 7919, rfl, rfl, .inr ⟨by decide, by decide⟩, _, rfl, 104729, k, rfl, rfl, .inl ⟨by decide, by decide⟩, _, _, rfl, rfl, _, _, rfl, rfl, (by show (0 : Int) < 2147483646; decide), 1, _, rfl, rfl, two_ok _ _, fun p np => ?_⟩
        exact q p _ np (same_upd np) ⟨0, _, upd_same, by decide, bag_pos _ _ 0⟩
      · refine ⟨_, rfl, _, rfl, _, rfl, d, k, rfl, rfl, _, _, rfl, rfl, (by show (0 : Int) < 2147483646; decide), 1, _, rfl, rfl, two_ok _ _, fun p np => ?_⟩
        exact q p _ np (same_upd np) ⟨d, _, upd_same, hc, bag_pos _ _ 0⟩
    · refine ⟨_, rfl, 10, 18, rfl, rfl, ⟨by decide, by decide, by decide⟩, 0, _, rfl, rfl, _, rfl, ite2 (fun e2 => ?_) (fun e2 => ?_)⟩
      · refine ⟨_, rfl, 0, 7919, rfl, rfl, .inr ⟨by decide, by decide⟩, _, rfl, 104729, k, rfl, rfl, .inl ⟨by decide, by decide⟩, _, _, rfl, rfl, _, _, rfl, rfl, (by show (0 : Int) < 2147483646; decide), 1, _, rfl, rfl, two_ok _ _, fun p np => ?_⟩
        exact q p _ np (same_upd np) ⟨0, _, upd_same, by decide, bag_pos _ _ 0⟩
      · refine ⟨_, rfl, _, rfl, _, rfl, 0, k, rfl, rfl, _, _, rfl, rfl, (by show (0 : Int) < 2147483646; decide), 1, _, rfl, rfl, two_ok _ _, fun p np => ?_⟩
        exact q p _ np (same_upd np) ⟨0, _, upd_same, by decide, bag_pos _ _ 0⟩

/-! ### data: what stands at a value -/
theorem sqT_same {H H' : Hp} {a : Addr} {xs : List V} (e : Same H H') (h : SqT K H a xs) : SqT K H' a xs := by
  rcases h with (h | ⟨o, h⟩) | h
  · exact .inl (.inl (e _ _ h))
  · exact .inl (.inr ⟨o, e _ _ h⟩)
  · exact .inr h
mutual
theorem dp_same {H H' : Hp} (e : Same H H') : ∀ (d : PyData) (v : V), Dp K H v d → Dp K H' v d
  | .none, _, h => by cases h; exact .non
  | .bool b, _, h => by cases h; exact .bl b
  | .int i, _, h => by cases h; exact .int i
  | .str x, _, h => by cases h; exact .str x
  | .list ds, _, h => by
    cases h with
    | lst hs ha => exact .lst (e.seq hs) (dp_sameAll e ds _ ha)
  | .tuple ds, _, h => by
    cases h with
    | tup hs ha => exact .tup (sqT_same e hs) (dp_sameAll e ds _ ha)
  | .dict _, _, h => by cases h
theorem dp_sameAll {H H' : Hp} (e : Same H H') : ∀ (ds : List PyData) (vs : List V), DpAll K H vs ds → DpAll K H' vs ds
  | [], _, h => by cases h; exact .nil
  | d :: ds, _, h => by
    cases h with
    | cons h1 h2 => exact .cons (dp_same e d _ h1) (dp_sameAll e ds _ h2)
end
theorem dpAll_len {H : Hp} : ∀ {vs : List V} {ds : List PyData}, DpAll K H vs ds → vs.length = ds.length
  | [], _, h => by cases h; rfl
  | _ :: vs, _, h => by
    cases h with
    | cons _ h2 => rw [List.length_cons, List.length_cons, dpAll_len h2]
theorem dpAll_get {H : Hp} : ∀ {vs : List V} {ds : List PyData} {i : Nat} {v : V}, DpAll K H vs ds → vs[i]? = some v → ∃ d, ds[i]? = some d ∧ Dp K H v d
  | _, _, 0, _, .cons h1 _, e => by
    cases e
    exact ⟨_, rfl, h1⟩
  | _, _, i + 1, _, .cons _ h2, e => dpAll_get (i := i) h2 (by simpa using e)
  | _, _, i, _, .nil, e => by simp at e
theorem dpAll_append {H : Hp} : ∀ {vs us : List V} {ds es : List PyData}, DpAll K H vs ds → DpAll K H us es → DpAll K H (vs ++ us) (ds ++ es)
  | _, _, _, _, .nil, h => h
  | _, _, _, _, .cons h1 h2, h => .cons h1 (dpAll_append h2 h)
def tyD : PyData → String
  | .none => "NoneType"
  | .bool _ => "bool"
  | .int _ => "int"
  | .str _ => "str"
  | .list _ => "list"
  | .tuple _ => "tuple"
  | .dict _ => "dict"
theorem dp_ty {H : Hp} {v : V} {d : PyData} (h : Dp K H v d) : TyX K H v (.type (tyD d)) := by
  cases h with
  | non => exact .base .non
  | bl b => exact .base (.bl b)
  | int i => exact .base (.int i)
  | str x => exact .base (.str x)
  | lst hs _ =>
    rcases hs with (h | ⟨o, h⟩) | ⟨o, _, _, h, c, _⟩
    · exact .base (.lst h)
    · exact .base (.frz h)
    · exact .kList h c
  | tup hs _ =>
    rcases hs with (h | ⟨o, h⟩) | ⟨o, _, _, h, c, _⟩
    · exact .base (.tup h)
    · exact .fTuple h
    · exact .kTuple h c
def isTy (t T : String) : Bool := t == T || (T == "int" && t == "bool")
def isT (d : PyData) (T : String) : Bool := isTy (tyD d) T
theorem kit_all : ∀ t ∈ ["NoneType", "bool", "int", "str", "list", "tuple", "dict"], ∀ T ∈ ["int", "bool", "str", "tuple", "list"], kitB t T = some (isTy t T) := by decide +kernel
theorem tyD_mem (d : PyData) : tyD d ∈ ["NoneType", "bool", "int", "str", "list", "tuple", "dict"] := by cases d <;> simp [tyD]
theorem kit_d (d : PyData) {T : String} (hT : T = "int" ∨ T = "bool" ∨ T = "str" ∨ T = "tuple" ∨ T = "list") : PySem.W.kitOne K (.type (tyD d)) (.type T) = some (isT d T) :=
  kit_ty (kit_all _ (tyD_mem d) _ (by simpa using hT))

end
/-! ### rules of our own: a list against an empty one -/
section
variable {X : Cx}
theorem op_eqNil (hu : X.A.units < cLine) : OpR X (compareOp .Eq) (fun x y H Q => ∃ a b xs, x = .ref a ∧ y = .ref b ∧ SqL X.K H a xs ∧ SqL X.K H b [] ∧ Q (.bl xs.isEmpty) H) := by
  intro pins s σ H x y v u Q I rx ry h
  obtain ⟨a, b, xs, rfl, rfl, ha, hb, q⟩ := h
  obtain rfl : v = Value.ref a := rx
  obtain rfl : u = Value.ref b := ry
  obtain ⟨its, rv, p, _⟩ := I.list ha
  obtain ⟨its2, rv2, p2, _⟩ := I.list hb
  cases rv2
  cases xs with
  | nil =>
    cases rv
    exact PySem.EqBoolInt.of_rc (SeqAt.RcAt.lists (e := fun _ => true) p.isList p2.isList rfl hu (fun j h1 => absurd h1 (Nat.not_lt_zero j))) ⟨.bl true, H, I, rfl, q⟩
  | cons z zs =>
    cases rv
    exact PySem.EqBoolInt.of_rc (SeqAt.RcAt.lists_lengths p.isList p2.isList (by simp) hu) ⟨.bl false, H, I, rfl, q⟩
theorem op_neNil (hu : X.A.units < cLine) : OpR X (compareOp .NotEq) (fun x y H Q => ∃ a b xs, x = .ref a ∧ y = .ref b ∧ SqL X.K H a xs ∧ SqL X.K H b [] ∧ Q (.bl (!xs.isEmpty)) H) := by
  intro pins s σ H x y v u Q I rx ry h
  obtain ⟨a, b, xs, rfl, rfl, ha, hb, q⟩ := h
  obtain rfl : v = Value.ref a := rx
  obtain rfl : u = Value.ref b := ry
  obtain ⟨its, rv, p, _⟩ := I.list ha
  obtain ⟨its2, rv2, p2, _⟩ := I.list hb
  cases rv2
  cases xs with
  | nil =>
    cases rv
    exact PySem.EqBoolInt.of_rcne (SeqAt.RcNeAt.lists (e := fun _ => true) p.isList p2.isList rfl hu (fun j h1 => absurd h1 (Nat.not_lt_zero j))) ⟨.bl false, H, I, rfl, q⟩
  | cons z zs =>
    cases rv
    exact PySem.EqBoolInt.of_rcne (SeqAt.RcNeAt.lists_lengths p.isList p2.isList (by simp) hu) ⟨.bl true, H, I, rfl, q⟩
end
theorem hu0 {A : Around} {k : Nat} (hr : Room k A) : A.units < cLine := by have := hr.un; omega
section
variable {P : Program} {w : World} {K : PySem.W.Frag} {mg : Str → Option Value} {base : Heap}

end
/-! ### rules of our own: name = {k: v for ..}, d.setdefault(tuple, x) -/
section
variable {X : Cx}
theorem sw_trueD {kx vx : Expr} {gs : List Comprehension} {scope : Scope} {pos py : Pos} {y : Str} {l : Nat} {env : Env} (hk : env.scope.kind = .function) (hy : env.scope.names.lookup y = some .local) (hl : (py.line == pos.line) = true)
    (hno : (scope.names.any fun (n, k) => n == y && (k == .local || k == .cell)) = false) : swapsWith (.DictComp kx vx gs scope pos) (some (.Name y py)) l env = pure true := by
  have k1 : env.kindOf y = some .local := hy
  have b1 : env.blockKind = .function := by
    unfold Env.blockKind
    rw [hk]
    rfl
  unfold swapsWith
  simp only [b1, k1, hno, Expr.pos, hl]
  rfl
theorem ps_setDc {i : Nat} {y : Str} {py : Pos} {kx vx tg iter : Expr} {ifs : List Expr} {scope : Scope} {own : List (Str × Nat)} {pos spos : Pos} {wi : TI} {g : TG} {tt : TT} {tk tv : TE} (hc : X.calm = true) (hN : X.N.Nodup) (hy : X.N[i]? = some y) (hyl : X.env.scope.names.lookup y = some .local)
    (hsw : swapsWith (.DictComp kx vx [⟨tg, iter, ifs, 0⟩] scope pos) (some (.Name y py)) spos.line X.env = pure true) (hi : PI X tg iter wi) (ok : BlkOk X.N X.env.scope scope own)
    (hg : ∀ (s1 : Shared) (H1 : Hp) (C1 : Addr) (cl1 : List (Str × Addr)) (fp1 : List Addr), PG (X.blk s1 H1 scope (compEnvC scope cl1 C1 X.env) fp1) tg g) (ht : ∀ (s1 : Shared) (H1 : Hp) (C1 : Addr) (cl1 : List (Str × Addr)) (fp1 : List Addr), PTs (X.blk s1 H1 scope (compEnvC scope cl1 C1 X.env) fp1) ifs tt)
    (hk : ∀ (s1 : Shared) (H1 : Hp) (C1 : Addr) (cl1 : List (Str × Addr)) (fp1 : List Addr), PE (X.blk s1 H1 scope (compEnvC scope cl1 C1 X.env) fp1) kx tk)
    (hv : ∀ (s1 : Shared) (H1 : Hp) (C1 : Addr) (cl1 : List (Str × Addr)) (fp1 : List Addr), PE (X.blk s1 H1 scope (compEnvC scope cl1 C1 X.env) fp1) vx tv) (hs : ∀ x, foldedSetIterable iter X.env x = pure x := by intro _; rfl) :
    PS X (.Assign [.Name y py] (.DictComp kx vx [⟨tg, iter, ifs, 0⟩] scope pos) spos) (tAsg (tDc wi g tt tk tv (own.map (·.2))) (gName i)) := by
  refine ⟨fun pins s σ H D I hq => ?_⟩
  rw [exec_Assign_Name_used _ _ _ _ hsw]
  refine wpAny_bind (wpAny_standAt (wpAny_bind ?_))
  show wpAny _ X.A (do let _ ← comprehension (.DictComp kx vx [⟨tg, iter, ifs, 0⟩] scope pos) scope X.env (firstIterPos [⟨tg, iter, ifs, 0⟩] pos) newDict false (eval iter X.env) (some (assign (.Name y py) X.env))) _ _ s
  have h1 : tDc wi g tt tk tv (own.map (·.2)) σ H (fun x H1 => gName i x σ H1 D.nx) := hq
  refine wpAny_bind (thn (dc_core (Qf := fun _ s' => SP X pins D .next s') hc hN I hi ok hg ht hk hv hs h1 fun L C s' m H' I' q hn f => ?_) fun _ s' z => wpAny_pure (wpAny_pure z))
  show wpAny _ _ (assign (.Name y py) X.env (.ref L)) _ _ _
  refine wpAny_assign_Name (store_ok2 (v := V.ref L) I' hN hy (.inl hyl) rfl (fun s2 I2 ⟨b, sb, hb⟩ => ?_) (.inr hyl))
  obtain ⟨e0, e1, e2, e3, e4, e5⟩ := f
  have nb : C ≠ b := by
    rcases hb with z | z
    · rw [z]
      exact e1
    · exact fun e => e4 y b z e.symm
  exact ⟨m, hn.sameBut sb nb, fun h3 sb3 => ⟨_, H', I2.turned (t' := s2.toks) (fun c o hc e => (sb3.2 c hc).trans e) e0 e1 e3 e4 e5, q⟩⟩
end
section
variable {X : Cx} {o e f : Expr} {td ty tx : TE} {apos cpos : Pos}
def tSetdT (td ty tx : TE) : TE := fun σ H Q => td σ H fun x H1 => ∃ a, x = .ref a ∧ IsD H1 a ∧ ty σ H1 fun y H2 => tx σ H2 fun z H3 => ∃ (kvs : List (List Key × V)) (k : List Key) (b : Addr), H3 a = some (.dT kvs) ∧ y = .ref b ∧ H3 b = some (.tup (k.map kV)) ∧ kvs.length < sizeLine ∧
  (∀ v, valV kvs k = some v → Q v H3) ∧ (valV kvs k = none → Q z (upd H3 a (.dT (putK kvs k z))))
theorem pe_setdT (hu : X.A.units + 1 < cLine) (ho : PE X o td) (he : PE X e ty) (hf : PE X f tx) (m : M2 X o "setdefault" apos e f cpos) : PE X (.Call (.Attribute o "setdefault" apos) [e, f] [] cpos) (tSetdT td ty tx) := by
  refine ⟨fun pins s σ H Q I hq => ?_⟩
  refine wpAny_Call_method m.base m.few m.line PySem.F.plainAttrs_dict PySem.F.slot_dict_setdefault PySem.F.type_dict_setdefault (thn (ho.run pins s σ H _ I hq) fun u s1 ⟨x, H1, I1, rx, a, ex, d, q1⟩ => ?_)
  subst ex
  obtain rfl : u = Value.ref a := rx
  obtain ⟨t1, t2, _⟩ := isD_at I1 d
  refine ⟨t1, t2, ?_⟩
  rw [m.trees]
  refine Calls.callWith_builtin rfl (Calls.evalArgs_plain (Calls.spliced_cons (thn (he.run pins s1 σ H1 _ I1 q1) fun iv s2 ⟨y, H2, I2, ry, q2⟩ =>
    Calls.spliced_cons (thn (hf.run pins s2 σ H2 _ I2 q2) fun fv s3 ⟨z, H3, I3, rz, kvs, k, b, ea, ey, eb, hl, q3, q4⟩ => Calls.spliced_nil ?_))))
  subst ey
  cases (show iv = Value.ref b from ry)
  obtain ⟨z1, hd, xs, rel, dd⟩ := dt_of I3.hok ea
  have hz : xs.length ≤ sizeLine := by rw [← Paired.length rel]; exact z1
  have hl2 : (putK kvs k z).length ≤ sizeLine := by have := length_putK kvs k z; omega
  refine call_setdefault_heap (hsz := hz) (tupleKind_room_in1 hu) (key_of I3.hok eb) hd dd (fun p hp => ?_) fun hn h' dd' hs => ?_
  · obtain ⟨v0, hv0, rv0⟩ : ∃ v0, valV kvs k = some v0 ∧ RelV v0 p.2 := by
      have g := rel.val k
      rw [hp] at g
      cases g0 : valV kvs k with
      | none =>
        rw [g0] at g
        exact (show False from g).elim
      | some v0 =>
        rw [g0] at g
        exact ⟨v0, rfl, g⟩
    exact ⟨v0, H3, I3.tok _, rv0, q3 v0 hv0⟩
  · have hn0 : valV kvs k = none := by
      have g := rel.val k
      rw [hn] at g
      cases g0 : valV kvs k with
      | none => rfl
      | some v0 =>
        rw [g0] at g
        exact (show False from g).elim
    obtain ⟨q, es, ep, hq, h2, h3, h4, _, h5⟩ := dd'
    refine ⟨z, _, d_write (ob := .dT (putK kvs k z)) I3 (by rw [ea]; exact True.intro) hs ⟨q, hq⟩ ⟨hl2, hd, _, (rel.put k eb rz).keeps fun c ys ec => ?_, q, es, ep, hq, h2, h3, h4, h5⟩, rz, q4 hn0⟩
    rw [upd_ne (ne_of ec ea (fun z => nomatch z))]
    exact ec
end
section
variable {P : Program} {w : World} {K : PySem.W.Frag} {mg : Str → Option Value} {base : Heap}

/-! ### data that nothing changes -/
mutual
def imm : PyData → Bool
  | .list _ => false
  | .dict _ => false
  | .tuple ds => immAll ds
  | .none => true
  | .bool _ => true
  | .int _ => true
  | .str _ => true
def immAll : List PyData → Bool
  | [] => true
  | d :: ds => imm d && immAll ds
end
/-- tuples, and what is locked -/
def Fix : HO → Prop
  | .tup _ => True
  | .frz _ _ => True
  | _ => False
def Kt (H H' : Hp) : Prop := ∀ a o, H a = some o → Fix o → H' a = some o
theorem Kt.refl (H : Hp) : Kt H H := fun _ _ e _ => e
theorem Kt.trans {H H1 H2 : Hp} (h : Kt H H1) (g : Kt H1 H2) : Kt H H2 := fun a o e f => g a o (h a o e f) f
theorem Kt.same {H H' : Hp} (h : Same H H') : Kt H H' := fun a o e _ => h a o e
theorem Kt.but {H H' : Hp} {b : Addr} {o : HO} (h : But b H H') (hb : H b = some o) (n : ¬ Fix o) : Kt H H' := fun a o' e f => h a o' (fun z => n (by rw [z, hb] at e; cases e; exact f)) e
theorem Kt.upd {H : Hp} {b : Addr} {o o' : HO} (hb : H b = some o) (n : ¬ Fix o) : Kt H (upd H b o') := fun a o2 e f => by
  rw [upd_ne (fun z => n (by rw [z, hb] at e; cases e; exact f))]
  exact e
theorem Kt.bag {H H' : Hp} {b : Addr} (h : But b H H') (g : Bag H b) : Kt H H' := by
  obtain ⟨x, y, e, _⟩ := g
  exact Kt.but h e (fun z => z)
theorem sqT_kt {H H' : Hp} {a : Addr} {xs : List V} (e : Kt H H') (h : SqT K H a xs) : SqT K H' a xs := by
  rcases h with (h | ⟨o, h⟩) | h
  · exact .inl (.inl (e _ _ h trivial))
  · exact .inl (.inr ⟨o, e _ _ h trivial⟩)
  · exact .inr h
mutual
theorem dp_kt {H H' : Hp} (e : Kt H H') : ∀ (d : PyData) (v : V), imm d = true → Dp K H v d → Dp K H' v d
  | .none, _, _, h => by cases h; exact .non
  | .bool b, _, _, h => by cases h; exact .bl b
  | .int i, _, _, h => by cases h; exact .int i
  | .str x, _, _, h => by cases h; exact .str x
  | .list ds, _, i, h => by simp [imm] at i
  | .tuple ds, _, i, h => by
    cases h with
    | tup hs ha => exact .tup (sqT_kt e hs) (dp_ktAll e ds _ (by simpa [imm] using i) ha)
  | .dict _, _, _, h => by cases h
theorem dp_ktAll {H H' : Hp} (e : Kt H H') : ∀ (ds : List PyData) (vs : List V), immAll ds = true → DpAll K H vs ds → DpAll K H' vs ds
  | [], _, _, h => by cases h; exact .nil
  | d :: ds, _, i, h => by
    cases h with
    | cons h1 h2 =>
      have i2 : imm d = true ∧ immAll ds = true := by simpa [immAll] using i
      exact .cons (dp_kt e d _ i2.1 h1) (dp_ktAll e ds _ i2.2 h2)
end
theorem immAll_iff : ∀ {ds : List PyData}, immAll ds = true ↔ ∀ d ∈ ds, imm d = true
  | [] => by simp [immAll]
  | d :: ds => by simp [immAll, immAll_iff (ds := ds)]
theorem dpAll_getD {H : Hp} {vs : List V} {ds : List PyData} {i : Nat} {d : PyData} (h : DpAll K H vs ds) (e : ds[i]? = some d) : ∃ v, vs[i]? = some v ∧ Dp K H v d := by
  have hl := dpAll_len h
  have hi : i < vs.length := by
    rw [hl]
    exact (List.getElem?_eq_some_iff.mp e).1
  obtain ⟨d', e', p⟩ := dpAll_get h (List.getElem?_eq_getElem hi)
  rw [e] at e'
  cases e'
  exact ⟨_, List.getElem?_eq_getElem hi, p⟩
theorem dp_list {H : Hp} {v : V} {ds : List PyData} (h : Dp K H v (.list ds)) : ∃ a vs, v = .ref a ∧ SqL K H a vs ∧ DpAll K H vs ds := by
  cases h with
  | lst hs ha => exact ⟨_, _, rfl, hs, ha⟩
theorem dp_tuple {H : Hp} {v : V} {ds : List PyData} (h : Dp K H v (.tuple ds)) : ∃ a vs, v = .ref a ∧ SqT K H a vs ∧ DpAll K H vs ds := by
  cases h with
  | tup hs ha => exact ⟨_, _, rfl, hs, ha⟩
theorem take_fm {α β : Type} (f : α → Option β) (ds : List α) (i : Nat) (d : α) (h : ds[i]? = some d) : (ds.take (i + 1)).filterMap f = (ds.take i).filterMap f ++ (f d).toList := by
  rw [List.take_add_one, h, List.filterMap_append]
  cases e : f d <;> simp [e]
theorem fm_take_le {α β : Type} (f : α → Option β) (ds : List α) (i : Nat) : ((ds.take i).filterMap f).length ≤ i :=
  Nat.le_trans (List.length_filterMap_le _ _) (by rw [List.length_take]; exact Nat.min_le_left _ _)
/-- a list made of a list of data, by a function of it -/
theorem lc_ty {α β : Type} {a D : Addr} {vs : List V} {xs : List α} {H1 : Hp} {σ : L2.St} {g : TG} {tt : TT} {te : TE} {ws : List Nat} {Qd : Hp → Prop} (ea : α → PyData) (eb : β → PyData) (f : α → Option β)
    (hS : SqL K H1 a vs) (hA : DpAll K H1 vs (xs.map ea)) (hn : H1 D = none) (hlen : xs.length ≤ 1000000) (him : ∀ y, imm (eb y) = true)
    (step : ∀ (i : Nat) (v : V) (x : α) (H : Hp) (k : V → Hp → Prop) (kf : Hp → Prop), xs[i]? = some x → Same H1 H → Dp K H v (ea x) → (∀ y, f x = some y → ∀ v' H4, Same H H4 → Dp K H4 v' (eb y) → k v' H4) → (f x = none → ∀ H3, Same H H3 → kf H3) →
      g v (wipe σ ws) H fun σ2 H2 => wipe σ2 ws = wipe σ ws ∧ tt σ2 H2 fun b H3 => if b = true then te σ2 H3 k else kf H3)
    (hd : ∀ H ys, Same H1 H → H D = some (.lst ys) → DpAll K H ys ((xs.filterMap f).map eb) → Qd H) :
    ∃ W : Nat → Nat → Hp → Prop, (∃ m, W 0 m (upd H1 D (.lst []))) ∧ ∀ i m H, W i m H →
      ((Itl K a).stop i H ∧ Qd H) ∨ ((Itl K a).go i H ∧ ∃ Nx : Hp → Prop, (∀ H', Nx H' → ∃ m', m' < m ∧ W (i + 1) m' H') ∧ ∀ x H', (Itl K a).yld i H x H' → g x (wipe σ ws) H' fun σ2 H2 => wipe σ2 ws = wipe σ ws ∧ tt σ2 H2 fun b H3 =>
        if b = true then te σ2 H3 fun y H4 => ∃ acc, H4 D = some (.lst acc) ∧ acc.length < sizeLine ∧ Nx (upd H4 D (.lst (acc ++ [y]))) else Nx H3) := by
  have hl := dpAll_len hA
  rw [List.length_map] at hl
  have imA : ∀ zs : List β, immAll (zs.map eb) = true := fun zs => immAll_iff.mpr fun e he => by
    obtain ⟨y, _, rfl⟩ := List.mem_map.mp he
    exact him y
  refine lc_it (walk_list (K := K) (a := a) (xs := vs)) (fun i H => Same H1 H ∧ ∃ acc, H D = some (.lst acc) ∧ DpAll K H acc (((xs.take i).filterMap f).map eb)) ⟨same_upd hn, [], upd_same, .nil⟩ (fun i H _ z => z.1.seq hS) ?_ ?_
  · rintro i v H H' hi ⟨s1, acc, hD, hacc⟩ ⟨rfl, hv⟩
    obtain ⟨d, ed, pd⟩ := dpAll_get hA hv
    rw [List.getElem?_map] at ed
    obtain ⟨x, ex, rfl⟩ := Option.map_eq_some_iff.mp ed
    refine step i v x H' _ _ ex s1 (dp_same s1 _ _ pd) ?_ ?_
    · intro e fe y H4 s4 py
      have hD4 := s4 _ _ hD
      have kt : Kt H' (upd H4 D (.lst (acc ++ [y]))) := (Kt.same s4).trans (Kt.upd hD4 (fun z => z))
      refine ⟨acc, hD4, ?_, ?_, acc ++ [y], upd_same, ?_⟩
      · have := dpAll_len hacc
        rw [List.length_map] at this
        have h2 := fm_take_le f xs i
        rw [sizeLine_eq]
        omega
      · intro c o ec
        rw [upd_ne (ne_of_none ec hn)]
        exact s4 _ _ (s1 _ _ ec)
      · rw [take_fm f xs i x ex, fe, List.map_append]
        exact dpAll_append (dp_ktAll kt _ _ (imA _) hacc) (.cons (dp_kt (Kt.upd hD4 (fun z => z)) _ _ (him e) py) .nil)
    · intro fe H3 s3
      refine ⟨s1.trans s3, acc, s3 _ _ hD, ?_⟩
      rw [take_fm f xs i x ex, fe]
      have := dp_sameAll s3 _ _ hacc
      simpa using this
  · rintro H ⟨s1, acc, hD, hacc⟩
    refine hd H acc s1 hD ?_
    rw [hl, List.take_of_length_le (Nat.le_refl _)] at hacc
    exact hacc
/-- the same, with no test -/
theorem lc_map {α β : Type} {a D : Addr} {vs : List V} {xs : List α} {H1 : Hp} {σ : L2.St} {g : TG} {te : TE} {ws : List Nat} {Qd : Hp → Prop} (ea : α → PyData) (eb : β → PyData) (f : α → β)
    (hS : SqL K H1 a vs) (hA : DpAll K H1 vs (xs.map ea)) (hn : H1 D = none) (hlen : xs.length ≤ 1000000) (him : ∀ y, imm (eb y) = true)
    (step : ∀ (i : Nat) (v : V) (x : α) (H : Hp) (k : V → Hp → Prop), xs[i]? = some x → Same H1 H → Dp K H v (ea x) → (∀ v' H4, Same H H4 → Dp K H4 v' (eb (f x)) → k v' H4) →
      g v (wipe σ ws) H fun σ2 H2 => wipe σ2 ws = wipe σ ws ∧ te σ2 H2 k)
    (hd : ∀ H ys, Same H1 H → H D = some (.lst ys) → DpAll K H ys ((xs.map f).map eb) → Qd H) :
    ∃ W : Nat → Nat → Hp → Prop, (∃ m, W 0 m (upd H1 D (.lst []))) ∧ ∀ i m H, W i m H →
      ((Itl K a).stop i H ∧ Qd H) ∨ ((Itl K a).go i H ∧ ∃ Nx : Hp → Prop, (∀ H', Nx H' → ∃ m', m' < m ∧ W (i + 1) m' H') ∧ ∀ x H', (Itl K a).yld i H x H' → g x (wipe σ ws) H' fun σ2 H2 => wipe σ2 ws = wipe σ ws ∧ tYes σ2 H2 fun b H3 =>
        if b = true then te σ2 H3 fun y H4 => ∃ acc, H4 D = some (.lst acc) ∧ acc.length < sizeLine ∧ Nx (upd H4 D (.lst (acc ++ [y]))) else Nx H3) := by
  refine lc_ty (tt := tYes) ea eb (fun x => some (f x)) hS hA hn hlen him (fun i v x H k kf ex s1 px hk _ => ?_) (fun H ys s1 hD hy => hd H ys s1 hD ?_)
  · have := step i v x H k ex s1 px (fun v' H4 s4 p4 => hk _ rfl v' H4 s4 p4)
    simpa only [tYes, if_true] using this
  · rw [List.filterMap_eq_map'] at hy
    exact hy
/-- a dict made by a walk -/
theorem dc_it {J : It} {n : Nat} {G : Hp → Prop} {Y : Nat → Hp → V → Hp → Prop} (w : Walk J n G Y) {g : TG} {tt : TT} {tk tv : TE} {vs : List Nat} {σ : L2.St} {H1 : Hp} {D : Addr} {Qd : Hp → Prop} (Pv : Nat → Hp → Prop) (h0 : Pv 0 (upd H1 D (.dK []))) (hG : ∀ i H, i ≤ n → Pv i H → G H)
    (hs : ∀ i x H H', i < n → Pv i H → Y i H x H' → g x (wipe σ vs) H' fun σ2 H2 => wipe σ2 vs = wipe σ vs ∧ tt σ2 H2 fun b H3 =>
      if b = true then tk σ2 H3 fun y H4 => tv σ2 H4 fun z H5 => ∃ kvs k, y = kV k ∧ H5 D = some (.dK kvs) ∧ kvs.length < sizeLine ∧ Pv (i + 1) (upd H5 D (.dK (putK kvs k z))) else Pv (i + 1) H3) (hd : ∀ H, Pv n H → Qd H) :
    ∃ W : Nat → Nat → Hp → Prop, (∃ m, W 0 m (upd H1 D (.dK []))) ∧ ∀ i m H, W i m H →
      (J.stop i H ∧ Qd H) ∨ (J.go i H ∧ ∃ Nx : Hp → Prop, (∀ H', Nx H' → ∃ m', m' < m ∧ W (i + 1) m' H') ∧ ∀ x H', J.yld i H x H' → g x (wipe σ vs) H' fun σ2 H2 => wipe σ2 vs = wipe σ vs ∧ tt σ2 H2 fun b H3 =>
        if b = true then tk σ2 H3 fun y H4 => tv σ2 H4 fun z H5 => ∃ kvs k, y = kV k ∧ H5 D = some (.dK kvs) ∧ kvs.length < sizeLine ∧ Nx (upd H5 D (.dK (putK kvs k z))) else Nx H3) := by
  refine ⟨fun i m H => m = n - i ∧ i ≤ n ∧ Pv i H, ⟨n, by simp, Nat.zero_le _, h0⟩, ?_⟩
  rintro i m H ⟨rfl, hi, p⟩
  have gh := hG i H hi p
  by_cases lt : i < n
  · exact .inr ⟨w.goes i H lt gh, Pv (i + 1), fun H' p' => ⟨n - (i + 1), by omega, rfl, lt, p'⟩, fun x H' y => hs i x H H' lt p (w.yields i H x H' lt gh y)⟩
  · obtain rfl : i = n := by omega
    exact .inl ⟨w.stops H gh, hd H p⟩

/-! ### lists of data -/
theorem dpA_set {H : Hp} {v : V} {d : PyData} (hd : Dp K H v d) : ∀ {vs : List V} {ds : List PyData} (n : Nat), DpAll K H vs ds → DpAll K H (vs.set n v) (ds.set n d)
  | _, _, 0, .nil => .nil
  | _, _, n + 1, .nil => .nil
  | _, _, 0, .cons h1 h2 => .cons hd h2
  | _, _, n + 1, .cons h1 h2 => .cons h1 (dpA_set hd n h2)
theorem dpA_take {H : Hp} : ∀ {vs : List V} {ds : List PyData} (n : Nat), DpAll K H vs ds → DpAll K H (vs.take n) (ds.take n)
  | _, _, 0, _ => by rw [List.take_zero, List.take_zero]; exact .nil
  | _, _, n + 1, .nil => by rw [List.take_nil, List.take_nil]; exact .nil
  | _, _, n + 1, .cons h1 h2 => .cons h1 (dpA_take n h2)
theorem dpA_drop {H : Hp} : ∀ {vs : List V} {ds : List PyData} (n : Nat), DpAll K H vs ds → DpAll K H (vs.drop n) (ds.drop n)
  | _, _, 0, h => by rw [List.drop_zero, List.drop_zero]; exact h
  | _, _, n + 1, .nil => by rw [List.drop_nil, List.drop_nil]; exact .nil
  | _, _, n + 1, .cons h1 h2 => dpA_drop n h2
theorem dpA_ins {H : Hp} {v : V} {d : PyData} {vs : List V} {ds : List PyData} (n : Nat) (hd : Dp K H v d) (h : DpAll K H vs ds) : DpAll K H (vs.take n ++ [v] ++ vs.drop n) (ds.take n ++ [d] ++ ds.drop n) :=
  dpAll_append (dpAll_append (dpA_take n h) (.cons hd .nil)) (dpA_drop n h)
theorem cutL_take (xs : List V) {i : Int} (h0 : 0 ≤ i) : cutV xs none (some i) = xs.take i.toNat := by
  obtain ⟨k, rfl⟩ : ∃ k : Nat, i = (k : Int) := ⟨i.toNat, by omega⟩
  unfold cutV
  rw [HT.sIx_none, HT.sIx_nat]
  have e3 : ((k : Nat) : Int).toNat = k := by omega
  rw [e3, Nat.sub_zero]
  show (xs.drop 0).take (min k xs.length) = xs.take k
  rw [List.drop_zero]
  by_cases h : k ≤ xs.length
  · rw [Nat.min_eq_left h]
  · rw [Nat.min_eq_right (by omega), List.take_of_length_le (Nat.le_refl _), List.take_of_length_le (by omega)]
theorem pickAt {α : Type} {xs : List α} {i : Int} (h0 : 0 ≤ i) (h1 : i < xs.length) : ∃ j : Nat, j < xs.length ∧ i = (j : Int) ∧ ∃ x, xs[j]? = some x ∧ atI xs i = some x := by
  obtain ⟨k, rfl⟩ : ∃ k : Nat, i = (k : Int) := ⟨i.toNat, by omega⟩
  have hk : k < xs.length := by omega
  exact ⟨k, hk, rfl, xs[k], List.getElem?_eq_getElem hk, atI_nat (List.getElem?_eq_getElem hk)⟩
theorem pickStr (ws : List Str) {i : Int} (h0 : 0 ≤ i) (h1 : i < ws.length) : ∃ m, m ∈ ws ∧ atI (ws.map V.str) i = some (.str m) := by
  obtain ⟨j, hj, rfl, x, hx, e⟩ := pickAt (xs := ws.map V.str) h0 (by rw [List.length_map]; exact h1)
  rw [List.getElem?_map] at hx
  obtain ⟨m, hm, rfl⟩ := Option.map_eq_some_iff.mp hx
  exact ⟨m, List.mem_of_getElem? hm, e⟩
theorem pickInt (ws : List Int) {i : Int} (h0 : 0 ≤ i) (h1 : i < ws.length) : ∃ m, m ∈ ws ∧ atI (ws.map V.int) i = some (.int m) := by
  obtain ⟨j, hj, rfl, x, hx, e⟩ := pickAt (xs := ws.map V.int) h0 (by rw [List.length_map]; exact h1)
  rw [List.getElem?_map] at hx
  obtain ⟨m, hm, rfl⟩ := Option.map_eq_some_iff.mp hx
  exact ⟨m, List.mem_of_getElem? hm, e⟩
theorem dp_ints {H : Hp} : ∀ {ns : List Int} {vs : List V}, DpAll K H vs (ns.map PyData.int) → vs = ns.map V.int
  | [], _, h => by cases h; rfl
  | n :: ns, _, h => by
    cases h with
    | cons h1 h2 =>
      cases h1
      rw [dp_ints h2]
      rfl
theorem ints_dp {H : Hp} : ∀ (ns : List Int), DpAll K H (ns.map V.int) (ns.map PyData.int)
  | [] => .nil
  | n :: ns => .cons (.int n) (ints_dp ns)
theorem inV_int (i : Int) (ns : List Int) : inV (.int i) (ns.map V.int) = decide (i ∈ ns) := by
  unfold inV
  rw [List.any_map]
  by_cases h : i ∈ ns
  · rw [decide_eq_true h, List.any_eq_true]
    exact ⟨i, h, by simp [eqV]⟩
  · rw [decide_eq_false h, List.any_eq_false]
    intro x hx
    simp only [Function.comp, eqV, beq_iff_eq]
    exact fun z => h (z ▸ hx)
theorem flat_ints (ns : List Int) : (ns.map V.int).all flatV = true := by
  rw [List.all_map, List.all_eq_true]
  intro x _
  rfl
theorem last_at {α : Type} (xs : List α) (x : α) : atI (xs ++ [x]) (-1) = some x := by
  unfold atI ixN
  rw [List.length_append, if_neg (by decide), if_pos (by simp; omega)]
  show (xs ++ [x])[(-1 + ((xs.length + 1 : Nat) : Int)).toNat]? = some x
  rw [show (-1 + ((xs.length + 1 : Nat) : Int)).toNat = xs.length by omega]
  simp
def pairD (p : Int × Int) : PyData := .tuple [.int p.1, .int p.2]
theorem pairD_imm (p : Int × Int) : imm (pairD p) = true := rfl
theorem dp_pair {H : Hp} {v : V} {p : Int × Int} (h : Dp K H v (pairD p)) : ∃ a, v = .ref a ∧ SqT K H a [.int p.1, .int p.2] := by
  cases h with
  | tup hs ha =>
    cases ha with
    | cons h1 ha =>
      cases h1
      cases ha with
      | cons h1 ha =>
        cases h1
        cases ha
        exact ⟨_, rfl, hs⟩
theorem pairs_imm (ps : List (Int × Int)) : immAll (ps.map pairD) = true := immAll_iff.mpr fun e he => by
  obtain ⟨y, _, rfl⟩ := List.mem_map.mp he
  exact pairD_imm y
theorem dget_of {H : Hp} {a : Addr} {kvs : List (Key × V)} {k : Key} {v : V} (h : H a = some (.dK kvs)) (e : valV kvs k = some v) : DGet H a (kV k) (some v) := e ▸ DGet.k h
/-- a list made by two walks, one in the other: the outer one -/
theorem lc2_it {J : It} {n : Nat} {G : Hp → Prop} {Y : Nat → Hp → V → Hp → Prop} (w : Walk J n G Y) {g g1 : TG} {tt tt1 : TT} {te : TE} {wi1 : TI} {vs vs1 : List Nat} {σ : L2.St} {H1 : Hp} {D : Addr} {Qd : Hp → Prop} (Pv : Nat → Hp → Prop) (h0 : Pv 0 (upd H1 D (.lst []))) (hG : ∀ i H, i ≤ n → Pv i H → G H)
    (hs : ∀ i x H H', i < n → Pv i H → Y i H x H' → g x (wipe σ vs) H' fun σ2 H2 => wipe σ2 vs = wipe σ vs ∧ tt σ2 H2 fun b H3 => if b = true then wi1 σ2 H3 fun J1 H4 => ∃ W1 : Nat → Nat → Hp → Prop, (∃ m, W1 0 m H4) ∧ ∀ j k H, W1 j k H →
      (J1.stop j H ∧ Pv (i + 1) H) ∨ (J1.go j H ∧ ∃ Nx1 : Hp → Prop, (∀ H', Nx1 H' → ∃ k', k' < k ∧ W1 (j + 1) k' H') ∧ ∀ x H', J1.yld j H x H' → g1 x (wipe σ2 vs1) H' fun σ3 H5 => wipe σ3 vs1 = wipe σ2 vs1 ∧ tt1 σ3 H5 fun b H6 =>
        if b = true then te σ3 H6 fun y H7 => ∃ acc, H7 D = some (.lst acc) ∧ acc.length < sizeLine ∧ Nx1 (upd H7 D (.lst (acc ++ [y]))) else Nx1 H6) else Pv (i + 1) H3) (hd : ∀ H, Pv n H → Qd H) :
    ∃ W : Nat → Nat → Hp → Prop, (∃ m, W 0 m (upd H1 D (.lst []))) ∧ ∀ i m H, W i m H →
      (J.stop i H ∧ Qd H) ∨ (J.go i H ∧ ∃ Nx : Hp → Prop, (∀ H', Nx H' → ∃ m', m' < m ∧ W (i + 1) m' H') ∧ ∀ x H', J.yld i H x H' → g x (wipe σ vs) H' fun σ2 H2 => wipe σ2 vs = wipe σ vs ∧ tt σ2 H2 fun b H3 => if b = true then wi1 σ2 H3 fun J1 H4 => ∃ W1 : Nat → Nat → Hp → Prop, (∃ m, W1 0 m H4) ∧ ∀ j k H, W1 j k H →
      (J1.stop j H ∧ Nx H) ∨ (J1.go j H ∧ ∃ Nx1 : Hp → Prop, (∀ H', Nx1 H' → ∃ k', k' < k ∧ W1 (j + 1) k' H') ∧ ∀ x H', J1.yld j H x H' → g1 x (wipe σ2 vs1) H' fun σ3 H5 => wipe σ3 vs1 = wipe σ2 vs1 ∧ tt1 σ3 H5 fun b H6 =>
        if b = true then te σ3 H6 fun y H7 => ∃ acc, H7 D = some (.lst acc) ∧ acc.length < sizeLine ∧ Nx1 (upd H7 D (.lst (acc ++ [y]))) else Nx1 H6) else Nx H3) := by
  refine ⟨fun i m H => m = n - i ∧ i ≤ n ∧ Pv i H, ⟨n, by simp, Nat.zero_le _, h0⟩, ?_⟩
  rintro i m H ⟨rfl, hi, p⟩
  have gh := hG i H hi p
  by_cases lt : i < n
  · exact .inr ⟨w.goes i H lt gh, Pv (i + 1), fun H' p' => ⟨n - (i + 1), by omega, rfl, lt, p'⟩, fun x H' y => hs i x H H' lt p (w.yields i H x H' lt gh y)⟩
  · obtain rfl : i = n := by omega
    exact .inl ⟨w.stops H gh, hd H p⟩
/-- .. the inner one -/
theorem li_it {J : It} {n : Nat} {G : Hp → Prop} {Y : Nat → Hp → V → Hp → Prop} (w : Walk J n G Y) {g : TG} {tt : TT} {te : TE} {vs : List Nat} {σ : L2.St} {H4 : Hp} {D : Addr} {Qd : Hp → Prop} (Pv : Nat → Hp → Prop) (h0 : Pv 0 H4) (hG : ∀ i H, i ≤ n → Pv i H → G H)
    (hs : ∀ i x H H', i < n → Pv i H → Y i H x H' → g x (wipe σ vs) H' fun σ2 H2 => wipe σ2 vs = wipe σ vs ∧ tt σ2 H2 fun b H3 =>
      if b = true then te σ2 H3 fun y H7 => ∃ acc, H7 D = some (.lst acc) ∧ acc.length < sizeLine ∧ Pv (i + 1) (upd H7 D (.lst (acc ++ [y]))) else Pv (i + 1) H3) (hd : ∀ H, Pv n H → Qd H) :
    ∃ W1 : Nat → Nat → Hp → Prop, (∃ m, W1 0 m H4) ∧ ∀ j k H, W1 j k H →
      (J.stop j H ∧ Qd H) ∨ (J.go j H ∧ ∃ Nx1 : Hp → Prop, (∀ H', Nx1 H' → ∃ k', k' < k ∧ W1 (j + 1) k' H') ∧ ∀ x H', J.yld j H x H' → g x (wipe σ vs) H' fun σ3 H5 => wipe σ3 vs = wipe σ vs ∧ tt σ3 H5 fun b H6 =>
        if b = true then te σ3 H6 fun y H7 => ∃ acc, H7 D = some (.lst acc) ∧ acc.length < sizeLine ∧ Nx1 (upd H7 D (.lst (acc ++ [y]))) else Nx1 H6) := by
  refine ⟨fun i m H => m = n - i ∧ i ≤ n ∧ Pv i H, ⟨n, by simp, Nat.zero_le _, h0⟩, ?_⟩
  rintro i m H ⟨rfl, hi, p⟩
  have gh := hG i H hi p
  by_cases lt : i < n
  · exact .inr ⟨w.goes i H lt gh, Pv (i + 1), fun H' p' => ⟨n - (i + 1), by omega, rfl, lt, p'⟩, fun x H' y => hs i x H H' lt p (w.yields i H x H' lt gh y)⟩
  · obtain rfl : i = n := by omega
    exact .inl ⟨w.stops H gh, hd H p⟩
/-- pairs of ints, made of two lists of them -/
theorem lc2_ints {a c D : Addr} {xs ys : List Int} {H1 : Hp} {σ : L2.St} {g g1 : TG} {tt1 : TT} {te : TE} {wi1 : TI} {vs vs1 : List Nat} {Qd : Hp → Prop} (f : Int → Int → Option (Int × Int)) (hx : SqL K H1 a (xs.map V.int)) (hy : SqL K H1 c (ys.map V.int)) (nD : H1 D = none) (lx : xs.length ≤ 100) (ly : ys.length ≤ 100)
    (st1 : ∀ (x : Int) (H : Hp) (k : It → Hp → Prop), Same H1 H → k (Itl K c) H → ∀ (kk : L2.St → Hp → Prop), (∀ σ2, wipe σ2 vs = wipe σ vs → (∀ R, wi1 σ2 H R ↔ R (Itl K c) H) → (∀ (y : Int) (H2 : Hp) (kt : V → Hp → Prop) (kf : Hp → Prop), Same H1 H2 → (∀ p, f x y = some p → ∀ v H3, Same H2 H3 → Dp K H3 v (pairD p) → kt v H3) → (f x y = none → kf H2) → g1 (.int y) (wipe σ2 vs1) H2 fun σ3 H5 => wipe σ3 vs1 = wipe σ2 vs1 ∧ tt1 σ3 H5 fun b H6 => if b = true then te σ3 H6 kt else kf H6) → kk σ2 H) → g (.int x) (wipe σ vs) H kk)
    (hd : ∀ H zs, Same H1 H → H D = some (.lst zs) → DpAll K H zs ((xs.flatMap fun x => ys.filterMap (f x)).map pairD) → Qd H) :
    ∃ W : Nat → Nat → Hp → Prop, (∃ m, W 0 m (upd H1 D (.lst []))) ∧ ∀ i m H, W i m H →
      ((Itl K a).stop i H ∧ Qd H) ∨ ((Itl K a).go i H ∧ ∃ Nx : Hp → Prop, (∀ H', Nx H' → ∃ m', m' < m ∧ W (i + 1) m' H') ∧ ∀ x H', (Itl K a).yld i H x H' → g x (wipe σ vs) H' fun σ2 H2 => wipe σ2 vs = wipe σ vs ∧ tYes σ2 H2 fun b H3 => if b = true then wi1 σ2 H3 fun J1 H4 => ∃ W1 : Nat → Nat → Hp → Prop, (∃ m, W1 0 m H4) ∧ ∀ j k H, W1 j k H →
      (J1.stop j H ∧ Nx H) ∨ (J1.go j H ∧ ∃ Nx1 : Hp → Prop, (∀ H', Nx1 H' → ∃ k', k' < k ∧ W1 (j + 1) k' H') ∧ ∀ x H', J1.yld j H x H' → g1 x (wipe σ2 vs1) H' fun σ3 H5 => wipe σ3 vs1 = wipe σ2 vs1 ∧ tt1 σ3 H5 fun b H6 =>
        if b = true then te σ3 H6 fun y H7 => ∃ acc, H7 D = some (.lst acc) ∧ acc.length < sizeLine ∧ Nx1 (upd H7 D (.lst (acc ++ [y]))) else Nx1 H6) else Nx H3) := by
  have small : ∀ i, i ≤ xs.length → ((xs.take i).flatMap fun x => ys.filterMap (f x)).length ≤ i * 100 := by
    intro i
    induction i with
    | zero => intro _; simp
    | succ i ih =>
      intro hi
      have e : xs[i]? = some xs[i] := List.getElem?_eq_getElem (by omega)
      rw [List.take_add_one, e, List.flatMap_append, List.length_append]
      have h1 := ih (by omega)
      have h2 : (ys.filterMap (f xs[i])).length ≤ 100 := Nat.le_trans (List.length_filterMap_le _ _) ly
      have h3 : ((some xs[i]).toList.flatMap fun x => ys.filterMap (f x)) = ys.filterMap (f xs[i]) := by simp
      rw [h3]
      omega
  refine lc2_it (walk_list (K := K) (a := a) (xs := xs.map V.int)) (fun i H => Same H1 H ∧ ∃ acc, H D = some (.lst acc) ∧ DpAll K H acc (((xs.take i).flatMap fun x => ys.filterMap (f x)).map pairD)) ⟨same_upd nD, [], upd_same, .nil⟩ (fun i H _ z => z.1.seq hx) ?_ ?_
  · rintro i v H H' hi ⟨s1, acc, hD, hacc⟩ ⟨rfl, hv⟩
    rw [List.length_map] at hi
    rw [List.getElem?_map] at hv
    obtain ⟨x, ex, rfl⟩ := Option.map_eq_some_iff.mp hv
    refine st1 x H' (fun _ _ => True) s1 trivial _ fun σ2 hw hwi inner => ⟨hw, ?_⟩
    simp only [tYes, if_true]
    refine (hwi _).mpr ?_
    refine li_it (walk_list (K := K) (a := c) (xs := ys.map V.int)) (fun j H => Same H1 H ∧ ∃ acc, H D = some (.lst acc) ∧ DpAll K H acc ((((xs.take i).flatMap fun x => ys.filterMap (f x)) ++ (ys.take j).filterMap (f x)).map pairD)) ⟨s1, acc, hD, by simpa using hacc⟩ (fun j H _ z => z.1.seq hy) ?_ ?_
    · rintro j v H2 H3 hj ⟨s2, acc2, hD2, hacc2⟩ ⟨rfl, hv2⟩
      rw [List.getElem?_map] at hv2
      obtain ⟨y, ey, rfl⟩ := Option.map_eq_some_iff.mp hv2
      have hl2 := dpAll_len hacc2
      rw [List.length_map, List.length_append] at hl2
      have b1 := small i (by omega)
      have b2 := fm_take_le (f x) ys j
      rw [List.length_map] at hj
      refine inner y H3 _ _ s2 ?_ ?_
      · intro p fp v' H4 s4 pv
        have hD4 := s4 _ _ hD2
        have ku := Kt.upd (o' := .lst (acc2 ++ [v'])) hD4 (fun z => z)
        refine ⟨acc2, hD4, by rw [sizeLine_eq]; omega, ?_, acc2 ++ [v'], upd_same, ?_⟩
        · intro z o e
          rw [upd_ne (ne_of_none e nD)]
          exact s4 _ _ (s2 _ _ e)
        · rw [take_fm (f x) ys j y ey, fp, ← List.append_assoc, List.map_append]
          exact dpAll_append (dp_ktAll ((Kt.same s4).trans ku) _ _ (pairs_imm _) hacc2) (.cons (dp_kt ku _ _ (pairD_imm p) pv) .nil)
      · intro fn
        refine ⟨s2, acc2, hD2, ?_⟩
        rw [take_fm (f x) ys j y ey, fn]
        simpa using hacc2
    · rintro H2 ⟨s2, acc2, hD2, hacc2⟩
      rw [List.length_map, List.take_of_length_le (Nat.le_refl _)] at hacc2
      refine ⟨s2, acc2, hD2, ?_⟩
      rw [List.take_add_one, ex, List.flatMap_append]
      simpa using hacc2
  · rintro H ⟨s1, acc, hD, hacc⟩
    rw [List.length_map, List.take_of_length_le (Nat.le_refl _)] at hacc
    exact hd H acc s1 hD hacc

end
/-! ### rules of our own: set(a list of ints) -/
section
variable {P : Program} {w : World} {A : Around} {E : Value → Shared → Prop} {s : Shared}
set_option maxRecDepth 100000 in
set_option maxHeartbeats 3200000 in
theorem set_of_list {l : Addr} {items : Array Value} (ns : List Int) {Q : Value → Shared → Prop} (hh : A.handled = none) (hl : s.heap.IsList l items) (hit : IntsAre items.toList ns) (hb : ns.length + 1 < scanBound)
    (h : ∀ (h' : Heap) (tk c : Nat), SetR w h' s.heap.objs.size (fun j => decide (j ∈ ns)) c → c ≤ ns.length → (∀ b o, s.heap.get? b = some o → h'.get? b = some o) → Q (.ref s.heap.objs.size) { s with heap := h', toks := tk }) :
    wpAny (model P w) A (call (.type "set") [.ref l]) Q E s := by
  have hisz : items.size = ns.length := by have q := IntsAre.length hit; rw [Array.length_toList] at q; exact q
  obtain ⟨c, tl, hmro⟩ := F.called_set.mro; have hmade := F.called_set.made; have hsub := F.called_set.sub
  refine wpAny_call (codeAny_of_tree (show wpAny _ _ (callAny (.type "set") _) _ _ _ from wpAny_pure ⟨Code.quiet_builtin _ (by decide +kernel), codeAny_builtin F.entry_type_call ?_⟩))
  rw [Around.under_plain (weight_type_call_type "set" [.ref l] []) rfl]; have h1 := F.called_set.notType; have h2 := F.called_set.canCreate; have hct := F.typeCall_set_1 (.ref l)
  repeat (any_goals (first | assumption | wp_step))
  generalize eO : ({ cls := .type "set", dict := none, data := .set #[] 0 (.fresh 0 0 (!w.params.followText "set-order")) } : Obj) = ob0
  refine codeAny_mono (L2.code_set_led1 (.ref l) (E := E) (Q₁ := fun obj s₁ => obj = .ref s.heap.objs.size ∧ s₁ = { s with heap := s.heap.push ob0 }) ⟨rfl, by rw [eO]⟩) fun r s₁ hr => ?_
  cases r with
  | error e => exact hr
  | ok fl =>
    cases fl with
    | ret obj =>
      obtain ⟨rfl, rfl⟩ := hr
      have hS : (s.heap.push ob0).get? s.heap.objs.size = some ob0 := Heap.get?_push_size _ (by rw [← eO]; rfl)
      have hT : Shared.TypeIs { s with heap := s.heap.push ob0 } (.ref s.heap.objs.size) "set" := ⟨_, hS, by rw [← eO]⟩
      have hli := F.called_set.init.lookup; have hbi := F.called_set.init.bind (.ref s.heap.objs.size)
      repeat (any_goals (first | assumption | wp_step))
      refine codeAny_mono (codeAny_call_builtin (R := wants (fun r s₂ => r = .none ∧ ∃ h' tk c, s₂ = { s with heap := h', toks := tk } ∧ SetR w h' s.heap.objs.size (fun j => decide (j ∈ ns)) c ∧ c ≤ ns.length ∧ (∀ b o, s.heap.get? b = some o → h'.get? b = some o)) E) F.called_set.init.plain F.entry_set_init (check_set_init_1 hT ?_)) fun r₂ s₂ hr₂ => ?_
      · obtain ⟨⟨ocls, odict, odata, oslots⟩, hol, hcl, nl, hdl⟩ := hl
        simp only at hcl hdl
        subst hcl; subst hdl
        have hol' : (s.heap.push ob0).get? l = some { cls := .type "list", dict := odict, data := .seq items nl, slots := oslots } := Heap.get?_push_of_some _ hol
        have hsls := F.sub_list_set; have hslf := F.sub_list_frozenset; have hne : (Value.type "list" == Value.type "dict") = false := by decide
        have hl1 : (s.heap.push ob0).IsList l items := ⟨_, hol', rfl, nl, rfl⟩
        subst eO
        unfold Builtin.«set.__init__» noKeywords Builtin.Frozenset.updateFrom; generalize hPI : pyIter = PI
        wp_walk
        subst hPI
        refine wpAny_pyIter_list hl1 ?_; refine wpAny_bind (wpAny_runValue ?_)
        have hlS : l < s.heap.objs.size := Heap.lt_size hol; have hh3 : A.in1.in1.in1.handled = none := by simp [hh]
        have hneI : ∀ ob0 : Obj, l ≠ (s.heap.push ob0).objs.size := fun ob0 => by rw [Heap.size_push]; exact Nat.ne_of_lt (Nat.lt_succ_of_lt hlS)
        have hSf : ∀ ob0 : Obj, s.heap.objs.size ∉ [(s.heap.push ob0).objs.size, l] := fun ob0 => by
          rw [Heap.size_push]; simp only [List.mem_cons, List.mem_singleton, List.not_mem_nil, or_false, not_or]; exact ⟨Nat.ne_of_lt (Nat.lt_succ_self _), Nat.ne_of_gt hlS⟩
        have hval : ∀ (i : Nat) (v : Value), items[i]? = some v → ∃ k t, ns[i]? = some k ∧ v = .int k t := fun i v hv => by
          have hi : i < ns.length := by rw [← hisz]; exact (Array.getElem?_eq_some_iff.mp hv).1
          obtain ⟨t, e⟩ := PyProof.Rows.IntsAre.int_at hit i v (by rw [Array.getElem?_toList]; exact hv); refine ⟨ns[i], t, List.getElem?_eq_getElem hi, ?_⟩
          rw [e, List.getD_eq_getElem?_getD, List.getElem?_eq_getElem hi]; rfl
        refine L2.set_update_ints ((Walks.list hh3 _ l (hneI _) items).toS) s.heap.objs.size (hSf _) ns hisz hb hval (items.size - 0) 0 _ (by omega) (Nat.zero_le _) ⟨⟨_, Heap.get?_push_size _ rfl, rfl, rfl⟩, (hl1.push _)⟩ ⟨0, Nat.le_refl 0, L2.setR_new_at ?_⟩ ?_
        · exact Heap.get?_push_of_some _ hS
        · rintro ⟨h', g2, d', tk', os'⟩ c' hm hc' hS'
          have eg : g2 = s.gens := hm.gens; have ed : d' = s.drawn := hm.drawn; have eo : os' = s.os := hm.os
          subst eg; subst ed; subst eo; rw [hisz] at hc'
          show wpAny _ _ _ _ _ _
          refine wpAny_pure (show wpAny _ _ (ret Value.none) _ _ _ from wpAny_pure ⟨rfl, h', tk', c', rfl, hS', hc', fun b o e => ?_⟩)
          have hb0 : b < s.heap.objs.size := Heap.lt_size e
          refine hm.heap b o (fun z => ?_) (Heap.get?_push_of_some _ (Heap.get?_push_of_some _ e))
          simp only [List.mem_cons, List.mem_singleton, List.not_mem_nil, or_false, Heap.size_push] at z
          rcases z with z | z
          · exact absurd z (Nat.ne_of_lt hb0)
          · exact absurd z (Nat.ne_of_lt (Nat.lt_succ_of_lt hb0))
      · cases r₂ with
        | error e => exact hr₂
        | ok fl₂ =>
          cases fl₂ with
          | ret r =>
            obtain ⟨rfl, h', tk, c', rfl, hS', hc', hk'⟩ := hr₂; repeat (any_goals (first | assumption | wp_step))
            exact h _ _ _ hS' hc' hk'
          | _ => exact hr₂.elim
    | _ => exact hr.elim
end
section
variable {X : Cx}
theorem ints_vals : ∀ {ns : List Int} {us : List Value}, Vals (ns.map V.int) us → IntsAre us ns
  | [], _, h => by cases h; exact .nil
  | n :: ns, _, h => by
    cases h with
    | cons r t =>
      obtain ⟨k, rfl⟩ := r
      exact .cons n k (ints_vals t)
def rSetL (K : PySem.W.Frag) (w : World) : List V → Hp → VK → Prop := fun xs H Q => ∃ (l : Addr) (ns : List Int), xs = [.ref l] ∧ SqL K H l (ns.map V.int) ∧ ns.length ≤ 1000 ∧ ∀ p c, H p = none → c ≤ ns.length → Q (.ref p) (upd H p (SetO w p (fun j => decide (j ∈ ns)) c))
theorem cr_setL (hc : X.calm = true) : CallR X (.type "set") (rSetL X.K X.w) := by
  intro pins s σ H xs us Q I r hq
  obtain ⟨l, ns, rfl, hs, hn, q⟩ := hq
  obtain ⟨u, rfl, ru⟩ := vals1 r
  obtain rfl : u = Value.ref l := ru
  obtain ⟨its, rv, pl, hz⟩ := I.list hs
  refine set_of_list ns (I.ok.hd hc) pl.isList (by simpa using ints_vals rv) (by unfold scanBound; omega) fun h' tk c hS hc' hk => ?_
  exact ⟨.ref _, upd H s.heap.objs.size (SetO X.w s.heap.objs.size (fun j => decide (j ∈ ns)) c), I.laid (fun b o e => hk b o e) (Nat.le_refl _) (setO_new hS), rfl, q _ c (I.hok.fresh (Nat.le_refl _)) hc'⟩
end
section
variable {P : Program} {w : World} {K : PySem.W.Frag} {mg : Str → Option Value} {base : Heap}

/-! ### histories: rows, zones, reasons -/
structure HRow where
  t : Int
  wr : Bool
  v : Int
  b : Int
  e : Int
deriving DecidableEq
def kindS (w : Bool) : Str := if w = true then "write" else "read"
def hD (r : HRow) : PyData := .tuple [.int r.t, .str (kindS r.wr), .int r.v, .int r.b, .int r.e]
def hV (r : HRow) : List V := [.int r.t, .str (kindS r.wr), .int r.v, .int r.b, .int r.e]
theorem hD_imm (r : HRow) : imm (hD r) = true := rfl
theorem hs_imm (rs : List HRow) : immAll (rs.map hD) = true := immAll_iff.mpr fun e he => by
  obtain ⟨y, _, rfl⟩ := List.mem_map.mp he
  exact hD_imm y
theorem dp_h {H : Hp} {v : V} {r : HRow} (h : Dp K H v (hD r)) : ∃ a, v = .ref a ∧ SqT K H a (hV r) := by
  cases h with
  | tup hs ha =>
    cases ha with
    | cons h1 ha =>
      cases h1
      cases ha with
      | cons h1 ha =>
        cases h1
        cases ha with
        | cons h1 ha =>
          cases h1
          cases ha with
          | cons h1 ha =>
            cases h1
            cases ha with
            | cons h1 ha =>
              cases h1
              cases ha
              exact ⟨_, rfl, hs⟩
theorem h_dp {H : Hp} {a : Addr} {r : HRow} (h : SqT K H a (hV r)) : Dp K H (.ref a) (hD r) :=
  .tup h (.cons (.int _) (.cons (.str _) (.cons (.int _) (.cons (.int _) (.cons (.int _) .nil)))))
theorem kind_write (w : Bool) : decide (V.str (kindS w) = V.str ("write" : Str)) = w := by
  cases w with
  | true => exact decide_eq_true rfl
  | false => exact decide_eq_false fun z => absurd (V.str.inj z) (by decide)
theorem kind_read (w : Bool) : decide (V.str (kindS w) = V.str ("read" : Str)) = !w := by
  cases w with
  | true => exact decide_eq_false fun z => absurd (V.str.inj z) (by decide)
  | false => exact decide_eq_true rfl
/-- the first end and the last begin of a value, as far as the rows go -/
def zStep (z : Option (Int × Int)) (r : HRow) : Option (Int × Int) := some (match z with
  | none => (r.e, r.b)
  | some (f, l) => (if r.e < f then r.e else f, if r.b > l then r.b else l))
def z0 (v : Int) : Option (Int × Int) := if v = 0 then some (-1, -1) else none
def zoneO (h : List HRow) (v : Int) : Option (Int × Int) := (h.filter fun r => decide (r.v = v)).foldl zStep (z0 v)
theorem zone_take {h : List HRow} {i : Nat} {r : HRow} (e : h[i]? = some r) (v : Int) : zoneO (h.take (i + 1)) v = if r.v = v then zStep (zoneO (h.take i) v) r else zoneO (h.take i) v := by
  unfold zoneO
  rw [List.take_add_one, e, List.filter_append, List.foldl_append]
  by_cases hv : r.v = v <;> simp [hv]
/-- all ends, all begins of a value -/
def endsOf (h : List HRow) (v : Int) : List Int := (if v = 0 then [-1] else []) ++ (h.filter fun r => decide (r.v = v)).map (·.e)
def begsOf (h : List HRow) (v : Int) : List Int := (if v = 0 then [-1] else []) ++ (h.filter fun r => decide (r.v = v)).map (·.b)
structure ZOk (es bs : List Int) (z : Option (Int × Int)) : Prop where
  non : z = none → es = [] ∧ bs = []
  som : ∀ f l, z = some (f, l) → f ∈ es ∧ (∀ x ∈ es, f ≤ x) ∧ l ∈ bs ∧ ∀ x ∈ bs, x ≤ l
theorem ZOk.step {es bs : List Int} {z : Option (Int × Int)} (h : ZOk es bs z) (r : HRow) : ZOk (es ++ [r.e]) (bs ++ [r.b]) (zStep z r) := by
  cases z with
  | none =>
    obtain ⟨rfl, rfl⟩ := h.non rfl
    refine ⟨(fun z => nomatch z), fun f l e => ?_⟩
    cases e
    exact ⟨by simp, (by intro x hx; simp at hx; omega), by simp, (by intro x hx; simp at hx; omega)⟩
  | some p =>
    obtain ⟨f, l⟩ := p
    obtain ⟨h1, h2, h3, h4⟩ := h.som f l rfl
    refine ⟨(fun z => nomatch z), fun f' l' e => ?_⟩
    cases e
    refine ⟨?_, ?_, ?_, ?_⟩
    · split
      · simp
      · exact List.mem_append_left _ h1
    · intro x hx
      rcases List.mem_append.mp hx with hx | hx
      · have := h2 x hx
        split <;> omega
      · rw [List.mem_singleton.mp hx]
        split <;> omega
    · split
      · simp
      · exact List.mem_append_left _ h3
    · intro x hx
      rcases List.mem_append.mp hx with hx | hx
      · have := h4 x hx
        split <;> omega
      · rw [List.mem_singleton.mp hx]
        split <;> omega
theorem zOk_fold : ∀ (rs : List HRow) {es bs : List Int} {z : Option (Int × Int)}, ZOk es bs z → ZOk (es ++ rs.map (·.e)) (bs ++ rs.map (·.b)) (rs.foldl zStep z)
  | [], _, _, _, h => by simpa using h
  | r :: rs, es, bs, z, h => by
    have := zOk_fold rs (h.step r)
    simpa using this
theorem zone_ok (h : List HRow) (v : Int) : ZOk (endsOf h v) (begsOf h v) (zoneO h v) := by
  unfold endsOf begsOf zoneO
  refine zOk_fold _ ?_
  unfold z0
  by_cases hv : v = 0
  · rw [if_pos hv, if_pos hv]
    refine ⟨(fun z => nomatch z), fun f l e => ?_⟩
    cases e
    simp
  · rw [if_neg hv, if_neg hv]
    exact ⟨fun _ => ⟨rfl, rfl⟩, fun f l e => nomatch e⟩
theorem zone_some {h : List HRow} {v : Int} : (∃ z, zoneO h v = some z) ↔ v = 0 ∨ ∃ r ∈ h, r.v = v := by
  have ok := zone_ok h v
  constructor
  · rintro ⟨⟨f, l⟩, e⟩
    obtain ⟨h1, _⟩ := ok.som f l e
    unfold endsOf at h1
    by_cases hv : v = 0
    · exact .inl hv
    · rw [if_neg hv] at h1
      obtain ⟨r, hr, _⟩ := List.mem_map.mp h1
      have := List.mem_filter.mp hr
      exact .inr ⟨r, this.1, of_decide_eq_true this.2⟩
  · intro hh
    cases e : zoneO h v with
    | some z => exact ⟨z, rfl⟩
    | none =>
      have := (ok.non e).1
      unfold endsOf at this
      rcases hh with rfl | ⟨r, hr, rfl⟩
      · rw [if_pos rfl] at this
        exact absurd this (by simp)
      · have h2 := (List.append_eq_nil_iff.mp this).2
        have h3 : r.e ∈ (h.filter fun r' => decide (r'.v = r.v)).map (·.e) := List.mem_map.mpr ⟨r, List.mem_filter.mpr ⟨hr, decide_eq_true rfl⟩, rfl⟩
        rw [h2] at h3
        cases h3
def opn (z : Int × Int) : Bool := decide (z.1 < z.2)
def clsh (z w : Int × Int) : Bool := decide (z.1 < w.2) && decide (w.1 < z.2)
def opnV (h : List HRow) (v : Int) : Bool := match zoneO h v with
  | some z => opn z
  | none => false
def clsV (h : List HRow) (a b : Int) : Bool := match zoneO h a, zoneO h b with
  | some z, some w => clsh z w
  | _, _ => false
abbrev Reason := Str × Int × Int
def reaD (x : Reason) : PyData := .tuple [.str x.1, .int x.2.1, .int x.2.2]
theorem reaD_imm (x : Reason) : imm (reaD x) = true := rfl
theorem rea_dp {H : Hp} {a : Addr} {w : Str} {i j : Int} (h : SqT K H a [.str w, .int i, .int j]) : Dp K H (.ref a) (reaD (w, i, j)) := .tup h (.cons (.str _) (.cons (.int _) (.cons (.int _) .nil)))
/-- what is a value of the history -/
def isVal (h : List HRow) (v : Int) : Prop := v = 0 ∨ ∃ r ∈ h, r.v = v
def EarlyP (h : List HRow) (a b : Int) : Prop := ∃ r ∈ h, ∃ w ∈ h, r.wr = false ∧ w.wr = true ∧ r.v = w.v ∧ r.t = a ∧ w.t = b ∧ r.e < w.b
def BothP (h : List HRow) (a b : Int) : Prop := isVal h a ∧ isVal h b ∧ a < b ∧ opnV h a = true ∧ opnV h b = true ∧ clsV h a b = true
def WithinP (h : List HRow) (a b : Int) : Prop := isVal h a ∧ isVal h b ∧ opnV h a = true ∧ opnV h b = false ∧ clsV h a b = true
/-- each value is written once -/
def OneW (h : List HRow) : Prop := ∀ r w : HRow, r ∈ h → w ∈ h → r.wr = true → w.wr = true → r.v = w.v → r = w
def wOf (h : List HRow) (v : Int) : Option HRow := h.find? fun w => w.wr && decide (w.v = v)
theorem wOf_some {h : List HRow} {v : Int} {w : HRow} (e : wOf h v = some w) : w ∈ h ∧ w.wr = true ∧ w.v = v := by
  have h1 := List.find?_some e
  have h2 : w.wr = true ∧ w.v = v := by simpa using h1
  exact ⟨List.mem_of_find?_eq_some e, h2⟩
theorem wOf_is {h : List HRow} (one : OneW h) {w : HRow} (hw : w ∈ h) (wr : w.wr = true) : wOf h w.v = some w := by
  cases e : wOf h w.v with
  | none =>
    have := List.find?_eq_none.mp e w hw
    simp [wr] at this
  | some w' =>
    obtain ⟨h1, h2, h3⟩ := wOf_some e
    rw [one w' w h1 hw h2 wr h3]

/-! ### zones_of -/
def ZAt (K : PySem.W.Frag) (H : Hp) (D : Addr) (g : Int → Option (Int × Int)) (m : Nat) : Prop := ∃ (kvs : List (Key × V)) (ks : List Int), H D = some (.dK kvs) ∧ kvs.map (·.1) = ks.map Sum.inl ∧ ks.Nodup ∧ ks.length ≤ m ∧ (∀ v, v ∈ ks ↔ (g v).isSome = true) ∧
  ∀ v x, valV kvs (.inl v) = some x → ∃ z p, g v = some z ∧ x = .ref p ∧ SqT K H p [.int z.1, .int z.2]
theorem ZAt.same {H H' : Hp} {D : Addr} {g : Int → Option (Int × Int)} {m : Nat} (h : ZAt K H D g m) (s : Same H H') : ZAt K H' D g m := by
  obtain ⟨kvs, ks, h1, h2, h3, h4, h5, h6⟩ := h
  refine ⟨kvs, ks, s _ _ h1, h2, h3, h4, h5, fun v x e => ?_⟩
  obtain ⟨z, p, e1, e2, e3⟩ := h6 v x e
  exact ⟨z, p, e1, e2, sqT_same s e3⟩
theorem key_val {kvs : List (Key × V)} {ks : List Int} (e : kvs.map (·.1) = ks.map Sum.inl) (v : Int) : (valV kvs (.inl v)).isSome = decide (v ∈ ks) := by
  rw [← valV_any]
  have : (kvs.any fun kv => decide (kv.1 = .inl v)) = ((kvs.map (·.1)).any fun k => decide (k = .inl v)) := by rw [List.any_map]; rfl
  rw [this, e, List.any_map]
  by_cases h : v ∈ ks
  · rw [decide_eq_true h, List.any_eq_true]
    exact ⟨v, h, by simp⟩
  · rw [decide_eq_false h, List.any_eq_false]
    intro x hx
    simp only [Function.comp, decide_eq_true_eq]
    exact fun z => h (Sum.inl.inj z ▸ hx)
theorem putK_keys {kvs : List (Key × V)} {k : Key} {v : V} : (putK kvs k v).map (·.1) = if (valV kvs k).isSome = true then kvs.map (·.1) else kvs.map (·.1) ++ [k] := by
  unfold putK
  rw [valV_any]
  by_cases h : (valV kvs k).isSome = true
  · rw [if_pos h, if_pos h, List.map_map]
    refine List.map_congr_left fun kv _ => ?_
    show (if kv.1 = k then (kv.1, v) else kv).1 = kv.1
    split <;> rfl
  · rw [if_neg h, if_neg h, List.map_append]
    rfl
theorem ZAt.put {H : Hp} {D p : Addr} {g : Int → Option (Int × Int)} {m : Nat} {kvs : List (Key × V)} {v : Int} {z : Int × Int} (h : ZAt K H D g m) (hD : H D = some (.dK kvs)) (hp : SqT K H p [.int z.1, .int z.2]) :
    ZAt K (upd H D (.dK (putK kvs (.inl v) (.ref p)))) D (fun u => if u = v then some z else g u) (m + 1) := by
  obtain ⟨kvs', ks, h1, h2, h3, h4, h5, h6⟩ := h
  rw [hD] at h1
  cases h1
  have kt : Kt H (upd H D (.dK (putK kvs (.inl v) (.ref p)))) := Kt.upd hD (fun z => z)
  have hk := key_val h2 v
  refine ⟨_, if v ∈ ks then ks else ks ++ [v], upd_same, ?_, ?_, ?_, fun u => ?_, fun u x e => ?_⟩
  · rw [putK_keys, hk]
    by_cases hv : v ∈ ks
    · rw [decide_eq_true hv, if_pos rfl, if_pos hv, h2]
    · rw [decide_eq_false hv, if_neg Bool.false_ne_true, if_neg hv, h2, List.map_append]
      rfl
  · split
    · exact h3
    · rename_i hv
      exact List.nodup_append.mpr ⟨h3, by simp, fun x hx y hy => by rw [List.mem_singleton.mp hy]; exact fun z => hv (z ▸ hx)⟩
  · split
    · omega
    · rw [List.length_append]
      show _ + 1 ≤ _
      omega
  · show _ ↔ (if u = v then some z else g u).isSome = true
    by_cases hu : u = v
    · subst hu
      rw [if_pos rfl]
      split
      · rename_i hv
        exact ⟨fun _ => rfl, fun _ => hv⟩
      · simp
    · rw [if_neg hu, ← h5 u]
      split
      · rfl
      · simp [hu]
  · rw [valV_put] at e
    show ∃ z' p', (if u = v then some z else g u) = some z' ∧ _
    split at e
    · rename_i hu
      cases hu
      cases e
      exact ⟨z, p, by rw [if_pos rfl], rfl, sqT_kt kt hp⟩
    · rename_i hu
      obtain ⟨z', p', e1, e2, e3⟩ := h6 u x e
      exact ⟨z', p', by rw [if_neg (fun w => hu (by rw [w]))]; exact e1, e2, sqT_kt kt e3⟩
theorem ZAt.get {H : Hp} {D : Addr} {g : Int → Option (Int × Int)} {m : Nat} (h : ZAt K H D g m) {v : Int} {z : Int × Int} (e : g v = some z) : ∃ kvs p, H D = some (.dK kvs) ∧ valV kvs (.inl v) = some (.ref p) ∧ SqT K H p [.int z.1, .int z.2] := by
  obtain ⟨kvs, ks, h1, h2, h3, h4, h5, h6⟩ := h
  have hs : (valV kvs (.inl v)).isSome = true := by
    rw [key_val h2 v]
    exact decide_eq_true ((h5 v).mpr (by rw [e]; rfl))
  obtain ⟨x, hx⟩ := Option.isSome_iff_exists.mp hs
  obtain ⟨z', p, e1, e2, e3⟩ := h6 v x hx
  rw [e] at e1
  cases e1
  subst e2
  exact ⟨kvs, p, h1, hx, e3⟩
abbrev s_zones_of : Stmt := topS 1
theorem sc_zones_of : FnScope ["history", "zones", "task", "kind", "value", "begin", "end", "first", "last"] ["history"] (defScope s_zones_of) := ⟨rfl, rfl, rfl, by decide +kernel, rfl, by decide +kernel, by decide +kernel⟩
def spzones_of (K : PySem.W.Frag) : Sp := fun vs H Q _ => ∃ (v : V) (h : List HRow), vs = [v] ∧ Dp K H v (.list (h.map hD)) ∧ h.length ≤ 61 ∧ ∀ p H', Same H H' → H p = none → ZAt K H' p (zoneO h) 62 → Q (.ref p) H'
theorem ok_zones_of {f : Addr} {fd : FuncData} (F : Fun K "zones_of" "zones_of" s_zones_of f fd) (gm : mg "zones_of" = some (.ref f)) (N : Fre K mg)  : C8.Cal P w K mg base 1 "zones_of" (spzones_of K) [] := by
  refine mkCal F gm sc_zones_of (F.binds (ps := ["history"]) fun _ _ _ _ _ _ us hl => match us, hl with | [_], _ => rfl) (fun vs H Q E h => ?_) (fun cdv A outer s H vs Q E hr h => ?_)
  · obtain ⟨v, h, rfl, _⟩ := h
    rfl
  · obtain ⟨v, h, rfl, hv, hlen, q⟩ := h
    refine ⟨_, (pss_cons (ps_set (i := 1) sc_zones_of.nd rfl (.inl rfl) (pe_disp (pps_cons pe_int (pe_tup (pa_cons (pe_un un_neg pe_int) (pa_cons (pe_un un_neg pe_int) pa_nil))) pps_nil) rfl rfl (by simp) (by decide)))
 (pss_cons (ps_for PassesOwn.never rfl (pi_list (pv 0)) (pg_tup rfl (pgs_cons (pg_name (i := 2) sc_zones_of.nd rfl (.inl rfl)) (pgs_cons (pg_name (i := 3) sc_zones_of.nd rfl (.inl rfl)) (pgs_cons (pg_name (i := 4) sc_zones_of.nd rfl (.inl rfl)) (pgs_cons (pg_name (i := 5) sc_zones_of.nd rfl (.inl rfl)) (pgs_cons (pg_name (i := 6) sc_zones_of.nd rfl (.inl rfl)) pgs_nil))))))
 (pss_cons (ps_asg (pe_dget2 (hu_of hr) (pv 1) (pv 4) (pe_tup (pa_cons (pv 6) (pa_cons (pv 5) pa_nil))) ⟨rfl, rfl, rfl, rfl⟩) (pg_tup rfl (pgs_cons (pg_name (i := 7) sc_zones_of.nd rfl (.inl rfl)) (pgs_cons (pg_name (i := 8) sc_zones_of.nd rfl (.inl rfl)) pgs_nil))))
 (pss_one (ps_dput (hu_of hr) (pv 1) (pv 4) (pe_tup (pa_cons (pe_callB (call_min2 rfl) (by rfl) N.min (by decide +kernel) (pa_cons (pv 7) (pa_cons (pv 6) pa_nil))) (pa_cons (pe_callB (call_max2 rfl) (by rfl) N.max (by decide +kernel) (pa_cons (pv 8) (pa_cons (pv 5) pa_nil))) pa_nil))) rfl))))
 (pss_one (ps_ret (pv 1))))), ?_⟩
    obtain ⟨a, xs, rfl, hs, ha⟩ := dp_list hv
    have hl := dpAll_len ha
    rw [List.length_map] at hl
    refine fun Z nZ => ⟨1, rfl, 1, rfl, two_ok _ _, fun t nt => ⟨same_upd nt _ _ upd_same, [(.inl 0, .ref t)], rfl, (by show 1 ≤ 15; decide), ?_⟩⟩
    have hZt : upd (upd H Z (.dK [])) t (.tup [V.int (-1), V.int (-1)]) Z = some (.dK []) := same_upd nt _ _ upd_same
    have s1 : Same H (upd (upd (upd H Z (.dK [])) t (.tup [V.int (-1), V.int (-1)])) Z (.dK (mergeK [] [(.inl 0, .ref t)]))) := fun c o e => by
      rw [upd_ne (ne_of_none e nZ)]
      exact same_upd nt _ _ (same_upd nZ _ _ e)
    have z1 : ZAt K (upd (upd (upd H Z (.dK [])) t (.tup [V.int (-1), V.int (-1)])) Z (.dK (mergeK [] [(.inl 0, .ref t)]))) Z (zoneO (h.take 0)) 1 := by
      refine ⟨_, [0], upd_same, rfl, by simp, Nat.le_refl _, fun v => ?_, fun v x e => ?_⟩
      · show v ∈ [0] ↔ (z0 v).isSome = true
        unfold z0
        by_cases hv : v = 0 <;> simp [hv]
      · have e' : valV (putK [] (Sum.inl (0 : Int)) (V.ref t)) (Sum.inl v) = some x := e
        rw [valV_put] at e'
        split at e'
        · rename_i hv
          cases hv
          cases e'
          refine ⟨(-1, -1), t, rfl, rfl, SqT.of ?_⟩
          rw [upd_ne (ne_of_none (upd_same (H := H) (a := Z) (o := .dK [])) nt).symm]
          exact upd_same
        · cases e'
    revert s1 z1
    generalize upd (upd (upd H Z (.dK [])) t (.tup [V.int (-1), V.int (-1)])) Z (.dK (mergeK [] [(.inl 0, .ref t)])) = H1
    intro s1 z1
    refine ⟨_, rfl, a, rfl, ⟨_, s1.seq hs⟩, for_list (xs := xs) (fun i σ H2 => (∃ y2 y3 y4 y5 y6 y7 y8, σ = [some (.ref a), some (.ref Z), y2, y3, y4, y5, y6, y7, y8]) ∧ Same H H2 ∧ ZAt K H2 Z (zoneO (h.take i)) (i + 1)) ⟨⟨_, _, _, _, _, _, _, rfl⟩, s1, z1⟩ (fun i σ H2 _ z => z.2.1.seq hs) ?_ ?_⟩
    · rintro i x σ H2 hx ⟨⟨y2, y3, y4, y5, y6, y7, y8, rfl⟩, s2, z2⟩
      obtain ⟨d, ed, pd⟩ := dpAll_get ha hx
      rw [List.getElem?_map] at ed
      obtain ⟨r, er, rfl⟩ := Option.map_eq_some_iff.mp ed
      obtain ⟨b, rfl, hb⟩ := dp_h (dp_same s2 _ _ pd)
      refine ⟨b, _, rfl, hb, rfl, _, _, rfl, _, _, rfl, _, _, rfl, _, _, rfl, _, _, rfl, rfl, ?_⟩
      obtain ⟨kvs, ks, k1, k2, k3, k4, k5, k6⟩ := id z2
      have hi : i < h.length := (List.getElem?_eq_some_iff.mp er).1
      refine ⟨_, rfl, Z, rfl, .inl ⟨kvs, .inl k1⟩, _, rfl, _, rfl, _, rfl, two_ok _ _, fun u nu => ?_⟩
      have su := same_upd (o := .tup [V.int r.e, V.int r.b]) nu
      have hu := upd_same (H := H2) (a := u) (o := .tup [V.int r.e, V.int r.b])
      refine ⟨_, DGet.k (k := .inl r.v) (su _ _ k1), ?_⟩
      obtain ⟨f, l, p, ep, hp, ez⟩ : ∃ (f l : Int) (p : Addr), (valV kvs (.inl r.v)).getD (.ref u) = .ref p ∧ SqT K (upd H2 u (.tup [V.int r.e, V.int r.b])) p [.int f, .int l] ∧ zStep (zoneO (h.take i) r.v) r = some (if r.e < f then r.e else f, if r.b > l then r.b else l) := by
        cases hval : valV kvs (.inl r.v) with
        | none =>
          refine ⟨r.e, r.b, u, rfl, SqT.of hu, ?_⟩
          have hno : zoneO (h.take i) r.v = none := by
            have := key_val k2 r.v
            rw [hval] at this
            cases hz : zoneO (h.take i) r.v with
            | none => rfl
            | some z =>
              have h2 := (k5 r.v).mpr (by rw [hz]; rfl)
              rw [decide_eq_true h2] at this
              cases this
          rw [hno]
          show some (r.e, r.b) = _
          simp
        | some x =>
          obtain ⟨z, p, e1, e2, e3⟩ := k6 r.v x hval
          subst e2
          refine ⟨z.1, z.2, p, rfl, sqT_same su e3, ?_⟩
          rw [e1]
          rfl
      rw [ep]
      refine ⟨p, _, rfl, hp, rfl, _, _, rfl, _, _, rfl, rfl, ?_⟩
      refine ⟨_, rfl, _, rfl, f, r.e, rfl, _, rfl, _, rfl, l, r.b, rfl, two_ok _ _, fun w nw => ?_⟩
      have sw := same_upd (o := .tup [V.int (if r.e < f then r.e else f), V.int (if r.b > l then r.b else l)]) nw
      have z3 := (z2.same su).same sw
      have hZ3 := sw _ _ (su _ _ k1)
      refine ⟨_, rfl, _, rfl, Z, _, rfl, DPut.k (k := .inl r.v) hZ3 ?_, ⟨_, _, _, _, _, _, _, rfl⟩, ?_, ?_⟩
      · have : kvs.length = ks.length := by
          have := congrArg List.length k2
          simpa using this
        rw [sizeLine_eq]
        omega
      · intro c o e
        rw [upd_ne (ne_of_none e nZ)]
        exact sw _ _ (su _ _ (s2 _ _ e))
      · have := z3.put (v := r.v) (z := (if r.e < f then r.e else f, if r.b > l then r.b else l)) hZ3 (SqT.of (upd_same (o := .tup [V.int (if r.e < f then r.e else f), V.int (if r.b > l then r.b else l)])))
        have eg : zoneO (h.take (i + 1)) = fun u => if u = r.v then some (if r.e < f then r.e else f, if r.b > l then r.b else l) else zoneO (h.take i) u := by
          funext u
          rw [zone_take er]
          by_cases hu : r.v = u
          · subst hu
            rw [if_pos rfl, if_pos rfl, ez]
          · rw [if_neg hu, if_neg (fun z => hu z.symm)]
        rw [eg]
        exact this
    · rintro σ H2 ⟨⟨y2, y3, y4, y5, y6, y7, y8, rfl⟩, s2, z2⟩
      rw [hl, List.take_of_length_le (Nat.le_refl _)] at z2
      refine ⟨_, rfl, q Z H2 s2 nZ ?_⟩
      obtain ⟨kvs, ks, k1, k2, k3, k4, k5, k6⟩ := z2
      exact ⟨kvs, ks, k1, k2, k3, by omega, k5, k6⟩
/-! ### is_open_zone, clash -/
abbrev s_is_open_zone : Stmt := topS 2
theorem sc_is_open_zone : FnScope ["zone", "first", "last"] ["zone"] (defScope s_is_open_zone) := ⟨rfl, rfl, rfl, by decide +kernel, rfl, by decide +kernel, by decide +kernel⟩
def spis_open_zone (K : PySem.W.Frag) : Sp := fun vs H Q _ => ∃ (p : Addr) (z : Int × Int), vs = [.ref p] ∧ SqT K H p [.int z.1, .int z.2] ∧ Q (.bl (opn z)) H
theorem ok_is_open_zone {f : Addr} {fd : FuncData} (F : Fun K "is_open_zone" "is_open_zone" s_is_open_zone f fd) (gm : mg "is_open_zone" = some (.ref f)) (N : Fre K mg)  : C8.Cal P w K mg base 1 "is_open_zone" (spis_open_zone K) [] := by
  refine mkCal F gm sc_is_open_zone (F.binds (ps := ["zone"]) fun _ _ _ _ _ _ us hl => match us, hl with | [_], _ => rfl) (fun vs H Q E h => ?_) (fun cdv A outer s H vs Q E hr h => ?_)
  · obtain ⟨p, z, rfl, _⟩ := h
    rfl
  · obtain ⟨p, z, rfl, hp, q⟩ := h
    refine ⟨_, (pss_cons (ps_asg (pv 0) (pg_tup rfl (pgs_cons (pg_name (i := 1) sc_is_open_zone.nd rfl (.inl rfl)) (pgs_cons (pg_name (i := 2) sc_is_open_zone.nd rfl (.inl rfl)) pgs_nil))))
 (pss_one (ps_ret (pe_cmpR op_lt (pv 1) (pv 2) (nomark _))))), ?_⟩
    exact ⟨_, rfl, p, _, rfl, hp, rfl, _, _, rfl, _, _, rfl, rfl, _, rfl, _, rfl, _, _, rfl, rfl, q⟩
abbrev s_clash : Stmt := topS 3
theorem sc_clash : FnScope ["one", "other"] ["one", "other"] (defScope s_clash) := ⟨rfl, rfl, rfl, by decide +kernel, rfl, by decide +kernel, by decide +kernel⟩
def spclash (K : PySem.W.Frag) : Sp := fun vs H Q _ => ∃ (p u : Addr) (z w : Int × Int), vs = [.ref p, .ref u] ∧ SqT K H p [.int z.1, .int z.2] ∧ SqT K H u [.int w.1, .int w.2] ∧ Q (.bl (clsh z w)) H
theorem ok_clash {f : Addr} {fd : FuncData} (F : Fun K "clash" "clash" s_clash f fd) (gm : mg "clash" = some (.ref f)) (N : Fre K mg)  : C8.Cal P w K mg base 1 "clash" (spclash K) [] := by
  refine mkCal F gm sc_clash (F.binds (ps := ["one", "other"]) fun _ _ _ _ _ _ us hl => match us, hl with | [_, _], _ => rfl) (fun vs H Q E h => ?_) (fun cdv A outer s H vs Q E hr h => ?_)
  · obtain ⟨p, u, z, w, rfl, _⟩ := h
    rfl
  · obtain ⟨p, u, z, w, rfl, hp, hu, q⟩ := h
    refine ⟨_, (pss_one (ps_ret (pe_and (pe_cmpR op_lt (pe_ix ix_tup (pv 0) pe_int (fun _ _ => rfl)) (pe_ix ix_tup (pv 1) pe_int (fun _ _ => rfl)) (nomark _)) (pe_one (pe_cmpR op_lt (pe_ix ix_tup (pv 1) pe_int (fun _ _ => rfl)) (pe_ix ix_tup (pv 0) pe_int (fun _ _ => rfl)) (nomark _)))))), ?_⟩
    refine ⟨_, rfl, p, _, 0, _, rfl, rfl, hp, atI_nat (j := 0) rfl, _, rfl, u, _, 1, _, rfl, rfl, hu, atI_nat (j := 1) rfl, _, _, rfl, rfl, _, rfl, ?_⟩
    by_cases h1 : z.1 < w.2
    · refine iteD' h1 ⟨_, rfl, u, _, 0, _, rfl, rfl, hu, atI_nat (j := 0) rfl, _, rfl, p, _, 1, _, rfl, rfl, hp, atI_nat (j := 1) rfl, _, _, rfl, rfl, ?_⟩
      have e : clsh z w = decide (w.1 < z.2) := by
        unfold clsh
        rw [decide_eq_true h1]
        rfl
      rw [e] at q
      exact q
    · refine iteD h1 ?_
      have e : clsh z w = false := by
        unfold clsh
        rw [decide_eq_false h1]
        rfl
      rw [e] at q
      exact q

/-! ### the reasons -/
def pairHD (p : HRow × HRow) : PyData := .tuple [hD p.1, hD p.2]
theorem pairHD_imm (p : HRow × HRow) : imm (pairHD p) = true := rfl
theorem dp_pairH {H : Hp} {v : V} {p : HRow × HRow} (h : Dp K H v (pairHD p)) : ∃ a b c, v = .ref a ∧ SqT K H a [.ref b, .ref c] ∧ SqT K H b (hV p.1) ∧ SqT K H c (hV p.2) := by
  cases h with
  | tup hs ha =>
    cases ha with
    | cons h1 ha =>
      cases ha with
      | cons h2 ha =>
        cases ha
        obtain ⟨b, rfl, hb⟩ := dp_h h1
        obtain ⟨c, rfl, hc⟩ := dp_h h2
        exact ⟨_, b, c, rfl, hs, hb, hc⟩
abbrev s_early_reasons : Stmt := topS 4
theorem sc_early_reasons : FnScope ["history", "writes", "reads", "pairs", "row", "read", "write"] ["history"] (defScope s_early_reasons) := ⟨rfl, rfl, rfl, by decide +kernel, rfl, by decide +kernel, by decide +kernel⟩
def spearly_reasons (K : PySem.W.Frag) : Sp := fun vs H Q _ => ∃ (v : V) (h : List HRow), vs = [v] ∧ Dp K H v (.list (h.map hD)) ∧ h.length ≤ 61 ∧ OneW h ∧ ∀ (p : Addr) (H' : Hp) (ys : List V) (B : List Reason), Same H H' → H p = none → H' p = some (.lst ys) → DpAll K H' ys (B.map reaD) → (∀ x : Reason, x ∈ B ↔ x.1 = ("early" : Str) ∧ EarlyP h x.2.1 x.2.2) → B.length ≤ 61 → Q (.ref p) H'
theorem ok_early_reasons {f : Addr} {fd : FuncData} (F : Fun K "early_reasons" "early_reasons" s_early_reasons f fd) (gm : mg "early_reasons" = some (.ref f)) (N : Fre K mg)  : C8.Cal P w K mg base 1 "early_reasons" (spearly_reasons K) [] := by
  refine mkCal F gm sc_early_reasons (F.binds (ps := ["history"]) fun _ _ _ _ _ _ us hl => match us, hl with | [_], _ => rfl) (fun vs H Q E h => ?_) (fun cdv A outer s H vs Q E hr h => ?_)
  · obtain ⟨v, h, rfl, _⟩ := h
    rfl
  · obtain ⟨v, h, rfl, hv, hlen, one, q⟩ := h
    refine ⟨_, (pss_cons (ps_set (i := 1) sc_early_reasons.nd rfl (.inr rfl) (pe_dc (own := [("row", 4)]) (g := gName 4) rfl sc_early_reasons.nd (pi_list (pv 0)) (blkOk_by (N := ["history", "writes", "reads", "pairs", "row", "read", "write"]) (sc := defScope s_early_reasons) (by decide +kernel)) (fun _ _ _ _ _ => pg_name (i := 4) sc_early_reasons.nd rfl (Or.inl rfl)) (fun _ _ _ _ _ => pts_one (pt_cmpR op_eq (pe_ix (show IxR _ (rIxT K) from ix_tup) (pv 4) pe_int (fun _ _ => rfl)) pe_str (nomark _))) (fun _ _ _ _ _ => (pe_ix (show IxR _ (rIxT K) from ix_tup) (pv 4) pe_int (fun _ _ => rfl))) (fun _ _ _ _ _ => (pv 4))))
 (pss_cons (ps_setLc (i := 2) (own := [("row", 4)]) (g := gName 4) rfl sc_early_reasons.nd rfl rfl (sw_true rfl rfl rfl (by decide +kernel)) (pi_list (pv 0)) (blkOk_by (N := ["history", "writes", "reads", "pairs", "row", "read", "write"]) (sc := defScope s_early_reasons) (by decide +kernel)) (fun _ _ _ _ _ => pg_name (i := 4) sc_early_reasons.nd rfl (Or.inl rfl)) (fun _ _ _ _ _ => pts_one (PW.pt (pw_and (pt_cmpR op_eq (pe_ix (show IxR _ (rIxT K) from ix_tup) (pv 4) pe_int (fun _ _ => rfl)) pe_str (nomark _)) (pw_and1 (pt_cmp (pc_din (hu_of hr) (pe_ix (show IxR _ (rIxT K) from ix_tup) (pv 4) pe_int (fun _ _ => rfl)) (pv 1)) (by with_unfolding_all rfl)))))) (fun _ _ _ _ _ => (pv 4)))
 (pss_cons (ps_setLc (i := 3) (own := [("read", 5)]) (g := gName 5) (tt := tYes) rfl sc_early_reasons.nd rfl rfl (sw_true rfl rfl rfl (by decide +kernel)) (pi_list (pv 2)) (blkOk_by (N := ["history", "writes", "reads", "pairs", "row", "read", "write"]) (sc := defScope s_early_reasons) (by decide +kernel)) (fun _ _ _ _ _ => pg_name (i := 5) sc_early_reasons.nd rfl (Or.inl rfl)) (fun _ _ _ _ _ => pts_nil) (fun _ _ _ _ _ => (pe_tup (pa_cons (pv 5) (pa_cons (pe_dget (hu_of hr) (pv 1) (pe_ix (show IxR _ (rIxT K) from ix_tup) (pv 5) pe_int (fun _ _ => rfl)) (fun _ _ => rfl)) pa_nil)))))
 (pss_one (ps_ret (pe_lc (own := [("read", 5), ("write", 6)]) (g := gTup K 2 (gCons (gName 5) (gCons (gName 6) gNil))) rfl sc_early_reasons.nd (pi_list (pv 3)) (blkOk_by (N := ["history", "writes", "reads", "pairs", "row", "read", "write"]) (sc := defScope s_early_reasons) (by decide +kernel)) (fun _ _ _ _ _ => pg_tup rfl (pgs_cons (pg_name (i := 5) sc_early_reasons.nd rfl (Or.inl rfl)) (pgs_cons (pg_name (i := 6) sc_early_reasons.nd rfl (Or.inl rfl)) pgs_nil))) (fun _ _ _ _ _ => pts_one (pt_cmpR op_lt (pe_ix (show IxR _ (rIxT K) from ix_tup) (pv 5) pe_int (fun _ _ => rfl)) (pe_ix (show IxR _ (rIxT K) from ix_tup) (pv 6) pe_int (fun _ _ => rfl)) (nomark _))) (fun _ _ _ _ _ => (pe_tup (pa_cons pe_str (pa_cons (pe_ix (show IxR _ (rIxT K) from ix_tup) (pv 5) pe_int (fun _ _ => rfl)) (pa_cons (pe_ix (show IxR _ (rIxT K) from ix_tup) (pv 6) pe_int (fun _ _ => rfl)) pa_nil))))))))))), ?_⟩
    obtain ⟨a, xs, rfl, hs, ha⟩ := dp_list hv
    have hl := dpAll_len ha
    rw [List.length_map] at hl
    -- writes
    refine ⟨_, rfl, a, rfl, ⟨_, hs⟩, fun W nW => dc_it (walk_list (xs := xs)) (fun i H1 => Same H H1 ∧ ∃ kvs, H1 W = some (.dK kvs) ∧ kvs.length ≤ i ∧ (∀ v, valV kvs (.inl v) = none → ∀ w ∈ h.take i, w.wr = true → w.v ≠ v) ∧ ∀ v x, valV kvs (.inl v) = some x → ∃ w ∈ h.take i, w.wr = true ∧ w.v = v ∧ Dp K H1 x (hD w)) ⟨same_upd nW, [], upd_same, Nat.le_refl _, (fun v _ w hw => by cases hw), (fun v x e => by cases e)⟩ (fun i H1 _ z => z.1.seq hs) ?_ ?_⟩
    · rintro i v H1 H2 hi ⟨s1, kvs, hW, hk, hno, hyes⟩ ⟨rfl, hx⟩
      obtain ⟨d, ed, pd⟩ := dpAll_get ha hx
      rw [List.getElem?_map] at ed
      obtain ⟨r, er, rfl⟩ := Option.map_eq_some_iff.mp ed
      have pr := dp_same s1 _ _ pd
      obtain ⟨b, rfl, hb⟩ := dp_h pr
      have hmem : ∀ {w : HRow}, w ∈ h.take (i + 1) ↔ w ∈ h.take i ∨ w = r := fun {w} => by
        rw [List.take_add_one, er, List.mem_append]
        simp
      refine ⟨rfl, ⟨_, rfl, b, _, 1, _, rfl, rfl, hb, atI_nat (j := 1) rfl, rfl, _, rfl, ?_⟩⟩
      rw [kind_write]
      cases hwr : r.wr with
      | false =>
        refine iteF ⟨s1, kvs, hW, by omega, fun v e w hw wr => ?_, fun v x e => ?_⟩
        · rcases hmem.mp hw with z | rfl
          · exact hno v e w z wr
          · rw [hwr] at wr
            cases wr
        · obtain ⟨w, m, r⟩ := hyes v x e
          exact ⟨w, hmem.mpr (.inl m), r⟩
      | true =>
        refine iteT ⟨_, rfl, b, _, 2, _, rfl, rfl, hb, atI_nat (j := 2) rfl, _, rfl, kvs, .inl r.v, rfl, hW, by rw [sizeLine_eq]; omega, ?_, _, upd_same, ?_, fun v e w hw wr => ?_, fun v x e => ?_⟩
        · intro c o e
          rw [upd_ne (ne_of_none e nW)]
          exact s1 _ _ e
        · have := length_putK kvs (.inl r.v) (.ref b)
          omega
        · rw [valV_put] at e
          split at e
          · cases e
          · rename_i hv
            rcases hmem.mp hw with z | rfl
            · exact hno v e w z wr
            · exact fun z => hv (by rw [z])
        · have ku := Kt.upd (o' := .dK (putK kvs (.inl r.v) (.ref b))) hW (fun z => z)
          rw [valV_put] at e
          split at e
          · rename_i hv
            cases hv
            cases e
            exact ⟨r, hmem.mpr (.inr rfl), hwr, rfl, dp_kt ku _ _ (hD_imm r) pr⟩
          · obtain ⟨w, m, w1, w2, w3⟩ := hyes v x e
            exact ⟨w, hmem.mpr (.inl m), w1, w2, dp_kt ku _ _ (hD_imm w) w3⟩
    rintro H1 ⟨s1, kvs, hW, hk, hno, hyes⟩
    rw [hl, List.take_of_length_le (Nat.le_refl _)] at hno hyes
    have hval : ∀ v : Int, (valV kvs (.inl v)).isSome = (wOf h v).isSome := fun v => by
      cases e : valV kvs (.inl v) with
      | none =>
        cases e2 : wOf h v with
        | none => rfl
        | some w =>
          obtain ⟨m, w1, w2⟩ := wOf_some e2
          exact absurd w2 (hno v e w m w1)
      | some x =>
        obtain ⟨w, m, w1, w2, _⟩ := hyes v x e
        subst w2
        rw [wOf_is one m w1]
        rfl
    have hget : ∀ {v : Int} {w : HRow}, wOf h v = some w → ∃ x, valV kvs (.inl v) = some x ∧ Dp K H1 x (hD w) := fun {v w} e => by
      have h2 := hval v
      rw [e] at h2
      obtain ⟨x, hx⟩ := Option.isSome_iff_exists.mp h2
      obtain ⟨w', m, w1, w2, w3⟩ := hyes v x hx
      subst w2
      rw [wOf_is one m w1] at e
      cases e
      exact ⟨x, hx, w3⟩
    -- reads
    have ha1 := dp_sameAll s1 _ _ ha
    refine ⟨_, rfl, a, rfl, ⟨_, s1.seq hs⟩, fun D2 nD2 => lc_ty hD hD (fun r => if !r.wr && (wOf h r.v).isSome then some r else none) (s1.seq hs) ha1 nD2 (by omega) hD_imm ?_ ?_⟩
    · intro i v r H2 k kf er s2 pr hy hn
      obtain ⟨b, rfl, hb⟩ := dp_h pr
      refine ⟨rfl, ⟨_, rfl, b, _, 1, _, rfl, rfl, hb, atI_nat (j := 1) rfl, rfl, _, rfl, ?_⟩⟩
      rw [kind_read]
      cases hwr : r.wr with
      | true => exact iteF (iteF (hn (by rw [hwr]; rfl) _ (Same.refl _)))
      | false =>
        refine iteT ⟨_, rfl, b, _, 2, _, rfl, rfl, hb, atI_nat (j := 2) rfl, _, rfl, W, _, rfl, DGet.k (k := .inl r.v) (s2 _ _ hW), _, rfl, ?_⟩
        rw [hval]
        cases hw : (wOf h r.v).isSome with
        | true => exact iteT ⟨_, rfl, hy r (by rw [hwr, hw]; rfl) _ _ (Same.refl _) pr⟩
        | false => exact iteF (hn (by rw [hwr, hw]; rfl) _ (Same.refl _))
    intro H2 ys s2 hD2 hy
    have ey : h.filterMap (fun r => if !r.wr && (wOf h r.v).isSome then some r else none) = h.filter fun r => !r.wr && (wOf h r.v).isSome := by
      rw [← List.filterMap_eq_filter]
      rfl
    rw [ey] at hy
    have hfl : (h.filter fun r => !r.wr && (wOf h r.v).isSome).length ≤ 61 := Nat.le_trans (List.length_filter_le _ _) hlen
    -- pairs
    refine ⟨_, rfl, D2, rfl, ⟨_, SqL.of hD2⟩, fun D3 nD3 => lc_map hD pairHD (fun r => (r, (wOf h r.v).getD r)) (SqL.of hD2) hy nD3 (by omega) pairHD_imm ?_ ?_⟩
    · intro i v r H3 k er s3 pr hk3
      obtain ⟨b, rfl, hb⟩ := dp_h pr
      have hr' := (List.mem_filter.mp (List.mem_of_getElem? er)).2
      have hr2 : r.wr = false ∧ (wOf h r.v).isSome = true := by simpa using hr'
      obtain ⟨w, hw⟩ := Option.isSome_iff_exists.mp hr2.2
      obtain ⟨x, hx, px⟩ := hget hw
      have px3 := dp_same (s2.trans s3) _ _ px
      obtain ⟨c, rfl, hc⟩ := dp_h px3
      refine ⟨rfl, ⟨_, rfl, _, rfl, _, rfl, b, _, 2, _, rfl, rfl, hb, atI_nat (j := 2) rfl, W, _, rfl, dget_of (k := .inl r.v) ((s2.trans s3) _ _ hW) hx, two_ok _ _, fun t nt => hk3 _ _ (same_upd nt) ?_⟩⟩
      refine .tup (SqT.of upd_same) (.cons (dp_same (same_upd nt) _ _ pr) (.cons (dp_same (same_upd nt) _ _ ?_) .nil))
      show Dp K H3 (.ref c) (hD ((wOf h r.v).getD r))
      rw [hw]
      exact px3
    intro H3 zs s3 hD3 hz
    have hml : ((h.filter fun r => !r.wr && (wOf h r.v).isSome).map fun r => (r, (wOf h r.v).getD r)).length ≤ 61 := by rw [List.length_map]; exact hfl
    -- the reasons
    refine ⟨_, rfl, D3, rfl, ⟨_, SqL.of hD3⟩, fun D4 nD4 => lc_ty pairHD reaD (fun p => if p.1.e < p.2.b then some (("early" : Str), p.1.t, p.2.t) else none) (SqL.of hD3) hz nD4 (by omega) reaD_imm ?_ ?_⟩
    · intro i v p H4 k kf er s4 pr hy4 hn4
      obtain ⟨b, c, d, rfl, hb, hc, hd⟩ := dp_pairH pr
      refine ⟨b, _, rfl, hb, rfl, _, _, rfl, _, _, rfl, rfl, rfl, ?_⟩
      refine ⟨_, rfl, c, _, 4, _, rfl, rfl, hc, atI_nat (j := 4) rfl, _, rfl, d, _, 3, _, rfl, rfl, hd, atI_nat (j := 3) rfl, _, _, rfl, rfl, _, rfl, ?_⟩
      by_cases hlt : p.1.e < p.2.b
      · refine iteD' hlt ⟨_, rfl, c, _, 0, _, rfl, rfl, hc, atI_nat (j := 0) rfl, _, rfl, d, _, 0, _, rfl, rfl, hd, atI_nat (j := 0) rfl, three_ok _ _ _, fun t nt => ?_⟩
        exact hy4 _ (if_pos hlt) _ _ (same_upd nt) (rea_dp (SqT.of upd_same))
      · exact iteD hlt (hn4 (if_neg hlt) _ (Same.refl _))
    · intro H4 us s4 hD4 hu
      refine q D4 H4 us _ (s1.trans (s2.trans (s3.trans s4))) ((s1.trans (s2.trans s3)).free nD4) hD4 hu (fun x => ?_) (Nat.le_trans (List.length_filterMap_le _ _) hml)
      constructor
      · intro hx
        obtain ⟨p, hp, e⟩ := List.mem_filterMap.mp hx
        obtain ⟨r, hr, rfl⟩ := List.mem_map.mp hp
        obtain ⟨hr1, hr2⟩ := List.mem_filter.mp hr
        have hr3 : r.wr = false ∧ (wOf h r.v).isSome = true := by simpa using hr2
        obtain ⟨w, hw⟩ := Option.isSome_iff_exists.mp hr3.2
        obtain ⟨m, w1, w2⟩ := wOf_some hw
        rw [hw] at e
        dsimp only [Option.getD] at e
        split at e
        · rename_i hlt
          cases e
          exact ⟨rfl, r, hr1, w, m, hr3.1, w1, w2.symm, rfl, rfl, hlt⟩
        · cases e
      · rintro ⟨e1, r, hr, w, hw, r1, w1, evw, et, ew, hlt⟩
        refine List.mem_filterMap.mpr ⟨(r, w), List.mem_map.mpr ⟨r, List.mem_filter.mpr ⟨hr, ?_⟩, ?_⟩, ?_⟩
        · rw [evw, wOf_is one hw w1, r1]
          rfl
        · rw [evw, wOf_is one hw w1]
          rfl
        · show (if r.e < w.b then some (("early" : Str), r.t, w.t) else none) = some x
          rw [if_pos hlt, et, ew, ← e1]
abbrev s_both_reasons : Stmt := topS 5
theorem sc_both_reasons : FnScope ["zones", "wide", "pairs", "value", "one", "other"] ["zones"] (defScope s_both_reasons) := ⟨rfl, rfl, rfl, by decide +kernel, rfl, by decide +kernel, by decide +kernel⟩
def spboth_reasons (K : PySem.W.Frag) : Sp := fun vs H Q _ => ∃ (Z : Addr) (h : List HRow), vs = [.ref Z] ∧ ZAt K H Z (zoneO h) 62 ∧ ∀ (p : Addr) (H' : Hp) (ys : List V) (B : List Reason), Same H H' → H p = none → H' p = some (.lst ys) → DpAll K H' ys (B.map reaD) → (∀ x : Reason, x ∈ B ↔ x.1 = ("both" : Str) ∧ BothP h x.2.1 x.2.2) → B.length ≤ 10000 → Q (.ref p) H'
theorem isVal_iff {h : List HRow} {v : Int} : isVal h v ↔ (zoneO h v).isSome = true := by
  rw [Option.isSome_iff_exists]
  exact zone_some.symm
theorem flat_len {α : Type} (xs : List Int) (f : Int → List α) (n : Nat) (h : ∀ x, (f x).length ≤ n) : (xs.flatMap f).length ≤ xs.length * n := by
  induction xs with
  | nil => simp
  | cons x xs ih =>
    rw [List.flatMap_cons, List.length_append, List.length_cons, Nat.add_mul]
    have := h x
    omega
theorem ok_both_reasons {f : Addr} {fd : FuncData} (F : Fun K "both_reasons" "both_reasons" s_both_reasons f fd) (gm : mg "both_reasons" = some (.ref f)) (N : Fre K mg) (c_clash : C8.Cal P w K mg base 1 "clash" (spclash K) []) (c_is_open_zone : C8.Cal P w K mg base 1 "is_open_zone" (spis_open_zone K) []) : C8.Cal P w K mg base 2 "both_reasons" (spboth_reasons K) [] := by
  refine mkCal F gm sc_both_reasons (F.binds (ps := ["zones"]) fun _ _ _ _ _ _ us hl => match us, hl with | [_], _ => rfl) (fun vs H Q E h => ?_) (fun cdv A outer s H vs Q E hr h => ?_)
  · obtain ⟨Z, h, rfl, _⟩ := h
    rfl
  · obtain ⟨Z, h, rfl, hZ, q⟩ := h
    refine ⟨_, (pss_cons (ps_set (i := 1) sc_both_reasons.nd rfl (.inr rfl) (pe_lc (own := [("value", 3)]) (g := gName 3) rfl sc_both_reasons.nd (pi_list (pe_callB (call_sortedDI rfl) (by rfl) N.sorted (by decide +kernel) (pa_cons (pv 0) pa_nil))) (blkOk_by (N := ["zones", "wide", "pairs", "value", "one", "other"]) (sc := defScope s_both_reasons) (by decide +kernel)) (fun _ _ _ _ _ => pg_name (i := 3) sc_both_reasons.nd rfl (Or.inl rfl)) (fun _ _ _ _ _ => pts_one (pt_val (C8.pe_c c_is_open_zone hr (by decide) rfl (pa_cons (pe_dget (hu_of hr) (pv 0) (pv 3) (fun _ _ => rfl)) pa_nil)))) (fun _ _ _ _ _ => (pv 3))))
 (pss_cons (ps_setLc2 (i := 2) (own := [("one", 4), ("other", 5)]) (g := gName 4) (tt := tYes) (wi1 := iList K (tVar 1)) (g1 := gName 5) (vs1 := [5]) rfl sc_both_reasons.nd rfl rfl (sw_true rfl rfl rfl (by decide +kernel)) (pi_list (pv 1)) (blkOk_by (N := ["zones", "wide", "pairs", "value", "one", "other"]) (sc := defScope s_both_reasons) (by decide +kernel)) (by decide) (fun _ _ _ _ _ => pg_name (i := 4) sc_both_reasons.nd rfl (Or.inl rfl)) (fun _ _ _ _ _ => pts_nil) (fun _ _ _ _ _ => (pi_list (pv 1))) (fun _ _ _ _ _ => pg_name (i := 5) sc_both_reasons.nd rfl (Or.inl rfl)) (fun _ _ _ _ _ => pts_one (pt_cmpR op_lt (pv 4) (pv 5) (nomark _))) (fun _ _ _ _ _ => (pe_tup (pa_cons (pv 4) (pa_cons (pv 5) pa_nil)))))
 (pss_one (ps_ret (pe_lc (own := [("one", 4), ("other", 5)]) (g := gTup K 2 (gCons (gName 4) (gCons (gName 5) gNil))) rfl sc_both_reasons.nd (pi_list (pv 2)) (blkOk_by (N := ["zones", "wide", "pairs", "value", "one", "other"]) (sc := defScope s_both_reasons) (by decide +kernel)) (fun _ _ _ _ _ => pg_tup rfl (pgs_cons (pg_name (i := 4) sc_both_reasons.nd rfl (Or.inl rfl)) (pgs_cons (pg_name (i := 5) sc_both_reasons.nd rfl (Or.inl rfl)) pgs_nil))) (fun _ _ _ _ _ => pts_one (pt_val (C8.pe_c c_clash hr (by decide) rfl (pa_cons (pe_dget (hu_of hr) (pv 0) (pv 4) (fun _ _ => rfl)) (pa_cons (pe_dget (hu_of hr) (pv 0) (pv 5) (fun _ _ => rfl)) pa_nil))))) (fun _ _ _ _ _ => (pe_tup (pa_cons pe_str (pa_cons (pv 4) (pa_cons (pv 5) pa_nil)))))))))), ?_⟩
    obtain ⟨kvs, ks, k1, k2, k3, k4, k5, k6⟩ := id hZ
    -- wide
    refine ⟨_, rfl, Z, kvs, ks, rfl, .inl k1, k2, by omega, fun ys p hp hso np => ⟨p, rfl, ⟨_, SqL.of upd_same⟩, fun D nD => ?_⟩⟩
    have sp := same_upd (o := .lst (ys.map V.int)) np
    have hyl : ys.length ≤ 62 := by rw [hp.length_eq]; exact k4
    have hym : ∀ v, v ∈ ys ↔ isVal h v := fun v => by rw [hp.mem_iff, k5 v, isVal_iff]
    refine lc_ty PyData.int PyData.int (fun v => if opnV h v = true then some v else none) (SqL.of upd_same) (ints_dp ys) nD (by omega) (fun _ => rfl) ?_ ?_
    · intro i v x H2 k kf er s2 pr hy hn
      cases pr
      have hv := (hym x).mp (List.mem_of_getElem? er)
      obtain ⟨z, hz⟩ := Option.isSome_iff_exists.mp (isVal_iff.mp hv)
      obtain ⟨kv', t, e1, e2, e3⟩ := ((hZ.same sp).same s2).get hz
      refine ⟨rfl, ⟨_, rfl, _, rfl, Z, _, rfl, dget_of (k := .inl x) e1 e2, t, z, rfl, e3, _, rfl, ?_⟩⟩
      have eo : opnV h x = opn z := by unfold opnV; rw [hz]
      rw [← eo]
      cases ho : opnV h x with
      | true => exact iteT ⟨_, rfl, hy x (if_pos ho) _ _ (Same.refl _) (.int _)⟩
      | false => exact iteF (hn (by rw [ho]; rfl) _ (Same.refl _))
    intro H2 us s2 hD hu
    have eu := dp_ints hu
    subst eu
    have hwm : ∀ v, v ∈ ys.filterMap (fun v => if opnV h v = true then some v else none) ↔ isVal h v ∧ opnV h v = true := fun v => by
      rw [List.mem_filterMap]
      constructor
      · rintro ⟨u, hu, e⟩
        split at e
        · rename_i ho
          cases e
          exact ⟨(hym _).mp hu, ho⟩
        · cases e
      · rintro ⟨h1, h2⟩
        exact ⟨v, (hym v).mpr h1, if_pos h2⟩
    have hwl : (ys.filterMap (fun v => if opnV h v = true then some v else none)).length ≤ 62 := Nat.le_trans (List.length_filterMap_le _ _) hyl
    revert hD hwm hwl
    generalize ys.filterMap (fun v => if opnV h v = true then some v else none) = ws
    intro hD hwm hwl
    clear hu
    -- pairs
    refine ⟨_, rfl, D, rfl, ⟨_, SqL.of hD⟩, fun D2 nD2 => lc2_ints (c := D) (ys := ws) (fun x y => if x < y then some (x, y) else none) (SqL.of hD) (SqL.of hD) nD2 (by omega) (by omega) ?_ ?_⟩
    · intro x H3 k s3 _ kk hk
      refine hk _ rfl (fun R => ⟨fun z => ?_, fun z => ⟨_, rfl, D, rfl, ⟨_, SqL.of (s3 _ _ hD)⟩, z⟩⟩) fun y H4 kt kf s4 hy hn => ⟨rfl, _, rfl, _, rfl, x, y, rfl, rfl, _, rfl, ?_⟩
      · obtain ⟨v, ev, d, ed, _, hR⟩ := z
        cases ev
        cases ed
        exact hR
      · by_cases hlt : x < y
        · exact iteD' hlt ⟨_, rfl, _, rfl, two_ok _ _, fun t nt => hy _ (if_pos hlt) _ _ (same_upd nt) (.tup (SqT.of upd_same) (.cons (.int _) (.cons (.int _) .nil)))⟩
        · exact iteD hlt (hn (if_neg hlt))
    intro H3 zs s3 hD2 hz
    have hpm : ∀ x : Int × Int, x ∈ (ws.flatMap fun x => ws.filterMap fun y => if x < y then some (x, y) else none) ↔ x.1 ∈ ws ∧ x.2 ∈ ws ∧ x.1 < x.2 := fun x => by
      rw [List.mem_flatMap]
      constructor
      · rintro ⟨a, h1, h2⟩
        obtain ⟨b, h3, e⟩ := List.mem_filterMap.mp h2
        split at e
        · cases e
          exact ⟨h1, h3, ‹_›⟩
        · cases e
      · rintro ⟨h1, h2, h3⟩
        exact ⟨x.1, h1, List.mem_filterMap.mpr ⟨x.2, h2, if_pos h3⟩⟩
    have hpl : (ws.flatMap fun x => ws.filterMap fun y => if x < y then some (x, y) else none).length ≤ 3844 := by
      refine Nat.le_trans (flat_len ws _ 62 fun x => Nat.le_trans (List.length_filterMap_le _ _) hwl) ?_
      exact Nat.mul_le_mul_right 62 hwl
    revert hz hpm hpl
    generalize (ws.flatMap fun x => ws.filterMap fun y => if x < y then some (x, y) else none) = ps
    intro hz hpm hpl
    -- the reasons
    refine ⟨_, rfl, D2, rfl, ⟨_, SqL.of hD2⟩, fun D3 nD3 => lc_ty pairD reaD (fun p => if clsV h p.1 p.2 = true then some (("both" : Str), p.1, p.2) else none) (SqL.of hD2) hz nD3 (by omega) reaD_imm ?_ ?_⟩
    · intro i v p H4 k kf er s4 pr hy hn
      obtain ⟨b, rfl, hb⟩ := dp_pair pr
      obtain ⟨m1, m2, _⟩ := (hpm p).mp (List.mem_of_getElem? er)
      obtain ⟨z, hz⟩ := Option.isSome_iff_exists.mp (isVal_iff.mp ((hwm _).mp m1).1)
      obtain ⟨w, hw⟩ := Option.isSome_iff_exists.mp (isVal_iff.mp ((hwm _).mp m2).1)
      have hZ4 := ((((hZ.same sp).same s2).same s3).same s4)
      obtain ⟨kv1, t1, e1, e2, e3⟩ := hZ4.get hz
      obtain ⟨kv2, t2, f1, f2, f3⟩ := hZ4.get hw
      refine ⟨b, _, rfl, hb, rfl, _, _, rfl, _, _, rfl, rfl, rfl, ?_⟩
      refine ⟨_, rfl, _, rfl, Z, _, rfl, dget_of (k := .inl p.1) e1 e2, _, rfl, _, rfl, Z, _, rfl, dget_of (k := .inl p.2) f1 f2, t1, t2, z, w, rfl, e3, f3, _, rfl, ?_⟩
      have ec : clsV h p.1 p.2 = clsh z w := by unfold clsV; rw [hz, hw]
      rw [← ec]
      cases hc : clsV h p.1 p.2 with
      | true => exact iteT ⟨_, rfl, _, rfl, three_ok _ _ _, fun t nt => hy _ (if_pos hc) _ _ (same_upd nt) (rea_dp (SqT.of upd_same))⟩
      | false => exact iteF (hn (by rw [hc]; rfl) _ (Same.refl _))
    · intro H4 us s4 hD3 hu
      have sA := sp.trans (s2.trans s3)
      refine q D3 H4 us _ (sA.trans s4) (sA.free nD3) hD3 hu (fun x => ?_) (Nat.le_trans (List.length_filterMap_le _ _) (by omega))
      rw [List.mem_filterMap]
      constructor
      · rintro ⟨p, hp, e⟩
        split at e
        · rename_i hc
          cases e
          obtain ⟨m1, m2, m3⟩ := (hpm p).mp hp
          exact ⟨rfl, ((hwm _).mp m1).1, ((hwm _).mp m2).1, m3, ((hwm _).mp m1).2, ((hwm _).mp m2).2, hc⟩
        · cases e
      · rintro ⟨e1, v1, v2, lt, o1, o2, hc⟩
        exact ⟨(x.2.1, x.2.2), (hpm _).mpr ⟨(hwm _).mpr ⟨v1, o1⟩, (hwm _).mpr ⟨v2, o2⟩, lt⟩, by rw [if_pos hc, ← e1]⟩

abbrev s_within_reasons : Stmt := topS 6
theorem sc_within_reasons : FnScope ["zones", "wide", "small", "pairs", "value", "one", "other"] ["zones"] (defScope s_within_reasons) := ⟨rfl, rfl, rfl, by decide +kernel, rfl, by decide +kernel, by decide +kernel⟩
def spwithin_reasons (K : PySem.W.Frag) : Sp := fun vs H Q _ => ∃ (Z : Addr) (h : List HRow), vs = [.ref Z] ∧ ZAt K H Z (zoneO h) 62 ∧ ∀ (p : Addr) (H' : Hp) (ys : List V) (B : List Reason), Same H H' → H p = none → H' p = some (.lst ys) → DpAll K H' ys (B.map reaD) → (∀ x : Reason, x ∈ B ↔ x.1 = ("within" : Str) ∧ WithinP h x.2.1 x.2.2) → B.length ≤ 10000 → Q (.ref p) H'
theorem ok_within_reasons {f : Addr} {fd : FuncData} (F : Fun K "within_reasons" "within_reasons" s_within_reasons f fd) (gm : mg "within_reasons" = some (.ref f)) (N : Fre K mg) (c_clash : C8.Cal P w K mg base 1 "clash" (spclash K) []) (c_is_open_zone : C8.Cal P w K mg base 1 "is_open_zone" (spis_open_zone K) []) : C8.Cal P w K mg base 2 "within_reasons" (spwithin_reasons K) [] := by
  refine mkCal F gm sc_within_reasons (F.binds (ps := ["zones"]) fun _ _ _ _ _ _ us hl => match us, hl with | [_], _ => rfl) (fun vs H Q E h => ?_) (fun cdv A outer s H vs Q E hr h => ?_)
  · obtain ⟨Z, h, rfl, _⟩ := h
    rfl
  · obtain ⟨Z, h, rfl, hZ, q⟩ := h
    refine ⟨_, (pss_cons (ps_setLc (i := 1) (own := [("value", 4)]) (g := gName 4) rfl sc_within_reasons.nd rfl rfl (sw_true rfl rfl rfl (by decide +kernel)) (pi_list (pe_callB (call_sortedDI rfl) (by rfl) N.sorted (by decide +kernel) (pa_cons (pv 0) pa_nil))) (blkOk_by (N := ["zones", "wide", "small", "pairs", "value", "one", "other"]) (sc := defScope s_within_reasons) (by decide +kernel)) (fun _ _ _ _ _ => pg_name (i := 4) sc_within_reasons.nd rfl (Or.inl rfl)) (fun _ _ _ _ _ => pts_one (pt_val (C8.pe_c c_is_open_zone hr (by decide) rfl (pa_cons (pe_dget (hu_of hr) (pv 0) (pv 4) (fun _ _ => rfl)) pa_nil)))) (fun _ _ _ _ _ => (pv 4)))
 (pss_cons (ps_set (i := 2) sc_within_reasons.nd rfl (.inr rfl) (pe_lc (own := [("value", 4)]) (g := gName 4) rfl sc_within_reasons.nd (pi_list (pe_callB (call_sortedDI rfl) (by rfl) N.sorted (by decide +kernel) (pa_cons (pv 0) pa_nil))) (blkOk_by (N := ["zones", "wide", "small", "pairs", "value", "one", "other"]) (sc := defScope s_within_reasons) (by decide +kernel)) (fun _ _ _ _ _ => pg_name (i := 4) sc_within_reasons.nd rfl (Or.inl rfl)) (fun _ _ _ _ _ => pts_one (pt_not (pt_val (C8.pe_c c_is_open_zone hr (by decide) rfl (pa_cons (pe_dget (hu_of hr) (pv 0) (pv 4) (fun _ _ => rfl)) pa_nil))))) (fun _ _ _ _ _ => (pv 4))))
 (pss_cons (ps_setLc2 (i := 3) (own := [("one", 5), ("other", 6)]) (g := gName 5) (tt := tYes) (wi1 := iList K (tVar 2)) (g1 := gName 6) (vs1 := [6]) (tt1 := tYes) rfl sc_within_reasons.nd rfl rfl (sw_true rfl rfl rfl (by decide +kernel)) (pi_list (pv 1)) (blkOk_by (N := ["zones", "wide", "small", "pairs", "value", "one", "other"]) (sc := defScope s_within_reasons) (by decide +kernel)) (by decide) (fun _ _ _ _ _ => pg_name (i := 5) sc_within_reasons.nd rfl (Or.inl rfl)) (fun _ _ _ _ _ => pts_nil) (fun _ _ _ _ _ => (pi_list (pv 2))) (fun _ _ _ _ _ => pg_name (i := 6) sc_within_reasons.nd rfl (Or.inl rfl)) (fun _ _ _ _ _ => pts_nil) (fun _ _ _ _ _ => (pe_tup (pa_cons (pv 5) (pa_cons (pv 6) pa_nil)))))
 (pss_one (ps_ret (pe_lc (own := [("one", 5), ("other", 6)]) (g := gTup K 2 (gCons (gName 5) (gCons (gName 6) gNil))) rfl sc_within_reasons.nd (pi_list (pv 3)) (blkOk_by (N := ["zones", "wide", "small", "pairs", "value", "one", "other"]) (sc := defScope s_within_reasons) (by decide +kernel)) (fun _ _ _ _ _ => pg_tup rfl (pgs_cons (pg_name (i := 5) sc_within_reasons.nd rfl (Or.inl rfl)) (pgs_cons (pg_name (i := 6) sc_within_reasons.nd rfl (Or.inl rfl)) pgs_nil))) (fun _ _ _ _ _ => pts_one (pt_val (C8.pe_c c_clash hr (by decide) rfl (pa_cons (pe_dget (hu_of hr) (pv 0) (pv 5) (fun _ _ => rfl)) (pa_cons (pe_dget (hu_of hr) (pv 0) (pv 6) (fun _ _ => rfl)) pa_nil))))) (fun _ _ _ _ _ => (pe_tup (pa_cons pe_str (pa_cons (pv 5) (pa_cons (pv 6) pa_nil))))))))))), ?_⟩
    obtain ⟨kvs, ks, k1, k2, k3, k4, k5, k6⟩ := id hZ
    -- wide
    refine ⟨_, rfl, Z, kvs, ks, rfl, .inl k1, k2, by omega, fun ys p hp hso np => ⟨p, rfl, ⟨_, SqL.of upd_same⟩, fun D nD => ?_⟩⟩
    have sp := same_upd (o := .lst (ys.map V.int)) np
    have hyl : ys.length ≤ 62 := by rw [hp.length_eq]; exact k4
    have hym : ∀ v, v ∈ ys ↔ isVal h v := fun v => by rw [hp.mem_iff, k5 v, isVal_iff]
    refine lc_ty PyData.int PyData.int (fun v => if opnV h v = true then some v else none) (SqL.of upd_same) (ints_dp ys) nD (by omega) (fun _ => rfl) ?_ ?_
    · intro i v x H2 k kf er s2 pr hy hn
      cases pr
      have hv := (hym x).mp (List.mem_of_getElem? er)
      obtain ⟨z, hz⟩ := Option.isSome_iff_exists.mp (isVal_iff.mp hv)
      obtain ⟨kv', t, e1, e2, e3⟩ := ((hZ.same sp).same s2).get hz
      refine ⟨rfl, ⟨_, rfl, _, rfl, Z, _, rfl, dget_of (k := .inl x) e1 e2, t, z, rfl, e3, _, rfl, ?_⟩⟩
      have eo : opnV h x = opn z := by unfold opnV; rw [hz]
      rw [← eo]
      cases ho : opnV h x with
      | true => exact iteT ⟨_, rfl, hy x (if_pos ho) _ _ (Same.refl _) (.int _)⟩
      | false => exact iteF (hn (by rw [ho]; rfl) _ (Same.refl _))
    intro H2 us s2 hD hu
    have eu := dp_ints hu
    subst eu
    have hwm : ∀ v, v ∈ ys.filterMap (fun v => if opnV h v = true then some v else none) ↔ isVal h v ∧ opnV h v = true := fun v => by
      rw [List.mem_filterMap]
      constructor
      · rintro ⟨u, hu, e⟩
        split at e
        · rename_i ho
          cases e
          exact ⟨(hym _).mp hu, ho⟩
        · cases e
      · rintro ⟨h1, h2⟩
        exact ⟨v, (hym v).mpr h1, if_pos h2⟩
    have hwl : (ys.filterMap (fun v => if opnV h v = true then some v else none)).length ≤ 62 := Nat.le_trans (List.length_filterMap_le _ _) hyl
    revert hD hwm hwl
    generalize ys.filterMap (fun v => if opnV h v = true then some v else none) = ws
    intro hD hwm hwl
    clear hu
    -- small
    refine ⟨_, rfl, Z, kvs, ks, rfl, .inl ((sp.trans s2) _ _ k1), k2, by omega, fun ys' p' hp' hso' np' => ⟨p', rfl, ⟨_, SqL.of upd_same⟩, fun D' nD' => ?_⟩⟩
    have sp' := same_upd (o := .lst (ys'.map V.int)) np'
    have hyl' : ys'.length ≤ 62 := by rw [hp'.length_eq]; exact k4
    have hym' : ∀ v, v ∈ ys' ↔ isVal h v := fun v => by rw [hp'.mem_iff, k5 v, isVal_iff]
    refine lc_ty PyData.int PyData.int (fun v => if opnV h v = true then none else some v) (SqL.of upd_same) (ints_dp ys') nD' (by omega) (fun _ => rfl) ?_ ?_
    · intro i v x H3 k kf er s3 pr hy hn
      cases pr
      have hv := (hym' x).mp (List.mem_of_getElem? er)
      obtain ⟨z, hz⟩ := Option.isSome_iff_exists.mp (isVal_iff.mp hv)
      obtain ⟨kv', t, e1, e2, e3⟩ := ((((hZ.same sp).same s2).same sp').same s3).get hz
      refine ⟨rfl, ⟨_, rfl, _, rfl, Z, _, rfl, dget_of (k := .inl x) e1 e2, t, z, rfl, e3, _, rfl, ?_⟩⟩
      have eo : opnV h x = opn z := by unfold opnV; rw [hz]
      rw [← eo]
      cases ho : opnV h x with
      | true => exact iteF (hn (if_pos ho) _ (Same.refl _))
      | false => exact iteT ⟨_, rfl, hy x (by rw [ho]; rfl) _ _ (Same.refl _) (.int _)⟩
    intro H2' us' s2' hD' hu'
    have eu' := dp_ints hu'
    subst eu'
    have hwm' : ∀ v, v ∈ ys'.filterMap (fun v => if opnV h v = true then none else some v) ↔ isVal h v ∧ opnV h v = false := fun v => by
      rw [List.mem_filterMap]
      constructor
      · rintro ⟨u, hu, e⟩
        split at e
        · cases e
        · rename_i ho
          cases e
          exact ⟨(hym' _).mp hu, by simpa using ho⟩
      · rintro ⟨h1, h2⟩
        exact ⟨v, (hym' v).mpr h1, by rw [h2]; rfl⟩
    have hwl' : (ys'.filterMap (fun v => if opnV h v = true then none else some v)).length ≤ 62 := Nat.le_trans (List.length_filterMap_le _ _) hyl'
    revert hD' hwm' hwl'
    generalize ys'.filterMap (fun v => if opnV h v = true then none else some v) = ms
    intro hD' hwm' hwl'
    clear hu'
    have sq := sp'.trans s2'
    have hDq := sq _ _ hD
    -- pairs
    refine ⟨_, rfl, D, rfl, ⟨_, SqL.of hDq⟩, fun D2 nD2 => lc2_ints (c := D') (ys := ms) (fun x y => some (x, y)) (SqL.of hDq) (SqL.of hD') nD2 (by omega) (by omega) ?_ ?_⟩
    · intro x H3 k s3 _ kk hk
      refine hk _ rfl (fun R => ⟨fun z => ?_, fun z => ⟨_, rfl, D', rfl, ⟨_, SqL.of (s3 _ _ hD')⟩, z⟩⟩) fun y H4 kt kf s4 hy hn => ⟨rfl, ?_⟩
      · obtain ⟨v, ev, d, ed, _, hR⟩ := z
        cases ev
        cases ed
        exact hR
      · simp only [tYes, if_true]
        exact ⟨_, rfl, _, rfl, two_ok _ _, fun t nt => hy _ rfl _ _ (same_upd nt) (.tup (SqT.of upd_same) (.cons (.int _) (.cons (.int _) .nil)))⟩
    intro H3 zs s3 hD2 hz
    have hpm : ∀ x : Int × Int, x ∈ (ws.flatMap fun x => ms.filterMap fun y => some (x, y)) ↔ x.1 ∈ ws ∧ x.2 ∈ ms := fun x => by
      rw [List.mem_flatMap]
      constructor
      · rintro ⟨a, h1, h2⟩
        obtain ⟨b, h3, e⟩ := List.mem_filterMap.mp h2
        cases e
        exact ⟨h1, h3⟩
      · rintro ⟨h1, h2⟩
        exact ⟨x.1, h1, List.mem_filterMap.mpr ⟨x.2, h2, rfl⟩⟩
    have hpl : (ws.flatMap fun x => ms.filterMap fun y => some (x, y)).length ≤ 3844 := by
      refine Nat.le_trans (flat_len ws _ 62 fun x => Nat.le_trans (List.length_filterMap_le _ _) hwl') ?_
      exact Nat.mul_le_mul_right 62 hwl
    revert hz hpm hpl
    generalize (ws.flatMap fun x => ms.filterMap fun y => some (x, y)) = ps
    intro hz hpm hpl
    -- the reasons
    refine ⟨_, rfl, D2, rfl, ⟨_, SqL.of hD2⟩, fun D3 nD3 => lc_ty pairD reaD (fun p => if clsV h p.1 p.2 = true then some (("within" : Str), p.1, p.2) else none) (SqL.of hD2) hz nD3 (by omega) reaD_imm ?_ ?_⟩
    · intro i v p H4 k kf er s4 pr hy hn
      obtain ⟨b, rfl, hb⟩ := dp_pair pr
      obtain ⟨m1, m2⟩ := (hpm p).mp (List.mem_of_getElem? er)
      obtain ⟨z, hz⟩ := Option.isSome_iff_exists.mp (isVal_iff.mp ((hwm _).mp m1).1)
      obtain ⟨w, hw⟩ := Option.isSome_iff_exists.mp (isVal_iff.mp ((hwm' _).mp m2).1)
      have hZ4 := ((((hZ.same sp).same s2).same sq).same s3).same s4
      obtain ⟨kv1, t1, e1, e2, e3⟩ := hZ4.get hz
      obtain ⟨kv2, t2, f1, f2, f3⟩ := hZ4.get hw
      refine ⟨b, _, rfl, hb, rfl, _, _, rfl, _, _, rfl, rfl, rfl, ?_⟩
      refine ⟨_, rfl, _, rfl, Z, _, rfl, dget_of (k := .inl p.1) e1 e2, _, rfl, _, rfl, Z, _, rfl, dget_of (k := .inl p.2) f1 f2, t1, t2, z, w, rfl, e3, f3, _, rfl, ?_⟩
      have ec : clsV h p.1 p.2 = clsh z w := by unfold clsV; rw [hz, hw]
      rw [← ec]
      cases hc : clsV h p.1 p.2 with
      | true => exact iteT ⟨_, rfl, _, rfl, three_ok _ _ _, fun t nt => hy _ (if_pos hc) _ _ (same_upd nt) (rea_dp (SqT.of upd_same))⟩
      | false => exact iteF (hn (by rw [hc]; rfl) _ (Same.refl _))
    · intro H4 us s4 hD3 hu
      have sA := (sp.trans s2).trans (sq.trans s3)
      refine q D3 H4 us _ (sA.trans s4) (sA.free nD3) hD3 hu (fun x => ?_) (Nat.le_trans (List.length_filterMap_le _ _) (by omega))
      rw [List.mem_filterMap]
      constructor
      · rintro ⟨p, hp, e⟩
        split at e
        · rename_i hc
          cases e
          obtain ⟨m1, m2⟩ := (hpm p).mp hp
          exact ⟨rfl, ((hwm _).mp m1).1, ((hwm' _).mp m2).1, ((hwm _).mp m1).2, ((hwm' _).mp m2).2, hc⟩
        · cases e
      · rintro ⟨e1, v1, v2, o1, o2, hc⟩
        exact ⟨(x.2.1, x.2.2), (hpm _).mpr ⟨(hwm _).mpr ⟨v1, o1⟩, (hwm' _).mpr ⟨v2, o2⟩⟩, by rw [if_pos hc, ← e1]⟩
abbrev s_reasons_of : Stmt := topS 7
theorem sc_reasons_of : FnScope ["history", "zones"] ["history"] (defScope s_reasons_of) := ⟨rfl, rfl, rfl, by decide +kernel, rfl, by decide +kernel, by decide +kernel⟩
/-- all reasons, by words as they go first -/
structure Reas (h : List HRow) (E B W : List Reason) : Prop where
  e : ∀ x : Reason, x ∈ E ↔ x.1 = ("early" : Str) ∧ EarlyP h x.2.1 x.2.2
  b : ∀ x : Reason, x ∈ B ↔ x.1 = ("both" : Str) ∧ BothP h x.2.1 x.2.2
  w : ∀ x : Reason, x ∈ W ↔ x.1 = ("within" : Str) ∧ WithinP h x.2.1 x.2.2
def spreasons_of (K : PySem.W.Frag) : Sp := fun vs H Q _ => ∃ (v : V) (h : List HRow), vs = [v] ∧ Dp K H v (.list (h.map hD)) ∧ h.length ≤ 61 ∧ OneW h ∧ ∀ (p : Addr) (H' : Hp) (ys : List V) (E B W : List Reason), Same H H' → H p = none → H' p = some (.lst ys) → DpAll K H' ys ((E ++ B ++ W).map reaD) → Reas h E B W → (E ++ B ++ W).length ≤ 30000 → Q (.ref p) H'
theorem ok_reasons_of {f : Addr} {fd : FuncData} (F : Fun K "reasons_of" "reasons_of" s_reasons_of f fd) (gm : mg "reasons_of" = some (.ref f)) (N : Fre K mg) (c_both_reasons : C8.Cal P w K mg base 2 "both_reasons" (spboth_reasons K) []) (c_early_reasons : C8.Cal P w K mg base 1 "early_reasons" (spearly_reasons K) []) (c_within_reasons : C8.Cal P w K mg base 2 "within_reasons" (spwithin_reasons K) []) (c_zones_of : C8.Cal P w K mg base 1 "zones_of" (spzones_of K) []) : C8.Cal P w K mg base 3 "reasons_of" (spreasons_of K) [] := by
  refine mkCal F gm sc_reasons_of (F.binds (ps := ["history"]) fun _ _ _ _ _ _ us hl => match us, hl with | [_], _ => rfl) (fun vs H Q E h => ?_) (fun cdv A outer s H vs Q E hr h => ?_)
  · obtain ⟨v, h, rfl, _⟩ := h
    rfl
  · obtain ⟨v, h, rfl, hv, hlen, one, q⟩ := h
    refine ⟨_, (pss_cons (ps_set (i := 1) sc_reasons_of.nd rfl (.inl rfl) (C8.pe_c c_zones_of hr (by decide) rfl (pa_cons (pv 0) pa_nil)))
 (pss_one (ps_ret (pe_op op_cat (pe_op op_cat (C8.pe_c c_early_reasons hr (by decide) rfl (pa_cons (pv 0) pa_nil)) (C8.pe_c c_both_reasons hr (by decide) rfl (pa_cons (pv 1) pa_nil))) (C8.pe_c c_within_reasons hr (by decide) rfl (pa_cons (pv 1) pa_nil)))))), ?_⟩
    refine ⟨_, rfl, v, h, rfl, hv, hlen, fun Z H1 s1 nZ hZ => ?_⟩
    refine ⟨_, rfl, v, h, rfl, dp_same s1 _ _ hv, hlen, one, fun p1 H2 y1 E s2 n1 h1 a1 c1 l1 => ?_⟩
    refine ⟨_, rfl, Z, h, rfl, hZ.same s2, fun p2 H3 y2 B s3 n2 h2 a2 c2 l2 => ?_⟩
    have e1 := dpAll_len a1
    have e2 := dpAll_len a2
    rw [List.length_map] at e1 e2
    refine ⟨p1, p2, _, _, rfl, rfl, s3 _ _ h1, h2, by rw [sizeLine_eq]; omega, fun p3 n3 => ?_⟩
    have s4 := same_upd (o := .lst (y1 ++ y2)) n3
    refine ⟨_, rfl, Z, h, rfl, ((hZ.same s2).same s3).same s4, fun p5 H5 y5 W s5 n5 h5 a5 c5 l5 => ?_⟩
    have e5 := dpAll_len a5
    rw [List.length_map] at e5
    refine ⟨p3, p5, _, _, rfl, rfl, s5 _ _ upd_same, h5, by rw [List.length_append, sizeLine_eq]; omega, fun p6 n6 => ?_⟩
    have s6 := same_upd (o := .lst (y1 ++ y2 ++ y5)) n6
    have sA := s1.trans (s2.trans (s3.trans (s4.trans s5)))
    refine q p6 _ _ E B W (sA.trans s6) (sA.free n6) upd_same ?_ ⟨c1, c2, c5⟩ (by rw [List.length_append, List.length_append]; omega)
    rw [List.map_append, List.map_append]
    exact dpAll_append (dpAll_append (dp_sameAll (s3.trans (s4.trans (s5.trans s6))) _ _ a1) (dp_sameAll (s4.trans (s5.trans s6)) _ _ a2)) (dp_sameAll s6 _ _ a5)

/-! ### shows_none -/
theorem rea_eqv (x y : Reason) : PyData.eqv (reaD x) (reaD y) = decide (x = y) := by
  obtain ⟨w, a, b⟩ := x
  obtain ⟨w', a', b'⟩ := y
  simp only [reaD, PyData.eqv, PyData.eqvAll, Bool.and_true]
  by_cases h1 : w = w'
  · by_cases h2 : a = a'
    · by_cases h3 : b = b'
      · subst h1; subst h2; subst h3
        simp
      · simp [h3]
    · simp [h2]
  · simp [h1]
theorem rea_lay {x : Reason} (h : PyData.strOk x.1 = true) : (reaD x).canLay0 = true := by simp [reaD, PyData.canLay0, PyData.canLayAll0, h]
theorem rea_deep (x : Reason) : (reaD x).depth ≤ 1 := by simp [reaD, PyData.depth, PyData.depthAll]
theorem rea_sh {x : Reason} (h : PyData.strOk x.1 = true) : SeqAt.shaped (reaD x) = true := by
  unfold SeqAt.shaped
  rw [rea_lay h, decide_eq_true (Nat.le_trans (rea_deep x) (by decide))]
  rfl
theorem reas_sh {xs : List Reason} (h : ∀ x ∈ xs, PyData.strOk x.1 = true) : SeqAt.shaped (.list (xs.map reaD)) = true := by
  have h1 : (PyData.list (xs.map reaD)).canLay0 = true := by
    rw [PyData.canLay0]
    induction xs with
    | nil => simp [PyData.canLayAll0]
    | cons r rs ih =>
      rw [List.map_cons, PyData.canLayAll0, rea_lay (h r List.mem_cons_self), ih fun r' hr' => h r' (List.mem_cons_of_mem _ hr')]
      rfl
  have h2 : (PyData.list (xs.map reaD)).depth ≤ 64 := by
    have : PyData.depthAll (xs.map reaD) ≤ 1 := by
      clear h h1
      induction xs with
      | nil => simp [PyData.depthAll]
      | cons r rs ih =>
        rw [List.map_cons, PyData.depthAll]
        exact Nat.max_le.mpr ⟨rea_deep r, ih⟩
    rw [PyData.depth]
    omega
  unfold SeqAt.shaped
  rw [h1, decide_eq_true h2]
  rfl
theorem early_ok : PyData.strOk ("early" : Str) = true := by decide +kernel
theorem both_ok' : PyData.strOk ("both" : Str) = true := by decide +kernel
theorem within_ok : PyData.strOk ("within" : Str) = true := by decide +kernel
theorem Reas.ok {h : List HRow} {E B W : List Reason} (r : Reas h E B W) : ∀ x ∈ E ++ B ++ W, PyData.strOk x.1 = true := fun x hx => by
  rcases List.mem_append.mp hx with hx | hx
  · rcases List.mem_append.mp hx with hx | hx
    · rw [((r.e x).mp hx).1]
      exact early_ok
    · rw [((r.b x).mp hx).1]
      exact both_ok'
  · rw [((r.w x).mp hx).1]
    exact within_ok
/-- a reason that is just so -/
def ShowsP (h : List HRow) (x : Reason) : Prop := (x.1 = ("early" : Str) ∧ EarlyP h x.2.1 x.2.2) ∨ (x.1 = ("both" : Str) ∧ BothP h x.2.1 x.2.2) ∨ (x.1 = ("within" : Str) ∧ WithinP h x.2.1 x.2.2)
theorem Reas.shows {h : List HRow} {E B W : List Reason} (r : Reas h E B W) (x : Reason) : x ∈ E ++ B ++ W ↔ ShowsP h x := by
  unfold ShowsP
  rw [List.mem_append, List.mem_append, r.e x, r.b x, r.w x, or_assoc]
theorem any_eqv (xs : List Reason) (x : Reason) : ((xs.map reaD).any fun z => PyData.eqv z (reaD x)) = decide (x ∈ xs) := by
  rw [List.any_map]
  by_cases h : x ∈ xs
  · rw [decide_eq_true h, List.any_eq_true]
    exact ⟨x, h, by simp [rea_eqv]⟩
  · rw [decide_eq_false h, List.any_eq_false]
    intro y hy
    simp only [Function.comp, rea_eqv, decide_eq_true_eq]
    exact fun z => h (z ▸ hy)
theorem hu65 {A : Around} {k : Nat} (hr : Room k A) : A.units + 65 < cLine := by
  have := hr.un
  omega

abbrev s_shows_none : Stmt := topS 8
theorem sc_shows_none : FnScope ["history", "reason"] ["history", "reason"] (defScope s_shows_none) := ⟨rfl, rfl, rfl, by decide +kernel, rfl, by decide +kernel, by decide +kernel⟩
def spshows_none (K : PySem.W.Frag) : Sp := fun vs H Q _ => ∃ (v u : V) (h : List HRow) (x : Reason), vs = [v, u] ∧ Dp K H v (.list (h.map hD)) ∧ Dp K H u (reaD x) ∧ PyData.strOk x.1 = true ∧ h.length ≤ 61 ∧ OneW h ∧ ∀ H' c, Same H H' → (c = true ↔ ShowsP h x) → Q (.bl c) H'
theorem ok_shows_none {f : Addr} {fd : FuncData} (F : Fun K "shows_none" "shows_none" s_shows_none f fd) (gm : mg "shows_none" = some (.ref f)) (N : Fre K mg) (c_reasons_of : C8.Cal P w K mg base 3 "reasons_of" (spreasons_of K) []) : C8.Cal P w K mg base 4 "shows_none" (spshows_none K) [] := by
  refine mkCal F gm sc_shows_none (F.binds (ps := ["history", "reason"]) fun _ _ _ _ _ _ us hl => match us, hl with | [_, _], _ => rfl) (fun vs H Q E h => ?_) (fun cdv A outer s H vs Q E hr h => ?_)
  · obtain ⟨v, u, h, x, rfl, _⟩ := h
    rfl
  · obtain ⟨v, u, h, x, rfl, hv, hu, okx, hlen, one, q⟩ := h
    refine ⟨_, (pss_one (ps_ret (pe_cmpR (op_inD (hu65 hr)) (pv 1) (C8.pe_c c_reasons_of hr (by decide) rfl (pa_cons (pv 0) pa_nil)) (by with_unfolding_all rfl)))), ?_⟩
    refine ⟨_, rfl, _, rfl, v, h, rfl, hv, hlen, one, fun p H1 ys E B W s1 np h1 a1 r1 l1 => ?_⟩
    refine ⟨_, _, dp_same s1 _ _ hu, .lst (SqL.of h1) a1, rea_sh okx, reas_sh r1.ok, ?_⟩
    rw [any_eqv]
    exact q H1 _ s1 (by rw [decide_eq_true_iff]; exact r1.shows x)

/-! ### a history drawn -/
structure HGood (h : List HRow) : Prop where
  one : OneW h
  tn : (h.map (·.t)).Nodup
  rd : ∀ r ∈ h, r.wr = false → r.v = 0 ∨ ∃ w ∈ h, w.wr = true ∧ w.v = r.v
  tm : ∀ r ∈ h, 0 ≤ r.b ∧ r.b < r.e ∧ r.e ≤ 10000
  vb : ∀ r ∈ h, 0 ≤ r.v ∧ r.v ≤ 999 ∧ (r.wr = true → 1 ≤ r.v)
  tt : ∀ r ∈ h, 0 ≤ r.t ∧ r.t < 70
theorem HGood.perm {h h' : List HRow} (g : HGood h) (p : h.Perm h') : HGood h' := by
  have m : ∀ {r}, r ∈ h' → r ∈ h := fun hr => p.mem_iff.mpr hr
  refine ⟨fun r w hr hw => g.one r w (m hr) (m hw), (p.map (·.t)).nodup_iff.mp g.tn, fun r hr e => ?_, fun r hr => g.tm r (m hr), fun r hr => g.vb r (m hr), fun r hr => g.tt r (m hr)⟩
  rcases g.rd r (m hr) e with z | ⟨w, hw, z⟩
  · exact .inl z
  · exact .inr ⟨w, p.mem_iff.mp hw, z⟩
structure HInv (i : Nat) (vals : List Int) (rs : List HRow) (ns : List Int) : Prop where
  good : HGood rs
  len : rs.length = i
  nl : ns.length + i = 70
  nn : ns.Nodup
  nd : ∀ r ∈ rs, r.t ∉ ns
  nb : ∀ n ∈ ns, 0 ≤ n ∧ n < 70
  v0 : vals ≠ []
  vl : vals.length ≤ i + 1
  vv : ∀ v ∈ vals, v = 0 ∨ ∃ w ∈ rs, w.wr = true ∧ w.v = v
  wv : ∀ r ∈ rs, r.wr = true → ∃ j : Nat, j < i ∧ r.v = 1 + ((j : Int) * 100 + 11) % 999
theorem erase_sub {ns : List Int} {k : Nat} {n : Int} (h : n ∈ ns.eraseIdx k) : n ∈ ns := List.mem_of_mem_eraseIdx h
theorem erase_not {ns : List Int} {k : Nat} {n : Int} (nd : ns.Nodup) (e : ns[k]? = some n) : n ∉ ns.eraseIdx k := by
  intro h
  obtain ⟨hk, ek⟩ := List.getElem?_eq_some_iff.mp e
  have e1 : ns = ns.take k ++ n :: ns.drop (k + 1) := by rw [← ek, List.getElem_cons_drop, List.take_append_drop]
  rw [List.eraseIdx_eq_take_drop_succ] at h
  rw [e1] at nd
  rw [List.nodup_append] at nd
  obtain ⟨_, n2, n3⟩ := nd
  rcases List.mem_append.mp h with h | h
  · exact n3 n h n List.mem_cons_self rfl
  · exact (List.nodup_cons.mp n2).1 h
theorem HInv.step {i : Nat} {vals vals' : List Int} {rs : List HRow} {ns : List Int} {k : Nat} {r : HRow} (h : HInv i vals rs ns) (hk : ns[k]? = some r.t) (tm : 0 ≤ r.b ∧ r.b < r.e ∧ r.e ≤ 10000) (hi : i < 61)
    (hv : (r.wr = true ∧ r.v = 1 + ((i : Int) * 100 + 11) % 999 ∧ vals' = vals ++ [r.v]) ∨ (r.wr = false ∧ r.v ∈ vals ∧ vals' = vals)) : HInv (i + 1) vals' (rs ++ [r]) (ns.eraseIdx k) := by
  have hkl := (List.getElem?_eq_some_iff.mp hk).1
  have mn : r.t ∈ ns := List.mem_of_getElem? hk
  have new : r.wr = true → ∀ w ∈ rs, w.wr = true → w.v ≠ r.v := fun hw w hwm hww e => by
    rcases hv with ⟨_, ev, _⟩ | ⟨z, _⟩
    · obtain ⟨j, hj, ej⟩ := h.wv w hwm hww
      rw [ev, ej] at e
      omega
    · rw [hw] at z
      cases z
  have mem : ∀ {w : HRow}, w ∈ rs ++ [r] ↔ w ∈ rs ∨ w = r := fun {w} => by simp
  refine ⟨⟨fun x w hx hw x1 w1 e => ?_, ?_, fun x hx e => ?_, fun x hx => ?_, fun x hx => ?_, fun x hx => ?_⟩, ?_, ?_, ?_, fun x hx z => ?_, fun n hn => h.nb n (erase_sub hn), ?_, ?_, fun v hv' => ?_, fun x hx e => ?_⟩
  · rcases mem.mp hx with a | a
    · rcases mem.mp hw with c | c
      · exact h.good.one x w a c x1 w1 e
      · rw [c] at w1 e
        exact absurd e (new w1 x a x1)
    · rcases mem.mp hw with c | c
      · rw [a] at x1 e
        exact absurd e.symm (new x1 w c w1)
      · rw [a, c]
  · rw [List.map_append, List.nodup_append]
    refine ⟨h.good.tn, by simp, fun a ha c hc e => ?_⟩
    obtain ⟨w, hw, rfl⟩ := List.mem_map.mp ha
    have : c = r.t := by simpa using hc
    subst this
    exact h.nd w hw (e ▸ mn)
  · rcases mem.mp hx with hx | rfl
    · rcases h.good.rd x hx e with z | ⟨w, hw, z⟩
      · exact .inl z
      · exact .inr ⟨w, mem.mpr (.inl hw), z⟩
    · rcases hv with ⟨z, _⟩ | ⟨_, z, _⟩
      · rw [e] at z
        cases z
      · rcases h.vv _ z with z | ⟨w, hw, z⟩
        · exact .inl z
        · exact .inr ⟨w, mem.mpr (.inl hw), z⟩
  · rcases mem.mp hx with hx | rfl
    · exact h.good.tm x hx
    · exact tm
  · rcases mem.mp hx with hx | rfl
    · exact h.good.vb x hx
    · rcases hv with ⟨_, z, _⟩ | ⟨z0, z, _⟩
      · rw [z]
        omega
      · rcases h.vv _ z with z | ⟨w, hw, w1, w2⟩
        · exact ⟨by omega, by omega, fun z1 => by rw [z0] at z1; cases z1⟩
        · obtain ⟨b1, b2, _⟩ := h.good.vb w hw
          exact ⟨by omega, by omega, fun z1 => by rw [z0] at z1; cases z1⟩
  · rcases mem.mp hx with hx | rfl
    · exact h.good.tt x hx
    · exact h.nb _ mn
  · rw [List.length_append, h.len]
    rfl
  · have := h.nl
    rw [List.length_eraseIdx_of_lt hkl]
    omega
  · exact h.nn.sublist (List.eraseIdx_sublist _ _)
  · rcases mem.mp hx with hx | rfl
    · exact h.nd x hx (erase_sub z)
    · exact erase_not h.nn hk z
  · rcases hv with ⟨_, _, rfl⟩ | ⟨_, _, rfl⟩
    · simp
    · exact h.v0
  · have := h.vl
    rcases hv with ⟨_, _, rfl⟩ | ⟨_, _, rfl⟩
    · rw [List.length_append]
      show _ + 1 ≤ _
      omega
    · omega
  · rcases hv with ⟨z0, _, rfl⟩ | ⟨_, _, rfl⟩
    · rcases List.mem_append.mp hv' with hv' | hv'
      · rcases h.vv v hv' with z | ⟨w, hw, z⟩
        · exact .inl z
        · exact .inr ⟨w, mem.mpr (.inl hw), z⟩
      · rw [List.mem_singleton.mp hv']
        exact .inr ⟨r, mem.mpr (.inr rfl), z0, rfl⟩
    · rcases h.vv v hv' with z | ⟨w, hw, z⟩
      · exact .inl z
      · exact .inr ⟨w, mem.mpr (.inl hw), z⟩
  · rcases mem.mp hx with hx | rfl
    · obtain ⟨j, hj, ej⟩ := h.wv x hx e
      exact ⟨j, by omega, ej⟩
    · rcases hv with ⟨_, z, _⟩ | ⟨z, _⟩
      · exact ⟨i, by omega, z⟩
      · rw [e] at z
        cases z
theorem Bag.put {H : Hp} {b L : Addr} {o : HO} (g : Bag H b) (n : L ≠ b) : Bag (upd H L o) b := by
  obtain ⟨x, y, e, r⟩ := g
  exact ⟨x, y, by rw [upd_ne n.symm]; exact e, r⟩
theorem Bag.keep {H H' : Hp} {b : Addr} (g : Bag H b) (s : Same H H') : Bag H' b := by
  obtain ⟨x, y, e, r⟩ := g
  exact ⟨x, y, s _ _ e, r⟩
/-- a list of rows, as it stands -/
def HsAt (K : PySem.W.Frag) (H : Hp) (L : Addr) (rs : List HRow) : Prop := ∃ ys, H L = some (.lst ys) ∧ DpAll K H ys (rs.map hD)
theorem HsAt.same {H H' : Hp} {L : Addr} {rs : List HRow} (h : HsAt K H L rs) (s : Same H H') : HsAt K H' L rs := by
  obtain ⟨zs, h1, h2⟩ := h
  exact ⟨zs, s _ _ h1, dp_sameAll s _ _ h2⟩
theorem HsAt.but {H H' : Hp} {L b : Addr} {o : HO} {rs : List HRow} (h : HsAt K H L rs) (hb : H b = some o) (nf : ¬ Fix o) (n : L ≠ b) (s : But b H H') : HsAt K H' L rs := by
  obtain ⟨zs, h1, h2⟩ := h
  exact ⟨zs, s _ _ n h1, dp_ktAll (Kt.but s hb nf) _ _ (hs_imm _) h2⟩
theorem HsAt.bag {H H' : Hp} {L b : Addr} {rs : List HRow} (h : HsAt K H L rs) (g : Bag H b) (n : L ≠ b) (s : But b H H') : HsAt K H' L rs := by
  obtain ⟨x, y, e, _⟩ := g
  exact h.but e (fun z => z) n s
theorem HsAt.len {H : Hp} {L : Addr} {rs : List HRow} {ys : List V} (h : HsAt K H L rs) (e : H L = some (.lst ys)) : ys.length = rs.length := by
  obtain ⟨zs, h1, h2⟩ := h
  rw [e] at h1
  cases h1
  have := dpAll_len h2
  rwa [List.length_map] at this
theorem HsAt.dp {H : Hp} {L : Addr} {rs : List HRow} (h : HsAt K H L rs) : Dp K H (.ref L) (.list (rs.map hD)) := by
  obtain ⟨zs, h1, h2⟩ := h
  exact .lst (SqL.of h1) h2
theorem HsAt.app {H : Hp} {L p : Addr} {rs : List HRow} {r : HRow} {ys : List V} (h : HsAt K H L rs) (e : H L = some (.lst ys)) (hp : Dp K H (.ref p) (hD r)) : HsAt K (upd H L (.lst (ys ++ [.ref p]))) L (rs ++ [r]) := by
  obtain ⟨zs, h1, h2⟩ := h
  rw [e] at h1
  cases h1
  have ku := Kt.upd (o' := .lst (ys ++ [.ref p])) e (fun z => z)
  refine ⟨_, upd_same, ?_⟩
  rw [List.map_append]
  exact dpAll_append (dp_ktAll ku _ _ (hs_imm _) h2) (.cons (dp_kt ku _ _ (hD_imm r) hp) .nil)
structure L3 (K : PySem.W.Frag) (H : Hp) (b Lv Lr Ln : Addr) (vals : List Int) (rs : List HRow) (ns : List Int) : Prop where
  bag : Bag H b
  v : H Lv = some (.lst (vals.map V.int))
  r : HsAt K H Lr rs
  n : H Ln = some (.lst (ns.map V.int))
  d1 : Lv ≠ b
  d2 : Lr ≠ b
  d3 : Ln ≠ b
  d4 : Lv ≠ Lr
  d5 : Lv ≠ Ln
  d6 : Lr ≠ Ln
section
variable {H H' : Hp} {b Lv Lr Ln : Addr} {vals : List Int} {rs : List HRow} {ns : List Int}
theorem L3.but (h : L3 K H b Lv Lr Ln vals rs ns) (s : But b H H') (g : Bag H' b) : L3 K H' b Lv Lr Ln vals rs ns := ⟨g, s _ _ h.d1 h.v, h.r.bag h.bag h.d2 s, s _ _ h.d3 h.n, h.d1, h.d2, h.d3, h.d4, h.d5, h.d6⟩
theorem L3.same (h : L3 K H b Lv Lr Ln vals rs ns) (s : Same H H') : L3 K H' b Lv Lr Ln vals rs ns := ⟨h.bag.keep s, s _ _ h.v, h.r.same s, s _ _ h.n, h.d1, h.d2, h.d3, h.d4, h.d5, h.d6⟩
theorem L3.putV (h : L3 K H b Lv Lr Ln vals rs ns) (vals' : List Int) : L3 K (upd H Lv (.lst (vals'.map V.int))) b Lv Lr Ln vals' rs ns :=
  ⟨h.bag.put h.d1, upd_same, h.r.but h.v (fun z => z) h.d4.symm But.put, by rw [upd_ne h.d5.symm]; exact h.n, h.d1, h.d2, h.d3, h.d4, h.d5, h.d6⟩
theorem L3.putN (h : L3 K H b Lv Lr Ln vals rs ns) (ns' : List Int) : L3 K (upd H Ln (.lst (ns'.map V.int))) b Lv Lr Ln vals rs ns' :=
  ⟨h.bag.put h.d3, by rw [upd_ne h.d5]; exact h.v, h.r.but h.n (fun z => z) h.d6 But.put, upd_same, h.d1, h.d2, h.d3, h.d4, h.d5, h.d6⟩
theorem L3.putR (h : L3 K H b Lv Lr Ln vals rs ns) {ys : List V} {p : Addr} {r : HRow} (e : H Lr = some (.lst ys)) (hp : Dp K H (.ref p) (hD r)) : L3 K (upd H Lr (.lst (ys ++ [.ref p]))) b Lv Lr Ln vals (rs ++ [r]) ns :=
  ⟨h.bag.put h.d2, by rw [upd_ne h.d4]; exact h.v, h.r.app e hp, by rw [upd_ne h.d6.symm]; exact h.n, h.d1, h.d2, h.d3, h.d4, h.d5, h.d6⟩
end
theorem dpA_erase {H : Hp} : ∀ {vs : List V} {ds : List PyData} (n : Nat), DpAll K H vs ds → DpAll K H (vs.eraseIdx n) (ds.eraseIdx n)
  | _, _, 0, .nil => .nil
  | _, _, n + 1, .nil => .nil
  | _, _, 0, .cons h1 h2 => h2
  | _, _, n + 1, .cons h1 h2 => .cons h1 (dpA_erase n h2)
theorem _root_.List.eraseIdx_map' {α β : Type} (f : α → β) : ∀ (l : List α) (k : Nat), (l.map f).eraseIdx k = (l.eraseIdx k).map f
  | [], _ => rfl
  | _ :: _, 0 => rfl
  | a :: l, k + 1 => congrArg (f a :: ·) (List.eraseIdx_map' f l k)
theorem erase_perm {α : Type} {l : List α} {k : Nat} {r : α} (e : l[k]? = some r) : ([r] ++ l.eraseIdx k).Perm l := by
  obtain ⟨hk, ek⟩ := List.getElem?_eq_some_iff.mp e
  have e1 : l = l.take k ++ r :: l.drop (k + 1) := by rw [← ek, List.getElem_cons_drop, List.take_append_drop]
  rw [List.eraseIdx_eq_take_drop_succ]
  conv => rhs; rw [e1]
  exact (show (r :: (l.take k ++ l.drop (k + 1))).Perm _ from List.perm_middle.symm)
abbrev s__law_history : Stmt := topS 12
theorem sc__law_history : FnScope ["bag", "most", "many", "loose", "wild", "values", "rows", "numbers", "turn", "time", "start", "end", "number", "value", "left"] ["bag", "most"] (defScope s__law_history) := ⟨rfl, rfl, rfl, by decide +kernel, rfl, by decide +kernel, by decide +kernel⟩
def sp_law_history (K : PySem.W.Frag) : Sp := fun vs H Q _ => ∃ (b : Addr) (m : Int), vs = [.ref b, .int m] ∧ Bag H b ∧ 0 ≤ m ∧ m ≤ 60 ∧ ∀ (p : Addr) (H' : Hp) (h : List HRow), HGood h → (h.length : Int) ≤ m → H p = none → But b H H' → Bag H' b → HsAt K H' p h → Q (.ref p) H'
theorem ints_at {vals : List Int} {k : Nat} {v : Int} (e : vals[k]? = some v) : (vals.map V.int)[k]? = some (.int v) := by
  rw [List.getElem?_map, e]
  rfl
theorem erase_ints (ns : List Int) (k : Nat) : (ns.map V.int).eraseIdx k = (ns.eraseIdx k).map V.int := by
  exact L2.erase_mapI ns k
theorem seqIx {n k : Nat} (h : k < n) : seqIndex? ((k : Nat) : Int) n = some k := by
  unfold seqIndex?
  rw [if_neg (show ¬ ((k : Nat) : Int) < 0 by omega)]
  simp
  omega
theorem last_int {vals : List Int} (h : vals ≠ []) : ∃ v, v ∈ vals ∧ atI (vals.map V.int) (-1) = some (.int v) := by
  rcases List.eq_nil_or_concat vals with rfl | ⟨ys, y, rfl⟩
  · exact absurd rfl h
  rw [List.concat_eq_append]
  refine ⟨y, by simp, ?_⟩
  rw [List.map_append]
  exact last_at _ _
theorem ok__law_history {f : Addr} {fd : FuncData} (F : Fun K "_law_history" "_law_history" s__law_history f fd) (gm : mg "_law_history" = some (.ref f)) (N : Fre K mg) (c__law_take : C8.Cal P w K mg base 1 "_law_take" sp_law_take []) : C8.Cal P w K mg base 2 "_law_history" (sp_law_history K) [] := by
  refine mkCal F gm sc__law_history (F.binds (ps := ["bag", "most"]) fun _ _ _ _ _ _ us hl => match us, hl with | [_, _], _ => rfl) (fun vs H Q E h => ?_) (fun cdv A outer s H vs Q E hr h => ?_)
  · obtain ⟨b, m, rfl, _⟩ := h
    rfl
  · obtain ⟨b, m, rfl, hB, hm0, hm1, q⟩ := h
    refine ⟨_, (pss_cons (ps_set (i := 2) sc__law_history.nd rfl (.inl rfl) (C8.pe_c c__law_take hr (by decide) rfl (pa_cons (pv 0) (pa_cons (pe_op op_add (pv 1) pe_int) pa_nil))))
 (pss_cons (ps_set (i := 3) sc__law_history.nd rfl (.inl rfl) (pe_ix ix_list (pe_lst (pa_cons pe_int (pa_cons pe_int (pa_cons pe_int (pa_cons pe_int pa_nil))))) (C8.pe_c c__law_take hr (by decide) rfl (pa_cons (pv 0) (pa_cons pe_int pa_nil))) (fun _ _ => rfl)))
 (pss_cons (ps_set (i := 4) sc__law_history.nd rfl (.inl rfl) (C8.pe_c c__law_take hr (by decide) rfl (pa_cons (pv 0) (pa_cons pe_int pa_nil))))
 (pss_cons (ps_set (i := 5) sc__law_history.nd rfl (.inl rfl) (pe_lst (pa_cons pe_int pa_nil)))
 (pss_cons (ps_set (i := 6) sc__law_history.nd rfl (.inl rfl) (pe_lst pa_nil))
 (pss_cons (ps_set (i := 7) sc__law_history.nd rfl (.inl rfl) (pe_listRg rfl (by rfl) N.list (prg_1 (by rfl) N.range pe_int)))
 (pss_cons (ps_for PassesOwn.never rfl (pi_range1 (by rfl) N.range (pa_cons (pv 2) pa_nil)) (pg_name (i := 8) sc__law_history.nd rfl (.inl rfl))
 (pss_cons (ps_set (i := 9) sc__law_history.nd rfl (.inl rfl) (pe_op op_add (pe_op op_mul pe_int (pv 8)) pe_int))
 (pss_cons (ps_set (i := 10) sc__law_history.nd rfl (.inl rfl) (pe_callB (call_max2 rfl) (by rfl) N.max (by decide +kernel) (pa_cons pe_int (pa_cons (pe_op op_sub (pv 9) (C8.pe_c c__law_take hr (by decide) rfl (pa_cons (pv 0) (pa_cons (pe_op op_mul pe_int (pv 3)) pa_nil)))) pa_nil))))
 (pss_cons (ps_set (i := 11) sc__law_history.nd rfl (.inl rfl) (pe_op op_add (pe_op op_add (pv 9) pe_int) (C8.pe_c c__law_take hr (by decide) rfl (pa_cons (pv 0) (pa_cons (pe_op op_mul pe_int (pv 3)) pa_nil)))))
 (pss_cons (ps_set (i := 12) sc__law_history.nd rfl (.inl rfl) (pe_bm PySem.F.plainAttrs_list PySem.F.slot_list_pop PySem.F.type_list_pop mt_popAt (pv 7) (pa_cons (C8.pe_c c__law_take hr (by decide) rfl (pa_cons (pv 0) (pa_cons (pe_callB call_len_seq (by rfl) N.len (by decide +kernel) (pa_cons (pv 7) pa_nil)) pa_nil))) pa_nil)))
 (pss_one (ps_if (pt_cmpR op_eq (C8.pe_c c__law_take hr (by decide) rfl (pa_cons (pv 0) (pa_cons pe_int pa_nil))) pe_int (nomark _))
 (pss_cons (ps_expr (pe_bm PySem.F.plainAttrs_list PySem.F.slot_list_append PySem.F.type_list_append mt_append (pv 5) (pa_cons (pe_op op_add pe_int (pe_op op_mod (pe_op op_add (pe_op op_mul (pv 8) pe_int) pe_int) pe_int)) pa_nil)))
 (pss_one (ps_expr (pe_bm PySem.F.plainAttrs_list PySem.F.slot_list_append PySem.F.type_list_append mt_append (pv 6) (pa_cons (pe_tup (pa_cons (pv 12) (pa_cons pe_str (pa_cons (pe_ix ix_list (pv 5) (pe_un un_neg pe_int) (fun _ _ => rfl)) (pa_cons (pv 10) (pa_cons (pv 11) pa_nil)))))) pa_nil)))))
 (pss_cons (ps_set (i := 13) sc__law_history.nd rfl (.inl rfl) (pe_ix ix_list (pv 5) (pe_un un_neg pe_int) (fun _ _ => rfl)))
 (C8.pss_cut (ps_if (PW.pt (pw_and (pt_cmpR op_eq (pv 4) pe_int (nomark _)) (pw_and1 (pt_cmpR op_eq (C8.pe_c c__law_take hr (by decide) rfl (pa_cons (pv 0) (pa_cons pe_int pa_nil))) pe_int (nomark _)))))
 (pss_one (ps_set (i := 13) sc__law_history.nd rfl (.inl rfl) (pe_ix ix_list (pv 5) (C8.pe_c c__law_take hr (by decide) rfl (pa_cons (pv 0) (pa_cons (pe_callB call_len_seq (by rfl) N.len (by decide +kernel) (pa_cons (pv 5) pa_nil)) pa_nil))) (fun _ _ => rfl))))
 pss_nil)
 (pss_one (ps_expr (pe_bm PySem.F.plainAttrs_list PySem.F.slot_list_append PySem.F.type_list_append mt_append (pv 6) (pa_cons (pe_tup (pa_cons (pv 12) (pa_cons pe_str (pa_cons (pv 13) (pa_cons (pv 10) (pa_cons (pv 11) pa_nil)))))) pa_nil)))))))))))))
 (pss_cons (ps_set (i := 14) sc__law_history.nd rfl (.inl rfl) (pe_callTy call_list_of (by rfl) N.list (by decide +kernel) (pa_cons (pv 6) pa_nil)))
 (pss_cons (ps_set (i := 6) sc__law_history.nd rfl (.inl rfl) (pe_lst pa_nil))
 (pss_cons (ps_while PassesOwn.never (pt_cmpR (op_neNil (hu0 hr)) (pv 14) (pe_lst pa_nil) (nomark _))
 (pss_one (ps_expr (pe_bm PySem.F.plainAttrs_list PySem.F.slot_list_append PySem.F.type_list_append mt_append (pv 6) (pa_cons (pe_bm PySem.F.plainAttrs_list PySem.F.slot_list_pop PySem.F.type_list_pop mt_popAt (pv 14) (pa_cons (C8.pe_c c__law_take hr (by decide) rfl (pa_cons (pv 0) (pa_cons (pe_callB call_len_seq (by rfl) N.len (by decide +kernel) (pa_cons (pv 14) pa_nil)) pa_nil))) pa_nil)) pa_nil)))))
 (pss_one (ps_ret (pv 6))))))))))))), ?_⟩
    -- many, loose, wild
    refine ⟨_, rfl, _, rfl, m, 1, rfl, rfl, b, _, rfl, hB, by omega, by omega, fun many H1 mn0 mn1 B1 G1 => ?_⟩
    refine ⟨four_ok _ _ _ _, fun L nL => ?_⟩
    refine ⟨_, rfl, b, 4, rfl, G1.new nL, by decide, by decide, fun i H2 i0 i1 B2 G2 => ?_⟩
    obtain ⟨loose, hlo, elo⟩ := pickInt [1, 3, 8, 40] i0 (by show i < 4; exact i1)
    have hL : H2 L = some (.lst ([1, 3, 8, 40].map V.int)) := B2 _ _ (G1.ne nL) upd_same
    refine ⟨L, _, i, _, rfl, rfl, SqL.of hL, elo, ?_⟩
    have hlo2 : 1 ≤ loose ∧ loose ≤ 40 := by
      simp only [List.mem_cons, List.not_mem_nil, or_false] at hlo
      omega
    have b2 : But b H H2 := B1.trans ((But.new nL).trans B2)
    clear hL B1 B2 nL elo hlo G1
    refine ⟨_, rfl, b, 4, rfl, G2, by decide, by decide, fun wild H3 w0 w1 B3 G3 => ?_⟩
    have b3 := b2.trans B3
    -- values, rows, numbers
    refine ⟨(by show 1 ≤ sizeLine; decide), fun Lv nLv => ⟨Nat.zero_le _, fun Lr nLr => ⟨70, rfl, ⟨by decide, by decide, by decide, by decide, by decide⟩, fun Ln nLn => ?_⟩⟩⟩
    have sv := same_upd (o := .lst [V.int 0]) nLv
    have sr := same_upd (o := .lst []) nLr
    have sn := same_upd (o := .lst (rgV 0 70)) nLn
    have hv0 := upd_same (H := H3) (a := Lv) (o := .lst [V.int 0])
    have hr0 := upd_same (H := upd H3 Lv (.lst [V.int 0])) (a := Lr) (o := .lst [])
    have l0 : L3 K (upd (upd (upd H3 Lv (.lst [V.int 0])) Lr (.lst [])) Ln (.lst (rgV 0 70))) b Lv Lr Ln [0] [] ((List.range 70).map fun (i : Nat) => (i : Int)) := by
      refine ⟨((G3.new nLv).new nLr).new nLn, sn _ _ (sr _ _ hv0), ⟨[], sn _ _ hr0, .nil⟩, ?_, G3.ne nLv, (G3.new nLv).ne nLr, ((G3.new nLv).new nLr).ne nLn, ne_of_none hv0 nLr, ne_of_none (sr _ _ hv0) nLn, ne_of_none hr0 nLn⟩
      rw [upd_same, List.map_map]
      unfold rgV
      rw [show ((70 : Int) - 0).toNat = 70 from rfl]
      have e : (List.range 70).map (fun (i : Nat) => V.int (0 + (i : Int))) = (List.range 70).map (V.int ∘ fun (i : Nat) => (i : Int)) := List.map_congr_left fun i _ => by
        show V.int (0 + (i : Int)) = V.int (i : Int)
        rw [Int.zero_add]
      rw [e]
    have nLv0 : H Lv = none := free_of b3 hB G3 nLv
    have b4 : But b H (upd H3 Lv (.lst [V.int 0])) := b3.trans (But.new nLv)
    have nLr0 : H Lr = none := free_of b4 hB (G3.new nLv) nLr
    have b5 : But b H (upd (upd H3 Lv (.lst [V.int 0])) Lr (.lst [])) := b4.trans (But.new nLr)
    have nLn0 : H Ln = none := free_of b5 hB ((G3.new nLv).new nLr) nLn
    have b6 := b5.trans (But.new (o := .lst (rgV 0 70)) nLn)
    have i0' : HInv 0 [0] [] ((List.range 70).map fun (i : Nat) => (i : Int)) := by
      refine ⟨⟨(fun r w hr => by cases hr), by simp, (fun r hr => by cases hr), (fun r hr => by cases hr), (fun r hr => by cases hr), (fun r hr => by cases hr)⟩, rfl, by simp, ?_, (fun r hr => by cases hr), fun n hn => ?_, by simp, Nat.le_refl _, fun v hv => .inl (by simpa using hv), (fun r hr => by cases hr)⟩
      · exact List.pairwise_map.mpr (List.Pairwise.imp (fun h e => h (by omega)) List.nodup_range)
      · obtain ⟨j, hj, rfl⟩ := List.mem_map.mp hn
        have := List.mem_range.mp hj
        omega
    revert l0 b6
    generalize upd (upd (upd H3 Lv (.lst [V.int 0])) Lr (.lst [])) Ln (.lst (rgV 0 70)) = H6
    intro l0 b6
    clear sv sr sn hv0 hr0 b4 b5
    -- turns
    refine ⟨_, rfl, many, rfl, by omega, by omega, for_range (fun i σ H' => (∃ y8 y9 y10 y11 y12 y13 y14, σ = [some (.ref b), some (.int m), some (.int many), some (.int loose), some (.int wild), some (.ref Lv), some (.ref Lr), some (.ref Ln), y8, y9, y10, y11, y12, y13, y14]) ∧ But b H H' ∧ ∃ vals rs ns, L3 K H' b Lv Lr Ln vals rs ns ∧ HInv i vals rs ns) ⟨⟨_, _, _, _, _, _, _, rfl⟩, b6, _, _, _, l0, i0'⟩ ?_ ?_⟩
    · rintro i σ Ha hi ⟨⟨y8, y9, y10, y11, y12, y13, y14, rfl⟩, ba, vals, rs, ns, la, inv⟩
      have hi60 : i < 60 := by omega
      -- time
      refine ⟨_, rfl, 10, _, rfl, rfl, .inl ⟨by decide, by decide⟩, _, 1, rfl, rfl, ?_⟩
      -- start
      refine ⟨_, rfl, _, rfl, _, rfl, 10, loose, rfl, rfl, .inl ⟨by decide, by decide⟩, b, _, rfl, la.bag, by omega, by omega, fun x Hb x0 x1 Bb Gb => ⟨_, x, rfl, rfl, 0, _, rfl, ?_⟩⟩
      have hst : 0 ≤ (if 10 * (0 + (i : Int)) + 1 - x > 0 then 10 * (0 + (i : Int)) + 1 - x else 0) ∧ (if 10 * (0 + (i : Int)) + 1 - x > 0 then 10 * (0 + (i : Int)) + 1 - x else 0) ≤ 10 * (0 + (i : Int)) + 1 := by
        split <;> omega
      generalize (if 10 * (0 + (i : Int)) + 1 - x > 0 then 10 * (0 + (i : Int)) + 1 - x else 0) = start at hst ⊢
      have lb := la.but Bb Gb
      -- end
      refine ⟨_, rfl, _, 1, rfl, rfl, _, rfl, _, rfl, 10, loose, rfl, rfl, .inl ⟨by decide, by decide⟩, b, _, rfl, Gb, by omega, by omega, fun y Hc e0 e1 Bc Gc => ⟨_, y, rfl, rfl, ?_⟩⟩
      have lc := lb.but Bc Gc
      have bc := ba.trans (Bb.trans Bc)
      have hnl := inv.nl
      -- number
      refine ⟨_, rfl, .inl ⟨rfl, _, SqL.of lc.n⟩, _, rfl, _, rfl, Ln, _, rfl, .inl (SqL.of lc.n), b, _, rfl, Gc, by rw [List.length_map]; omega, by rw [List.length_map]; omega, fun k Hd k0 k1 Bd Gd => ?_⟩
      rw [List.length_map] at k1
      obtain ⟨kk, hkk, rfl, n, hn, _⟩ := pickAt (xs := ns) k0 k1
      have ld := lc.but Bd Gd
      refine ⟨Ln, _, _, kk, _, rfl, rfl, ld.n, by omega, by omega, seqIx (by rw [List.length_map]; exact hkk), ints_at hn, ?_⟩
      rw [erase_ints]
      have le := ld.putN (ns.eraseIdx kk)
      have be : But b H (upd Hd Ln (.lst ((ns.eraseIdx kk).map V.int))) := fun c o ne e => by
        rw [upd_ne (ne_of_none e nLn0)]
        exact Bd _ _ ne (bc _ _ ne e)
      revert le be
      generalize upd Hd Ln (.lst ((ns.eraseIdx kk).map V.int)) = He
      intro le be
      have tm : 0 ≤ start ∧ start < 10 * (0 + (i : Int)) + 1 + 1 + y ∧ 10 * (0 + (i : Int)) + 1 + 1 + y ≤ 10000 := ⟨hst.1, by omega, by omega⟩
      -- which
      refine ⟨_, rfl, b, 2, rfl, le.bag, by decide, by decide, fun z Hf z0 z1 Bf Gf => ⟨rfl, _, rfl, ite2 (fun e => ?_) (fun e => ?_)⟩⟩
      · have lf := le.but Bf Gf
        have bf := be.trans Bf
        refine ⟨_, rfl, .inl ⟨rfl, _, SqL.of lf.v⟩, _, rfl, _, 100, rfl, rfl, .inr ⟨by decide, by decide⟩, _, 11, rfl, rfl, _, 999, rfl, rfl, (by show (0 : Int) < 999; decide), 1, _, rfl, rfl, Lv, _, _, rfl, rfl, lf.v, ?_, ?_⟩
        · have := inv.vl
          rw [List.length_map, sizeLine_eq]
          omega
        have e9 : vals.map V.int ++ [V.int (1 + ((0 + (i : Int)) * 100 + 11) % 999)] = (vals ++ [1 + ((0 + (i : Int)) * 100 + 11) % 999]).map V.int := by simp
        rw [e9]
        have lg := lf.putV (vals ++ [1 + ((0 + (i : Int)) * 100 + 11) % 999])
        have bg : But b H (upd Hf Lv (.lst ((vals ++ [1 + ((0 + (i : Int)) * 100 + 11) % 999]).map V.int))) := fun c o ne e => by
          rw [upd_ne (ne_of_none e nLv0)]
          exact bf _ _ ne e
        revert lg bg
        generalize upd Hf Lv (.lst ((vals ++ [1 + ((0 + (i : Int)) * 100 + 11) % 999]).map V.int)) = Hg
        intro lg bg
        obtain ⟨ys, hys, _⟩ := lg.r
        have hyl := lg.r.len hys
        have hrl := inv.len
        refine ⟨_, rfl, .inl ⟨rfl, _, SqL.of hys⟩, _, rfl, _, rfl, 1, rfl, Lv, _, _, _, rfl, rfl, SqL.of lg.v, by rw [List.map_append]; exact last_at _ _, _, rfl, _, rfl, (by show 5 ≤ sizeLine; decide), fun t nt => ?_⟩
        have lh := lg.same (same_upd (o := .tup [V.int n, V.str "write", V.int (1 + ((0 + (i : Int)) * 100 + 11) % 999), V.int start, V.int (10 * (0 + (i : Int)) + 1 + 1 + y)]) nt)
        have hys' := same_upd (o := .tup [V.int n, V.str "write", V.int (1 + ((0 + (i : Int)) * 100 + 11) % 999), V.int start, V.int (10 * (0 + (i : Int)) + 1 + 1 + y)]) nt _ _ hys
        refine ⟨Lr, ys, _, rfl, rfl, hys', by rw [sizeLine_eq]; omega, ⟨_, _, _, _, _, _, _, rfl⟩, ?_, _, _, _, lh.putR (r := ⟨n, true, 1 + ((0 + (i : Int)) * 100 + 11) % 999, start, 10 * (0 + (i : Int)) + 1 + 1 + y⟩) hys' (h_dp (SqT.of upd_same)), inv.step hn tm (by omega) (.inl ⟨rfl, by show 1 + ((0 + (i : Int)) * 100 + 11) % 999 = _; rw [Int.zero_add], rfl⟩)⟩
        intro c o ne e
        rw [upd_ne (ne_of_none e nLr0)]
        exact same_upd nt _ _ (bg _ _ ne e)
      · have lf := le.but Bf Gf
        have bf := be.trans Bf
        obtain ⟨v0, hv0, ev0⟩ := last_int inv.v0
        refine ⟨_, rfl, 1, rfl, Lv, _, _, _, rfl, rfl, SqL.of lf.v, ev0, ?_⟩
        refine ⟨fun σ' H' => (∃ v, v ∈ vals ∧ σ' = [some (.ref b), some (.int m), some (.int many), some (.int loose), some (.int wild), some (.ref Lv), some (.ref Lr), some (.ref Ln), some (.int (0 + (i : Int))), some (.int (10 * (0 + (i : Int)) + 1)), some (.int start), some (.int (10 * (0 + (i : Int)) + 1 + 1 + y)), some (.int n), some (.int v), y14]) ∧ But b H H' ∧ L3 K H' b Lv Lr Ln vals rs (ns.eraseIdx kk), ?_, ?_⟩
        · refine ⟨_, rfl, rfl, _, rfl, ite2 (fun e2 => ?_) (fun e2 => ?_)⟩
          · refine ⟨_, rfl, b, 2, rfl, lf.bag, by decide, by decide, fun u Hg u0 u1 Bg Gg => ⟨rfl, _, rfl, ite2 (fun e3 => ?_) (fun e3 => ?_)⟩⟩
            · have lg := lf.but Bg Gg
              have hvl : 0 < vals.length := List.length_pos_iff.mpr inv.v0
              have := inv.vl
              refine ⟨_, rfl, _, rfl, _, rfl, Lv, _, rfl, .inl (SqL.of lg.v), b, _, rfl, Gg, by rw [List.length_map]; omega, by rw [List.length_map]; omega, fun j Hh j0 j1 Bh Gh => ?_⟩
              rw [List.length_map] at j1
              obtain ⟨v1, hv1, ev1⟩ := pickInt vals j0 j1
              have lh := lg.but Bh Gh
              exact ⟨Lv, _, _, _, rfl, rfl, SqL.of lh.v, ev1, ⟨v1, hv1, rfl⟩, bf.trans (Bg.trans Bh), lh⟩
            · exact ⟨⟨v0, hv0, rfl⟩, bf.trans Bg, lf.but Bg Gg⟩
          · exact iteF ⟨⟨v0, hv0, rfl⟩, bf, lf⟩
        · rintro σ' Hg ⟨⟨v, hv, rfl⟩, bg, lg⟩
          obtain ⟨ys, hys, _⟩ := lg.r
          have hyl := lg.r.len hys
          have hrl := inv.len
          refine ⟨_, rfl, .inl ⟨rfl, _, SqL.of hys⟩, _, rfl, _, rfl, _, rfl, _, rfl, (by show 5 ≤ sizeLine; decide), fun t nt => ?_⟩
          have lh := lg.same (same_upd (o := .tup [V.int n, V.str "read", V.int v, V.int start, V.int (10 * (0 + (i : Int)) + 1 + 1 + y)]) nt)
          have hys' := same_upd (o := .tup [V.int n, V.str "read", V.int v, V.int start, V.int (10 * (0 + (i : Int)) + 1 + 1 + y)]) nt _ _ hys
          refine ⟨Lr, ys, _, rfl, rfl, hys', by rw [sizeLine_eq]; omega, ⟨_, _, _, _, _, _, _, rfl⟩, ?_, _, _, _, lh.putR (r := ⟨n, false, v, start, 10 * (0 + (i : Int)) + 1 + 1 + y⟩) hys' (h_dp (SqT.of upd_same)), inv.step hn tm (by omega) (.inr ⟨rfl, hv, rfl⟩)⟩
          intro c o ne e
          rw [upd_ne (ne_of_none e nLr0)]
          exact same_upd nt _ _ (bg _ _ ne e)
    · rintro σ Ha ⟨⟨y8, y9, y10, y11, y12, y13, y14, rfl⟩, ba, vals, rs, ns, la, inv⟩
      obtain ⟨ys, hys, hya⟩ := la.r
      have hyl := la.r.len hys
      have hrl := inv.len
      -- left, rows
      refine ⟨_, rfl, Lr, _, rfl, .inl (SqL.of hys), fun Lf nLf => ⟨Nat.zero_le _, fun Lq nLq => ?_⟩⟩
      have sf := same_upd (o := .lst ys) nLf
      have sq := same_upd (o := .lst []) nLq
      have Gq := (la.bag.new (o := .lst ys) nLf).new (o := .lst []) nLq
      have bq := (ba.trans (But.new (o := .lst ys) nLf)).trans (But.new (o := .lst []) nLq)
      have hLf := sq _ _ (upd_same (H := Ha) (a := Lf) (o := .lst ys))
      have hLq := upd_same (H := upd Ha Lf (.lst ys)) (a := Lq) (o := .lst [])
      have gf : HsAt K _ Lf rs := ⟨ys, hLf, dp_sameAll (sf.trans sq) _ _ hya⟩
      have nLq0 : H Lq = none := free_of (ba.trans (But.new (o := .lst ys) nLf)) hB (la.bag.new nLf) nLq
      have nLf0 : H Lf = none := free_of ba hB la.bag nLf
      have Lfb : Lf ≠ b := la.bag.ne nLf
      have Lqb : Lq ≠ b := (la.bag.new (o := .lst ys) nLf).ne nLq
      have Lfq : Lf ≠ Lq := ne_of_none (upd_same (H := Ha) (a := Lf) (o := .lst ys)) nLq
      revert Gq bq hLq gf
      generalize upd (upd Ha Lf (.lst ys)) Lq (.lst []) = Hq
      intro Gq bq hLq gf
      refine ⟨fun mm σ H' => (∃ s8 s9 s10 s11 s12 s13, σ = [some (.ref b), some (.int m), some (.int many), some (.int loose), some (.int wild), some (.ref Lv), some (.ref Lq), some (.ref Ln), s8, s9, s10, s11, s12, s13, some (.ref Lf)]) ∧ But b H H' ∧ Bag H' b ∧ ∃ left hs, left.length = mm ∧ HsAt K H' Lf left ∧ HsAt K H' Lq hs ∧ (hs ++ left).Perm rs, ⟨_, ⟨_, _, _, _, _, _, rfl⟩, bq, Gq, rs, [], rfl, gf, ⟨[], hLq, .nil⟩, List.Perm.refl _⟩, ?_⟩
      rintro mm σ H' ⟨⟨s8, s9, s10, s11, s12, s13, rfl⟩, b', G', left, hs, hml, gl, gh, pm⟩
      refine ⟨_, rfl, Nat.zero_le _, fun e ne => ?_⟩
      have se := same_upd (o := .lst []) ne
      obtain ⟨zs, hzs, hza⟩ := gl.same se
      have hzl := (gl.same se).len hzs
      refine ⟨Lf, e, _, rfl, rfl, SqL.of hzs, SqL.of upd_same, _, rfl, ?_⟩
      have be : But b H (upd H' e (.lst [])) := b'.trans (But.new ne)
      have Ge := G'.new (o := .lst []) ne
      have ghe := gh.same se
      revert hzs hza be Ge ghe
      generalize upd H' e (.lst []) = Hx
      intro hzs hza be Ge ghe
      have pl := pm.length_eq
      rw [List.length_append] at pl
      cases hze : zs with
      | nil =>
        have hl0 : left = [] := by
          rw [hze] at hzl
          exact List.eq_nil_of_length_eq_zero hzl.symm
        rw [hl0, List.append_nil] at pm
        refine iteF ⟨_, rfl, q Lq Hx hs (inv.good.perm pm.symm) ?_ nLq0 be Ge ghe⟩
        rw [hl0] at pl
        simp only [List.length_nil] at pl
        omega
      | cons z0 zs0 =>
        have hpos : 0 < zs.length := by rw [hze]; exact Nat.succ_pos _
        refine iteT ⟨fun σ' H'' => (∃ s8 s9 s10 s11 s12 s13, σ' = [some (.ref b), some (.int m), some (.int many), some (.int loose), some (.int wild), some (.ref Lv), some (.ref Lq), some (.ref Ln), s8, s9, s10, s11, s12, s13, some (.ref Lf)]) ∧ But b H H'' ∧ Bag H'' b ∧ ∃ left' hs', left'.length + 1 = left.length ∧ HsAt K H'' Lf left' ∧ HsAt K H'' Lq hs' ∧ (hs' ++ left').Perm rs, fun σ' H'' ⟨w1, w2, w3, left', hs', w4, w5, w6, w7⟩ => ⟨left'.length, by omega, w1, w2, w3, left', hs', rfl, w5, w6, w7⟩, ?_⟩
        obtain ⟨us, hus, hua⟩ := ghe
        have hul := HsAt.len ⟨us, hus, hua⟩ hus
        refine ⟨_, rfl, .inl ⟨rfl, _, SqL.of hus⟩, _, rfl, .inl ⟨rfl, _, SqL.of hzs⟩, _, rfl, _, rfl, Lf, _, rfl, .inl (SqL.of hzs), b, _, rfl, Ge, by omega, by omega, fun k Hk k0 k1 Bk Gk => ?_⟩
        obtain ⟨kk, hkk, rfl, y, hy, _⟩ := pickAt (xs := zs) k0 k1
        obtain ⟨d, ed, pd⟩ := dpAll_get hza hy
        rw [List.getElem?_map] at ed
        obtain ⟨r, er, rfl⟩ := Option.map_eq_some_iff.mp ed
        have kb := Kt.bag Bk Ge
        obtain ⟨p, rfl, hp⟩ := dp_h (dp_kt kb _ _ (hD_imm r) pd)
        have hzk := Bk _ _ Lfb hzs
        have huk := Bk _ _ Lqb hus
        have k1' := Kt.upd (o' := .lst (zs.eraseIdx kk)) hzk (fun z => z)
        have hu2 : upd Hk Lf (.lst (zs.eraseIdx kk)) Lq = some (.lst us) := by rw [upd_ne Lfq.symm]; exact huk
        have k2' := Kt.upd (o' := .lst (us ++ [.ref p])) hu2 (fun z => z)
        refine ⟨Lf, zs, _, kk, _, rfl, rfl, hzk, by omega, by omega, seqIx hkk, hy, Lq, us, _, rfl, rfl, hu2, by rw [sizeLine_eq]; omega, ⟨_, _, _, _, _, _, rfl⟩, ?_, (Gk.put Lfb).put Lqb, left.eraseIdx kk, hs ++ [r], ?_, ⟨zs.eraseIdx kk, ?_, ?_⟩, ⟨us ++ [.ref p], upd_same, ?_⟩, ?_⟩
        · intro c o ne2 e2
          rw [upd_ne (ne_of_none e2 nLq0), upd_ne (ne_of_none e2 nLf0)]
          exact Bk _ _ ne2 (be _ _ ne2 e2)
        · rw [List.length_eraseIdx_of_lt (by omega)]
          omega
        · rw [upd_ne Lfq]
          exact upd_same
        · refine dp_ktAll ((kb.trans k1').trans k2') _ _ (hs_imm _) ?_
          rw [← List.eraseIdx_map']
          exact dpA_erase kk hza
        · rw [List.map_append]
          exact dpAll_append (dp_ktAll ((kb.trans k1').trans k2') _ _ (hs_imm _) hua) (.cons (h_dp (sqT_kt (k1'.trans k2') hp)) .nil)
        · refine List.Perm.trans ?_ pm
          rw [List.append_assoc]
          exact List.Perm.append_left hs (erase_perm er)

/-! ### the law's own zones and reasons -/
abbrev s__law_zone : Stmt := topS 13
theorem sc__law_zone : FnScope ["history", "value", "nought", "ends", "row"] ["history", "value"] (defScope s__law_zone) := ⟨rfl, rfl, rfl, by decide +kernel, rfl, by decide +kernel, by decide +kernel⟩
def sp_law_zone (K : PySem.W.Frag) : Sp := fun vs H Q _ => ∃ (v : V) (h : List HRow) (u : Int), vs = [v, .int u] ∧ Dp K H v (.list (h.map hD)) ∧ h.length ≤ 61 ∧ isVal h u ∧ ∀ (p : Addr) (H' : Hp) (z : Int × Int), zoneO h u = some z → Same H H' → H p = none → H' p = some (.tup [.int z.1, .int z.2]) → Q (.ref p) H'
theorem min_uniq {es : List Int} {m f : Int} (h1 : m ∈ es) (h2 : ∀ y, y ∈ es → m ≤ y) (h3 : f ∈ es) (h4 : ∀ x ∈ es, f ≤ x) : m = f := by
  have a := h2 f h3
  have c := h4 m h1
  omega
theorem max_uniq {es : List Int} {m f : Int} (h1 : m ∈ es) (h2 : ∀ y, y ∈ es → y ≤ m) (h3 : f ∈ es) (h4 : ∀ x ∈ es, x ≤ f) : m = f := by
  have a := h2 f h3
  have c := h4 m h1
  omega
theorem nought_eq (u : Int) : (List.replicate ((if decide (V.int u = V.int 0) = true then (1 : Int) else 0)).toNat [V.int (-1)]).flatten = ((if u = 0 then [-1] else []) : List Int).map V.int := by
  by_cases h : u = 0
  · subst h
    rw [if_pos (decide_eq_true rfl), if_pos rfl]
    rfl
  · rw [if_neg (by rw [decide_eq_false (fun z => h (V.int.inj z))]; exact Bool.false_ne_true), if_neg h]
    rfl
theorem fm_ends (u : Int) (g : HRow → Int) : ∀ (h : List HRow), h.filterMap (fun r => if r.v = u then some (g r) else none) = (h.filter fun r => decide (r.v = u)).map g
  | [] => rfl
  | r :: rs => by
    rw [List.filterMap_cons, List.filter_cons, fm_ends u g rs]
    by_cases hv : r.v = u <;> simp [hv]
theorem ok__law_zone {f : Addr} {fd : FuncData} (F : Fun K "_law_zone" "_law_zone" s__law_zone f fd) (gm : mg "_law_zone" = some (.ref f)) (N : Fre K mg)  : C8.Cal P w K mg base 1 "_law_zone" (sp_law_zone K) [] := by
  refine mkCal F gm sc__law_zone (F.binds (ps := ["history", "value"]) fun _ _ _ _ _ _ us hl => match us, hl with | [_, _], _ => rfl) (fun vs H Q E h => ?_) (fun cdv A outer s H vs Q E hr h => ?_)
  · obtain ⟨v, h, u, rfl, _⟩ := h
    rfl
  · obtain ⟨v, h, u, rfl, hv, hlen, hval, q⟩ := h
    refine ⟨_, (pss_cons (ps_set (i := 2) sc__law_zone.nd rfl (.inl rfl) (pe_op op_rep (pe_lst (pa_cons (pe_un un_neg pe_int) pa_nil)) (pe_callTy call_int1 (by rfl) N.int (by decide +kernel) (pa_cons (pe_cmpR op_eq (pv 1) pe_int (nomark _)) pa_nil))))
 (pss_cons (ps_set (i := 3) sc__law_zone.nd rfl (.inl rfl) (pe_op op_cat (pv 2) (pe_lc (own := [("row", 4)]) (g := gName 4) rfl sc__law_zone.nd (pi_list (pv 0)) (blkOk_by (N := ["history", "value", "nought", "ends", "row"]) (sc := defScope s__law_zone) (by decide +kernel)) (fun _ _ _ _ _ => pg_name (i := 4) sc__law_zone.nd rfl (Or.inl rfl)) (fun _ _ _ _ _ => pts_one (pt_cmpR op_eq (pe_ix (show IxR _ (rIxT K) from ix_tup) (pv 4) pe_int (fun _ _ => rfl)) (pv 1) (nomark _))) (fun _ _ _ _ _ => (pe_ix (show IxR _ (rIxT K) from ix_tup) (pv 4) pe_int (fun _ _ => rfl))))))
 (pss_one (ps_ret (pe_tup (pa_cons (pe_callB (cr_min rfl) (by rfl) N.min (by decide +kernel) (pa_cons (pv 3) pa_nil)) (pa_cons (pe_callB (cr_max rfl) (by rfl) N.max (by decide +kernel) (pa_cons (pe_op op_cat (pv 2) (pe_lc (own := [("row", 4)]) (g := gName 4) rfl sc__law_zone.nd (pi_list (pv 0)) (blkOk_by (N := ["history", "value", "nought", "ends", "row"]) (sc := defScope s__law_zone) (by decide +kernel)) (fun _ _ _ _ _ => pg_name (i := 4) sc__law_zone.nd rfl (Or.inl rfl)) (fun _ _ _ _ _ => pts_one (pt_cmpR op_eq (pe_ix (show IxR _ (rIxT K) from ix_tup) (pv 4) pe_int (fun _ _ => rfl)) (pv 1) (nomark _))) (fun _ _ _ _ _ => (pe_ix (show IxR _ (rIxT K) from ix_tup) (pv 4) pe_int (fun _ _ => rfl))))) pa_nil)) pa_nil))))))), ?_⟩
    obtain ⟨a, xs, rfl, hs, ha⟩ := dp_list hv
    obtain ⟨⟨f, l⟩, hz⟩ := zone_some.mpr hval
    obtain ⟨z1, z2, z3, z4⟩ := (zone_ok h u).som f l hz
    -- nought
    refine ⟨1, rfl, (by show 1 ≤ sizeLine; decide), fun L nL => ⟨_, rfl, rfl, .inr ⟨_, rfl, L, _, _, rfl, rfl, upd_same, ?_, ?_, ?_, fun N nN => ?_⟩⟩⟩
    · split <;> decide
    · split <;> decide
    · split <;> decide
    rw [nought_eq]
    have sL := same_upd (o := .lst [V.int (-1)]) nL
    have sN := same_upd (o := .lst (((if u = 0 then [-1] else []) : List Int).map V.int)) nN
    have hN := upd_same (H := upd H L (.lst [V.int (-1)])) (a := N) (o := .lst (((if u = 0 then [-1] else []) : List Int).map V.int))
    have s1 := sL.trans sN
    revert hN s1
    generalize upd (upd H L (.lst [V.int (-1)])) N (.lst (((if u = 0 then [-1] else []) : List Int).map V.int)) = H1
    intro hN s1
    have nl : ((if u = 0 then [-1] else []) : List Int).length ≤ 1 := by split <;> simp
    -- ends
    refine ⟨_, rfl, _, rfl, a, rfl, ⟨_, s1.seq hs⟩, fun D nD => lc_ty hD PyData.int (fun r => if r.v = u then some r.e else none) (s1.seq hs) (dp_sameAll s1 _ _ ha) nD (by omega) (fun _ => rfl) ?_ ?_⟩
    · intro i v r H2 k kf er s2 pr hy hn
      obtain ⟨b, rfl, hb⟩ := dp_h pr
      refine ⟨rfl, ⟨_, rfl, b, _, 2, _, rfl, rfl, hb, atI_nat (j := 2) rfl, _, rfl, rfl, _, rfl, ite2 (fun e => ?_) (fun e => ?_)⟩⟩
      · have e1 : r.v = u := V.int.inj (of_decide_eq_true e)
        exact ⟨_, rfl, b, _, 4, _, rfl, rfl, hb, atI_nat (j := 4) rfl, hy _ (if_pos e1) _ _ (Same.refl _) (.int _)⟩
      · have e1 : ¬ r.v = u := fun z => e (decide_eq_true (by rw [z]))
        exact hn (if_neg e1) _ (Same.refl _)
    intro H2 y1 s2 hDe hy1
    have e1 := dp_ints hy1
    rw [fm_ends] at e1
    subst e1
    have el : ((h.filter fun r => decide (r.v = u)).map HRow.e).length ≤ 61 := by rw [List.length_map]; exact Nat.le_trans (List.length_filter_le _ _) hlen
    refine ⟨N, D, _, _, rfl, rfl, s2 _ _ hN, hDe, by rw [List.length_map, List.length_map, sizeLine_eq]; omega, fun R nR => ?_⟩
    have sR := same_upd (o := .lst (((if u = 0 then [-1] else []) : List Int).map V.int ++ ((h.filter fun r => decide (r.v = u)).map HRow.e).map V.int)) nR
    have hR : upd H2 R (.lst (((if u = 0 then [-1] else []) : List Int).map V.int ++ ((h.filter fun r => decide (r.v = u)).map HRow.e).map V.int)) R = some (.lst ((endsOf h u).map V.int)) := by
      rw [upd_same]
      show _ = some (HO.lst ((((if u = 0 then [-1] else []) : List Int) ++ (h.filter fun r => decide (r.v = u)).map HRow.e).map V.int))
      rw [List.map_append]
    have hN2 := sR _ _ (s2 _ _ hN)
    have s12 := s1.trans (s2.trans sR)
    revert hR hN2 s12
    generalize upd H2 R (.lst (((if u = 0 then [-1] else []) : List Int).map V.int ++ ((h.filter fun r => decide (r.v = u)).map HRow.e).map V.int)) = H3
    intro hR hN2 s12
    -- the least end
    refine ⟨_, rfl, R, _, rfl, SqL.of hR, List.length_pos_of_mem z1, fun m hm hmin => ?_⟩
    have em := min_uniq hm hmin z1 z2
    subst em
    -- the greatest begin
    refine ⟨_, rfl, _, rfl, a, rfl, ⟨_, s12.seq hs⟩, fun D2 nD2 => lc_ty hD PyData.int (fun r => if r.v = u then some r.b else none) (s12.seq hs) (dp_sameAll s12 _ _ ha) nD2 (by omega) (fun _ => rfl) ?_ ?_⟩
    · intro i v r H4 k kf er s4 pr hy hn
      obtain ⟨b, rfl, hb⟩ := dp_h pr
      refine ⟨rfl, ⟨_, rfl, b, _, 2, _, rfl, rfl, hb, atI_nat (j := 2) rfl, _, rfl, rfl, _, rfl, ite2 (fun e => ?_) (fun e => ?_)⟩⟩
      · have e1 : r.v = u := V.int.inj (of_decide_eq_true e)
        exact ⟨_, rfl, b, _, 3, _, rfl, rfl, hb, atI_nat (j := 3) rfl, hy _ (if_pos e1) _ _ (Same.refl _) (.int _)⟩
      · have e1 : ¬ r.v = u := fun z => e (decide_eq_true (by rw [z]))
        exact hn (if_neg e1) _ (Same.refl _)
    intro H4 y2 s4 hD2 hy2
    have e2 := dp_ints hy2
    rw [fm_ends] at e2
    subst e2
    have bl : ((h.filter fun r => decide (r.v = u)).map HRow.b).length ≤ 61 := by rw [List.length_map]; exact Nat.le_trans (List.length_filter_le _ _) hlen
    refine ⟨N, D2, _, _, rfl, rfl, s4 _ _ hN2, hD2, by rw [List.length_map, List.length_map, sizeLine_eq]; omega, fun R2 nR2 => ?_⟩
    have sR2 := same_upd (o := .lst (((if u = 0 then [-1] else []) : List Int).map V.int ++ ((h.filter fun r => decide (r.v = u)).map HRow.b).map V.int)) nR2
    have hR2 : upd H4 R2 (.lst (((if u = 0 then [-1] else []) : List Int).map V.int ++ ((h.filter fun r => decide (r.v = u)).map HRow.b).map V.int)) R2 = some (.lst ((begsOf h u).map V.int)) := by
      rw [upd_same]
      show _ = some (HO.lst ((((if u = 0 then [-1] else []) : List Int) ++ (h.filter fun r => decide (r.v = u)).map HRow.b).map V.int))
      rw [List.map_append]
    refine ⟨R2, _, rfl, SqL.of hR2, List.length_pos_of_mem z3, fun m' hm' hmax => ?_⟩
    have em := max_uniq hm' hmax z3 z4
    subst em
    refine ⟨two_ok _ _, fun p np => ?_⟩
    have sA := s12.trans (s4.trans sR2)
    exact q p _ (m, m') hz (sA.trans (same_upd np)) (sA.free np) upd_same
theorem fm_filter {α : Type} (p : α → Bool) (xs : List α) : xs.filterMap (fun r => if p r = true then some r else none) = xs.filter p := by
  rw [← List.filterMap_eq_filter]
  rfl

/-! ### what shows that there is none, by the law -/
def tkD (x : Int × Str) : PyData := .tuple [.int x.1, .str x.2]
theorem tk_dp {H : Hp} {a : Addr} {t : Int} {w : Str} (h : SqT K H a [.int t, .str w]) : Dp K H (.ref a) (tkD (t, w)) := .tup h (.cons (.int _) (.cons (.str _) .nil))
theorem tk_sh {x : Int × Str} (h : PyData.strOk x.2 = true) : SeqAt.shaped (tkD x) = true := by simp [h, SeqAt.shaped, tkD, PyData.canLay0, PyData.canLayAll0, PyData.depth, PyData.depthAll]
theorem tk_eqv (t u : Int) (w x : Str) : PyData.eqv (tkD (t, w)) (tkD (u, x)) = (decide (t = u) && decide (w = x)) := by
  simp only [tkD, PyData.eqv, PyData.eqvAll, Bool.and_true]
  congr 1
theorem read_ok : PyData.strOk ("read" : Str) = true := by decide +kernel
theorem write_ok : PyData.strOk ("write" : Str) = true := by decide +kernel
theorem kind_ok (w : Bool) : PyData.strOk (kindS w) = true := by
  cases w
  · exact read_ok
  · exact write_ok
theorem kindS_read (w : Bool) : decide (kindS w = ("read" : Str)) = !w := by
  cases w with
  | true => exact decide_eq_false (by decide)
  | false => exact decide_eq_true rfl
theorem kindS_write (w : Bool) : decide (kindS w = ("write" : Str)) = w := by
  cases w with
  | true => exact decide_eq_true rfl
  | false => exact decide_eq_false (by decide)
theorem task_inj : ∀ {h : List HRow}, (h.map (·.t)).Nodup → ∀ r ∈ h, ∀ w ∈ h, r.t = w.t → r = w
  | [], _, _, hr, _, _, _ => by cases hr
  | x :: xs, nd, r, hr, w, hw, e => by
    obtain ⟨n1, n2⟩ := List.nodup_cons.mp (show (x.t :: xs.map (·.t)).Nodup from nd)
    rcases List.mem_cons.mp hr with a | a
    · rcases List.mem_cons.mp hw with c | c
      · rw [a, c]
      · exact absurd (List.mem_map.mpr ⟨w, c, by rw [← e, a]⟩) n1
    · rcases List.mem_cons.mp hw with c | c
      · exact absurd (List.mem_map.mpr ⟨r, a, by rw [e, c]⟩) n1
      · exact task_inj n2 r a w c e
abbrev s__law_shows : Stmt := topS 14
theorem sc__law_shows : FnScope ["history", "reason", "word", "one", "other", "reads", "writes", "values", "first", "second", "row"] ["history", "reason"] (defScope s__law_shows) := ⟨rfl, rfl, rfl, by decide +kernel, rfl, by decide +kernel, by decide +kernel⟩
def sp_law_shows (K : PySem.W.Frag) : Sp := fun vs H Q _ => ∃ (v u : V) (h : List HRow) (x : Reason), vs = [v, u] ∧ Dp K H v (.list (h.map hD)) ∧ Dp K H u (reaD x) ∧ h.length ≤ 61 ∧ HGood h ∧ ∀ H' c, Same H H' → (c = true ↔ ShowsP h x) → Q (.bl c) H'
theorem ok__law_shows {f : Addr} {fd : FuncData} (F : Fun K "_law_shows" "_law_shows" s__law_shows f fd) (gm : mg "_law_shows" = some (.ref f)) (N : Fre K mg) (c__law_zone : C8.Cal P w K mg base 1 "_law_zone" (sp_law_zone K) []) : C8.Cal P w K mg base 2 "_law_shows" (sp_law_shows K) [] := by
  refine mkCal F gm sc__law_shows (F.binds (ps := ["history", "reason"]) fun _ _ _ _ _ _ us hl => match us, hl with | [_, _], _ => rfl) (fun vs H Q E h => ?_) (fun cdv A outer s H vs Q E hr h => ?_)
  · obtain ⟨v, u, h, x, rfl, _⟩ := h
    rfl
  · obtain ⟨v, u, h, ⟨wd, one, oth⟩, rfl, hv, hu, hlen, good, q⟩ := h
    refine ⟨_, (pss_cons (ps_asg (pv 1) (pg_tup rfl (pgs_cons (pg_name (i := 2) sc__law_shows.nd rfl (.inl rfl)) (pgs_cons (pg_name (i := 3) sc__law_shows.nd rfl (.inr rfl)) (pgs_cons (pg_name (i := 4) sc__law_shows.nd rfl (.inr rfl)) pgs_nil)))))
 (pss_cons (ps_if (pt_cmpR op_eq (pv 2) pe_str (nomark _))
 (pss_cons (ps_setLc (i := 5) (own := [("row", 10)]) (g := gName 10) rfl sc__law_shows.nd rfl rfl (sw_true rfl rfl rfl (by decide +kernel)) (pi_list (pv 0)) (blkOk_by (N := ["history", "reason", "word", "one", "other", "reads", "writes", "values", "first", "second", "row"]) (sc := defScope s__law_shows) (by decide +kernel)) (fun _ _ _ _ _ => pg_name (i := 10) sc__law_shows.nd rfl (Or.inl rfl)) (fun _ _ _ _ _ => pts_one (pt_cmpR (show OpR _ _ (rEqD K) from op_eqD hr.units) (pe_slice (show SlR _ (rSlT K) from sl_tup) (pv 10) po_none (po_some pe_int)) (pe_tup (pa_cons (pv 3) (pa_cons pe_str pa_nil))) (nomark _))) (fun _ _ _ _ _ => (pv 10)))
 (pss_cons (ps_setLc (i := 6) (own := [("row", 10)]) (g := gName 10) rfl sc__law_shows.nd rfl rfl (sw_true rfl rfl rfl (by decide +kernel)) (pi_list (pv 0)) (blkOk_by (N := ["history", "reason", "word", "one", "other", "reads", "writes", "values", "first", "second", "row"]) (sc := defScope s__law_shows) (by decide +kernel)) (fun _ _ _ _ _ => pg_name (i := 10) sc__law_shows.nd rfl (Or.inl rfl)) (fun _ _ _ _ _ => pts_one (pt_cmpR (show OpR _ _ (rEqD K) from op_eqD hr.units) (pe_slice (show SlR _ (rSlT K) from sl_tup) (pv 10) po_none (po_some pe_int)) (pe_tup (pa_cons (pv 4) (pa_cons pe_str pa_nil))) (nomark _))) (fun _ _ _ _ _ => (pv 10)))
 (pss_one (ps_ret (pe_and (pe_cmpR (op_neNil (hu0 hr)) (pv 5) (pe_lst pa_nil) (nomark _)) (pe_and (pe_cmpR (op_neNil (hu0 hr)) (pv 6) (pe_lst pa_nil) (nomark _)) (pe_and (pe_cmpR op_eq (pe_ix ix_tup (pe_ix ix_list (pv 5) pe_int (fun _ _ => rfl)) pe_int (fun _ _ => rfl)) (pe_ix ix_tup (pe_ix ix_list (pv 6) pe_int (fun _ _ => rfl)) pe_int (fun _ _ => rfl)) (nomark _)) (pe_one (pe_cmpR op_lt (pe_ix ix_tup (pe_ix ix_list (pv 5) pe_int (fun _ _ => rfl)) pe_int (fun _ _ => rfl)) (pe_ix ix_tup (pe_ix ix_list (pv 6) pe_int (fun _ _ => rfl)) pe_int (fun _ _ => rfl)) (nomark _))))))))))
 pss_nil)
 (pss_cons (ps_set (i := 7) sc__law_shows.nd rfl (.inl rfl) (pe_op op_cat (pe_lst (pa_cons pe_int pa_nil)) (pe_lc (own := [("row", 10)]) (g := gName 10) (tt := tYes) rfl sc__law_shows.nd (pi_list (pv 0)) (blkOk_by (N := ["history", "reason", "word", "one", "other", "reads", "writes", "values", "first", "second", "row"]) (sc := defScope s__law_shows) (by decide +kernel)) (fun _ _ _ _ _ => pg_name (i := 10) sc__law_shows.nd rfl (Or.inl rfl)) (fun _ _ _ _ _ => pts_nil) (fun _ _ _ _ _ => (pe_ix (show IxR _ (rIxT K) from ix_tup) (pv 10) pe_int (fun _ _ => rfl))))))
 (pss_cons (ps_if (PW.pt (pw_or (pt_cmpR op_notIn_seq (pv 2) (pe_lst (pa_cons pe_str (pa_cons pe_str pa_nil))) (by with_unfolding_all rfl)) (pw_or (pt_cmpR op_eq (pv 3) (pv 4) (nomark _)) (pw_or (pt_cmpR op_notIn_seq (pv 3) (pv 7) (by with_unfolding_all rfl)) (pw_or1 (pt_cmpR op_notIn_seq (pv 4) (pv 7) (by with_unfolding_all rfl)))))))
 (pss_one (ps_ret pe_bl))
 pss_nil)
 (pss_cons (ps_set (i := 8) sc__law_shows.nd rfl (.inl rfl) (C8.pe_c c__law_zone hr (by decide) rfl (pa_cons (pv 0) (pa_cons (pv 3) pa_nil))))
 (pss_cons (ps_set (i := 9) sc__law_shows.nd rfl (.inl rfl) (C8.pe_c c__law_zone hr (by decide) rfl (pa_cons (pv 0) (pa_cons (pv 4) pa_nil))))
 (pss_cons (ps_if (PW.pt (pw_or (pt_not (PW.pt (pw_and (pt_cmpR op_lt (pe_ix ix_tup (pv 8) pe_int (fun _ _ => rfl)) (pe_ix ix_tup (pv 9) pe_int (fun _ _ => rfl)) (nomark _)) (pw_and1 (pt_cmpR op_lt (pe_ix ix_tup (pv 9) pe_int (fun _ _ => rfl)) (pe_ix ix_tup (pv 8) pe_int (fun _ _ => rfl)) (nomark _)))))) (pw_or1 (pt_not (pt_cmpR op_lt (pe_ix ix_tup (pv 8) pe_int (fun _ _ => rfl)) (pe_ix ix_tup (pv 8) pe_int (fun _ _ => rfl)) (nomark _))))))
 (pss_one (ps_ret pe_bl))
 pss_nil)
 (pss_cons (ps_if (pt_cmpR op_eq (pv 2) pe_str (nomark _))
 (pss_one (ps_ret (pe_and (pe_cmpR op_lt (pv 3) (pv 4) (nomark _)) (pe_one (pe_cmpR op_lt (pe_ix ix_tup (pv 9) pe_int (fun _ _ => rfl)) (pe_ix ix_tup (pv 9) pe_int (fun _ _ => rfl)) (nomark _))))))
 pss_nil)
 (pss_one (ps_ret (pe_cmpR op_ge (pe_ix ix_tup (pv 9) pe_int (fun _ _ => rfl)) (pe_ix ix_tup (pv 9) pe_int (fun _ _ => rfl)) (nomark _)))))))))))), ?_⟩
    obtain ⟨a, xs, rfl, hs, ha⟩ := dp_list hv
    obtain ⟨x, rfl, hx⟩ : ∃ x, u = .ref x ∧ SqT K H x [.str wd, .int one, .int oth] := by
      cases hu with
      | tup hs ha =>
        cases ha with
        | cons h1 ha =>
          cases h1
          cases ha with
          | cons h1 ha =>
            cases h1
            cases ha with
            | cons h1 ha =>
              cases h1
              cases ha
              exact ⟨_, rfl, hs⟩
    refine ⟨_, rfl, x, _, rfl, hx, rfl, _, _, rfl, _, _, rfl, _, _, rfl, rfl, ?_⟩
    refine ⟨_, rfl, rfl, _, rfl, ite2 (fun e => ?_) (fun e => ?_)⟩
    · -- early
      have ew : wd = "early" := V.str.inj (of_decide_eq_true e)
      have sE : ShowsP h (wd, one, oth) ↔ EarlyP h one oth := by
        unfold ShowsP
        rw [ew]
        constructor
        · rintro (⟨_, z⟩ | ⟨z, _⟩ | ⟨z, _⟩)
          · exact z
          · exact absurd (show ("early" : Str) = "both" from z) (by decide)
          · exact absurd (show ("early" : Str) = "within" from z) (by decide)
        · exact fun z => .inl ⟨rfl, z⟩
      -- reads
      refine ⟨_, rfl, a, rfl, ⟨_, hs⟩, fun D nD => lc_ty hD hD (fun r => if (decide (r.t = one) && !r.wr) = true then some r else none) hs ha nD (by omega) hD_imm ?_ ?_⟩
      · intro i v r H2 k kf er s2 pr hy hn
        obtain ⟨b, rfl, hb⟩ := dp_h pr
        refine ⟨rfl, ⟨_, rfl, 2, rfl, b, _, rfl, hb, (fun z => absurd (show HT.sIx 5 5 (some 2) = 5 from z.2) (by decide)), fun t nt => ⟨_, rfl, two_ok _ _, fun t2 n2 => ?_⟩⟩⟩
        have st := same_upd (o := .tup (cutV (hV r) none (some 2))) nt
        have su := same_upd (o := .tup [V.int one, V.str "read"]) n2
        have ht : SqT K _ t [.int r.t, .str (kindS r.wr)] := SqT.of (su _ _ (upd_same (H := H2) (a := t) (o := .tup (cutV (hV r) none (some 2)))))
        refine ⟨_, _, tk_dp ht, tk_dp (SqT.of upd_same), tk_sh (kind_ok _), tk_sh read_ok, _, rfl, ?_⟩
        rw [tk_eqv, kindS_read]
        cases hc : (decide (r.t = one) && !r.wr) with
        | true => exact iteT ⟨_, rfl, hy r (if_pos hc) _ _ (st.trans su) (dp_same (st.trans su) _ _ pr)⟩
        | false => exact iteF (hn (by rw [hc]; rfl) _ (st.trans su))
      intro H2 y1 s2 hD1 hy1
      rw [fm_filter] at hy1
      -- writes
      refine ⟨_, rfl, a, rfl, ⟨_, s2.seq hs⟩, fun D2 nD2 => lc_ty hD hD (fun r => if (decide (r.t = oth) && r.wr) = true then some r else none) (s2.seq hs) (dp_sameAll s2 _ _ ha) nD2 (by omega) hD_imm ?_ ?_⟩
      · intro i v r H3 k kf er s3 pr hy hn
        obtain ⟨b, rfl, hb⟩ := dp_h pr
        refine ⟨rfl, ⟨_, rfl, 2, rfl, b, _, rfl, hb, (fun z => absurd (show HT.sIx 5 5 (some 2) = 5 from z.2) (by decide)), fun t nt => ⟨_, rfl, two_ok _ _, fun t2 n2 => ?_⟩⟩⟩
        have st := same_upd (o := .tup (cutV (hV r) none (some 2))) nt
        have su := same_upd (o := .tup [V.int oth, V.str "write"]) n2
        have ht : SqT K _ t [.int r.t, .str (kindS r.wr)] := SqT.of (su _ _ (upd_same (H := H3) (a := t) (o := .tup (cutV (hV r) none (some 2)))))
        refine ⟨_, _, tk_dp ht, tk_dp (SqT.of upd_same), tk_sh (kind_ok _), tk_sh write_ok, _, rfl, ?_⟩
        rw [tk_eqv, kindS_write]
        cases hc : (decide (r.t = oth) && r.wr) with
        | true => exact iteT ⟨_, rfl, hy r (if_pos hc) _ _ (st.trans su) (dp_same (st.trans su) _ _ pr)⟩
        | false => exact iteF (hn (by rw [hc]; rfl) _ (st.trans su))
      intro H3 y2 s3 hD2 hy2
      rw [fm_filter] at hy2
      have s23 := s2.trans s3
      -- any
      refine ⟨_, rfl, Nat.zero_le _, fun n1 nn1 => ?_⟩
      have sn1 := same_upd (o := .lst []) nn1
      refine ⟨D, n1, _, rfl, rfl, SqL.of (sn1 _ _ (s3 _ _ hD1)), SqL.of upd_same, _, rfl, ?_⟩
      have hy1n := dp_sameAll (s3.trans sn1) _ _ hy1
      have hy2n := dp_sameAll sn1 _ _ hy2
      have hD1n := sn1 _ _ (s3 _ _ hD1)
      have hD2n := sn1 _ _ hD2
      have s4 := s23.trans sn1
      revert hy1n hy2n hD1n hD2n s4
      generalize upd H3 n1 (.lst []) = H4
      intro hy1n hy2n hD1n hD2n s4
      cases hrs : h.filter (fun r => decide (r.t = one) && !r.wr) with
      | nil =>
        rw [hrs] at hy1n
        cases hy1n
        refine iteF (q H4 false s4 ⟨(fun z => by cases z), fun z => ?_⟩)
        obtain ⟨r, hr, w, hw, r1, w1, ev, et, eo, lt⟩ := sE.mp z
        have : r ∈ h.filter (fun r => decide (r.t = one) && !r.wr) := List.mem_filter.mpr ⟨hr, by rw [decide_eq_true et, r1]; rfl⟩
        rw [hrs] at this
        cases this
      | cons r rs0 =>
        rw [hrs] at hy1n
        have hr : r ∈ h ∧ r.t = one ∧ r.wr = false := by
          have : r ∈ h.filter (fun r => decide (r.t = one) && !r.wr) := by rw [hrs]; exact List.mem_cons_self
          have := List.mem_filter.mp this
          exact ⟨this.1, by simpa using this.2⟩
        cases hy1n with
        | cons pr hy1t =>
          refine iteT ⟨_, rfl, Nat.zero_le _, fun n2 nn2 => ?_⟩
          have sn2 := same_upd (o := .lst []) nn2
          refine ⟨D2, n2, _, rfl, rfl, SqL.of (sn2 _ _ hD2n), SqL.of upd_same, _, rfl, ?_⟩
          have s5 := s4.trans sn2
          cases hws : h.filter (fun r => decide (r.t = oth) && r.wr) with
          | nil =>
            rw [hws] at hy2n
            cases hy2n
            refine iteF (q _ false s5 ⟨(fun z => by cases z), fun z => ?_⟩)
            obtain ⟨r, hr, w, hw, r1, w1, ev, et, eo, lt⟩ := sE.mp z
            have : w ∈ h.filter (fun r => decide (r.t = oth) && r.wr) := List.mem_filter.mpr ⟨hw, by rw [decide_eq_true eo, w1]; rfl⟩
            rw [hws] at this
            cases this
          | cons w ws0 =>
            rw [hws] at hy2n
            have hw : w ∈ h ∧ w.t = oth ∧ w.wr = true := by
              have : w ∈ h.filter (fun r => decide (r.t = oth) && r.wr) := by rw [hws]; exact List.mem_cons_self
              have := List.mem_filter.mp this
              exact ⟨this.1, by simpa using this.2⟩
            cases hy2n with
            | cons pw hy2t =>
              obtain ⟨br, rfl, hbr⟩ := dp_h (dp_same sn2 _ _ pr)
              obtain ⟨bw, rfl, hbw⟩ := dp_h (dp_same sn2 _ _ pw)
              have hD1m := sn2 _ _ hD1n
              have hD2m := sn2 _ _ hD2n
              have fin : EarlyP h one oth ↔ r.v = w.v ∧ r.e < w.b := by
                constructor
                · rintro ⟨r', hr', w', hw', r1, w1, ev, et, eo, lt⟩
                  have e1 := task_inj good.tn r' hr' r hr.1 (by rw [et, hr.2.1])
                  have e2 := task_inj good.tn w' hw' w hw.1 (by rw [eo, hw.2.1])
                  subst e1
                  subst e2
                  exact ⟨ev, lt⟩
                · rintro ⟨ev, lt⟩
                  exact ⟨r, hr.1, w, hw.1, hr.2.2, hw.2.2, ev, hr.2.1, hw.2.1, lt⟩
              refine iteT ⟨_, rfl, D, _, 0, _, rfl, rfl, SqL.of hD1m, atI_nat (j := 0) rfl, br, _, 2, _, rfl, rfl, hbr, atI_nat (j := 2) rfl, _, rfl, D2, _, 0, _, rfl, rfl, SqL.of hD2m, atI_nat (j := 0) rfl, bw, _, 2, _, rfl, rfl, hbw, atI_nat (j := 2) rfl, rfl, _, rfl, ?_⟩
              by_cases hvv : r.v = w.v
              · refine iteD' (congrArg V.int hvv) ⟨_, rfl, D, _, 0, _, rfl, rfl, SqL.of hD1m, atI_nat (j := 0) rfl, br, _, 4, _, rfl, rfl, hbr, atI_nat (j := 4) rfl, _, rfl, D2, _, 0, _, rfl, rfl, SqL.of hD2m, atI_nat (j := 0) rfl, bw, _, 3, _, rfl, rfl, hbw, atI_nat (j := 3) rfl, _, _, rfl, rfl, ?_⟩
                refine q _ _ s5 ?_
                rw [sE, fin, decide_eq_true_iff]
                exact ⟨fun z => ⟨hvv, z⟩, fun z => z.2⟩
              · refine iteD (fun z => hvv (V.int.inj z)) (q _ false s5 ⟨(fun z => by cases z), fun z => ?_⟩)
                exact absurd (fin.mp (sE.mp z)).1 hvv
    · -- the others
      have ew : ¬ wd = "early" := fun z => e (decide_eq_true (by rw [z]))
      refine ⟨(by show 1 ≤ sizeLine; decide), fun Z nZ => ?_⟩
      have sZ := same_upd (o := .lst [V.int 0]) nZ
      have hZ := upd_same (H := H) (a := Z) (o := .lst [V.int 0])
      refine ⟨_, rfl, a, rfl, ⟨_, sZ.seq hs⟩, fun D nD => lc_map hD PyData.int (·.v) (sZ.seq hs) (dp_sameAll sZ _ _ ha) nD (by omega) (fun _ => rfl) ?_ ?_⟩
      · intro i v r H2 k er s2 pr hk
        obtain ⟨b, rfl, hb⟩ := dp_h pr
        exact ⟨rfl, _, rfl, b, _, 2, _, rfl, rfl, hb, atI_nat (j := 2) rfl, hk _ _ (Same.refl _) (.int _)⟩
      intro H2 y1 s2 hD1 hy1
      have e1 := dp_ints hy1
      subst e1
      refine ⟨Z, D, _, _, rfl, rfl, s2 _ _ hZ, hD1, by rw [List.length_map, List.length_map, sizeLine_eq]; show 1 + h.length ≤ _; omega, fun R nR => ?_⟩
      have sR := same_upd (o := .lst ([V.int 0] ++ (h.map (·.v)).map V.int)) nR
      have hR : upd H2 R (.lst ([V.int 0] ++ (h.map (·.v)).map V.int)) R = some (.lst ((0 :: h.map (·.v)).map V.int)) := upd_same
      have s3 := sZ.trans (s2.trans sR)
      revert hR s3
      generalize upd H2 R (.lst ([V.int 0] ++ (h.map (·.v)).map V.int)) = H3
      intro hR s3
      have hvm : ∀ k : Int, k ∈ (0 :: h.map (·.v)) ↔ isVal h k := fun k => by
        unfold isVal
        simp only [List.mem_cons, List.mem_map]
      have no : (¬ (wd = "both" ∧ BothP h one oth)) → (¬ (wd = "within" ∧ WithinP h one oth)) → ¬ ShowsP h (wd, one, oth) := fun n1 n2 z => by
        rcases z with ⟨z, _⟩ | z | z
        · exact ew z
        · exact n1 z
        · exact n2 z
      have stop : ∀ {H' : Hp}, Same H H' → ¬ ShowsP h (wd, one, oth) → Q (.bl false) H' := fun s hno => q _ false s ⟨(fun z => by cases z), fun z => absurd z hno⟩
      -- is it one of the words
      refine ⟨_, rfl, two_ok _ _, fun L nL => ?_⟩
      have sL := same_upd (o := .lst [V.str "both", V.str "within"]) nL
      refine ⟨L, _, rfl, .inl (SqL.of upd_same), rfl, rfl, _, rfl, ?_⟩
      have s4 := s3.trans sL
      have hR4 := sL _ _ hR
      revert s4 hR4
      generalize upd H3 L (.lst [V.str "both", V.str "within"]) = H4
      intro s4 hR4
      have einv : inV (.str wd) [V.str "both", V.str "within"] = (decide (wd = "both") || decide (wd = "within")) := by
        show (eqV (V.str "both") (V.str wd) || (eqV (V.str "within") (V.str wd) || false)) = _
        rw [Bool.or_false]
        have h1 : ∀ z : Str, eqV (V.str z) (V.str wd) = decide (wd = z) := fun z => by
          show (z == wd) = _
          by_cases hz : wd = z
          · subst hz
            simp
          · rw [decide_eq_false hz]
            simp
            exact fun e => hz e.symm
        rw [h1, h1]
      show if (!inV (.str wd) [V.str "both", V.str "within"]) = true then _ else _
      rw [einv]
      by_cases hword : wd = "both" ∨ wd = "within"
      · have eo : (!(decide (wd = "both") || decide (wd = "within"))) = false := by
          rcases hword with z | z
          · rw [decide_eq_true z]; rfl
          · rw [decide_eq_true z, Bool.or_true]; rfl
        rw [eo]
        refine iteF ⟨_, rfl, _, rfl, rfl, _, rfl, ?_⟩
        by_cases heq : one = oth
        · rw [decide_eq_true (congrArg V.int heq)]
          refine iteT (iteT (stop s4 (no (fun z => ?_) (fun z => ?_))))
          · obtain ⟨_, _, _, lt, _⟩ := z
            omega
          · obtain ⟨_, _, _, o1, o2, _⟩ := z
            rw [heq, o2] at o1
            cases o1
        · rw [decide_eq_false (fun z => heq (V.int.inj z))]
          refine iteF ⟨_, rfl, _, rfl, R, _, rfl, .inl (SqL.of hR4), rfl, flat_ints _, _, rfl, ?_⟩
          show if (!inV (.int one) ((0 :: h.map (·.v)).map V.int)) = true then _ else _
          rw [inV_int]
          by_cases h1 : one ∈ (0 :: h.map (·.v))
          · rw [decide_eq_true h1]
            refine iteF ⟨_, rfl, _, rfl, R, _, rfl, .inl (SqL.of hR4), rfl, flat_ints _, _, rfl, ?_⟩
            show if (!inV (.int oth) ((0 :: h.map (·.v)).map V.int)) = true then _ else _
            rw [inV_int]
            by_cases h2 : oth ∈ (0 :: h.map (·.v))
            · rw [decide_eq_true h2]
              have v1 := (hvm one).mp h1
              have v2 := (hvm oth).mp h2
              refine iteF ⟨_, rfl, _, rfl, _, h, one, rfl, dp_same s4 _ _ hv, hlen, v1, fun p1 H5 z1 hz1 s5 n5 hp1 => ?_⟩
              refine ⟨_, rfl, _, rfl, _, h, oth, rfl, dp_same (s4.trans s5) _ _ hv, hlen, v2, fun p2 H6 z2 hz2 s6 n6 hp2 => ?_⟩
              have hp1' := SqT.of (K := K) (s6 _ _ hp1)
              have hp2' := SqT.of (K := K) hp2
              have s7 := s4.trans (s5.trans s6)
              have o1 : opnV h one = decide (z1.1 < z1.2) := by unfold opnV; rw [hz1]; rfl
              have o2 : opnV h oth = decide (z2.1 < z2.2) := by unfold opnV; rw [hz2]; rfl
              have cl : clsV h one oth = (decide (z1.1 < z2.2) && decide (z2.1 < z1.2)) := by unfold clsV; rw [hz1, hz2]; rfl
              have must : ShowsP h (wd, one, oth) → z1.1 < z2.2 ∧ z2.1 < z1.2 ∧ z1.1 < z1.2 := fun z => by
                have : opnV h one = true ∧ clsV h one oth = true := by
                  rcases z with ⟨z, _⟩ | ⟨_, z⟩ | ⟨_, z⟩
                  · exact absurd z ew
                  · exact ⟨z.2.2.2.1, z.2.2.2.2.2⟩
                  · exact ⟨z.2.2.1, z.2.2.2.2⟩
                rw [o1, cl] at this
                simp only [Bool.and_eq_true, decide_eq_true_eq] at this
                exact ⟨this.2.1, this.2.2, this.1⟩
              refine ⟨_, rfl, p1, _, 0, _, rfl, rfl, hp1', atI_nat (j := 0) rfl, _, rfl, p2, _, 1, _, rfl, rfl, hp2', atI_nat (j := 1) rfl, _, _, rfl, rfl, _, rfl, ?_⟩
              by_cases c1 : z1.1 < z2.2
              · refine iteD' c1 ⟨_, rfl, p2, _, 0, _, rfl, rfl, hp2', atI_nat (j := 0) rfl, _, rfl, p1, _, 1, _, rfl, rfl, hp1', atI_nat (j := 1) rfl, _, _, rfl, rfl, _, rfl, ?_⟩
                by_cases c2 : z2.1 < z1.2
                · rw [decide_eq_true c2]
                  refine iteF ⟨_, rfl, p1, _, 0, _, rfl, rfl, hp1', atI_nat (j := 0) rfl, _, rfl, p1, _, 1, _, rfl, rfl, hp1', atI_nat (j := 1) rfl, _, _, rfl, rfl, _, rfl, ?_⟩
                  by_cases c3 : z1.1 < z1.2
                  · rw [decide_eq_true c3]
                    have o1t : opnV h one = true := by rw [o1]; exact decide_eq_true c3
                    have clt : clsV h one oth = true := by rw [cl, decide_eq_true c1, decide_eq_true c2]; rfl
                    refine iteF ⟨_, rfl, rfl, _, rfl, ?_⟩
                    by_cases hb : wd = "both"
                    · rw [decide_eq_true (congrArg V.str hb)]
                      have sB : ShowsP h (wd, one, oth) ↔ one < oth ∧ z2.1 < z2.2 := by
                        constructor
                        · rintro (⟨z, _⟩ | ⟨_, z⟩ | ⟨z, _⟩)
                          · exact absurd z ew
                          · have := z.2.2.2.2.1
                            rw [o2] at this
                            exact ⟨z.2.2.1, of_decide_eq_true this⟩
                          · exact absurd (hb.symm.trans z) (by decide)
                        · rintro ⟨lt, z⟩
                          exact .inr (.inl ⟨hb, v1, v2, lt, o1t, by rw [o2]; exact decide_eq_true z, clt⟩)
                      refine iteT ⟨_, rfl, _, rfl, one, oth, rfl, rfl, _, rfl, ?_⟩
                      by_cases lt : one < oth
                      · refine iteD' lt ⟨_, rfl, p2, _, 0, _, rfl, rfl, hp2', atI_nat (j := 0) rfl, _, rfl, p2, _, 1, _, rfl, rfl, hp2', atI_nat (j := 1) rfl, _, _, rfl, rfl, q _ _ s7 ?_⟩
                        rw [sB, decide_eq_true_iff]
                        exact ⟨fun z => ⟨lt, z⟩, fun z => z.2⟩
                      · exact iteD lt (stop s7 (fun z => lt (sB.mp z).1))
                    · rw [decide_eq_false (fun z => hb (V.str.inj z))]
                      have hw : wd = "within" := hword.resolve_left hb
                      refine iteF ⟨_, rfl, p2, _, 0, _, rfl, rfl, hp2', atI_nat (j := 0) rfl, _, rfl, p2, _, 1, _, rfl, rfl, hp2', atI_nat (j := 1) rfl, _, _, rfl, rfl, q _ _ s7 ?_⟩
                      rw [decide_eq_true_iff]
                      constructor
                      · intro z
                        exact .inr (.inr ⟨hw, v1, v2, o1t, by rw [o2]; exact decide_eq_false (by omega), clt⟩)
                      · rintro (⟨z, _⟩ | ⟨z, _⟩ | ⟨_, z⟩)
                        · exact absurd z ew
                        · exact absurd z hb
                        · have := z.2.2.2.1
                          rw [o2] at this
                          have := of_decide_eq_false this
                          omega
                  · rw [decide_eq_false c3]
                    exact iteT (stop s7 (fun z => c3 (must z).2.2))
                · rw [decide_eq_false c2]
                  exact iteT (iteT (stop s7 (fun z => c2 (must z).2.1)))
              · refine iteD c1 ?_
                exact iteT (iteT (stop s7 (fun z => c1 (must z).1)))
            · rw [decide_eq_false h2]
              refine iteT (stop s4 (no (fun z => h2 ((hvm oth).mpr z.2.2.1)) (fun z => h2 ((hvm oth).mpr z.2.2.1))))
          · rw [decide_eq_false h1]
            refine iteT (iteT (stop s4 (no (fun z => h1 ((hvm one).mpr z.2.1)) (fun z => h1 ((hvm one).mpr z.2.1)))))
      · have eo : (!(decide (wd = "both") || decide (wd = "within"))) = true := by
          rw [decide_eq_false (fun z => hword (.inl z)), decide_eq_false (fun z => hword (.inr z))]
          rfl
        rw [eo]
        exact iteT (iteT (stop s4 (no (fun z => hword (.inl z.1)) (fun z => hword (.inr z.1)))))

/-! ### the law -/
abbrev s_law : Stmt := topS 15
theorem sc_law : FnScope ["script", "k", "bag", "history", "tasks", "values", "word", "one", "other", "found", "row"] ["script"] (defScope s_law) := ⟨rfl, rfl, rfl, by decide +kernel, rfl, by decide +kernel, by decide +kernel⟩
def splaw (K : PySem.W.Frag) : Sp := fun vs H Q _ => ∃ (a : Addr) (ns : List Int), vs = [.ref a] ∧ SqL K H a (ns.map V.int) ∧ ns.length ≤ 63 ∧ ∀ H', Q (.bl true) H'
def words6' : List Str := ["early", "both", "within", "order", "", "Both"]
theorem words6'_ok : ∀ m ∈ words6', PyData.strOk m = true := by decide +kernel
theorem ok_law {f : Addr} {fd : FuncData} (F : Fun K "law" "law" s_law f fd) (N : Fre K mg) (c__law_bag : C8.Cal P w K mg base 1 "_law_bag" (sp_law_bag K) []) (c__law_history : C8.Cal P w K mg base 2 "_law_history" (sp_law_history K) []) (c__law_shows : C8.Cal P w K mg base 2 "_law_shows" (sp_law_shows K) []) (c_shows_none : C8.Cal P w K mg base 4 "shows_none" (spshows_none K) []) : FnOk P w K mg base CX0 5 f fd ["script"] (splaw K) := by
  refine F.ok sc_law (fun vs H Q E h => ?_) (fun cdv A outer s H vs Q E hr h => ?_)
  · obtain ⟨a, ns, rfl, _⟩ := h
    rfl
  · obtain ⟨a, ns, rfl, hS, hlen, q⟩ := h
    refine ⟨_, (pss_cons (ps_for PassesOwn.never rfl (pi_range1 (by rfl) N.range (pa_cons (pe_op op_add pe_int (pe_callB (call_min2 rfl) (by rfl) N.min (by decide +kernel) (pa_cons (pe_callB call_len_seq (by rfl) N.len (by decide +kernel) (pa_cons (pv 0) pa_nil)) (pa_cons pe_int pa_nil)))) pa_nil)) (pg_name (i := 1) sc_law.nd rfl (.inl rfl))
 (pss_cons (ps_set (i := 2) sc_law.nd rfl (.inl rfl) (C8.pe_c c__law_bag hr (by decide) rfl (pa_cons (pv 0) (pa_cons (pv 1) pa_nil))))
 (pss_cons (ps_set (i := 3) sc_law.nd rfl (.inl rfl) (C8.pe_c c__law_history hr (by decide) rfl (pa_cons (pv 2) (pa_cons pe_int pa_nil))))
 (pss_cons (ps_set (i := 4) sc_law.nd rfl (.inl rfl) (pe_op op_cat (pe_lc (own := [("row", 10)]) (g := gName 10) (tt := tYes) rfl sc_law.nd (pi_list (pv 3)) (blkOk_by (N := ["script", "k", "bag", "history", "tasks", "values", "word", "one", "other", "found", "row"]) (sc := defScope s_law) (by decide +kernel)) (fun _ _ _ _ _ => pg_name (i := 10) sc_law.nd rfl (Or.inl rfl)) (fun _ _ _ _ _ => pts_nil) (fun _ _ _ _ _ => (pe_ix (show IxR _ (rIxT K) from ix_tup) (pv 10) pe_int (fun _ _ => rfl)))) (pe_lst (pa_cons pe_int pa_nil))))
 (pss_cons (ps_set (i := 5) sc_law.nd rfl (.inl rfl) (pe_op op_cat (pe_op op_cat (pe_lst (pa_cons pe_int pa_nil)) (pe_lc (own := [("row", 10)]) (g := gName 10) (tt := tYes) rfl sc_law.nd (pi_list (pv 3)) (blkOk_by (N := ["script", "k", "bag", "history", "tasks", "values", "word", "one", "other", "found", "row"]) (sc := defScope s_law) (by decide +kernel)) (fun _ _ _ _ _ => pg_name (i := 10) sc_law.nd rfl (Or.inl rfl)) (fun _ _ _ _ _ => pts_nil) (fun _ _ _ _ _ => (pe_ix (show IxR _ (rIxT K) from ix_tup) (pv 10) pe_int (fun _ _ => rfl))))) (pe_lst (pa_cons pe_int pa_nil))))
 (pss_one (ps_for PassesOwn.never rfl (pi_list (pe_lst (pa_cons pe_str (pa_cons pe_str (pa_cons pe_str (pa_cons pe_str (pa_cons pe_str (pa_cons pe_str pa_nil)))))))) (pg_name (i := 6) sc_law.nd rfl (.inl rfl))
 (pss_one (ps_for PassesOwn.never rfl (pi_list (pe_callB (show CallR _ _ (rSortedSet w) from cr_sortedSet rfl) (by rfl) N.sorted (by decide +kernel) (pa_cons (pe_callTy (show CallR _ _ (rSetL K w) from cr_setL rfl) (by rfl) N.set (by decide +kernel) (pa_cons (pe_op op_cat (pv 4) (pv 5)) pa_nil)) pa_nil))) (pg_name (i := 7) sc_law.nd rfl (.inl rfl))
 (pss_one (ps_for PassesOwn.never rfl (pi_list (pe_callB (show CallR _ _ (rSortedSet w) from cr_sortedSet rfl) (by rfl) N.sorted (by decide +kernel) (pa_cons (pe_callTy (show CallR _ _ (rSetL K w) from cr_setL rfl) (by rfl) N.set (by decide +kernel) (pa_cons (pe_op op_cat (pv 4) (pv 5)) pa_nil)) pa_nil))) (pg_name (i := 8) sc_law.nd rfl (.inl rfl))
 (pss_cons (ps_set (i := 9) sc_law.nd rfl (.inl rfl) (C8.pe_c c_shows_none hr (by decide) rfl (pa_cons (pv 3) (pa_cons (pe_tup (pa_cons (pv 6) (pa_cons (pv 7) (pa_cons (pv 8) pa_nil)))) pa_nil))))
 (pss_one (ps_if (PW.pt (pw_or (pt_not (pt_val (pe_callB call_isi (by rfl) N.isinstance (by decide +kernel) (pa_cons (pv 9) (pa_cons (pe_bltn (v := .ty "bool") (u := .type "bool") rfl N.bool (by decide +kernel) rfl) pa_nil))))) (pw_or1 (pt_cmpR op_ne (pv 9) (C8.pe_c c__law_shows hr (by decide) rfl (pa_cons (pv 3) (pa_cons (pe_tup (pa_cons (pv 6) (pa_cons (pv 7) (pa_cons (pv 8) pa_nil)))) pa_nil))) (nomark _)))))
 (pss_one (ps_ret pe_bl))
 pss_nil))))))))))))))
 (pss_one (ps_ret pe_bl))), ?_⟩
    refine ⟨_, rfl, a, _, rfl, .inl hS, _, 3, rfl, 1, _, rfl, rfl, ?_⟩
    have hm : 0 ≤ (if (3 : Int) < ((ns.map V.int).length : Nat) then (3 : Int) else ((ns.map V.int).length : Nat)) ∧ (if (3 : Int) < ((ns.map V.int).length : Nat) then (3 : Int) else ((ns.map V.int).length : Nat)) ≤ 3 := by
      split <;> omega
    generalize (if (3 : Int) < ((ns.map V.int).length : Nat) then (3 : Int) else ((ns.map V.int).length : Nat)) = mn at hm ⊢
    refine ⟨1 + mn, rfl, by omega, by omega, for_range (fun _ σ H1 => ∃ y1 y2 y3 y4 y5 y6 y7 y8 y9 y10, σ = [some (.ref a), y1, y2, y3, y4, y5, y6, y7, y8, y9, y10] ∧ Same H H1) ⟨none, none, none, none, none, none, none, none, none, none, rfl, Same.refl H⟩ ?_ (fun σ H1 _ => q H1)⟩
    rintro i σ H1 hi ⟨y1, y2, y3, y4, y5, y6, y7, y8, y9, y10, rfl, sm1⟩
    -- bag
    refine ⟨_, rfl, _, rfl, a, ns, _, rfl, sm1.seq hS, by omega, by omega, fun b H2 nb sm2 G2 => ?_⟩
    have nb0 : H b = none := sm1.free nb
    have s2 : Same H H2 := sm1.trans sm2
    -- history
    refine ⟨_, rfl, b, 6, rfl, G2, by decide, by decide, fun L H3 h good hl np B3 G3 hL => ?_⟩
    have s3 : Same H H3 := same_but s2 nb0 B3
    obtain ⟨xs, hxs, hxa⟩ := hL
    have hl6 : h.length ≤ 6 := by omega
    -- tasks
    refine ⟨_, rfl, L, rfl, ⟨_, SqL.of hxs⟩, fun D nD => lc_map hD PyData.int HRow.t (SqL.of hxs) hxa nD (by omega) (fun _ => rfl) ?_ ?_⟩
    · intro j v r H4 k er s4 pr hk
      obtain ⟨c, rfl, hc⟩ := dp_h pr
      exact ⟨rfl, _, rfl, c, _, 0, _, rfl, rfl, hc, atI_nat (j := 0) rfl, hk _ _ (Same.refl _) (.int _)⟩
    intro H4 yt s4 hDt hyt
    have et := dp_ints hyt
    subst et
    refine ⟨(by show 1 ≤ sizeLine; decide), fun N1 nN1 => ?_⟩
    have u1 := same_upd (o := .lst [V.int 99]) nN1
    refine ⟨D, N1, _, _, rfl, rfl, u1 _ _ hDt, upd_same, by rw [List.length_map, List.length_map, sizeLine_eq]; show h.length + 1 ≤ _; omega, fun T nT => ?_⟩
    have u2 := same_upd (o := .lst ((h.map HRow.t).map V.int ++ [V.int 99])) nT
    have hT : upd (upd H4 N1 (.lst [V.int 99])) T (.lst ((h.map HRow.t).map V.int ++ [V.int 99])) T = some (.lst ((h.map HRow.t ++ [99]).map V.int)) := by
      rw [upd_same, List.map_append]
      rfl
    have s5 : Same H3 (upd (upd H4 N1 (.lst [V.int 99])) T (.lst ((h.map HRow.t).map V.int ++ [V.int 99]))) := s4.trans (u1.trans u2)
    revert hT s5
    generalize upd (upd H4 N1 (.lst [V.int 99])) T (.lst ((h.map HRow.t).map V.int ++ [V.int 99])) = H5
    intro hT s5
    clear u1 u2 nT nN1 hDt hyt s4
    -- values
    refine ⟨(by show 1 ≤ sizeLine; decide), fun N2 nN2 => ?_⟩
    have v1 := same_upd (o := .lst [V.int 0]) nN2
    have hN2 := upd_same (H := H5) (a := N2) (o := .lst [V.int 0])
    have s6 := s5.trans v1
    have hT6 := v1 _ _ hT
    revert hN2 s6 hT6
    generalize upd H5 N2 (.lst [V.int 0]) = H6
    intro hN2 s6 hT6
    refine ⟨_, rfl, L, rfl, ⟨_, SqL.of (s6 _ _ hxs)⟩, fun D2 nD2 => lc_map hD PyData.int HRow.v (SqL.of (s6 _ _ hxs)) (dp_sameAll s6 _ _ hxa) nD2 (by omega) (fun _ => rfl) ?_ ?_⟩
    · intro j v r H7 k er s7 pr hk
      obtain ⟨c, rfl, hc⟩ := dp_h pr
      exact ⟨rfl, _, rfl, c, _, 2, _, rfl, rfl, hc, atI_nat (j := 2) rfl, hk _ _ (Same.refl _) (.int _)⟩
    intro H7 yv s7 hDv hyv
    have ev := dp_ints hyv
    subst ev
    refine ⟨N2, D2, _, _, rfl, rfl, s7 _ _ hN2, hDv, by rw [List.length_map, List.length_map, sizeLine_eq]; show 1 + h.length ≤ _; omega, fun R nR => ⟨(by show 1 ≤ sizeLine; decide), fun N3 nN3 => ?_⟩⟩
    have w1 := same_upd (o := .lst ([V.int 0] ++ (h.map HRow.v).map V.int)) nR
    have w2 := same_upd (o := .lst [V.int 1000]) nN3
    refine ⟨R, N3, _, _, rfl, rfl, w2 _ _ upd_same, upd_same, by rw [List.length_append, List.length_map, List.length_map, sizeLine_eq]; show 1 + h.length + 1 ≤ _; omega, fun Vv nV => ?_⟩
    have w3 := same_upd (o := .lst ([V.int 0] ++ (h.map HRow.v).map V.int ++ [V.int 1000])) nV
    have hV' : upd (upd (upd H7 R (.lst ([V.int 0] ++ (h.map HRow.v).map V.int))) N3 (.lst [V.int 1000])) Vv (.lst ([V.int 0] ++ (h.map HRow.v).map V.int ++ [V.int 1000])) Vv = some (.lst ((0 :: h.map HRow.v ++ [1000]).map V.int)) := by
      rw [upd_same, List.map_append]
      rfl
    have s8 : Same H3 (upd (upd (upd H7 R (.lst ([V.int 0] ++ (h.map HRow.v).map V.int))) N3 (.lst [V.int 1000])) Vv (.lst ([V.int 0] ++ (h.map HRow.v).map V.int ++ [V.int 1000]))) := s6.trans (s7.trans (w1.trans (w2.trans w3)))
    have hT8 := (s7.trans (w1.trans (w2.trans w3))) _ _ hT6
    revert hV' s8 hT8
    generalize upd (upd (upd H7 R (.lst ([V.int 0] ++ (h.map HRow.v).map V.int))) N3 (.lst [V.int 1000])) Vv (.lst ([V.int 0] ++ (h.map HRow.v).map V.int ++ [V.int 1000])) = H8
    intro hV' s8 hT8
    have lt : (h.map HRow.t ++ [99]).length ≤ 7 := by rw [List.length_append, List.length_map]; show h.length + 1 ≤ 7; omega
    have lv : (0 :: h.map HRow.v ++ [1000]).length ≤ 8 := by
      rw [List.length_append, List.length_cons, List.length_map]
      show h.length + 1 + 1 ≤ 8
      omega
    revert hT8 hV' lt lv
    generalize (h.map HRow.t ++ [99]) = ts
    generalize (0 :: h.map HRow.v ++ [1000]) = us
    intro hV' hT8 lt lv
    have hL8 := s8 _ _ hxs
    have hA8 := dp_sameAll s8 _ _ hxa
    -- words
    refine ⟨(by show 6 ≤ sizeLine; decide), fun Lw nLw => ⟨Lw, rfl, ⟨_, SqL.of upd_same⟩, ?_⟩⟩
    have sw := same_upd (o := .lst (words6'.map V.str)) nLw
    have hLw := upd_same (H := H8) (a := Lw) (o := .lst (words6'.map V.str))
    refine for_list (xs := words6'.map V.str) (fun _ σ H9 => (∃ x6 x7 x8 x9, σ = [some (.ref a), some (.int (0 + (i : Int))), some (.ref b), some (.ref L), some (.ref T), some (.ref Vv), x6, x7, x8, x9, y10]) ∧ Same (upd H8 Lw (.lst (words6'.map V.str))) H9) ⟨⟨_, _, _, _, rfl⟩, Same.refl _⟩ (fun _ σ H9 _ z => SqL.of (z.2 _ _ hLw)) ?_ ?_
    · rintro j x σ H9 hx ⟨⟨x6, x7, x8, x9, rfl⟩, s9⟩
      obtain ⟨wd, hwd, rfl⟩ := List.mem_map.mp (List.mem_of_getElem? hx)
      have s89 := sw.trans s9
      -- one
      refine ⟨_, rfl, _, rfl, T, Vv, _, _, rfl, rfl, s89 _ _ hT8, s89 _ _ hV', by rw [List.length_map, List.length_map, sizeLine_eq]; omega, fun C nC => ?_⟩
      have sC := same_upd (o := .lst (ts.map V.int ++ us.map V.int)) nC
      refine ⟨C, ts ++ us, rfl, SqL.of (by rw [upd_same, List.map_append]), by rw [List.length_append]; omega, fun S c nS hc => ?_⟩
      have sS := same_upd (o := SetO w S (fun j => decide (j ∈ ts ++ us)) c) nS
      rw [List.length_append] at hc
      refine ⟨S, _, c, rfl, upd_same, by omega, fun os p hos hom hol np => ⟨p, rfl, ⟨_, SqL.of upd_same⟩, ?_⟩⟩
      have sp := same_upd (o := .lst (os.map V.int)) np
      have hp := upd_same (H := upd (upd H9 C (.lst (ts.map V.int ++ us.map V.int))) S (SetO w S (fun j => decide (j ∈ ts ++ us)) c)) (a := p) (o := .lst (os.map V.int))
      have sA := s89.trans (sC.trans (sS.trans sp))
      have s9A := sC.trans (sS.trans sp)
      revert hp sA s9A
      generalize upd (upd (upd H9 C (.lst (ts.map V.int ++ us.map V.int))) S (SetO w S (fun j => decide (j ∈ ts ++ us)) c)) p (.lst (os.map V.int)) = Ha
      intro hp sA s9A
      refine for_list (xs := os.map V.int) (fun _ σ Hb => (∃ x7 x8 x9, σ = [some (.ref a), some (.int (0 + (i : Int))), some (.ref b), some (.ref L), some (.ref T), some (.ref Vv), some (.str wd), x7, x8, x9, y10]) ∧ Same Ha Hb) ⟨⟨_, _, _, rfl⟩, Same.refl _⟩ (fun _ σ Hb _ z => SqL.of (z.2 _ _ hp)) ?_ ?_
      · rintro j2 x2 σ Hb hx2 ⟨⟨x7, x8, x9, rfl⟩, sb⟩
        obtain ⟨one, _, rfl⟩ := List.mem_map.mp (List.mem_of_getElem? hx2)
        have s8b := sA.trans sb
        -- other
        refine ⟨_, rfl, _, rfl, T, Vv, _, _, rfl, rfl, s8b _ _ hT8, s8b _ _ hV', by rw [List.length_map, List.length_map, sizeLine_eq]; omega, fun C2 nC2 => ?_⟩
        have sC2 := same_upd (o := .lst (ts.map V.int ++ us.map V.int)) nC2
        refine ⟨C2, ts ++ us, rfl, SqL.of (by rw [upd_same, List.map_append]), by rw [List.length_append]; omega, fun S2 c2 nS2 hc2 => ?_⟩
        have sS2 := same_upd (o := SetO w S2 (fun j => decide (j ∈ ts ++ us)) c2) nS2
        rw [List.length_append] at hc2
        refine ⟨S2, _, c2, rfl, upd_same, by omega, fun os2 p2 hos2 hom2 hol2 np2 => ⟨p2, rfl, ⟨_, SqL.of upd_same⟩, ?_⟩⟩
        have sp2 := same_upd (o := .lst (os2.map V.int)) np2
        have hp2 := upd_same (H := upd (upd Hb C2 (.lst (ts.map V.int ++ us.map V.int))) S2 (SetO w S2 (fun j => decide (j ∈ ts ++ us)) c2)) (a := p2) (o := .lst (os2.map V.int))
        have sBC := sC2.trans (sS2.trans sp2)
        revert hp2 sBC
        generalize upd (upd (upd Hb C2 (.lst (ts.map V.int ++ us.map V.int))) S2 (SetO w S2 (fun j => decide (j ∈ ts ++ us)) c2)) p2 (.lst (os2.map V.int)) = Hc
        intro hp2 sBC
        have s8c := s8b.trans sBC
        have sac := sb.trans sBC
        refine for_list (xs := os2.map V.int) (fun _ σ Hd => (∃ x8 x9, σ = [some (.ref a), some (.int (0 + (i : Int))), some (.ref b), some (.ref L), some (.ref T), some (.ref Vv), some (.str wd), some (.int one), x8, x9, y10]) ∧ Same Hc Hd) ⟨⟨_, _, rfl⟩, Same.refl _⟩ (fun _ σ Hd _ z => SqL.of (z.2 _ _ hp2)) ?_ ?_
        · rintro j3 x3 σ Hd hx3 ⟨⟨x8, x9, rfl⟩, sd⟩
          obtain ⟨oth, _, rfl⟩ := List.mem_map.mp (List.mem_of_getElem? hx3)
          have s8d := s8c.trans sd
          have hist : ∀ {H' : Hp}, Same Hd H' → Dp K H' (.ref L) (.list (h.map hD)) := fun s => .lst (SqL.of ((s8d.trans s) _ _ hL8)) (dp_sameAll (s8d.trans s) _ _ hA8)
          refine ⟨_, rfl, _, rfl, _, rfl, _, rfl, three_ok _ _ _, fun t nt => ?_⟩
          have st := same_upd (o := .tup [V.str wd, V.int one, V.int oth]) nt
          refine ⟨_, _, h, (wd, one, oth), rfl, hist st, rea_dp (SqT.of upd_same), words6'_ok wd hwd, by omega, good.one, fun He c se hc => ?_⟩
          refine ⟨_, rfl, _, _, _, _, true, rfl, .ty _, .base (.bl _), kit_ty (by decide +kernel), _, rfl, iteF ?_⟩
          refine ⟨_, rfl, _, rfl, _, rfl, _, rfl, _, rfl, three_ok _ _ _, fun t2 nt2 => ?_⟩
          have st2 := same_upd (o := .tup [V.str wd, V.int one, V.int oth]) nt2
          refine ⟨_, _, h, (wd, one, oth), rfl, hist (st.trans (se.trans st2)), rea_dp (SqT.of upd_same), by omega, good, fun Hf c2 sf hc2 => ⟨rfl, _, rfl, ?_⟩⟩
          have ecc : c = c2 := by
            cases c with
            | true => exact (hc2.mpr (hc.mp rfl)).symm
            | false =>
              cases c2 with
              | false => rfl
              | true => exact hc.mpr (hc2.mp rfl)
          subst ecc
          rw [show (!decide (V.bl c = V.bl c)) = false by simp]
          exact iteF ⟨⟨_, _, rfl⟩, sd.trans (st.trans (se.trans (st2.trans sf)))⟩
        · rintro σ Hd ⟨⟨x8, x9, rfl⟩, sd⟩
          exact ⟨⟨_, _, _, rfl⟩, sac.trans sd⟩
      · rintro σ Hb ⟨⟨x7, x8, x9, rfl⟩, sb⟩
        exact ⟨⟨_, _, _, _, rfl⟩, s9.trans (s9A.trans sb)⟩
    · rintro σ H9 ⟨⟨x6, x7, x8, x9, rfl⟩, s9⟩
      exact ⟨_, _, _, _, _, _, _, _, _, _, rfl, s3.trans (s8.trans (sw.trans s9))⟩

end
theorem all_mk {l : PySem.W.OpenLaw} {w : World} {K : PySem.W.Frag} {h : Heap} {mg : Str → Option Value} {fa f0 f1 f2 f3 f4 f5 f6 f7 f8 f9 f10 f11 f12 f13 : Addr} (X : K.In h) (G : h.Ns mainGlobals mg) (hfa : mg "law" = some (.ref fa))
    {od0 an0 : Option Addr} {sl0 : Array (Option Value)} {oc0 kV0 dc0 pm0 cd0 ct0 : Value} {od1 an1 : Option Addr} {sl1 : Array (Option Value)} {oc1 kV1 dc1 pm1 cd1 ct1 : Value} {od2 an2 : Option Addr} {sl2 : Array (Option Value)} {oc2 kV2 dc2 pm2 cd2 ct2 : Value} {od3 an3 : Option Addr} {sl3 : Array (Option Value)} {oc3 kV3 dc3 pm3 cd3 ct3 : Value} {od4 an4 : Option Addr} {sl4 : Array (Option Value)} {oc4 kV4 dc4 pm4 cd4 ct4 : Value} {od5 an5 : Option Addr} {sl5 : Array (Option Value)} {oc5 kV5 dc5 pm5 cd5 ct5 : Value} {od6 an6 : Option Addr} {sl6 : Array (Option Value)} {oc6 kV6 dc6 pm6 cd6 ct6 : Value} {od7 an7 : Option Addr} {sl7 : Array (Option Value)} {oc7 kV7 dc7 pm7 cd7 ct7 : Value} {od8 an8 : Option Addr} {sl8 : Array (Option Value)} {oc8 kV8 dc8 pm8 cd8 ct8 : Value} {od9 an9 : Option Addr} {sl9 : Array (Option Value)} {oc9 kV9 dc9 pm9 cd9 ct9 : Value} {od10 an10 : Option Addr} {sl10 : Array (Option Value)} {oc10 kV10 dc10 pm10 cd10 ct10 : Value} {od11 an11 : Option Addr} {sl11 : Array (Option Value)} {oc11 kV11 dc11 pm11 cd11 ct11 : Value} {od12 an12 : Option Addr} {sl12 : Array (Option Value)} {oc12 kV12 dc12 pm12 cd12 ct12 : Value} {od13 an13 : Option Addr} {sl13 : Array (Option Value)} {oc13 kV13 dc13 pm13 cd13 ct13 : Value}
    (a0 : PySem.W.nsIn K mainGlobals "zones_of" = some (some (.ref f0)))
    (l0 : K.lookup f0 = some ⟨oc0, od0, .func (PySem.W.fnOf "zones_of" "zones_of" (defArgs s_zones_of) (defBody s_zones_of) (defScope s_zones_of) .none kV0 dc0 pm0 an0 cd0 ct0), sl0⟩)
    (c0 : PySem.W.codeIn K cd0 "zones_of" = true) (k0 : PySem.W.keepIn K (.ref f0) = true)
    (a1 : PySem.W.nsIn K mainGlobals "is_open_zone" = some (some (.ref f1)))
    (l1 : K.lookup f1 = some ⟨oc1, od1, .func (PySem.W.fnOf "is_open_zone" "is_open_zone" (defArgs s_is_open_zone) (defBody s_is_open_zone) (defScope s_is_open_zone) .none kV1 dc1 pm1 an1 cd1 ct1), sl1⟩)
    (c1 : PySem.W.codeIn K cd1 "is_open_zone" = true) (k1 : PySem.W.keepIn K (.ref f1) = true)
    (a2 : PySem.W.nsIn K mainGlobals "clash" = some (some (.ref f2)))
    (l2 : K.lookup f2 = some ⟨oc2, od2, .func (PySem.W.fnOf "clash" "clash" (defArgs s_clash) (defBody s_clash) (defScope s_clash) .none kV2 dc2 pm2 an2 cd2 ct2), sl2⟩)
    (c2 : PySem.W.codeIn K cd2 "clash" = true) (k2 : PySem.W.keepIn K (.ref f2) = true)
    (a3 : PySem.W.nsIn K mainGlobals "early_reasons" = some (some (.ref f3)))
    (l3 : K.lookup f3 = some ⟨oc3, od3, .func (PySem.W.fnOf "early_reasons" "early_reasons" (defArgs s_early_reasons) (defBody s_early_reasons) (defScope s_early_reasons) .none kV3 dc3 pm3 an3 cd3 ct3), sl3⟩)
    (c3 : PySem.W.codeIn K cd3 "early_reasons" = true) (k3 : PySem.W.keepIn K (.ref f3) = true)
    (a4 : PySem.W.nsIn K mainGlobals "both_reasons" = some (some (.ref f4)))
    (l4 : K.lookup f4 = some ⟨oc4, od4, .func (PySem.W.fnOf "both_reasons" "both_reasons" (defArgs s_both_reasons) (defBody s_both_reasons) (defScope s_both_reasons) .none kV4 dc4 pm4 an4 cd4 ct4), sl4⟩)
    (c4 : PySem.W.codeIn K cd4 "both_reasons" = true) (k4 : PySem.W.keepIn K (.ref f4) = true)
    (a5 : PySem.W.nsIn K mainGlobals "within_reasons" = some (some (.ref f5)))
    (l5 : K.lookup f5 = some ⟨oc5, od5, .func (PySem.W.fnOf "within_reasons" "within_reasons" (defArgs s_within_reasons) (defBody s_within_reasons) (defScope s_within_reasons) .none kV5 dc5 pm5 an5 cd5 ct5), sl5⟩)
    (c5 : PySem.W.codeIn K cd5 "within_reasons" = true) (k5 : PySem.W.keepIn K (.ref f5) = true)
    (a6 : PySem.W.nsIn K mainGlobals "reasons_of" = some (some (.ref f6)))
    (l6 : K.lookup f6 = some ⟨oc6, od6, .func (PySem.W.fnOf "reasons_of" "reasons_of" (defArgs s_reasons_of) (defBody s_reasons_of) (defScope s_reasons_of) .none kV6 dc6 pm6 an6 cd6 ct6), sl6⟩)
    (c6 : PySem.W.codeIn K cd6 "reasons_of" = true) (k6 : PySem.W.keepIn K (.ref f6) = true)
    (a7 : PySem.W.nsIn K mainGlobals "shows_none" = some (some (.ref f7)))
    (l7 : K.lookup f7 = some ⟨oc7, od7, .func (PySem.W.fnOf "shows_none" "shows_none" (defArgs s_shows_none) (defBody s_shows_none) (defScope s_shows_none) .none kV7 dc7 pm7 an7 cd7 ct7), sl7⟩)
    (c7 : PySem.W.codeIn K cd7 "shows_none" = true) (k7 : PySem.W.keepIn K (.ref f7) = true)
    (a8 : PySem.W.nsIn K mainGlobals "_law_bag" = some (some (.ref f8)))
    (l8 : K.lookup f8 = some ⟨oc8, od8, .func (PySem.W.fnOf "_law_bag" "_law_bag" (defArgs s__law_bag) (defBody s__law_bag) (defScope s__law_bag) .none kV8 dc8 pm8 an8 cd8 ct8), sl8⟩)
    (c8 : PySem.W.codeIn K cd8 "_law_bag" = true) (k8 : PySem.W.keepIn K (.ref f8) = true)
    (a9 : PySem.W.nsIn K mainGlobals "_law_take" = some (some (.ref f9)))
    (l9 : K.lookup f9 = some ⟨oc9, od9, .func (PySem.W.fnOf "_law_take" "_law_take" (defArgs s__law_take) (defBody s__law_take) (defScope s__law_take) .none kV9 dc9 pm9 an9 cd9 ct9), sl9⟩)
    (c9 : PySem.W.codeIn K cd9 "_law_take" = true) (k9 : PySem.W.keepIn K (.ref f9) = true)
    (a10 : PySem.W.nsIn K mainGlobals "_law_history" = some (some (.ref f10)))
    (l10 : K.lookup f10 = some ⟨oc10, od10, .func (PySem.W.fnOf "_law_history" "_law_history" (defArgs s__law_history) (defBody s__law_history) (defScope s__law_history) .none kV10 dc10 pm10 an10 cd10 ct10), sl10⟩)
    (c10 : PySem.W.codeIn K cd10 "_law_history" = true) (k10 : PySem.W.keepIn K (.ref f10) = true)
    (a11 : PySem.W.nsIn K mainGlobals "_law_zone" = some (some (.ref f11)))
    (l11 : K.lookup f11 = some ⟨oc11, od11, .func (PySem.W.fnOf "_law_zone" "_law_zone" (defArgs s__law_zone) (defBody s__law_zone) (defScope s__law_zone) .none kV11 dc11 pm11 an11 cd11 ct11), sl11⟩)
    (c11 : PySem.W.codeIn K cd11 "_law_zone" = true) (k11 : PySem.W.keepIn K (.ref f11) = true)
    (a12 : PySem.W.nsIn K mainGlobals "_law_shows" = some (some (.ref f12)))
    (l12 : K.lookup f12 = some ⟨oc12, od12, .func (PySem.W.fnOf "_law_shows" "_law_shows" (defArgs s__law_shows) (defBody s__law_shows) (defScope s__law_shows) .none kV12 dc12 pm12 an12 cd12 ct12), sl12⟩)
    (c12 : PySem.W.codeIn K cd12 "_law_shows" = true) (k12 : PySem.W.keepIn K (.ref f12) = true)
    (a13 : PySem.W.nsIn K mainGlobals "law" = some (some (.ref f13)))
    (l13 : K.lookup f13 = some ⟨oc13, od13, .func (PySem.W.fnOf "law" "law" (defArgs s_law) (defBody s_law) (defScope s_law) .none kV13 dc13 pm13 an13 cd13 ct13), sl13⟩)
    (c13 : PySem.W.codeIn K cd13 "law" = true) (k13 : PySem.W.keepIn K (.ref f13) = true)
    (z_abs : PySem.W.nsIn K mainGlobals "abs" = some none)
    (z_bool : PySem.W.nsIn K mainGlobals "bool" = some none)
    (z_int : PySem.W.nsIn K mainGlobals "int" = some none)
    (z_isinstance : PySem.W.nsIn K mainGlobals "isinstance" = some none)
    (z_len : PySem.W.nsIn K mainGlobals "len" = some none)
    (z_list : PySem.W.nsIn K mainGlobals "list" = some none)
    (z_max : PySem.W.nsIn K mainGlobals "max" = some none)
    (z_min : PySem.W.nsIn K mainGlobals "min" = some none)
    (z_range : PySem.W.nsIn K mainGlobals "range" = some none)
    (z_set : PySem.W.nsIn K mainGlobals "set" = some none)
    (z_sorted : PySem.W.nsIn K mainGlobals "sorted" = some none) :
    ∃ fd : FuncData, (∀ (s : Shared) (v : Value), BindsTo s fd ⟨[v], []⟩ [("script", v)]) ∧ ∀ base : Heap, K.In base → base.Ns mainGlobals mg → FnOk l.prog w K mg base CX0 5 fa fd ["script"] (splaw K) := by
  have N : Fre K mg := ⟨PySem.W.mg_none_of X G z_abs, PySem.W.mg_none_of X G z_bool, PySem.W.mg_none_of X G z_int, PySem.W.mg_none_of X G z_isinstance, PySem.W.mg_none_of X G z_len, PySem.W.mg_none_of X G z_list, PySem.W.mg_none_of X G z_max, PySem.W.mg_none_of X G z_min, PySem.W.mg_none_of X G z_range, PySem.W.mg_none_of X G z_set, PySem.W.mg_none_of X G z_sorted⟩
  have e := hfa.symm.trans (PySem.W.mg_of X G a13)
  cases e
  have F0 := fun_mk (st := s_zones_of) l0 c0 k0
  have F1 := fun_mk (st := s_is_open_zone) l1 c1 k1
  have F2 := fun_mk (st := s_clash) l2 c2 k2
  have F3 := fun_mk (st := s_early_reasons) l3 c3 k3
  have F4 := fun_mk (st := s_both_reasons) l4 c4 k4
  have F5 := fun_mk (st := s_within_reasons) l5 c5 k5
  have F6 := fun_mk (st := s_reasons_of) l6 c6 k6
  have F7 := fun_mk (st := s_shows_none) l7 c7 k7
  have F8 := fun_mk (st := s__law_bag) l8 c8 k8
  have F9 := fun_mk (st := s__law_take) l9 c9 k9
  have F10 := fun_mk (st := s__law_history) l10 c10 k10
  have F11 := fun_mk (st := s__law_zone) l11 c11 k11
  have F12 := fun_mk (st := s__law_shows) l12 c12 k12
  have F13 := fun_mk (st := s_law) l13 c13 k13
  refine ⟨PySem.W.fnOf "law" "law" (defArgs s_law) (defBody s_law) (defScope s_law) .none kV13 dc13 pm13 an13 cd13 ct13, fun s v => .of_eq rfl, fun base _ _ => ?_⟩
  have c_zones_of := ok_zones_of (base := base) (P := l.prog) (w := w) F0 (PySem.W.mg_of X G a0) N
  have c_is_open_zone := ok_is_open_zone (base := base) (P := l.prog) (w := w) F1 (PySem.W.mg_of X G a1) N
  have c_clash := ok_clash (base := base) (P := l.prog) (w := w) F2 (PySem.W.mg_of X G a2) N
  have c_early_reasons := ok_early_reasons (base := base) (P := l.prog) (w := w) F3 (PySem.W.mg_of X G a3) N
  have c_both_reasons := ok_both_reasons (base := base) (P := l.prog) (w := w) F4 (PySem.W.mg_of X G a4) N c_clash c_is_open_zone
  have c_within_reasons := ok_within_reasons (base := base) (P := l.prog) (w := w) F5 (PySem.W.mg_of X G a5) N c_clash c_is_open_zone
  have c_reasons_of := ok_reasons_of (base := base) (P := l.prog) (w := w) F6 (PySem.W.mg_of X G a6) N c_both_reasons c_early_reasons c_within_reasons c_zones_of
  have c_shows_none := ok_shows_none (base := base) (P := l.prog) (w := w) F7 (PySem.W.mg_of X G a7) N c_reasons_of
  have c__law_bag := ok__law_bag (base := base) (P := l.prog) (w := w) F8 (PySem.W.mg_of X G a8) N
  have c__law_take := ok__law_take (base := base) (P := l.prog) (w := w) F9 (PySem.W.mg_of X G a9) N
  have c__law_history := ok__law_history (base := base) (P := l.prog) (w := w) F10 (PySem.W.mg_of X G a10) N c__law_take
  have c__law_zone := ok__law_zone (base := base) (P := l.prog) (w := w) F11 (PySem.W.mg_of X G a11) N
  have c__law_shows := ok__law_shows (base := base) (P := l.prog) (w := w) F12 (PySem.W.mg_of X G a12) N c__law_zone
  exact ok_law (base := base) (P := l.prog) (w := w) F13 N c__law_bag c__law_history c__law_shows c_shows_none
end My
open PySem PySem.W PyProof.Rows
set_option maxRecDepth 100000 in
set_option maxHeartbeats 0 in
theorem PySem.Challenge.cw_pagelend_k48_what_shows_that_there_is_no_holds : PySem.Challenge.rw_pagelend_k48_what_shows_that_there_is_no.Holds := by
  w_on; o_law; k_head; (case hw => w_witness2)
  k_fill
  refine L2.walk_of (l := PySem.Challenge.rw_pagelend_k48_what_shows_that_there_is_no) (n := 63) (k := 5) (x := "script") (CX := fun _ => L2.CX0) (sp := fun w => My.splaw _) rfl (by decide) rfl ⟨rfl, by decide, by decide⟩ (fun w h Y => PySem.W.kIn_of Y) ?F (fun _ _ a ns hl _ hS => ⟨a, ns, rfl, hS, hl, fun _ => rfl⟩) (fun _ _ _ _ _ h => h)
  case F =>
    intro w mg fa h KX G hmg
    refine' My.all_mk KX G hmg ?a0 ?l0 ?c0 ?k0 ?a1 ?l1 ?c1 ?k1 ?a2 ?l2 ?c2 ?k2 ?a3 ?l3 ?c3 ?k3 ?a4 ?l4 ?c4 ?k4 ?a5 ?l5 ?c5 ?k5 ?a6 ?l6 ?c6 ?k6 ?a7 ?l7 ?c7 ?k7 ?a8 ?l8 ?c8 ?k8 ?a9 ?l9 ?c9 ?k9 ?a10 ?l10 ?c10 ?k10 ?a11 ?l11 ?c11 ?k11 ?a12 ?l12 ?c12 ?k12 ?a13 ?l13 ?c13 ?k13 ?z_abs ?z_bool ?z_int ?z_isinstance ?z_len ?z_list ?z_max ?z_min ?z_range ?z_set ?z_sorted
    (case a0 => k_is); (case l0 => k_is); (case c0 => k_is); (case k0 => k_is); (case a1 => k_is); (case l1 => k_is); (case c1 => k_is); (case k1 => k_is); (case a2 => k_is); (case l2 => k_is); (case c2 => k_is); (case k2 => k_is); (case a3 => k_is); (case l3 => k_is); (case c3 => k_is); (case k3 => k_is); (case a4 => k_is); (case l4 => k_is); (case c4 => k_is); (case k4 => k_is); (case a5 => k_is); (case l5 => k_is); (case c5 => k_is); (case k5 => k_is); (case a6 => k_is); (case l6 => k_is); (case c6 => k_is); (case k6 => k_is); (case a7 => k_is); (case l7 => k_is); (case c7 => k_is); (case k7 => k_is); (case a8 => k_is); (case l8 => k_is); (case c8 => k_is); (case k8 => k_is); (case a9 => k_is); (case l9 => k_is); (case c9 => k_is); (case k9 => k_is); (case a10 => k_is); (case l10 => k_is); (case c10 => k_is); (case k10 => k_is); (case a11 => k_is); (case l11 => k_is); (case c11 => k_is); (case k11 => k_is); (case a12 => k_is); (case l12 => k_is); (case c12 => k_is); (case k12 => k_is); (case a13 => k_is); (case l13 => k_is); (case c13 => k_is); (case k13 => k_is); (case z_abs => k_is); (case z_bool => k_is); (case z_int => k_is); (case z_isinstance => k_is); (case z_len => k_is); (case z_list => k_is); (case z_max => k_is); (case z_min => k_is); (case z_range => k_is); (case z_set => k_is); (case z_sorted => k_is)

