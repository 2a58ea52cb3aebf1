
import PyProof.Rows.All
import Wide.All
import OpenK.AllK
import Wide.FinOn
import PySem.Challenge.RW_pagelend_k45_whole_logs_made_longer
import HandS.ForMost
import HandS.Wide
import HandS.Defaults
import HandS.MakeKwOnly
import HandS.IsInst
import HandS.Codes
import HandS.Walk
import HandS.TupAny
import HandS.More
import HandS.Sort
import HandS.Conv
import HandS.HotCalls
import HandS.ExcIs
import KE.KSortTupAny
import HandS.DictComp
import HandS.Deep
import HandS.Rev
import KE.KDictKeyed
set_option Elab.async false
set_option linter.all false
set_option maxRecDepth 100000
set_option maxHeartbeats 1000000
namespace My
open PySem PySem.Spec PyProof.Rows L2
def topS (i : Nat) : Stmt := PySem.Challenge.pw_pagelend_k45_whole_logs_made_longer.main.body.getD i (.Pass ⟨0, 0, 0, 0⟩)
structure Fre (K : PySem.W.Frag) (mg : Str → Option Value) : Prop where
  abs : mg "abs" = none
  all : mg "all" = none
  bool : mg "bool" = none
  enumerate : mg "enumerate" = none
  int : mg "int" = none
  isinstance : mg "isinstance" = none
  len : mg "len" = none
  list : mg "list" = none
  min : mg "min" = none
  range : mg "range" = none
  reversed : mg "reversed" = none
  str : mg "str" = none
  tuple : mg "tuple" = none
  c_WORDS : ∃ W, mg "WORDS" = some (.ref W) ∧ ∀ H, SqT K H W [.str "began", .str "read", .str "wrote", .str "lost"]
  c_LETTERS : ∃ t, mg "LETTERS" = some (.str "abcdefghijklmnopqrstuvwxyz" t)
  c_LONGEST_NAME : ∃ t, mg "LONGEST_NAME" = some (.int 8 t)
  c_MOST_ROWS : ∃ t, mg "MOST_ROWS" = some (.int 1000 t)
  c_LAST_PAGE : ∃ t, mg "LAST_PAGE" = some (.int 3 t)
/-! ### calls with keywords, a def kept as its promise -/
structure CalN (P : Program) (w : World) (K : PySem.W.Frag) (mg : Str → Option Value) (base : Heap) (k : Nat) (x : Str) (sp : Sp) (n : Nat) (ks : List Str) (gV : List V → List V → List V) : Prop where
  ex : ∃ (f : Addr) (fd : FuncData) (ps : List Str) (g : List Value → List Value → List Value), FnOk P w K mg base CX0 k f fd ps sp ∧ mg x = some (.ref f) ∧ PySem.W.keepIn K (.ref f) = true ∧ KBn K fd ps n ks g gV
section
variable {X : Cx} {k j n : Nat} {x : Str} {sp : Sp} {ks : List Str} {gV : List V → List V → List V} {p pos : Pos} {e : Expr} {es : List Expr} {kws : List Keyword} {t tk : TA}
theorem pe_cn (c : CalN X.prog X.w X.K X.mg X.base k x sp n ks gV) (hr : Room j X.A) (hk : k ≤ j) (hg : Gl X x) (ha : PA X (e :: es) t) (hkw : PK X kws tk)
    (hall : (backToKw pos (keywordEach kws X.env)).all (·.1.isSome) = true := by rfl) (hks : (backToKw pos (keywordEach kws X.env)).filterMap (·.1) = ks := by rfl)
    (hdb : (x == ("__debug__" : Str)) = false := by decide) (he : starEach (e :: es) X.env = (false, eval e X.env) :: starEach es X.env := by rfl)
    (hpl : ((backTo pos (starEach (e :: es) X.env)).any (·.1) || (backToKw pos (keywordEach kws X.env)).any (·.1.isNone)) = false := by rfl) :
    PE X (.Call (.Name x p) (e :: es) kws pos) (tCallN n ks.length sp gV E0 t tk) := by
  obtain ⟨f, fd, ps, g, F, hm, kp, b⟩ := c.ex
  exact pe_callN F (hr.mono hk) hg hm kp b pass0 ha hkw hall hks hdb he hpl
theorem pe_cn0 (c : CalN X.prog X.w X.K X.mg X.base k x sp 0 ks gV) (hr : Room j X.A) (hk : k ≤ j) (hg : Gl X x) (hkw : PK X kws tk)
    (hall : (backToKw pos (keywordEach kws X.env)).all (·.1.isSome) = true := by rfl) (hks : (backToKw pos (keywordEach kws X.env)).filterMap (·.1) = ks := by rfl)
    (hdb : (x == ("__debug__" : Str)) = false := by decide)
    (hpl : ((backTo pos (starEach [] X.env)).any (·.1) || (backToKw pos (keywordEach kws X.env)).any (·.1.isNone)) = false := by rfl) :
    PE X (.Call (.Name x p) [] kws pos) (tCallN 0 ks.length sp gV E0 tNil tk) := by
  obtain ⟨f, fd, ps, g, F, hm, kp, b⟩ := c.ex
  refine ⟨fun pins s σ H Q I h => ?_⟩
  refine wpAny_Call_Name_kw (ld_glob I hg hm ?_ hdb)
  refine PySem.W.callWith_KW0 (h₀ := X.base) I.ok.mod.kin kp hall ?_ hpl
  refine thn (hkw.run pos pins s σ H _ I h) fun ws s2 ⟨zs, H2, I2, rz, l1, l2, q2⟩ => ⟨I2.kIn, ?_⟩
  rw [hks]
  exact run_fnN (us := []) (vs := []) F (hr.mono hk) b pass0 I2 .nil rz rfl l2 q2
end
section
variable {P : Program} {w : World} {K : PySem.W.Frag} {mg : Str → Option Value} {base : Heap}
theorem mkCal {x : Str} {st : Stmt} {f : Addr} {fd : FuncData} {N ps : List Str} {k : Nat} {sp : Sp} (F : Fun K x x st f fd) (gm : mg x = some (.ref f)) (S : FnScope N ps (defScope st)) (b : Binds K fd ps []) (len : ∀ vs H Q E, sp vs H Q E → vs.length = ps.length)
    (hbody : ∀ (cdv : Value) (A : Around) (outer : List Env) (s : Shared) (H : Hp) (vs : List V) (Q : VK) (E : XK), Room k (A.deeper (envOfC x (defScope st) s.heap.objs.size f cdv)) → sp vs H Q E →
      ∃ t, PSs (cxOf CX0 P w K mg base N x (defScope st) f cdv A outer s H E).nox (defBody st) t ∧ t { nx := fun _ H' => Q .non H', rt := Q } (start N vs) H) : C8.Cal P w K mg base (k + 1) x sp [] :=
  ⟨f, fd, ps, [], F.ok S len hbody, gm, F.kp, b, .nil⟩
end
/-! ### heaps -/
def But (b : Addr) (H H' : Hp) : Prop := ∀ a o, a ≠ b → H a = some o → H' a = some o
theorem But.trans {b : Addr} {H H1 H2 : Hp} (h : But b H H1) (g : But b H1 H2) : But b H H2 := fun a o n e => g a o n (h a o n e)
theorem But.refl (b : Addr) (H : Hp) : But b H H := fun _ _ _ e => e
theorem But.put {b : Addr} {H : Hp} {o : HO} : But b H (L2.upd H b o) := fun a _ n e => by rw [upd_ne n]; exact e
theorem But.new {b p : Addr} {H : Hp} {o : HO} (h : H p = none) : But b H (L2.upd H p o) := fun a _ n e => by rw [upd_ne (ne_of_none e h)]; exact e
theorem same_upd {H : Hp} {p : Addr} {o : HO} (h : H p = none) : Same H (upd H p o) := fun b x e => by
  rw [upd_ne (ne_of_none e h)]
  exact e
def Bag (H : Hp) (b : Addr) : Prop := ∃ x y : Int, H b = some (.lst [.int x, .int y]) ∧ 0 ≤ x ∧ 0 ≤ y ∧ y < 2147483647
theorem Bag.new {H : Hp} {b p : Addr} {o : HO} (g : Bag H b) (h : H p = none) : Bag (L2.upd H p o) b := by
  obtain ⟨x, y, e, r⟩ := g
  exact ⟨x, y, by rw [upd_ne (ne_of_none e h)]; exact e, r⟩
theorem Bag.ne {H : Hp} {b p : Addr} (g : Bag H b) (h : H p = none) : p ≠ b := by
  obtain ⟨x, y, e, r⟩ := g
  exact (ne_of_none e h).symm
theorem Bag.ne_tup {H : Hp} {b p : Addr} {xs : List V} (g : Bag H b) (h : H p = some (.tup xs)) : p ≠ b := by
  obtain ⟨x, y, e, r⟩ := g
  exact ne_of h e (by intro z; cases z)
theorem seqBut {K : PySem.W.Frag} {H H' : Hp} {a b : Addr} {xs : List V} (e : But b H H') (n : a ≠ b) (h : SqL K H a xs) : SqL K H' a xs := by
  rcases h with (h | ⟨o, h⟩) | h
  · exact .inl (.inl (e _ _ n h))
  · exact .inl (.inr ⟨o, e _ _ n h⟩)
  · exact .inr h
theorem dT {a : Bool} {b : Bool} (h : a = b) : decide (V.bl a = V.bl b) = true := by rw [h]; exact decide_eq_true rfl
theorem two_ok (a b : V) : [a, b].length ≤ sizeLine := by show 2 ≤ sizeLine; decide
theorem three_ok (a b c : V) : [a, b, c].length ≤ sizeLine := by show 3 ≤ sizeLine; decide
theorem four_ok (a b c d : V) : [a, b, c, d].length ≤ sizeLine := by show 4 ≤ sizeLine; decide
theorem free_of {b p : Addr} {H H' : Hp} (g : But b H H') (hB : Bag H b) (hB' : Bag H' b) (np : H' p = none) : H p = none := by
  cases e : H p with
  | none => rfl
  | some o =>
    have z := g p o (hB'.ne np) e
    rw [np] at z
    cases z
theorem same_but {b : Addr} {H0 H1 H2 : Hp} (sm : Same H0 H1) (nb : H0 b = none) (g : But b H1 H2) : Same H0 H2 := fun c o e => g c o (ne_of_none e nb) (sm c o e)
theorem iteD {p A B : Prop} [Decidable p] (h : ¬ p) (b : B) : if decide p = true then A else B := by
  rw [if_neg (by rw [decide_eq_false h]; exact Bool.false_ne_true)]
  exact b
theorem iteD' {p A B : Prop} [Decidable p] (h : p) (b : A) : if decide p = true then A else B := by
  rw [if_pos (decide_eq_true h)]
  exact b
theorem vone {vs : List V} {us : List Value} (i : Nat) (r : Vals vs us) : Vals ((vs.drop i).take 1) ((us.drop i).take 1) := by
  exact (r.drop i).take 1
section
variable {P : Program} {w : World} {K : PySem.W.Frag} {mg : Str → Option Value} {base : Heap}

/-! ### _law_take: any draw below many -/
abbrev s__law_take : Stmt := topS 19
theorem sc__law_take : FnScope ["bag", "many", "found"] ["bag", "many"] (defScope s__law_take) := ⟨rfl, rfl, rfl, by decide +kernel, rfl, by decide +kernel, by decide +kernel⟩
def sp_law_take : Sp := fun vs H Q _ => ∃ (b : Addr) (m : Int), vs = [.ref b, .int m] ∧ Bag H b ∧ 0 < m ∧ m < 2 ^ 200 ∧ ∀ r H', 0 ≤ r → r < m → But b H H' → Bag H' b → Q (.int r) H'
theorem ok__law_take {f : Addr} {fd : FuncData} (F : Fun K "_law_take" "_law_take" s__law_take f fd) (gm : mg "_law_take" = some (.ref f)) (N : Fre K mg)  : C8.Cal P w K mg base 1 "_law_take" sp_law_take [] := by
  refine mkCal F gm sc__law_take (F.binds (ps := ["bag", "many"]) fun _ _ _ _ _ _ us hl => match us, hl with | [_, _], _ => rfl) (fun vs H Q E h => ?_) (fun cdv A outer s H vs Q E hr h => ?_)
  · obtain ⟨b, m, rfl, _⟩ := h
    rfl
  · obtain ⟨b, m, rfl, ⟨x, y, hb, hx, hy, hy2⟩, hm, hm2, q⟩ := h
    refine ⟨_, (pss_cons (ps_if (pt_cmpR op_gt (pe_ix ix_list (pv 0) pe_int (fun _ _ => rfl)) pe_int (nomark _))
 (pss_cons (ps_set (i := 2) sc__law_take.nd rfl (.inl rfl) (pe_op op_mod (pe_ix ix_list (pv 0) pe_int (fun _ _ => rfl)) (pv 1)))
 (pss_cons (ps_asg (pe_op op_fdivW (pe_ix ix_list (pv 0) pe_int (fun _ _ => rfl)) (pv 1)) (pg_sub (pv 0) pe_int set_list))
 (pss_one (ps_ret (pv 2)))))
 pss_nil)
 (pss_cons (ps_asg (pe_op op_mod (pe_op op_mul (pe_ix ix_list (pv 0) pe_int (fun _ _ => rfl)) pe_int) pe_int) (pg_sub (pv 0) pe_int set_list))
 (pss_one (ps_ret (pe_op op_mod (pe_op op_fdiv (pe_op op_mod (pe_op op_mul (pe_ix ix_list (pv 0) pe_int (fun _ _ => rfl)) (pe_ix ix_list (pv 0) pe_int (fun _ _ => rfl))) pe_int) pe_int) (pv 1)))))), ?_⟩
    refine ⟨_, rfl, b, _, 0, .int x, rfl, rfl, SqL.of hb, atI_nat (j := 0) rfl, x, 0, rfl, rfl, _, rfl, ite2 (fun e => ?_) (fun e => ?_)⟩
    · have hx0 : 0 < x := of_decide_eq_true e
      refine ⟨_, rfl, b, _, 0, .int x, rfl, rfl, SqL.of hb, atI_nat (j := 0) rfl, _, rfl, x, m, rfl, rfl, hm, ?_⟩
      refine ⟨_, rfl, b, _, 0, .int x, rfl, rfl, SqL.of hb, atI_nat (j := 0) rfl, _, rfl, x, m, rfl, rfl, wide_div (b := 200) hm (by omega) (by decide) (by decide), _, rfl, b, _, 0, 0, rfl, rfl, hb, rfl, ?_⟩
      refine ⟨_, rfl, q _ _ (Int.emod_nonneg _ (by omega)) (Int.emod_lt_of_pos _ hm) But.put ⟨x / m, y, upd_same, Int.ediv_nonneg hx (by omega), hy, hy2⟩⟩
    · refine ⟨_, rfl, b, _, 1, .int y, rfl, rfl, SqL.of hb, atI_nat (j := 1) rfl, y, 48271, rfl, rfl, .inr ⟨by decide, by decide⟩, _, 2147483647, rfl, rfl, (by show (0 : Int) < 2147483647; decide), _, rfl, b, _, 1, 1, rfl, rfl, hb, rfl, ?_⟩
      have hb2 : (upd H b (.lst ([V.int x, V.int y].set 1 (.int (y * 48271 % 2147483647))))) b = some (.lst [.int x, .int (y * 48271 % 2147483647)]) := upd_same
      have hz1 : 0 ≤ y * 48271 % 2147483647 := Int.emod_nonneg _ (by decide)
      have hz2 : y * 48271 % 2147483647 < 2147483647 := Int.emod_lt_of_pos _ (by decide)
      refine ⟨_, rfl, b, _, 1, _, rfl, rfl, SqL.of hb2, atI_nat (j := 1) rfl, _, rfl, b, _, 1, _, rfl, rfl, SqL.of hb2, atI_nat (j := 1) rfl, _, _, rfl, rfl, .inl ⟨by omega, by omega⟩, _, 2147483629, rfl, rfl, (by show (0 : Int) < 2147483629; decide), _, 64, rfl, rfl, ⟨by decide, by decide⟩, _, rfl, _, m, rfl, rfl, hm, ?_⟩
      exact q _ _ (Int.emod_nonneg _ (by omega)) (Int.emod_lt_of_pos _ hm) But.put ⟨x, _, hb2, hx, hz1, hz2⟩
/-! ### _law_bag -/
abbrev s__law_bag : Stmt := topS 18
theorem sc__law_bag : FnScope ["script", "k", "cell"] ["script", "k"] (defScope s__law_bag) := ⟨rfl, rfl, rfl, by decide +kernel, rfl, by decide +kernel, by decide +kernel⟩
def sp_law_bag (K : PySem.W.Frag) : Sp := fun vs H Q _ => ∃ (a : Addr) (ns : List Int) (k : Int), vs = [.ref a, .int k] ∧ SqL K H a (ns.map V.int) ∧ 0 ≤ k ∧ k < 100 ∧ ∀ p H', H p = none → Same H H' → Bag H' p → Q (.ref p) H'
theorem bag_pos (c k : Int) (n : Int) : 0 ≤ 1 + (c + k) % 2147483646 ∧ 1 + (c + k) % 2147483646 < 2147483647 := by
  have h1 : 0 ≤ (c + k) % 2147483646 := Int.emod_nonneg _ (by decide)
  have h2 : (c + k) % 2147483646 < 2147483646 := Int.emod_lt_of_pos _ (by decide)
  omega
theorem ok__law_bag {f : Addr} {fd : FuncData} (F : Fun K "_law_bag" "_law_bag" s__law_bag f fd) (gm : mg "_law_bag" = some (.ref f)) (N : Fre K mg)  : C8.Cal P w K mg base 1 "_law_bag" (sp_law_bag K) [] := by
  refine mkCal F gm sc__law_bag (F.binds (ps := ["script", "k"]) fun _ _ _ _ _ _ us hl => match us, hl with | [_, _], _ => rfl) (fun vs H Q E h => ?_) (fun cdv A outer s H vs Q E hr h => ?_)
  · obtain ⟨a, ns, k, rfl, _⟩ := h
    rfl
  · obtain ⟨a, ns, k, rfl, hS, hk, hk2, q⟩ := h
    refine ⟨_, (pss_cons (ps_set (i := 2) sc__law_bag.nd rfl (.inl rfl) pe_int)
 (pss_cons (ps_if (pt_cmpR op_lt (pv 1) (pe_callB call_len_seq (by rfl) N.len (by decide +kernel) (pa_cons (pv 0) pa_nil)) (nomark _))
 (pss_one (ps_set (i := 2) sc__law_bag.nd rfl (.inl rfl) (pe_callB call_abs (by rfl) N.abs (by decide +kernel) (pa_cons (pe_ix ix_list (pv 0) (pv 1) (fun _ _ => rfl)) pa_nil))))
 pss_nil)
 (pss_cons (ps_if (pt_cmpR op_lt (pv 2) (pe_op op_pow pe_int pe_int) (nomark _))
 (pss_one (ps_ret (pe_lst (pa_cons pe_int (pa_cons (pe_op op_add pe_int (pe_op op_mod (pe_op op_add (pe_op op_mul (pv 2) pe_int) (pe_op op_mul pe_int (pv 1))) pe_int)) pa_nil)))))
 pss_nil)
 (pss_one (ps_ret (pe_lst (pa_cons (pv 2) (pa_cons (pe_op op_add pe_int (pe_op op_mod (pe_op op_add (pv 2) (pv 1)) pe_int)) pa_nil)))))))), ?_⟩
    refine ⟨_, rfl, _, rfl, a, _, rfl, .inl hS, k, _, rfl, rfl, _, rfl, ite2 (fun e => ?_) (fun e => ?_)⟩
    · have hlt : k.toNat < ns.length := by
        have e1 := of_decide_eq_true e
        rw [List.length_map] at e1
        omega
      have g1 : (ns.map V.int)[k.toNat]? = some (.int ns[k.toNat]) := by
        rw [List.getElem?_map, List.getElem?_eq_getElem hlt]
        rfl
      generalize ns[k.toNat] = c at g1
      have g2 : atI (ns.map V.int) k = some (.int c) := by
        have e2 : ((k.toNat : Nat) : Int) = k := by omega
        rw [← e2]
        exact atI_nat g1
      refine ⟨_, rfl, _, rfl, a, _, k, _, rfl, rfl, hS, g2, c, rfl, ?_⟩
      have hc : 0 ≤ (if c < 0 then -c else c) := by split <;> omega
      generalize (if c < 0 then -c else c) = d at hc
      refine ⟨_, rfl, 10, 18, rfl, rfl, ⟨by decide, by decide, by decide⟩, d, _, rfl, rfl, _, rfl, ite2 (fun e2 => ?_) (fun e2 => ?_)⟩
      · refine ⟨_, rfl, d, 7919, rfl, rfl, .inr ⟨by decide, by decide⟩, _, rfl, 104729, k, rfl, rfl, .inl ⟨by decide, by decide⟩, _, _, rfl, rfl, _, _, rfl, rfl, (by show (0 : Int) < 2147483646; decide), 1, _, rfl, rfl, two_ok _ _, fun p np => ?_⟩
        exact q p _ np (same_upd np) ⟨0, _, upd_same, by decide, bag_pos _ _ 0⟩
      · refine ⟨_, rfl, _, rfl, _, rfl, d, k, rfl, rfl, _, _, rfl, rfl, (by show (0 : Int) < 2147483646; decide), 1, _, rfl, rfl, two_ok _ _, fun p np => ?_⟩
        exact q p _ np (same_upd np) ⟨d, _, upd_same, hc, bag_pos _ _ 0⟩
    · refine ⟨_, rfl, 10, 18, rfl, rfl, ⟨by decide, by decide, by decide⟩, 0, _, rfl, rfl, _, rfl, ite2 (fun e2 => ?_) (fun e2 => ?_)⟩
      · refine ⟨_, rfl, 0, 7919, rfl, rfl, .inr ⟨by decide, by decide⟩, _, rfl, 104729, k, rfl, rfl, .inl ⟨by decide, by decide⟩, _, _, rfl, rfl, _, _, rfl, rfl, (by show (0 : Int) < 2147483646; decide), 1, _, rfl, rfl, two_ok _ _, fun p np => ?_⟩
        exact q p _ np (same_upd np) ⟨0, _, upd_same, by decide, bag_pos _ _ 0⟩
      · refine ⟨_, rfl, _, rfl, _, rfl, 0, k, rfl, rfl, _, _, rfl, rfl, (by show (0 : Int) < 2147483646; decide), 1, _, rfl, rfl, two_ok _ _, fun p np => ?_⟩
        exact q p _ np (same_upd np) ⟨0, _, upd_same, by decide, bag_pos _ _ 0⟩

/-! ### data: what stands at a value -/
theorem sqT_same {H H' : Hp} {a : Addr} {xs : List V} (e : Same H H') (h : SqT K H a xs) : SqT K H' a xs := by
  rcases h with (h | ⟨o, h⟩) | h
  · exact .inl (.inl (e _ _ h))
  · exact .inl (.inr ⟨o, e _ _ h⟩)
  · exact .inr h
mutual
theorem dp_same {H H' : Hp} (e : Same H H') : ∀ (d : PyData) (v : V), Dp K H v d → Dp K H' v d
  | .none, _, h => by cases h; exact .non
  | .bool b, _, h => by cases h; exact .bl b
  | .int i, _, h => by cases h; exact .int i
  | .str x, _, h => by cases h; exact .str x
  | .list ds, _, h => by
    cases h with
    | lst hs ha => exact .lst (e.seq hs) (dp_sameAll e ds _ ha)
  | .tuple ds, _, h => by
    cases h with
    | tup hs ha => exact .tup (sqT_same e hs) (dp_sameAll e ds _ ha)
  | .dict _, _, h => by cases h
theorem dp_sameAll {H H' : Hp} (e : Same H H') : ∀ (ds : List PyData) (vs : List V), DpAll K H vs ds → DpAll K H' vs ds
  | [], _, h => by cases h; exact .nil
  | d :: ds, _, h => by
    cases h with
    | cons h1 h2 => exact .cons (dp_same e d _ h1) (dp_sameAll e ds _ h2)
end
theorem dpAll_len {H : Hp} : ∀ {vs : List V} {ds : List PyData}, DpAll K H vs ds → vs.length = ds.length
  | [], _, h => by cases h; rfl
  | _ :: vs, _, h => by
    cases h with
    | cons _ h2 => rw [List.length_cons, List.length_cons, dpAll_len h2]
theorem dpAll_get {H : Hp} : ∀ {vs : List V} {ds : List PyData} {i : Nat} {v : V}, DpAll K H vs ds → vs[i]? = some v → ∃ d, ds[i]? = some d ∧ Dp K H v d
  | _, _, 0, _, .cons h1 _, e => by
    cases e
    exact ⟨_, rfl, h1⟩
  | _, _, i + 1, _, .cons _ h2, e => dpAll_get (i := i) h2 (by simpa using e)
  | _, _, i, _, .nil, e => by simp at e
theorem dpAll_append {H : Hp} : ∀ {vs us : List V} {ds es : List PyData}, DpAll K H vs ds → DpAll K H us es → DpAll K H (vs ++ us) (ds ++ es)
  | _, _, _, _, .nil, h => h
  | _, _, _, _, .cons h1 h2, h => .cons h1 (dpAll_append h2 h)
def tyD : PyData → String
  | .none => "NoneType"
  | .bool _ => "bool"
  | .int _ => "int"
  | .str _ => "str"
  | .list _ => "list"
  | .tuple _ => "tuple"
  | .dict _ => "dict"
theorem dp_ty {H : Hp} {v : V} {d : PyData} (h : Dp K H v d) : TyX K H v (.type (tyD d)) := by
  cases h with
  | non => exact .base .non
  | bl b => exact .base (.bl b)
  | int i => exact .base (.int i)
  | str x => exact .base (.str x)
  | lst hs _ =>
    rcases hs with (h | ⟨o, h⟩) | ⟨o, _, _, h, c, _⟩
    · exact .base (.lst h)
    · exact .base (.frz h)
    · exact .kList h c
  | tup hs _ =>
    rcases hs with (h | ⟨o, h⟩) | ⟨o, _, _, h, c, _⟩
    · exact .base (.tup h)
    · exact .fTuple h
    · exact .kTuple h c
def isTy (t T : String) : Bool := t == T || (T == "int" && t == "bool")
def isT (d : PyData) (T : String) : Bool := isTy (tyD d) T
theorem kit_all : ∀ t ∈ ["NoneType", "bool", "int", "str", "list", "tuple", "dict"], ∀ T ∈ ["int", "bool", "str", "tuple", "list"], kitB t T = some (isTy t T) := by decide +kernel
theorem tyD_mem (d : PyData) : tyD d ∈ ["NoneType", "bool", "int", "str", "list", "tuple", "dict"] := by cases d <;> simp [tyD]
theorem kit_d (d : PyData) {T : String} (hT : T = "int" ∨ T = "bool" ∨ T = "str" ∨ T = "tuple" ∨ T = "list") : PySem.W.kitOne K (.type (tyD d)) (.type T) = some (isT d T) :=
  kit_ty (kit_all _ (tyD_mem d) _ (by simpa using hT))

/-! ### pagelend.kinds -/
def sg (c : Nat) : V := .str ⟨#[c]⟩
def wholeD : PyData → Bool
  | .int _ => true
  | _ => false
def pure1 (K : PySem.W.Frag) (f : PyData → Bool) : Sp := fun vs H Q _ => ∃ (v : V) (d : PyData), vs = [v] ∧ Dp K H v d ∧ ∀ H', Same H H' → Q (.bl (f d)) H'
abbrev s_is_whole : Stmt := topS 3
theorem sc_is_whole : FnScope ["thing"] ["thing"] (defScope s_is_whole) := ⟨rfl, rfl, rfl, by decide +kernel, rfl, by decide +kernel, by decide +kernel⟩
theorem ok_is_whole {f : Addr} {fd : FuncData} (F : Fun K "is_whole" "is_whole" s_is_whole f fd) (gm : mg "is_whole" = some (.ref f)) (N : Fre K mg)  : C8.Cal P w K mg base 1 "is_whole" (pure1 K wholeD) [] := by
  refine mkCal F gm sc_is_whole (F.binds (ps := ["thing"]) fun _ _ _ _ _ _ us hl => match us, hl with | [_], _ => rfl) (fun vs H Q E h => ?_) (fun cdv A outer s H vs Q E hr h => ?_)
  · obtain ⟨v, d, rfl, _⟩ := h
    rfl
  · obtain ⟨v, d, rfl, hd, q⟩ := h
    refine ⟨_, (pss_one (ps_ret (pe_and (pe_callB call_isi (by rfl) N.isinstance (by decide +kernel) (pa_cons (pv 0) (pa_cons (pe_bltn (v := .ty "int") (u := .type "int") rfl N.int (by decide +kernel) rfl) pa_nil))) (pe_one (pe_not (pe_callB call_isi (by rfl) N.isinstance (by decide +kernel) (pa_cons (pv 0) (pa_cons (pe_bltn (v := .ty "bool") (u := .type "bool") rfl N.bool (by decide +kernel) rfl) pa_nil)))))))), ?_⟩
    refine ⟨_, rfl, _, _, _, _, isT d "int", rfl, .ty _, dp_ty hd, kit_d d (.inl rfl), _, rfl, ?_⟩
    have q0 := q H (Same.refl H)
    cases d with
    | int i => exact iteT ⟨_, rfl, _, _, _, _, false, rfl, .ty _, dp_ty hd, kit_d _ (.inr (.inl rfl)), _, rfl, q0⟩
    | bool b => exact iteT ⟨_, rfl, _, _, _, _, true, rfl, .ty _, dp_ty hd, kit_d _ (.inr (.inl rfl)), _, rfl, q0⟩
    | none => exact iteF q0
    | str x => exact iteF q0
    | list x => exact iteF q0
    | tuple x => exact iteF q0
    | dict x => exact iteF q0
def withinD (lo hi : Int) : PyData → Bool
  | .int i => decide (lo ≤ i) && decide (i ≤ hi)
  | _ => false
theorem withinD_int (lo hi i : Int) : withinD lo hi (.int i) = (decide (lo ≤ i) && decide (i ≤ hi)) := rfl
def spis_within (K : PySem.W.Frag) : Sp := fun vs H Q _ => ∃ (v : V) (d : PyData) (lo hi : Int), vs = [v, .int lo, .int hi] ∧ Dp K H v d ∧ ∀ H', Same H H' → Q (.bl (withinD lo hi d)) H'
abbrev s_is_within : Stmt := topS 5
theorem sc_is_within : FnScope ["thing", "least", "most"] ["thing", "least", "most"] (defScope s_is_within) := ⟨rfl, rfl, rfl, by decide +kernel, rfl, by decide +kernel, by decide +kernel⟩
theorem ok_is_within {f : Addr} {fd : FuncData} (F : Fun K "is_within" "is_within" s_is_within f fd) (gm : mg "is_within" = some (.ref f)) (N : Fre K mg) (c_is_whole : C8.Cal P w K mg base 1 "is_whole" (pure1 K wholeD) []) : C8.Cal P w K mg base 2 "is_within" (spis_within K) [] := by
  refine mkCal F gm sc_is_within (F.binds (ps := ["thing", "least", "most"]) fun _ _ _ _ _ _ us hl => match us, hl with | [_, _, _], _ => rfl) (fun vs H Q E h => ?_) (fun cdv A outer s H vs Q E hr h => ?_)
  · obtain ⟨v, d, lo, hi, rfl, _⟩ := h
    rfl
  · obtain ⟨v, d, lo, hi, rfl, hd, q⟩ := h
    refine ⟨_, (pss_one (ps_ret (pe_and (C8.pe_c c_is_whole hr (by decide) rfl (pa_cons (pv 0) pa_nil)) (pe_one (pe_chain op_le op_le (pv 1) (pv 0) (pv 2)))))), ?_⟩
    refine ⟨_, rfl, v, d, rfl, hd, fun H1 s1 => ⟨_, rfl, ?_⟩⟩
    have q0 := q H1 s1
    cases d with
    | int i =>
      cases hd
      refine iteT ⟨_, rfl, _, rfl, lo, i, rfl, rfl, _, rfl, ?_⟩
      by_cases h1 : lo ≤ i
      · refine iteD' h1 ⟨_, rfl, i, hi, rfl, rfl, ?_⟩
        rw [withinD_int, decide_eq_true h1] at q0
        exact q0
      · refine iteD h1 ?_
        rw [withinD_int, decide_eq_false h1] at q0
        exact q0
    | bool b => exact iteF q0
    | none => exact iteF q0
    | str x => exact iteF q0
    | list x => exact iteF q0
    | tuple x => exact iteF q0
    | dict x => exact iteF q0
/-- a bound on all of it: signs, items, bits -/
def siz : PyData → Nat
  | .none => 1
  | .bool _ => 1
  | .int i => i.natAbs.log2 + 1
  | .str x => x.length + 1
  | .list xs => 1 + sizL xs
  | .tuple xs => 1 + sizL xs
  | .dict _ => 1
where sizL : List PyData → Nat
  | [] => 0
  | d :: ds => siz d + sizL ds
theorem siz_mem {d : PyData} : ∀ {ds : List PyData}, d ∈ ds → siz d ≤ siz.sizL ds
  | [], h => by cases h
  | e :: ds, h => by
    rcases List.mem_cons.mp h with rfl | h
    · show siz _ ≤ siz _ + siz.sizL ds
      omega
    · have := siz_mem h
      show siz d ≤ siz e + siz.sizL ds
      omega
theorem siz_pos (d : PyData) : 1 ≤ siz d := by cases d <;> unfold siz <;> omega
theorem siz_len : ∀ (ds : List PyData), ds.length ≤ siz.sizL ds
  | [] => Nat.le_refl _
  | d :: ds => by
    have := siz_len ds
    have := siz_pos d
    show ds.length + 1 ≤ siz d + siz.sizL ds
    omega
def Small (d : PyData) : Prop := siz d ≤ 5000000
theorem Small.str {x : Str} (h : Small (.str x)) : x.length ≤ 5000000 := by unfold Small siz at h; omega
theorem Small.len {x : Str} (h : Small (.str x)) : x.length ≤ sizeLine := Nat.le_trans h.str (by decide)
theorem Small.mem {d : PyData} {ds : List PyData} (h : Small (.tuple ds)) (m : d ∈ ds) : Small d := by
  have := siz_mem m
  unfold Small at *
  rw [siz] at h
  omega
def letters : Str := "abcdefghijklmnopqrstuvwxyz"
def signs (x : Str) : Bool := x.cps.toList.all fun c => decide (c ∈ letters.cps.toList)
def nameD : PyData → Bool
  | .str x => (decide (1 ≤ x.length) && decide (x.length ≤ 8)) && signs x
  | _ => false
theorem nameD_str (x : Str) : nameD (.str x) = ((decide (1 ≤ x.length) && decide (x.length ≤ 8)) && signs x) := rfl
def pure1S (K : PySem.W.Frag) (f : PyData → Bool) : Sp := fun vs H Q _ => ∃ (v : V) (d : PyData), vs = [v] ∧ Dp K H v d ∧ Small d ∧ ∀ H', Same H H' → Q (.bl (f d)) H'
abbrev s_is_name : Stmt := topS 6
theorem sc_is_name : FnScope ["thing", "sign"] ["thing"] (defScope s_is_name) := ⟨rfl, rfl, rfl, by decide +kernel, rfl, by decide +kernel, by decide +kernel⟩
theorem all_take {α : Type} (p : α → Bool) (xs : List α) (i : Nat) (x : α) (h : xs[i]? = some x) : (xs.take (i + 1)).map p = (xs.take i).map p ++ [p x] := by
  rw [List.take_add_one, h, List.map_append]
  rfl
theorem ok_is_name {f : Addr} {fd : FuncData} (F : Fun K "is_name" "is_name" s_is_name f fd) (gm : mg "is_name" = some (.ref f)) (N : Fre K mg)  : C8.Cal P w K mg base 1 "is_name" (pure1S K nameD) [] := by
  refine mkCal F gm sc_is_name (F.binds (ps := ["thing"]) fun _ _ _ _ _ _ us hl => match us, hl with | [_], _ => rfl) (fun vs H Q E h => ?_) (fun cdv A outer s H vs Q E hr h => ?_)
  · obtain ⟨v, d, rfl, _⟩ := h
    rfl
  · obtain ⟨v, d, rfl, hd, sm, q⟩ := h
    obtain ⟨_, g_LONGEST_NAME⟩ := N.c_LONGEST_NAME
    obtain ⟨_, g_LETTERS⟩ := N.c_LETTERS
    refine ⟨_, (pss_cons (ps_if (PW.pt (pw_or (pt_not (pt_val (pe_callB call_isi (by rfl) N.isinstance (by decide +kernel) (pa_cons (pv 0) (pa_cons (pe_bltn (v := .ty "str") (u := .type "str") rfl N.str (by decide +kernel) rfl) pa_nil))))) (pw_or1 (pt_not (pt_chain op_le op_le pe_int (pe_callB call_len_str (by rfl) N.len (by decide +kernel) (pa_cons (pv 0) pa_nil)) (pe_glob (v := .int 8) rfl g_LONGEST_NAME ⟨_, rfl⟩))))))
 (pss_one (ps_ret pe_bl))
 pss_nil)
 (pss_one (ps_ret (pe_callB (cr_all rfl) (by rfl) N.all (by decide +kernel) (pa_cons (pe_lc (own := [("sign", 1)]) (g := gName 1) (tt := tYes) rfl sc_is_name.nd (pi_str (pv 0)) (blkOk_by (N := ["thing", "sign"]) (sc := defScope s_is_name) (by decide +kernel)) (fun _ _ _ _ _ => pg_name (i := 1) sc_is_name.nd rfl (Or.inl rfl)) (fun _ _ _ _ _ => pts_nil) (fun _ _ _ _ _ => (pe_cmpR op_in_sign (pv 1) (pe_glob (v := .str "abcdefghijklmnopqrstuvwxyz") rfl g_LETTERS ⟨_, rfl⟩) (by with_unfolding_all rfl)))) pa_nil))))), ?_⟩
    refine ⟨_, rfl, _, _, _, _, isT d "str", rfl, .ty _, dp_ty hd, kit_d d (.inr (.inr (.inl rfl))), _, rfl, ?_⟩
    have q0 := q H (Same.refl H)
    cases d with
    | str x =>
      cases hd
      refine iteF ⟨_, rfl, x, rfl, sm.len, 1, _, rfl, rfl, _, rfl, ?_⟩
      by_cases h1 : (1 : Int) ≤ (x.length : Nat)
      · refine iteD' h1 ⟨_, 8, rfl, rfl, _, rfl, ?_⟩
        by_cases h2 : ((x.length : Nat) : Int) ≤ 8
        · rw [decide_eq_true h2]
          refine iteF ?_
          refine ⟨_, rfl, x, rfl, fun D nD => lc_it walk_str (fun i H1 => Same H H1 ∧ H1 D = some (.lst (((x.cps.toList.take i).map fun c => decide (c ∈ letters.cps.toList)).map V.bl))) ⟨same_upd nD, upd_same⟩ (fun _ _ _ _ => trivial) ?_ ?_⟩
          · rintro i v H1 H2 hi ⟨s1, hD⟩ ⟨rfl, c, hc, rfl⟩
            refine ⟨rfl, ⟨_, rfl, c, _, rfl, rfl, ?_⟩⟩
            refine ⟨_, hD, ?_, fun b o e => ?_, ?_⟩
            · rw [List.length_map, List.length_map, List.length_take]
              have := sm.str
              exact Nat.lt_of_le_of_lt (Nat.min_le_right _ _) (Nat.lt_of_le_of_lt (show x.cps.toList.length ≤ 5000000 from this) (by decide))
            · rw [upd_ne (ne_of_none e nD)]
              exact s1 _ _ e
            · rw [upd_same, all_take _ _ i c (by rw [← hc]; exact (Array.getElem?_toList ..).symm ▸ rfl), List.map_append]
              rfl
          · rintro H1 ⟨s1, hD⟩
            refine ⟨D, _, rfl, SqL.of hD, ?_⟩
            have q1 := q H1 s1
            have e1 : (x.cps.toList.take x.cps.size) = x.cps.toList := List.take_of_length_le (by rw [Array.length_toList]; exact Nat.le_refl _)
            rw [e1]
            have e2 : nameD (.str x) = ((x.cps.toList.map fun c => decide (c ∈ letters.cps.toList)).all id) := by
              rw [nameD_str]
              unfold signs
              rw [decide_eq_true (show 1 ≤ x.length by omega), decide_eq_true (show x.length ≤ 8 by omega), List.all_map]
              rfl
            rw [e2] at q1
            exact q1
        · rw [decide_eq_false h2]
          refine iteT ?_
          have e2 : nameD (.str x) = false := by
            rw [nameD_str, decide_eq_false (show ¬ x.length ≤ 8 by omega), Bool.and_false]
            rfl
          rw [e2] at q0
          exact q0
      · refine iteD h1 ⟨_, rfl, iteT ?_⟩
        have e2 : nameD (.str x) = false := by
          rw [nameD_str, decide_eq_false (show ¬ 1 ≤ x.length by omega)]
          rfl
        rw [e2] at q0
        exact q0
    | bool b => exact iteT q0
    | none => exact iteT q0
    | int x => exact iteT q0
    | list x => exact iteT q0
    | tuple x => exact iteT q0
    | dict x => exact iteT q0
/-- a tuple of so many things -/
def tupD (lo hi : Int) : PyData → Bool
  | .tuple xs => decide (lo ≤ (xs.length : Nat)) && decide (((xs.length : Nat) : Int) ≤ hi)
  | _ => false
theorem tupD_tup (lo hi : Int) (xs : List PyData) : tupD lo hi (.tuple xs) = (decide (lo ≤ (xs.length : Nat)) && decide (((xs.length : Nat) : Int) ≤ hi)) := rfl
def spis_tuple (K : PySem.W.Frag) : Sp := fun vs H Q _ => ∃ (v : V) (d : PyData) (lo hi : Int), vs = [v, .int lo, .int hi] ∧ Dp K H v d ∧ Q (.bl (tupD lo hi d)) H
abbrev s_is_tuple : Stmt := topS 7
theorem sc_is_tuple : FnScope ["thing", "least", "most"] ["thing", "least", "most"] (defScope s_is_tuple) := ⟨rfl, rfl, rfl, by decide +kernel, rfl, by decide +kernel, by decide +kernel⟩
theorem ok_is_tuple {f : Addr} {fd : FuncData} (F : Fun K "is_tuple" "is_tuple" s_is_tuple f fd) (gm : mg "is_tuple" = some (.ref f)) (N : Fre K mg)  : C8.Cal P w K mg base 1 "is_tuple" (spis_tuple K) [] := by
  refine mkCal F gm sc_is_tuple (F.binds (ps := ["thing", "least", "most"]) fun _ _ _ _ _ _ us hl => match us, hl with | [_, _, _], _ => rfl) (fun vs H Q E h => ?_) (fun cdv A outer s H vs Q E hr h => ?_)
  · obtain ⟨v, d, lo, hi, rfl, _⟩ := h
    rfl
  · obtain ⟨v, d, lo, hi, rfl, hd, q⟩ := h
    refine ⟨_, (pss_one (ps_ret (pe_and (pe_callB call_isi (by rfl) N.isinstance (by decide +kernel) (pa_cons (pv 0) (pa_cons (pe_bltn (v := .ty "tuple") (u := .type "tuple") rfl N.tuple (by decide +kernel) rfl) pa_nil))) (pe_one (pe_chain op_le op_le (pv 1) (pe_callB call_len_seq (by rfl) N.len (by decide +kernel) (pa_cons (pv 0) pa_nil)) (pv 2)))))), ?_⟩
    refine ⟨_, rfl, _, _, _, _, isT d "tuple", rfl, .ty _, dp_ty hd, kit_d d (.inr (.inr (.inr (.inl rfl)))), _, rfl, ?_⟩
    cases d with
    | tuple ds =>
      cases hd with
      | @tup _ xs _ hs ha =>
        refine iteT ⟨_, rfl, _, rfl, _, _, rfl, .inr hs, lo, _, rfl, rfl, _, rfl, ?_⟩
        rw [tupD_tup, ← dpAll_len ha] at q
        by_cases h1 : lo ≤ (xs.length : Nat)
        · refine iteD' h1 ⟨_, rfl, _, hi, rfl, rfl, ?_⟩
          rw [decide_eq_true h1] at q
          exact q
        · refine iteD h1 ?_
          rw [decide_eq_false h1] at q
          exact q
    | bool b => exact iteF q
    | none => exact iteF q
    | int x => exact iteF q
    | str x => exact iteF q
    | list x => exact iteF q
    | dict x => exact iteF q

def numD : PyData → Bool
  | .int i => decide (0 ≤ i)
  | _ => false
abbrev s_is_number : Stmt := topS 4
theorem sc_is_number : FnScope ["thing"] ["thing"] (defScope s_is_number) := ⟨rfl, rfl, rfl, by decide +kernel, rfl, by decide +kernel, by decide +kernel⟩
theorem ok_is_number {f : Addr} {fd : FuncData} (F : Fun K "is_number" "is_number" s_is_number f fd) (gm : mg "is_number" = some (.ref f)) (N : Fre K mg) (c_is_whole : C8.Cal P w K mg base 1 "is_whole" (pure1 K wholeD) []) : C8.Cal P w K mg base 2 "is_number" (pure1 K numD) [] := by
  refine mkCal F gm sc_is_number (F.binds (ps := ["thing"]) fun _ _ _ _ _ _ us hl => match us, hl with | [_], _ => rfl) (fun vs H Q E h => ?_) (fun cdv A outer s H vs Q E hr h => ?_)
  · obtain ⟨v, d, rfl, _⟩ := h
    rfl
  · obtain ⟨v, d, rfl, hd, q⟩ := h
    refine ⟨_, (pss_one (ps_ret (pe_and (C8.pe_c c_is_whole hr (by decide) rfl (pa_cons (pv 0) pa_nil)) (pe_one (pe_cmpR op_ge (pv 0) pe_int (nomark _)))))), ?_⟩
    refine ⟨_, rfl, v, d, rfl, hd, fun H1 s1 => ⟨_, rfl, ?_⟩⟩
    have q0 := q H1 s1
    cases d with
    | int i =>
      cases hd
      exact iteT ⟨_, rfl, i, 0, rfl, rfl, q0⟩
    | bool b => exact iteF q0
    | none => exact iteF q0
    | str x => exact iteF q0
    | list x => exact iteF q0
    | tuple x => exact iteF q0
    | dict x => exact iteF q0

end
/-! ### rules of our own: a list against an empty one -/
section
variable {X : Cx}
theorem op_eqNil (hu : X.A.units < cLine) : OpR X (compareOp .Eq) (fun x y H Q => ∃ a b xs, x = .ref a ∧ y = .ref b ∧ SqL X.K H a xs ∧ SqL X.K H b [] ∧ Q (.bl xs.isEmpty) H) := by
  intro pins s σ H x y v u Q I rx ry h
  obtain ⟨a, b, xs, rfl, rfl, ha, hb, q⟩ := h
  obtain rfl : v = Value.ref a := rx
  obtain rfl : u = Value.ref b := ry
  obtain ⟨its, rv, p, _⟩ := I.list ha
  obtain ⟨its2, rv2, p2, _⟩ := I.list hb
  cases rv2
  cases xs with
  | nil =>
    cases rv
    exact PySem.EqBoolInt.of_rc (SeqAt.RcAt.lists (e := fun _ => true) p.isList p2.isList rfl hu (fun j h1 => absurd h1 (Nat.not_lt_zero j))) ⟨.bl true, H, I, rfl, q⟩
  | cons z zs =>
    cases rv
    exact PySem.EqBoolInt.of_rc (SeqAt.RcAt.lists_lengths p.isList p2.isList (by simp) hu) ⟨.bl false, H, I, rfl, q⟩
theorem op_neNil (hu : X.A.units < cLine) : OpR X (compareOp .NotEq) (fun x y H Q => ∃ a b xs, x = .ref a ∧ y = .ref b ∧ SqL X.K H a xs ∧ SqL X.K H b [] ∧ Q (.bl (!xs.isEmpty)) H) := by
  intro pins s σ H x y v u Q I rx ry h
  obtain ⟨a, b, xs, rfl, rfl, ha, hb, q⟩ := h
  obtain rfl : v = Value.ref a := rx
  obtain rfl : u = Value.ref b := ry
  obtain ⟨its, rv, p, _⟩ := I.list ha
  obtain ⟨its2, rv2, p2, _⟩ := I.list hb
  cases rv2
  cases xs with
  | nil =>
    cases rv
    exact PySem.EqBoolInt.of_rcne (SeqAt.RcNeAt.lists (e := fun _ => true) p.isList p2.isList rfl hu (fun j h1 => absurd h1 (Nat.not_lt_zero j))) ⟨.bl false, H, I, rfl, q⟩
  | cons z zs =>
    cases rv
    exact PySem.EqBoolInt.of_rcne (SeqAt.RcNeAt.lists_lengths p.isList p2.isList (by simp) hu) ⟨.bl true, H, I, rfl, q⟩
end
theorem hu0 {A : Around} {k : Nat} (hr : Room k A) : A.units < cLine := by have := hr.un; omega
section
variable {P : Program} {w : World} {K : PySem.W.Frag} {mg : Str → Option Value} {base : Heap}

end
/-! ### rules of our own: name = {k: v for ..}, d.setdefault(tuple, x) -/
section
variable {X : Cx}
theorem sw_trueD {kx vx : Expr} {gs : List Comprehension} {scope : Scope} {pos py : Pos} {y : Str} {l : Nat} {env : Env} (hk : env.scope.kind = .function) (hy : env.scope.names.lookup y = some .local) (hl : (py.line == pos.line) = true)
    (hno : (scope.names.any fun (n, k) => n == y && (k == .local || k == .cell)) = false) : swapsWith (.DictComp kx vx gs scope pos) (some (.Name y py)) l env = pure true := by
  have k1 : env.kindOf y = some .local := hy
  have b1 : env.blockKind = .function := by
    unfold Env.blockKind
    rw [hk]
    rfl
  unfold swapsWith
  simp only [b1, k1, hno, Expr.pos, hl]
  rfl
theorem ps_setDc {i : Nat} {y : Str} {py : Pos} {kx vx tg iter : Expr} {ifs : List Expr} {scope : Scope} {own : List (Str × Nat)} {pos spos : Pos} {wi : TI} {g : TG} {tt : TT} {tk tv : TE} (hc : X.calm = true) (hN : X.N.Nodup) (hy : X.N[i]? = some y) (hyl : X.env.scope.names.lookup y = some .local)
    (hsw : swapsWith (.DictComp kx vx [⟨tg, iter, ifs, 0⟩] scope pos) (some (.Name y py)) spos.line X.env = pure true) (hi : PI X tg iter wi) (ok : BlkOk X.N X.env.scope scope own)
    (hg : ∀ (s1 : Shared) (H1 : Hp) (C1 : Addr) (cl1 : List (Str × Addr)) (fp1 : List Addr), PG (X.blk s1 H1 scope (compEnvC scope cl1 C1 X.env) fp1) tg g) (ht : ∀ (s1 : Shared) (H1 : Hp) (C1 : Addr) (cl1 : List (Str × Addr)) (fp1 : List Addr), PTs (X.blk s1 H1 scope (compEnvC scope cl1 C1 X.env) fp1) ifs tt)
    (hk : ∀ (s1 : Shared) (H1 : Hp) (C1 : Addr) (cl1 : List (Str × Addr)) (fp1 : List Addr), PE (X.blk s1 H1 scope (compEnvC scope cl1 C1 X.env) fp1) kx tk)
    (hv : ∀ (s1 : Shared) (H1 : Hp) (C1 : Addr) (cl1 : List (Str × Addr)) (fp1 : List Addr), PE (X.blk s1 H1 scope (compEnvC scope cl1 C1 X.env) fp1) vx tv) (hs : ∀ x, foldedSetIterable iter X.env x = pure x := by intro _; rfl) :
    PS X (.Assign [.Name y py] (.DictComp kx vx [⟨tg, iter, ifs, 0⟩] scope pos) spos) (tAsg (tDc wi g tt tk tv (own.map (·.2))) (gName i)) := by
  refine ⟨fun pins s σ H D I hq => ?_⟩
  rw [exec_Assign_Name_used _ _ _ _ hsw]
  refine wpAny_bind (wpAny_standAt (wpAny_bind ?_))
  show wpAny _ X.A (do let _ ← comprehension (.DictComp kx vx [⟨tg, iter, ifs, 0⟩] scope pos) scope X.env (firstIterPos [⟨tg, iter, ifs, 0⟩] pos) newDict false (eval iter X.env) (some (assign (.Name y py) X.env))) _ _ s
  have h1 : tDc wi g tt tk tv (own.map (·.2)) σ H (fun x H1 => gName i x σ H1 D.nx) := hq
  refine wpAny_bind (thn (dc_core (Qf := fun _ s' => SP X pins D .next s') hc hN I hi ok hg ht hk hv hs h1 fun L C s' m H' I' q hn f => ?_) fun _ s' z => wpAny_pure (wpAny_pure z))
  show wpAny _ _ (assign (.Name y py) X.env (.ref L)) _ _ _
  refine wpAny_assign_Name (store_ok2 (v := V.ref L) I' hN hy (.inl hyl) rfl (fun s2 I2 ⟨b, sb, hb⟩ => ?_) (.inr hyl))
  obtain ⟨e0, e1, e2, e3, e4, e5⟩ := f
  have nb : C ≠ b := by
    rcases hb with z | z
    · rw [z]
      exact e1
    · exact fun e => e4 y b z e.symm
  exact ⟨m, hn.sameBut sb nb, fun h3 sb3 => ⟨_, H', I2.turned (t' := s2.toks) (fun c o hc e => (sb3.2 c hc).trans e) e0 e1 e3 e4 e5, q⟩⟩
end
section
variable {X : Cx} {o e f : Expr} {td ty tx : TE} {apos cpos : Pos}
def tSetdT (td ty tx : TE) : TE := fun σ H Q => td σ H fun x H1 => ∃ a, x = .ref a ∧ IsD H1 a ∧ ty σ H1 fun y H2 => tx σ H2 fun z H3 => ∃ (kvs : List (List Key × V)) (k : List Key) (b : Addr), H3 a = some (.dT kvs) ∧ y = .ref b ∧ H3 b = some (.tup (k.map kV)) ∧ kvs.length < sizeLine ∧
  (∀ v, valV kvs k = some v → Q v H3) ∧ (valV kvs k = none → Q z (upd H3 a (.dT (putK kvs k z))))
theorem pe_setdT (hu : X.A.units + 1 < cLine) (ho : PE X o td) (he : PE X e ty) (hf : PE X f tx) (m : M2 X o "setdefault" apos e f cpos) : PE X (.Call (.Attribute o "setdefault" apos) [e, f] [] cpos) (tSetdT td ty tx) := by
  refine ⟨fun pins s σ H Q I hq => ?_⟩
  refine wpAny_Call_method m.base m.few m.line PySem.F.plainAttrs_dict PySem.F.slot_dict_setdefault PySem.F.type_dict_setdefault (thn (ho.run pins s σ H _ I hq) fun u s1 ⟨x, H1, I1, rx, a, ex, d, q1⟩ => ?_)
  subst ex
  obtain rfl : u = Value.ref a := rx
  obtain ⟨t1, t2, _⟩ := isD_at I1 d
  refine ⟨t1, t2, ?_⟩
  rw [m.trees]
  refine Calls.callWith_builtin rfl (Calls.evalArgs_plain (Calls.spliced_cons (thn (he.run pins s1 σ H1 _ I1 q1) fun iv s2 ⟨y, H2, I2, ry, q2⟩ =>
    Calls.spliced_cons (thn (hf.run pins s2 σ H2 _ I2 q2) fun fv s3 ⟨z, H3, I3, rz, kvs, k, b, ea, ey, eb, hl, q3, q4⟩ => Calls.spliced_nil ?_))))
  subst ey
  cases (show iv = Value.ref b from ry)
  obtain ⟨z1, hd, xs, rel, dd⟩ := dt_of I3.hok ea
  have hz : xs.length ≤ sizeLine := by rw [← Paired.length rel]; exact z1
  have hl2 : (putK kvs k z).length ≤ sizeLine := by have := length_putK kvs k z; omega
  refine call_setdefault_heap (hsz := hz) (tupleKind_room_in1 hu) (key_of I3.hok eb) hd dd (fun p hp => ?_) fun hn h' dd' hs => ?_
  · obtain ⟨v0, hv0, rv0⟩ : ∃ v0, valV kvs k = some v0 ∧ RelV v0 p.2 := by
      have g := rel.val k
      rw [hp] at g
      cases g0 : valV kvs k with
      | none =>
        rw [g0] at g
        exact (show False from g).elim
      | some v0 =>
        rw [g0] at g
        exact ⟨v0, rfl, g⟩
    exact ⟨v0, H3, I3.tok _, rv0, q3 v0 hv0⟩
  · have hn0 : valV kvs k = none := by
      have g := rel.val k
      rw [hn] at g
      cases g0 : valV kvs k with
      | none => rfl
      | some v0 =>
        rw [g0] at g
        exact (show False from g).elim
    obtain ⟨q, es, ep, hq, h2, h3, h4, _, h5⟩ := dd'
    refine ⟨z, _, d_write (ob := .dT (putK kvs k z)) I3 (by rw [ea]; exact True.intro) hs ⟨q, hq⟩ ⟨hl2, hd, _, (rel.put k eb rz).keeps fun c ys ec => ?_, q, es, ep, hq, h2, h3, h4, h5⟩, rz, q4 hn0⟩
    rw [upd_ne (ne_of ec ea (fun z => nomatch z))]
    exact ec
end
section
variable {P : Program} {w : World} {K : PySem.W.Frag} {mg : Str → Option Value} {base : Heap}

/-! ### data that nothing changes -/
mutual
def imm : PyData → Bool
  | .list _ => false
  | .dict _ => false
  | .tuple ds => immAll ds
  | .none => true
  | .bool _ => true
  | .int _ => true
  | .str _ => true
def immAll : List PyData → Bool
  | [] => true
  | d :: ds => imm d && immAll ds
end
/-- tuples, and what is locked -/
def Fix : HO → Prop
  | .tup _ => True
  | .frz _ _ => True
  | _ => False
def Kt (H H' : Hp) : Prop := ∀ a o, H a = some o → Fix o → H' a = some o
theorem Kt.refl (H : Hp) : Kt H H := fun _ _ e _ => e
theorem Kt.trans {H H1 H2 : Hp} (h : Kt H H1) (g : Kt H1 H2) : Kt H H2 := fun a o e f => g a o (h a o e f) f
theorem Kt.same {H H' : Hp} (h : Same H H') : Kt H H' := fun a o e _ => h a o e
theorem Kt.but {H H' : Hp} {b : Addr} {o : HO} (h : But b H H') (hb : H b = some o) (n : ¬ Fix o) : Kt H H' := fun a o' e f => h a o' (fun z => n (by rw [z, hb] at e; cases e; exact f)) e
theorem Kt.upd {H : Hp} {b : Addr} {o o' : HO} (hb : H b = some o) (n : ¬ Fix o) : Kt H (upd H b o') := fun a o2 e f => by
  rw [upd_ne (fun z => n (by rw [z, hb] at e; cases e; exact f))]
  exact e
theorem Kt.bag {H H' : Hp} {b : Addr} (h : But b H H') (g : Bag H b) : Kt H H' := by
  obtain ⟨x, y, e, _⟩ := g
  exact Kt.but h e (fun z => z)
theorem sqT_kt {H H' : Hp} {a : Addr} {xs : List V} (e : Kt H H') (h : SqT K H a xs) : SqT K H' a xs := by
  rcases h with (h | ⟨o, h⟩) | h
  · exact .inl (.inl (e _ _ h trivial))
  · exact .inl (.inr ⟨o, e _ _ h trivial⟩)
  · exact .inr h
mutual
theorem dp_kt {H H' : Hp} (e : Kt H H') : ∀ (d : PyData) (v : V), imm d = true → Dp K H v d → Dp K H' v d
  | .none, _, _, h => by cases h; exact .non
  | .bool b, _, _, h => by cases h; exact .bl b
  | .int i, _, _, h => by cases h; exact .int i
  | .str x, _, _, h => by cases h; exact .str x
  | .list ds, _, i, h => by simp [imm] at i
  | .tuple ds, _, i, h => by
    cases h with
    | tup hs ha => exact .tup (sqT_kt e hs) (dp_ktAll e ds _ (by simpa [imm] using i) ha)
  | .dict _, _, _, h => by cases h
theorem dp_ktAll {H H' : Hp} (e : Kt H H') : ∀ (ds : List PyData) (vs : List V), immAll ds = true → DpAll K H vs ds → DpAll K H' vs ds
  | [], _, _, h => by cases h; exact .nil
  | d :: ds, _, i, h => by
    cases h with
    | cons h1 h2 =>
      have i2 : imm d = true ∧ immAll ds = true := by simpa [immAll] using i
      exact .cons (dp_kt e d _ i2.1 h1) (dp_ktAll e ds _ i2.2 h2)
end
theorem immAll_iff : ∀ {ds : List PyData}, immAll ds = true ↔ ∀ d ∈ ds, imm d = true
  | [] => by simp [immAll]
  | d :: ds => by simp [immAll, immAll_iff (ds := ds)]
theorem dpAll_getD {H : Hp} {vs : List V} {ds : List PyData} {i : Nat} {d : PyData} (h : DpAll K H vs ds) (e : ds[i]? = some d) : ∃ v, vs[i]? = some v ∧ Dp K H v d := by
  have hl := dpAll_len h
  have hi : i < vs.length := by
    rw [hl]
    exact (List.getElem?_eq_some_iff.mp e).1
  obtain ⟨d', e', p⟩ := dpAll_get h (List.getElem?_eq_getElem hi)
  rw [e] at e'
  cases e'
  exact ⟨_, List.getElem?_eq_getElem hi, p⟩
theorem dp_list {H : Hp} {v : V} {ds : List PyData} (h : Dp K H v (.list ds)) : ∃ a vs, v = .ref a ∧ SqL K H a vs ∧ DpAll K H vs ds := by
  cases h with
  | lst hs ha => exact ⟨_, _, rfl, hs, ha⟩
theorem dp_tuple {H : Hp} {v : V} {ds : List PyData} (h : Dp K H v (.tuple ds)) : ∃ a vs, v = .ref a ∧ SqT K H a vs ∧ DpAll K H vs ds := by
  cases h with
  | tup hs ha => exact ⟨_, _, rfl, hs, ha⟩
theorem take_fm {α β : Type} (f : α → Option β) (ds : List α) (i : Nat) (d : α) (h : ds[i]? = some d) : (ds.take (i + 1)).filterMap f = (ds.take i).filterMap f ++ (f d).toList := by
  rw [List.take_add_one, h, List.filterMap_append]
  cases e : f d <;> simp [e]
theorem fm_take_le {α β : Type} (f : α → Option β) (ds : List α) (i : Nat) : ((ds.take i).filterMap f).length ≤ i :=
  Nat.le_trans (List.length_filterMap_le _ _) (by rw [List.length_take]; exact Nat.min_le_left _ _)
/-- a list made of a list of data, by a function of it -/
theorem lc_ty {α β : Type} {a D : Addr} {vs : List V} {xs : List α} {H1 : Hp} {σ : L2.St} {g : TG} {tt : TT} {te : TE} {ws : List Nat} {Qd : Hp → Prop} (ea : α → PyData) (eb : β → PyData) (f : α → Option β)
    (hS : SqL K H1 a vs) (hA : DpAll K H1 vs (xs.map ea)) (hn : H1 D = none) (hlen : xs.length ≤ 1000000) (him : ∀ y, imm (eb y) = true)
    (step : ∀ (i : Nat) (v : V) (x : α) (H : Hp) (k : V → Hp → Prop) (kf : Hp → Prop), xs[i]? = some x → Same H1 H → Dp K H v (ea x) → (∀ y, f x = some y → ∀ v' H4, Same H H4 → Dp K H4 v' (eb y) → k v' H4) → (f x = none → ∀ H3, Same H H3 → kf H3) →
      g v (wipe σ ws) H fun σ2 H2 => wipe σ2 ws = wipe σ ws ∧ tt σ2 H2 fun b H3 => if b = true then te σ2 H3 k else kf H3)
    (hd : ∀ H ys, Same H1 H → H D = some (.lst ys) → DpAll K H ys ((xs.filterMap f).map eb) → Qd H) :
    ∃ W : Nat → Nat → Hp → Prop, (∃ m, W 0 m (upd H1 D (.lst []))) ∧ ∀ i m H, W i m H →
      ((Itl K a).stop i H ∧ Qd H) ∨ ((Itl K a).go i H ∧ ∃ Nx : Hp → Prop, (∀ H', Nx H' → ∃ m', m' < m ∧ W (i + 1) m' H') ∧ ∀ x H', (Itl K a).yld i H x H' → g x (wipe σ ws) H' fun σ2 H2 => wipe σ2 ws = wipe σ ws ∧ tt σ2 H2 fun b H3 =>
        if b = true then te σ2 H3 fun y H4 => ∃ acc, H4 D = some (.lst acc) ∧ acc.length < sizeLine ∧ Nx (upd H4 D (.lst (acc ++ [y]))) else Nx H3) := by
  have hl := dpAll_len hA
  rw [List.length_map] at hl
  have imA : ∀ zs : List β, immAll (zs.map eb) = true := fun zs => immAll_iff.mpr fun e he => by
    obtain ⟨y, _, rfl⟩ := List.mem_map.mp he
    exact him y
  refine lc_it (walk_list (K := K) (a := a) (xs := vs)) (fun i H => Same H1 H ∧ ∃ acc, H D = some (.lst acc) ∧ DpAll K H acc (((xs.take i).filterMap f).map eb)) ⟨same_upd hn, [], upd_same, .nil⟩ (fun i H _ z => z.1.seq hS) ?_ ?_
  · rintro i v H H' hi ⟨s1, acc, hD, hacc⟩ ⟨rfl, hv⟩
    obtain ⟨d, ed, pd⟩ := dpAll_get hA hv
    rw [List.getElem?_map] at ed
    obtain ⟨x, ex, rfl⟩ := Option.map_eq_some_iff.mp ed
    refine step i v x H' _ _ ex s1 (dp_same s1 _ _ pd) ?_ ?_
    · intro e fe y H4 s4 py
      have hD4 := s4 _ _ hD
      have kt : Kt H' (upd H4 D (.lst (acc ++ [y]))) := (Kt.same s4).trans (Kt.upd hD4 (fun z => z))
      refine ⟨acc, hD4, ?_, ?_, acc ++ [y], upd_same, ?_⟩
      · have := dpAll_len hacc
        rw [List.length_map] at this
        have h2 := fm_take_le f xs i
        rw [sizeLine_eq]
        omega
      · intro c o ec
        rw [upd_ne (ne_of_none ec hn)]
        exact s4 _ _ (s1 _ _ ec)
      · rw [take_fm f xs i x ex, fe, List.map_append]
        exact dpAll_append (dp_ktAll kt _ _ (imA _) hacc) (.cons (dp_kt (Kt.upd hD4 (fun z => z)) _ _ (him e) py) .nil)
    · intro fe H3 s3
      refine ⟨s1.trans s3, acc, s3 _ _ hD, ?_⟩
      rw [take_fm f xs i x ex, fe]
      have := dp_sameAll s3 _ _ hacc
      simpa using this
  · rintro H ⟨s1, acc, hD, hacc⟩
    refine hd H acc s1 hD ?_
    rw [hl, List.take_of_length_le (Nat.le_refl _)] at hacc
    exact hacc
/-- the same, with no test -/
theorem lc_map {α β : Type} {a D : Addr} {vs : List V} {xs : List α} {H1 : Hp} {σ : L2.St} {g : TG} {te : TE} {ws : List Nat} {Qd : Hp → Prop} (ea : α → PyData) (eb : β → PyData) (f : α → β)
    (hS : SqL K H1 a vs) (hA : DpAll K H1 vs (xs.map ea)) (hn : H1 D = none) (hlen : xs.length ≤ 1000000) (him : ∀ y, imm (eb y) = true)
    (step : ∀ (i : Nat) (v : V) (x : α) (H : Hp) (k : V → Hp → Prop), xs[i]? = some x → Same H1 H → Dp K H v (ea x) → (∀ v' H4, Same H H4 → Dp K H4 v' (eb (f x)) → k v' H4) →
      g v (wipe σ ws) H fun σ2 H2 => wipe σ2 ws = wipe σ ws ∧ te σ2 H2 k)
    (hd : ∀ H ys, Same H1 H → H D = some (.lst ys) → DpAll K H ys ((xs.map f).map eb) → Qd H) :
    ∃ W : Nat → Nat → Hp → Prop, (∃ m, W 0 m (upd H1 D (.lst []))) ∧ ∀ i m H, W i m H →
      ((Itl K a).stop i H ∧ Qd H) ∨ ((Itl K a).go i H ∧ ∃ Nx : Hp → Prop, (∀ H', Nx H' → ∃ m', m' < m ∧ W (i + 1) m' H') ∧ ∀ x H', (Itl K a).yld i H x H' → g x (wipe σ ws) H' fun σ2 H2 => wipe σ2 ws = wipe σ ws ∧ tYes σ2 H2 fun b H3 =>
        if b = true then te σ2 H3 fun y H4 => ∃ acc, H4 D = some (.lst acc) ∧ acc.length < sizeLine ∧ Nx (upd H4 D (.lst (acc ++ [y]))) else Nx H3) := by
  refine lc_ty (tt := tYes) ea eb (fun x => some (f x)) hS hA hn hlen him (fun i v x H k kf ex s1 px hk _ => ?_) (fun H ys s1 hD hy => hd H ys s1 hD ?_)
  · have := step i v x H k ex s1 px (fun v' H4 s4 p4 => hk _ rfl v' H4 s4 p4)
    simpa only [tYes, if_true] using this
  · rw [List.filterMap_eq_map'] at hy
    exact hy
/-- a dict made by a walk -/
theorem dc_it {J : It} {n : Nat} {G : Hp → Prop} {Y : Nat → Hp → V → Hp → Prop} (w : Walk J n G Y) {g : TG} {tt : TT} {tk tv : TE} {vs : List Nat} {σ : L2.St} {H1 : Hp} {D : Addr} {Qd : Hp → Prop} (Pv : Nat → Hp → Prop) (h0 : Pv 0 (upd H1 D (.dK []))) (hG : ∀ i H, i ≤ n → Pv i H → G H)
    (hs : ∀ i x H H', i < n → Pv i H → Y i H x H' → g x (wipe σ vs) H' fun σ2 H2 => wipe σ2 vs = wipe σ vs ∧ tt σ2 H2 fun b H3 =>
      if b = true then tk σ2 H3 fun y H4 => tv σ2 H4 fun z H5 => ∃ kvs k, y = kV k ∧ H5 D = some (.dK kvs) ∧ kvs.length < sizeLine ∧ Pv (i + 1) (upd H5 D (.dK (putK kvs k z))) else Pv (i + 1) H3) (hd : ∀ H, Pv n H → Qd H) :
    ∃ W : Nat → Nat → Hp → Prop, (∃ m, W 0 m (upd H1 D (.dK []))) ∧ ∀ i m H, W i m H →
      (J.stop i H ∧ Qd H) ∨ (J.go i H ∧ ∃ Nx : Hp → Prop, (∀ H', Nx H' → ∃ m', m' < m ∧ W (i + 1) m' H') ∧ ∀ x H', J.yld i H x H' → g x (wipe σ vs) H' fun σ2 H2 => wipe σ2 vs = wipe σ vs ∧ tt σ2 H2 fun b H3 =>
        if b = true then tk σ2 H3 fun y H4 => tv σ2 H4 fun z H5 => ∃ kvs k, y = kV k ∧ H5 D = some (.dK kvs) ∧ kvs.length < sizeLine ∧ Nx (upd H5 D (.dK (putK kvs k z))) else Nx H3) := by
  refine ⟨fun i m H => m = n - i ∧ i ≤ n ∧ Pv i H, ⟨n, by simp, Nat.zero_le _, h0⟩, ?_⟩
  rintro i m H ⟨rfl, hi, p⟩
  have gh := hG i H hi p
  by_cases lt : i < n
  · exact .inr ⟨w.goes i H lt gh, Pv (i + 1), fun H' p' => ⟨n - (i + 1), by omega, rfl, lt, p'⟩, fun x H' y => hs i x H H' lt p (w.yields i H x H' lt gh y)⟩
  · obtain rfl : i = n := by omega
    exact .inl ⟨w.stops H gh, hd H p⟩

/-! ### lists of data -/
theorem dpA_set {H : Hp} {v : V} {d : PyData} (hd : Dp K H v d) : ∀ {vs : List V} {ds : List PyData} (n : Nat), DpAll K H vs ds → DpAll K H (vs.set n v) (ds.set n d)
  | _, _, 0, .nil => .nil
  | _, _, n + 1, .nil => .nil
  | _, _, 0, .cons h1 h2 => .cons hd h2
  | _, _, n + 1, .cons h1 h2 => .cons h1 (dpA_set hd n h2)
theorem dpA_take {H : Hp} : ∀ {vs : List V} {ds : List PyData} (n : Nat), DpAll K H vs ds → DpAll K H (vs.take n) (ds.take n)
  | _, _, 0, _ => by rw [List.take_zero, List.take_zero]; exact .nil
  | _, _, n + 1, .nil => by rw [List.take_nil, List.take_nil]; exact .nil
  | _, _, n + 1, .cons h1 h2 => .cons h1 (dpA_take n h2)
theorem dpA_drop {H : Hp} : ∀ {vs : List V} {ds : List PyData} (n : Nat), DpAll K H vs ds → DpAll K H (vs.drop n) (ds.drop n)
  | _, _, 0, h => by rw [List.drop_zero, List.drop_zero]; exact h
  | _, _, n + 1, .nil => by rw [List.drop_nil, List.drop_nil]; exact .nil
  | _, _, n + 1, .cons h1 h2 => dpA_drop n h2
theorem dpA_ins {H : Hp} {v : V} {d : PyData} {vs : List V} {ds : List PyData} (n : Nat) (hd : Dp K H v d) (h : DpAll K H vs ds) : DpAll K H (vs.take n ++ [v] ++ vs.drop n) (ds.take n ++ [d] ++ ds.drop n) :=
  dpAll_append (dpAll_append (dpA_take n h) (.cons hd .nil)) (dpA_drop n h)
theorem cutL_take (xs : List V) {i : Int} (h0 : 0 ≤ i) : cutV xs none (some i) = xs.take i.toNat := by
  obtain ⟨k, rfl⟩ : ∃ k : Nat, i = (k : Int) := ⟨i.toNat, by omega⟩
  unfold cutV
  rw [HT.sIx_none, HT.sIx_nat]
  have e3 : ((k : Nat) : Int).toNat = k := by omega
  rw [e3, Nat.sub_zero]
  show (xs.drop 0).take (min k xs.length) = xs.take k
  rw [List.drop_zero]
  by_cases h : k ≤ xs.length
  · rw [Nat.min_eq_left h]
  · rw [Nat.min_eq_right (by omega), List.take_of_length_le (Nat.le_refl _), List.take_of_length_le (by omega)]
theorem pickAt {α : Type} {xs : List α} {i : Int} (h0 : 0 ≤ i) (h1 : i < xs.length) : ∃ j : Nat, j < xs.length ∧ i = (j : Int) ∧ ∃ x, xs[j]? = some x ∧ atI xs i = some x := by
  obtain ⟨k, rfl⟩ : ∃ k : Nat, i = (k : Int) := ⟨i.toNat, by omega⟩
  have hk : k < xs.length := by omega
  exact ⟨k, hk, rfl, xs[k], List.getElem?_eq_getElem hk, atI_nat (List.getElem?_eq_getElem hk)⟩
theorem pickStr (ws : List Str) {i : Int} (h0 : 0 ≤ i) (h1 : i < ws.length) : ∃ m, m ∈ ws ∧ atI (ws.map V.str) i = some (.str m) := by
  obtain ⟨j, hj, rfl, x, hx, e⟩ := pickAt (xs := ws.map V.str) h0 (by rw [List.length_map]; exact h1)
  rw [List.getElem?_map] at hx
  obtain ⟨m, hm, rfl⟩ := Option.map_eq_some_iff.mp hx
  exact ⟨m, List.mem_of_getElem? hm, e⟩
theorem pickInt (ws : List Int) {i : Int} (h0 : 0 ≤ i) (h1 : i < ws.length) : ∃ m, m ∈ ws ∧ atI (ws.map V.int) i = some (.int m) := by
  obtain ⟨j, hj, rfl, x, hx, e⟩ := pickAt (xs := ws.map V.int) h0 (by rw [List.length_map]; exact h1)
  rw [List.getElem?_map] at hx
  obtain ⟨m, hm, rfl⟩ := Option.map_eq_some_iff.mp hx
  exact ⟨m, List.mem_of_getElem? hm, e⟩
theorem dp_ints {H : Hp} : ∀ {ns : List Int} {vs : List V}, DpAll K H vs (ns.map PyData.int) → vs = ns.map V.int
  | [], _, h => by cases h; rfl
  | n :: ns, _, h => by
    cases h with
    | cons h1 h2 =>
      cases h1
      rw [dp_ints h2]
      rfl
theorem ints_dp {H : Hp} : ∀ (ns : List Int), DpAll K H (ns.map V.int) (ns.map PyData.int)
  | [] => .nil
  | n :: ns => .cons (.int n) (ints_dp ns)
theorem inV_int (i : Int) (ns : List Int) : inV (.int i) (ns.map V.int) = decide (i ∈ ns) := by
  unfold inV
  rw [List.any_map]
  by_cases h : i ∈ ns
  · rw [decide_eq_true h, List.any_eq_true]
    exact ⟨i, h, by simp [eqV]⟩
  · rw [decide_eq_false h, List.any_eq_false]
    intro x hx
    simp only [Function.comp, eqV, beq_iff_eq]
    exact fun z => h (z ▸ hx)
theorem flat_ints (ns : List Int) : (ns.map V.int).all flatV = true := by
  rw [List.all_map, List.all_eq_true]
  intro x _
  rfl
theorem last_at {α : Type} (xs : List α) (x : α) : atI (xs ++ [x]) (-1) = some x := by
  unfold atI ixN
  rw [List.length_append, if_neg (by decide), if_pos (by simp; omega)]
  show (xs ++ [x])[(-1 + ((xs.length + 1 : Nat) : Int)).toNat]? = some x
  rw [show (-1 + ((xs.length + 1 : Nat) : Int)).toNat = xs.length by omega]
  simp
def pairD (p : Int × Int) : PyData := .tuple [.int p.1, .int p.2]
theorem pairD_imm (p : Int × Int) : imm (pairD p) = true := rfl
theorem dp_pair {H : Hp} {v : V} {p : Int × Int} (h : Dp K H v (pairD p)) : ∃ a, v = .ref a ∧ SqT K H a [.int p.1, .int p.2] := by
  cases h with
  | tup hs ha =>
    cases ha with
    | cons h1 ha =>
      cases h1
      cases ha with
      | cons h1 ha =>
        cases h1
        cases ha
        exact ⟨_, rfl, hs⟩
theorem pairs_imm (ps : List (Int × Int)) : immAll (ps.map pairD) = true := immAll_iff.mpr fun e he => by
  obtain ⟨y, _, rfl⟩ := List.mem_map.mp he
  exact pairD_imm y
theorem dget_of {H : Hp} {a : Addr} {kvs : List (Key × V)} {k : Key} {v : V} (h : H a = some (.dK kvs)) (e : valV kvs k = some v) : DGet H a (kV k) (some v) := e ▸ DGet.k h
/-- a list made by two walks, one in the other: the outer one -/
theorem lc2_it {J : It} {n : Nat} {G : Hp → Prop} {Y : Nat → Hp → V → Hp → Prop} (w : Walk J n G Y) {g g1 : TG} {tt tt1 : TT} {te : TE} {wi1 : TI} {vs vs1 : List Nat} {σ : L2.St} {H1 : Hp} {D : Addr} {Qd : Hp → Prop} (Pv : Nat → Hp → Prop) (h0 : Pv 0 (upd H1 D (.lst []))) (hG : ∀ i H, i ≤ n → Pv i H → G H)
    (hs : ∀ i x H H', i < n → Pv i H → Y i H x H' → g x (wipe σ vs) H' fun σ2 H2 => wipe σ2 vs = wipe σ vs ∧ tt σ2 H2 fun b H3 => if b = true then wi1 σ2 H3 fun J1 H4 => ∃ W1 : Nat → Nat → Hp → Prop, (∃ m, W1 0 m H4) ∧ ∀ j k H, W1 j k H →
      (J1.stop j H ∧ Pv (i + 1) H) ∨ (J1.go j H ∧ ∃ Nx1 : Hp → Prop, (∀ H', Nx1 H' → ∃ k', k' < k ∧ W1 (j + 1) k' H') ∧ ∀ x H', J1.yld j H x H' → g1 x (wipe σ2 vs1) H' fun σ3 H5 => wipe σ3 vs1 = wipe σ2 vs1 ∧ tt1 σ3 H5 fun b H6 =>
        if b = true then te σ3 H6 fun y H7 => ∃ acc, H7 D = some (.lst acc) ∧ acc.length < sizeLine ∧ Nx1 (upd H7 D (.lst (acc ++ [y]))) else Nx1 H6) else Pv (i + 1) H3) (hd : ∀ H, Pv n H → Qd H) :
    ∃ W : Nat → Nat → Hp → Prop, (∃ m, W 0 m (upd H1 D (.lst []))) ∧ ∀ i m H, W i m H →
      (J.stop i H ∧ Qd H) ∨ (J.go i H ∧ ∃ Nx : Hp → Prop, (∀ H', Nx H' → ∃ m', m' < m ∧ W (i + 1) m' H') ∧ ∀ x H', J.yld i H x H' → g x (wipe σ vs) H' fun σ2 H2 => wipe σ2 vs = wipe σ vs ∧ tt σ2 H2 fun b H3 => if b = true then wi1 σ2 H3 fun J1 H4 => ∃ W1 : Nat → Nat → Hp → Prop, (∃ m, W1 0 m H4) ∧ ∀ j k H, W1 j k H →
      (J1.stop j H ∧ Nx H) ∨ (J1.go j H ∧ ∃ Nx1 : Hp → Prop, (∀ H', Nx1 H' → ∃ k', k' < k ∧ W1 (j + 1) k' H') ∧ ∀ x H', J1.yld j H x H' → g1 x (wipe σ2 vs1) H' fun σ3 H5 => wipe σ3 vs1 = wipe σ2 vs1 ∧ tt1 σ3 H5 fun b H6 =>
        if b = true then te σ3 H6 fun y H7 => ∃ acc, H7 D = some (.lst acc) ∧ acc.length < sizeLine ∧ Nx1 (upd H7 D (.lst (acc ++ [y]))) else Nx1 H6) else Nx H3) := by
  refine ⟨fun i m H => m = n - i ∧ i ≤ n ∧ Pv i H, ⟨n, by simp, Nat.zero_le _, h0⟩, ?_⟩
  rintro i m H ⟨rfl, hi, p⟩
  have gh := hG i H hi p
  by_cases lt : i < n
  · exact .inr ⟨w.goes i H lt gh, Pv (i + 1), fun H' p' => ⟨n - (i + 1), by omega, rfl, lt, p'⟩, fun x H' y => hs i x H H' lt p (w.yields i H x H' lt gh y)⟩
  · obtain rfl : i = n := by omega
    exact .inl ⟨w.stops H gh, hd H p⟩
/-- .. the inner one -/
theorem li_it {J : It} {n : Nat} {G : Hp → Prop} {Y : Nat → Hp → V → Hp → Prop} (w : Walk J n G Y) {g : TG} {tt : TT} {te : TE} {vs : List Nat} {σ : L2.St} {H4 : Hp} {D : Addr} {Qd : Hp → Prop} (Pv : Nat → Hp → Prop) (h0 : Pv 0 H4) (hG : ∀ i H, i ≤ n → Pv i H → G H)
    (hs : ∀ i x H H', i < n → Pv i H → Y i H x H' → g x (wipe σ vs) H' fun σ2 H2 => wipe σ2 vs = wipe σ vs ∧ tt σ2 H2 fun b H3 =>
      if b = true then te σ2 H3 fun y H7 => ∃ acc, H7 D = some (.lst acc) ∧ acc.length < sizeLine ∧ Pv (i + 1) (upd H7 D (.lst (acc ++ [y]))) else Pv (i + 1) H3) (hd : ∀ H, Pv n H → Qd H) :
    ∃ W1 : Nat → Nat → Hp → Prop, (∃ m, W1 0 m H4) ∧ ∀ j k H, W1 j k H →
      (J.stop j H ∧ Qd H) ∨ (J.go j H ∧ ∃ Nx1 : Hp → Prop, (∀ H', Nx1 H' → ∃ k', k' < k ∧ W1 (j + 1) k' H') ∧ ∀ x H', J.yld j H x H' → g x (wipe σ vs) H' fun σ3 H5 => wipe σ3 vs = wipe σ vs ∧ tt σ3 H5 fun b H6 =>
        if b = true then te σ3 H6 fun y H7 => ∃ acc, H7 D = some (.lst acc) ∧ acc.length < sizeLine ∧ Nx1 (upd H7 D (.lst (acc ++ [y]))) else Nx1 H6) := by
  refine ⟨fun i m H => m = n - i ∧ i ≤ n ∧ Pv i H, ⟨n, by simp, Nat.zero_le _, h0⟩, ?_⟩
  rintro i m H ⟨rfl, hi, p⟩
  have gh := hG i H hi p
  by_cases lt : i < n
  · exact .inr ⟨w.goes i H lt gh, Pv (i + 1), fun H' p' => ⟨n - (i + 1), by omega, rfl, lt, p'⟩, fun x H' y => hs i x H H' lt p (w.yields i H x H' lt gh y)⟩
  · obtain rfl : i = n := by omega
    exact .inl ⟨w.stops H gh, hd H p⟩
/-- pairs of ints, made of two lists of them -/
theorem lc2_ints {a c D : Addr} {xs ys : List Int} {H1 : Hp} {σ : L2.St} {g g1 : TG} {tt1 : TT} {te : TE} {wi1 : TI} {vs vs1 : List Nat} {Qd : Hp → Prop} (f : Int → Int → Option (Int × Int)) (hx : SqL K H1 a (xs.map V.int)) (hy : SqL K H1 c (ys.map V.int)) (nD : H1 D = none) (lx : xs.length ≤ 100) (ly : ys.length ≤ 100)
    (st1 : ∀ (x : Int) (H : Hp) (k : It → Hp → Prop), Same H1 H → k (Itl K c) H → ∀ (kk : L2.St → Hp → Prop), (∀ σ2, wipe σ2 vs = wipe σ vs → (∀ R, wi1 σ2 H R ↔ R (Itl K c) H) → (∀ (y : Int) (H2 : Hp) (kt : V → Hp → Prop) (kf : Hp → Prop), Same H1 H2 → (∀ p, f x y = some p → ∀ v H3, Same H2 H3 → Dp K H3 v (pairD p) → kt v H3) → (f x y = none → kf H2) → g1 (.int y) (wipe σ2 vs1) H2 fun σ3 H5 => wipe σ3 vs1 = wipe σ2 vs1 ∧ tt1 σ3 H5 fun b H6 => if b = true then te σ3 H6 kt else kf H6) → kk σ2 H) → g (.int x) (wipe σ vs) H kk)
    (hd : ∀ H zs, Same H1 H → H D = some (.lst zs) → DpAll K H zs ((xs.flatMap fun x => ys.filterMap (f x)).map pairD) → Qd H) :
    ∃ W : Nat → Nat → Hp → Prop, (∃ m, W 0 m (upd H1 D (.lst []))) ∧ ∀ i m H, W i m H →
      ((Itl K a).stop i H ∧ Qd H) ∨ ((Itl K a).go i H ∧ ∃ Nx : Hp → Prop, (∀ H', Nx H' → ∃ m', m' < m ∧ W (i + 1) m' H') ∧ ∀ x H', (Itl K a).yld i H x H' → g x (wipe σ vs) H' fun σ2 H2 => wipe σ2 vs = wipe σ vs ∧ tYes σ2 H2 fun b H3 => if b = true then wi1 σ2 H3 fun J1 H4 => ∃ W1 : Nat → Nat → Hp → Prop, (∃ m, W1 0 m H4) ∧ ∀ j k H, W1 j k H →
      (J1.stop j H ∧ Nx H) ∨ (J1.go j H ∧ ∃ Nx1 : Hp → Prop, (∀ H', Nx1 H' → ∃ k', k' < k ∧ W1 (j + 1) k' H') ∧ ∀ x H', J1.yld j H x H' → g1 x (wipe σ2 vs1) H' fun σ3 H5 => wipe σ3 vs1 = wipe σ2 vs1 ∧ tt1 σ3 H5 fun b H6 =>
        if b = true then te σ3 H6 fun y H7 => ∃ acc, H7 D = some (.lst acc) ∧ acc.length < sizeLine ∧ Nx1 (upd H7 D (.lst (acc ++ [y]))) else Nx1 H6) else Nx H3) := by
  have small : ∀ i, i ≤ xs.length → ((xs.take i).flatMap fun x => ys.filterMap (f x)).length ≤ i * 100 := by
    intro i
    induction i with
    | zero => intro _; simp
    | succ i ih =>
      intro hi
      have e : xs[i]? = some xs[i] := List.getElem?_eq_getElem (by omega)
      rw [List.take_add_one, e, List.flatMap_append, List.length_append]
      have h1 := ih (by omega)
      have h2 : (ys.filterMap (f xs[i])).length ≤ 100 := Nat.le_trans (List.length_filterMap_le _ _) ly
      have h3 : ((some xs[i]).toList.flatMap fun x => ys.filterMap (f x)) = ys.filterMap (f xs[i]) := by simp
      rw [h3]
      omega
  refine lc2_it (walk_list (K := K) (a := a) (xs := xs.map V.int)) (fun i H => Same H1 H ∧ ∃ acc, H D = some (.lst acc) ∧ DpAll K H acc (((xs.take i).flatMap fun x => ys.filterMap (f x)).map pairD)) ⟨same_upd nD, [], upd_same, .nil⟩ (fun i H _ z => z.1.seq hx) ?_ ?_
  · rintro i v H H' hi ⟨s1, acc, hD, hacc⟩ ⟨rfl, hv⟩
    rw [List.length_map] at hi
    rw [List.getElem?_map] at hv
    obtain ⟨x, ex, rfl⟩ := Option.map_eq_some_iff.mp hv
    refine st1 x H' (fun _ _ => True) s1 trivial _ fun σ2 hw hwi inner => ⟨hw, ?_⟩
    simp only [tYes, if_true]
    refine (hwi _).mpr ?_
    refine li_it (walk_list (K := K) (a := c) (xs := ys.map V.int)) (fun j H => Same H1 H ∧ ∃ acc, H D = some (.lst acc) ∧ DpAll K H acc ((((xs.take i).flatMap fun x => ys.filterMap (f x)) ++ (ys.take j).filterMap (f x)).map pairD)) ⟨s1, acc, hD, by simpa using hacc⟩ (fun j H _ z => z.1.seq hy) ?_ ?_
    · rintro j v H2 H3 hj ⟨s2, acc2, hD2, hacc2⟩ ⟨rfl, hv2⟩
      rw [List.getElem?_map] at hv2
      obtain ⟨y, ey, rfl⟩ := Option.map_eq_some_iff.mp hv2
      have hl2 := dpAll_len hacc2
      rw [List.length_map, List.length_append] at hl2
      have b1 := small i (by omega)
      have b2 := fm_take_le (f x) ys j
      rw [List.length_map] at hj
      refine inner y H3 _ _ s2 ?_ ?_
      · intro p fp v' H4 s4 pv
        have hD4 := s4 _ _ hD2
        have ku := Kt.upd (o' := .lst (acc2 ++ [v'])) hD4 (fun z => z)
        refine ⟨acc2, hD4, by rw [sizeLine_eq]; omega, ?_, acc2 ++ [v'], upd_same, ?_⟩
        · intro z o e
          rw [upd_ne (ne_of_none e nD)]
          exact s4 _ _ (s2 _ _ e)
        · rw [take_fm (f x) ys j y ey, fp, ← List.append_assoc, List.map_append]
          exact dpAll_append (dp_ktAll ((Kt.same s4).trans ku) _ _ (pairs_imm _) hacc2) (.cons (dp_kt ku _ _ (pairD_imm p) pv) .nil)
      · intro fn
        refine ⟨s2, acc2, hD2, ?_⟩
        rw [take_fm (f x) ys j y ey, fn]
        simpa using hacc2
    · rintro H2 ⟨s2, acc2, hD2, hacc2⟩
      rw [List.length_map, List.take_of_length_le (Nat.le_refl _)] at hacc2
      refine ⟨s2, acc2, hD2, ?_⟩
      rw [List.take_add_one, ex, List.flatMap_append]
      simpa using hacc2
  · rintro H ⟨s1, acc, hD, hacc⟩
    rw [List.length_map, List.take_of_length_le (Nat.le_refl _)] at hacc
    exact hd H acc s1 hD hacc

/-! ### rows of a log -/
structure LRow where
  t : Int
  w : Str
  n : Int
  c : Str
  f : Str
  p : Int
  v : Option Int
def optD : Option Int → PyData
  | some i => .int i
  | none => .none
def optV : Option Int → V
  | some i => .int i
  | none => .non
def rowD (r : LRow) : PyData := .tuple [.int r.t, .str r.w, .int r.n, .str r.c, .str r.f, .int r.p, optD r.v]
theorem optD_imm (o : Option Int) : imm (optD o) = true := by cases o <;> rfl
theorem rowD_imm (r : LRow) : imm (rowD r) = true := by
  simp [rowD, imm, immAll, optD_imm]
theorem dp_opt {H : Hp} {v : V} {o : Option Int} (h : Dp K H v (optD o)) : v = optV o := by
  cases o with
  | none => cases h; rfl
  | some i => cases h; rfl
theorem opt_dp {H : Hp} (o : Option Int) : Dp K H (optV o) (optD o) := by
  cases o with
  | none => exact .non
  | some i => exact .int i
def rowV (r : LRow) : List V := [.int r.t, .str r.w, .int r.n, .str r.c, .str r.f, .int r.p, optV r.v]
theorem dp_row {H : Hp} {v : V} {r : LRow} (h : Dp K H v (rowD r)) : ∃ a, v = .ref a ∧ SqT K H a (rowV r) := by
  cases h with
  | tup hs ha =>
    cases ha with
    | cons h1 ha =>
      cases h1
      cases ha with
      | cons h1 ha =>
        cases h1
        cases ha with
        | cons h1 ha =>
          cases h1
          cases ha with
          | cons h1 ha =>
            cases h1
            cases ha with
            | cons h1 ha =>
              cases h1
              cases ha with
              | cons h1 ha =>
                cases h1
                cases ha with
                | cons h1 ha =>
                  cases ha
                  rw [dp_opt h1] at hs
                  exact ⟨_, rfl, hs⟩
theorem row_dp {H : Hp} {a : Addr} {r : LRow} (h : SqT K H a (rowV r)) : Dp K H (.ref a) (rowD r) :=
  .tup h (.cons (.int _) (.cons (.str _) (.cons (.int _) (.cons (.str _) (.cons (.str _) (.cons (.int _) (.cons (opt_dp _) .nil)))))))
/-! ### last_value -/
def lastV (S : Int → Bool) (ps : List (Int × Int)) : Int := ((ps.filter fun p => !S p.1).map (·.2)).getLastD 0
theorem lastV_hit {S : Int → Bool} {ps : List (Int × Int)} {j : Nat} {p : Int × Int} (e : ps[j]? = some p) (h : S p.1 = false) (lost : ∀ (i : Nat) (q : Int × Int), j < i → ps[i]? = some q → S q.1 = true) : lastV S ps = p.2 := by
  have hj := (List.getElem?_eq_some_iff.mp e).1
  have ep := (List.getElem?_eq_some_iff.mp e).2
  have e1 : ps = ps.take j ++ p :: ps.drop (j + 1) := by
    rw [← ep, List.getElem_cons_drop, List.take_append_drop]
  have e2 : (ps.drop (j + 1)).filter (fun q => !S q.1) = [] := by
    rw [List.filter_eq_nil_iff]
    intro q hq
    obtain ⟨i, hi⟩ := List.mem_iff_getElem?.mp hq
    rw [List.getElem?_drop] at hi
    simp [lost (j + 1 + i) q (by omega) hi]
  unfold lastV
  rw [e1, List.filter_append, List.filter_cons, if_pos (by simp [h]), e2, List.map_append, List.map_cons, List.map_nil, List.getLastD_concat]
theorem lastV_none {S : Int → Bool} {ps : List (Int × Int)} (lost : ∀ (i : Nat) (q : Int × Int), ps[i]? = some q → S q.1 = true) : lastV S ps = 0 := by
  have e : ps.filter (fun q => !S q.1) = [] := by
    rw [List.filter_eq_nil_iff]
    intro q hq
    obtain ⟨i, hi⟩ := List.mem_iff_getElem?.mp hq
    simp [lost i q hi]
  unfold lastV
  rw [e]
  rfl
/-- a dict with just the keys of S -/
def KeysAt (H : Hp) (a : Addr) (S : Int → Bool) : Prop := ∃ kvs, H a = some (.dK kvs) ∧ kvs.length ≤ 1000 ∧ ∀ n, (valV kvs (.inl n)).isSome = S n
abbrev s_last_value : Stmt := topS 14
theorem sc_last_value : FnScope ["writes", "lost", "task", "value"] ["writes", "lost"] (defScope s_last_value) := ⟨rfl, rfl, rfl, by decide +kernel, rfl, by decide +kernel, by decide +kernel⟩
def splast_value (K : PySem.W.Frag) : Sp := fun vs H Q _ => ∃ (v : V) (d : Addr) (S : Int → Bool) (ps : List (Int × Int)), vs = [v, .ref d] ∧ Dp K H v (.list (ps.map pairD)) ∧ KeysAt H d S ∧ Q (.int (lastV S ps)) H
theorem ok_last_value {f : Addr} {fd : FuncData} (F : Fun K "last_value" "last_value" s_last_value f fd) (gm : mg "last_value" = some (.ref f)) (N : Fre K mg)  : C8.Cal P w K mg base 1 "last_value" (splast_value K) [] := by
  refine mkCal F gm sc_last_value (F.binds (ps := ["writes", "lost"]) fun _ _ _ _ _ _ us hl => match us, hl with | [_, _], _ => rfl) (fun vs H Q E h => ?_) (fun cdv A outer s H vs Q E hr h => ?_)
  · obtain ⟨v, d, S, ps, rfl, _⟩ := h
    rfl
  · obtain ⟨v, d, S, ps, rfl, hv, ⟨kvs, hd, _, hS⟩, q⟩ := h
    refine ⟨_, (pss_cons (ps_for PassesOwn.never rfl (pi_reversed (by rfl) N.reversed (pa_cons (pv 0) pa_nil)) (pg_tup rfl (pgs_cons (pg_name (i := 2) sc_last_value.nd rfl (.inl rfl)) (pgs_cons (pg_name (i := 3) sc_last_value.nd rfl (.inl rfl)) pgs_nil)))
 (pss_one (ps_if (pt_cmp (pc_dnotin (hu_of hr) (pv 2) (pv 1)) (by with_unfolding_all rfl))
 (pss_one (ps_ret (pv 3)))
 pss_nil)))
 (pss_one (ps_ret pe_int))), ?_⟩
    obtain ⟨a, xs, rfl, hs, ha⟩ := dp_list hv
    have hl := dpAll_len ha
    rw [List.length_map] at hl
    refine ⟨_, rfl, a, xs, rfl, hs, for_it walk_rev (fun i σ H1 => H1 = H ∧ (∃ y2 y3, σ = [some (.ref a), some (.ref d), y2, y3]) ∧ ∀ j p, ps.length ≤ i + j → ps[j]? = some p → S p.1 = true) ⟨rfl, ⟨_, _, rfl⟩, fun j p hj e => ?_⟩ (fun i σ H1 _ z => by rw [z.1]; exact hs) ?_ ?_⟩
    · have := (List.getElem?_eq_some_iff.mp e).1
      omega
    · rintro i x σ H1 H2 hi ⟨rfl, ⟨y2, y3, rfl⟩, inv⟩ ⟨rfl, hx⟩
      obtain ⟨e, he, px⟩ := dpAll_get ha hx
      rw [List.getElem?_map] at he
      obtain ⟨p, hp, rfl⟩ := Option.map_eq_some_iff.mp he
      obtain ⟨b, rfl, hb⟩ := dp_pair px
      refine ⟨b, _, rfl, hb, rfl, _, _, rfl, _, _, rfl, rfl, ?_⟩
      refine ⟨_, rfl, _, rfl, d, _, rfl, DGet.k (k := .inl p.1) hd, _, rfl, ?_⟩
      rw [hS]
      cases hp1 : S p.1 with
      | true =>
        refine iteF ⟨rfl, ⟨_, _, rfl⟩, fun j q hj eq => ?_⟩
        by_cases hj2 : ps.length ≤ i + j
        · exact inv j q hj2 eq
        · have ej : j = xs.length - 1 - i := by omega
          rw [ej, hp] at eq
          cases eq
          exact hp1
      | false =>
        refine iteT ⟨_, rfl, ?_⟩
        rw [lastV_hit hp hp1 (fun j q hj eq => inv j q (by omega) eq)] at q
        exact q
    · rintro σ H1 ⟨rfl, ⟨y2, y3, rfl⟩, inv⟩
      rw [lastV_none (fun j q eq => inv j q (by omega) eq)] at q
      exact q

/-! ### truth -/
def lostS (rs : List LRow) : Int → Bool := fun n => rs.any fun r => decide (r.w = "lost") && decide (r.n = n)
def isW (f : Str) (p : Int) (r : LRow) : Bool := decide (r.w = "wrote") && (decide (r.f = f) && decide (r.p = p))
def wrs (rs : List LRow) (f : Str) (p : Int) : List (Int × Int) := (rs.filter (isW f p)).map fun r => (r.n, r.v.getD 0)
def truthF (rs : List LRow) (f : Str) (p : Int) : Int := lastV (lostS rs) (wrs rs f p)
structure ROk (r : LRow) : Prop where
  v : r.w ≠ "began" → ∃ i, r.v = some i
  w : PyData.strOk r.w = true
  c : PyData.strOk r.c = true
  f : PyData.strOk r.f = true
def VOk (rs : List LRow) : Prop := ∀ r ∈ rs, ROk r
def placeD (x : Str × Int) : PyData := .tuple [.str x.1, .int x.2]
theorem place_dp {H : Hp} {a : Addr} {f : Str} {p : Int} (h : SqT K H a [.str f, .int p]) : Dp K H (.ref a) (placeD (f, p)) := .tup h (.cons (.str _) (.cons (.int _) .nil))
theorem place_sh {x : Str × Int} (h : PyData.strOk x.1 = true) : SeqAt.shaped (placeD x) = true := by simp [h, SeqAt.shaped, placeD, PyData.canLay0, PyData.canLayAll0, PyData.depth, PyData.depthAll]
theorem place_eqv (f g : Str) (p q : Int) : PyData.eqv (placeD (f, p)) (placeD (g, q)) = (decide (f = g) && decide (p = q)) := by
  simp only [placeD, PyData.eqv, PyData.eqvAll, Bool.and_true]
  congr 1
abbrev s_truth : Stmt := topS 15
theorem sc_truth : FnScope ["log", "file", "page", "lost", "rows", "row"] ["log", "file", "page"] (defScope s_truth) := ⟨rfl, rfl, rfl, by decide +kernel, rfl, by decide +kernel, by decide +kernel⟩
def sptruth (K : PySem.W.Frag) : Sp := fun vs H Q _ => ∃ (v : V) (rs : List LRow) (f : Str) (p : Int), vs = [v, .str f, .int p] ∧ Dp K H v (.list (rs.map rowD)) ∧ rs.length ≤ 1000 ∧ VOk rs ∧ PyData.strOk f = true ∧ ∀ H', Same H H' → Q (.int (truthF rs f p)) H'
theorem any_take {α : Type} (q : α → Bool) (xs : List α) (i : Nat) (x : α) (h : xs[i]? = some x) : (xs.take (i + 1)).any q = ((xs.take i).any q || q x) := by
  rw [List.take_add_one, h, List.any_append]
  simp
theorem ok_truth {f : Addr} {fd : FuncData} (F : Fun K "truth" "truth" s_truth f fd) (gm : mg "truth" = some (.ref f)) (N : Fre K mg) (c_last_value : C8.Cal P w K mg base 1 "last_value" (splast_value K) []) : C8.Cal P w K mg base 2 "truth" (sptruth K) [] := by
  refine mkCal F gm sc_truth (F.binds (ps := ["log", "file", "page"]) fun _ _ _ _ _ _ us hl => match us, hl with | [_, _, _], _ => rfl) (fun vs H Q E h => ?_) (fun cdv A outer s H vs Q E hr h => ?_)
  · obtain ⟨v, rs, f, p, rfl, _⟩ := h
    rfl
  · obtain ⟨v, rs, f, p, rfl, hv, hlen, ok, hf, q⟩ := h
    refine ⟨_, (pss_cons (ps_setDc (i := 3) (own := [("row", 5)]) (g := gName 5) rfl sc_truth.nd rfl rfl (sw_trueD rfl rfl rfl (by decide +kernel)) (pi_list (pv 0)) (blkOk_by (N := ["log", "file", "page", "lost", "rows", "row"]) (sc := defScope s_truth) (by decide +kernel)) (fun _ _ _ _ _ => pg_name (i := 5) sc_truth.nd rfl (Or.inl rfl)) (fun _ _ _ _ _ => pts_one (pt_cmpR op_eq (pe_ix (show IxR _ (rIxT K) from ix_tup) (pv 5) pe_int (fun _ _ => rfl)) pe_str (nomark _))) (fun _ _ _ _ _ => (pe_ix (show IxR _ (rIxT K) from ix_tup) (pv 5) pe_int (fun _ _ => rfl))) (fun _ _ _ _ _ => pe_bl))
 (pss_cons (ps_setLc (i := 4) (own := [("row", 5)]) (g := gName 5) rfl sc_truth.nd rfl rfl (sw_true rfl rfl rfl (by decide +kernel)) (pi_list (pv 0)) (blkOk_by (N := ["log", "file", "page", "lost", "rows", "row"]) (sc := defScope s_truth) (by decide +kernel)) (fun _ _ _ _ _ => pg_name (i := 5) sc_truth.nd rfl (Or.inl rfl)) (fun _ _ _ _ _ => pts_one (PW.pt (pw_and (pt_cmpR op_eq (pe_ix (show IxR _ (rIxT K) from ix_tup) (pv 5) pe_int (fun _ _ => rfl)) pe_str (nomark _)) (pw_and1 (pt_cmpR (show OpR _ _ (rEqD K) from op_eqD hr.units) (pe_slice (show SlR _ (rSlT K) from sl_tup) (pv 5) (po_some pe_int) (po_some pe_int)) (pe_tup (pa_cons (pv 1) (pa_cons (pv 2) pa_nil))) (nomark _)))))) (fun _ _ _ _ _ => (pv 5)))
 (pss_one (ps_ret (C8.pe_c c_last_value hr (by decide) rfl (pa_cons (pe_lc (own := [("row", 5)]) (g := gName 5) (tt := tYes) rfl sc_truth.nd (pi_list (pv 4)) (blkOk_by (N := ["log", "file", "page", "lost", "rows", "row"]) (sc := defScope s_truth) (by decide +kernel)) (fun _ _ _ _ _ => pg_name (i := 5) sc_truth.nd rfl (Or.inl rfl)) (fun _ _ _ _ _ => pts_nil) (fun _ _ _ _ _ => (pe_tup (pa_cons (pe_ix (show IxR _ (rIxT K) from ix_tup) (pv 5) pe_int (fun _ _ => rfl)) (pa_cons (pe_ix (show IxR _ (rIxT K) from ix_tup) (pv 5) pe_int (fun _ _ => rfl)) pa_nil))))) (pa_cons (pv 3) pa_nil))))))), ?_⟩
    obtain ⟨a, xs, rfl, hs, ha⟩ := dp_list hv
    have hl := dpAll_len ha
    rw [List.length_map] at hl
    refine ⟨_, rfl, a, rfl, ⟨_, hs⟩, fun D nD => dc_it (walk_list (xs := xs)) (fun i H1 => Same H H1 ∧ ∃ kvs, H1 D = some (.dK kvs) ∧ kvs.length ≤ i ∧ ∀ n, (valV kvs (.inl n)).isSome = lostS (rs.take i) n) ⟨same_upd nD, [], upd_same, Nat.le_refl _, fun n => rfl⟩ (fun i H1 _ z => z.1.seq hs) ?_ ?_⟩
    · rintro i v H1 H2 hi ⟨s1, kvs, hD, hk, hv⟩ ⟨rfl, hx⟩
      obtain ⟨d, ed, pd⟩ := dpAll_get ha hx
      rw [List.getElem?_map] at ed
      obtain ⟨r, er, rfl⟩ := Option.map_eq_some_iff.mp ed
      obtain ⟨b, rfl, hb⟩ := dp_row (dp_same s1 _ _ pd)
      refine ⟨rfl, ⟨_, rfl, b, _, 1, _, rfl, rfl, hb, atI_nat (j := 1) rfl, rfl, _, rfl, ite2 (fun e => ?_) (fun e => ?_)⟩⟩
      · have e1 : r.w = "lost" := V.str.inj (of_decide_eq_true e)
        refine ⟨_, rfl, b, _, 2, _, rfl, rfl, hb, atI_nat (j := 2) rfl, kvs, .inl r.n, rfl, hD, by rw [sizeLine_eq]; omega, ?_, _, upd_same, ?_, fun n => ?_⟩
        · intro c o ec
          rw [upd_ne (ne_of_none ec nD)]
          exact s1 _ _ ec
        · have := length_putK kvs (.inl r.n) (.bl true)
          omega
        · rw [valV_put]
          unfold lostS
          rw [any_take _ _ i r er]
          by_cases hn : n = r.n
          · subst hn
            simp [e1]
          · rw [if_neg (fun z => hn (Sum.inl.inj z)), hv n]
            simp [lostS, show ¬ r.n = n from fun z => hn z.symm]
      · have e1 : ¬ r.w = "lost" := fun z => e (decide_eq_true (by rw [z]))
        refine ⟨s1, kvs, hD, by omega, fun n => ?_⟩
        rw [hv n]
        unfold lostS
        rw [any_take _ _ i r er]
        simp [e1]
    · rintro H1 ⟨s1, kvs, hD, hk, hvk⟩
      rw [hl, List.take_of_length_le (Nat.le_refl _)] at hvk
      -- the rows
      have ha1 := dp_sameAll s1 _ _ ha
      refine ⟨_, rfl, a, rfl, ⟨_, s1.seq hs⟩, fun D2 nD2 => lc_ty rowD rowD (fun r => if isW f p r = true then some r else none) (s1.seq hs) ha1 nD2 (by omega) rowD_imm ?_ ?_⟩
      · intro i v r H2 k kf er s2 pr hy hn
        obtain ⟨b, rfl, hb⟩ := dp_row pr
        refine ⟨rfl, ⟨_, rfl, b, _, 1, _, rfl, rfl, hb, atI_nat (j := 1) rfl, rfl, _, rfl, ite2 (fun e => ?_) (fun e => ?_)⟩⟩
        · have e1 : r.w = "wrote" := V.str.inj (of_decide_eq_true e)
          refine ⟨_, rfl, 4, rfl, 6, rfl, b, _, rfl, hb, (fun z => absurd (show HT.sIx 7 0 (some 4) = 0 from z.1) (by decide)), fun t nt => ?_⟩
          refine ⟨_, rfl, _, rfl, two_ok _ _, fun u nu => ?_⟩
          have st := same_upd (o := .tup (cutV (rowV r) (some 4) (some 6))) nt
          have su := same_upd (o := .tup [V.str f, V.int p]) nu
          have ht : SqT K _ t [.str r.f, .int r.p] := SqT.of (su _ _ (upd_same (H := H2) (a := t) (o := .tup (cutV (rowV r) (some 4) (some 6)))))
          refine ⟨_, _, place_dp ht, place_dp (SqT.of upd_same), place_sh (ok r (List.mem_of_getElem? er)).f, place_sh hf, _, rfl, ?_⟩
          rw [place_eqv]
          have hw : isW f p r = (decide (r.f = f) && decide (r.p = p)) := by
            unfold isW
            rw [e1]
            rfl
          rw [← hw]
          cases hc : isW f p r with
          | true => exact iteT ⟨_, rfl, hy r (by rw [if_pos hc]) _ _ (st.trans su) (row_dp (sqT_same (st.trans su) hb))⟩
          | false => exact iteF (hn (by rw [hc]; rfl) _ (st.trans su))
        · have e1 : ¬ r.w = "wrote" := fun z => e (decide_eq_true (by rw [z]))
          refine iteF (hn ?_ _ (Same.refl _))
          unfold isW
          rw [decide_eq_false e1]
          rfl
      · intro H2 ys s2 hD2 hy
        -- the pairs
        have ey : rs.filterMap (fun r => if isW f p r = true then some r else none) = rs.filter (isW f p) := by
          rw [← List.filterMap_eq_filter]
          rfl
        rw [ey] at hy
        have hfl : (rs.filter (isW f p)).length ≤ 1000 := Nat.le_trans (List.length_filter_le _ _) hlen
        have hD2' : H2 D = some (.dK kvs) := s2 _ _ hD
        refine ⟨_, rfl, D2, rfl, ⟨_, SqL.of hD2⟩, fun D3 nD3 => lc_map rowD pairD (fun r => (r.n, r.v.getD 0)) (SqL.of hD2) hy nD3 (by omega) pairD_imm ?_ ?_⟩
        · intro i v r H3 k er s3 pr hk3
          obtain ⟨b, rfl, hb⟩ := dp_row pr
          have hr' := List.mem_filter.mp (List.mem_of_getElem? er)
          obtain ⟨iv, eiv⟩ := (ok r hr'.1).v (fun z => by
            have w2 := hr'.2
            unfold isW at w2
            rw [z] at w2
            exact absurd w2 (by simp [show ¬ (("began" : Str) = "wrote") by decide]))
          refine ⟨rfl, ⟨_, rfl, b, _, 2, _, rfl, rfl, hb, atI_nat (j := 2) rfl, _, rfl, b, _, 6, _, rfl, rfl, hb, atI_nat (j := 6) rfl, two_ok _ _, fun t nt => hk3 _ _ (same_upd nt) ?_⟩⟩
          refine .tup (SqT.of upd_same) (.cons (.int _) (.cons ?_ .nil))
          show Dp K _ (optV r.v) (.int (r.v.getD 0))
          rw [eiv]
          exact .int _
        · intro H3 zs s3 hD3 hz
          refine ⟨_, rfl, _, D, lostS rs, _, rfl, .lst (SqL.of hD3) hz, ⟨kvs, s3 _ _ hD2', by omega, hvk⟩, ?_⟩
          exact q H3 (s1.trans (s2.trans s3))

/-! ### first_stale -/
structure WAt (K : PySem.W.Frag) (H0 H : Hp) (Wd : Addr) (g : Str → Int → List (Int × Int)) (n : Nat) : Prop where
  ex : ∃ kvs : List (List Key × V), H Wd = some (.dT kvs) ∧ kvs.length ≤ n ∧ (∀ f p, valV kvs [.inr f, .inl p] = none → g f p = []) ∧
    (∀ f p v, valV kvs [.inr f, .inl p] = some v → ∃ q ws, v = .ref q ∧ H q = some (.lst ws) ∧ DpAll K H ws ((g f p).map pairD) ∧ H0 q = none ∧ (g f p).length ≤ n) ∧
    ∀ f p f' p' q, valV kvs [.inr f, .inl p] = some (.ref q) → valV kvs [.inr f', .inl p'] = some (.ref q) → f = f' ∧ p = p'
theorem WAt.keep {H0 H H' : Hp} {Wd Ld : Addr} {g : Str → Int → List (Int × Int)} {n m : Nat} {o : HO} (h : WAt K H0 H Wd g n) (b : But Ld H H') (hL : H Ld = some o) (nf : ¬ Fix o) (nl : ∀ ws, o ≠ .lst ws) (nt : ∀ kvs, o ≠ .dT kvs) (nm : n ≤ m) : WAt K H0 H' Wd g m := by
  obtain ⟨kvs, h1, h2, h3, h4, h5⟩ := h.ex
  refine ⟨kvs, b _ _ (ne_of h1 hL (fun z => nt _ z.symm)) h1, by omega, h3, fun f p v e => ?_, h5⟩
  obtain ⟨q, ws, e1, e2, e3, e4, e5⟩ := h4 f p v e
  exact ⟨q, ws, e1, b _ _ (ne_of e2 hL (fun z => nl _ z.symm)) e2, dp_ktAll (Kt.but b hL nf) _ _ (pairs_imm _) e3, e4, by omega⟩
theorem WAt.same {H0 H H' : Hp} {Wd : Addr} {g : Str → Int → List (Int × Int)} {n m : Nat} (h : WAt K H0 H Wd g n) (b : Same H H') (nm : n ≤ m) : WAt K H0 H' Wd g m := by
  obtain ⟨kvs, h1, h2, h3, h4, h5⟩ := h.ex
  refine ⟨kvs, b _ _ h1, by omega, h3, fun f p v e => ?_, h5⟩
  obtain ⟨q, ws, e1, e2, e3, e4, e5⟩ := h4 f p v e
  exact ⟨q, ws, e1, b _ _ e2, dp_sameAll b _ _ e3, e4, by omega⟩
def EntAt (H : Hp) (Wd : Addr) (f : Str) (p : Int) (q : Addr) : Prop := ∃ kvs : List (List Key × V), H Wd = some (.dT kvs) ∧ valV kvs [.inr f, .inl p] = some (.ref q)
/-- a new entry -/
theorem WAt.new {H0 H : Hp} {Wd e : Addr} {g : Str → Int → List (Int × Int)} {n : Nat} {f : Str} {p : Int} {kvs : List (List Key × V)} (h : WAt K H0 H Wd g n) (hW : H Wd = some (.dT kvs)) (hn : valV kvs [.inr f, .inl p] = none) (sm : Same H0 H) (ne : H e = none) :
    WAt K H0 (upd (upd H e (.lst [])) Wd (.dT (putK kvs [.inr f, .inl p] (.ref e)))) Wd g (n + 1) ∧ EntAt (upd (upd H e (.lst [])) Wd (.dT (putK kvs [.inr f, .inl p] (.ref e)))) Wd f p e := by
  obtain ⟨kvs', h1, h2, h3, h4, h5⟩ := h.ex
  rw [hW] at h1
  cases h1
  have eW : e ≠ Wd := (ne_of_none hW ne).symm
  have hW2 : upd H e (.lst []) Wd = some (.dT kvs) := same_upd ne _ _ hW
  have kt : Kt H (upd (upd H e (.lst [])) Wd (.dT (putK kvs [.inr f, .inl p] (.ref e)))) := (Kt.same (same_upd ne)).trans (Kt.upd hW2 (fun z => z))
  have key : ∀ {f' : Str} {p' : Int}, ([.inr f', .inl p'] : List Key) = [.inr f, .inl p] ↔ f' = f ∧ p' = p := fun {f' p'} => ⟨fun z => by simpa using z, fun z => by rw [z.1, z.2]⟩
  refine ⟨⟨_, upd_same, ?_, fun f' p' z => ?_, fun f' p' v z => ?_, fun f1 p1 f2 p2 q z1 z2 => ?_⟩, _, upd_same, ?_⟩
  · have := length_putK kvs [.inr f, .inl p] (.ref e)
    omega
  · rw [valV_put] at z
    split at z
    · cases z
    · exact h3 f' p' z
  · rw [valV_put] at z
    split at z
    · rename_i hk
      obtain ⟨rfl, rfl⟩ := key.mp hk
      cases z
      refine ⟨e, [], rfl, by rw [upd_ne eW, upd_same], ?_, sm.free ne, ?_⟩
      · rw [h3 _ _ hn]
        exact .nil
      · rw [h3 _ _ hn]
        exact Nat.zero_le _
    · obtain ⟨q, ws, e1, e2, e3, e4, e5⟩ := h4 f' p' v z
      refine ⟨q, ws, e1, ?_, dp_ktAll kt _ _ (pairs_imm _) e3, e4, by omega⟩
      rw [upd_ne (ne_of e2 hW (fun z => nomatch z))]
      exact same_upd ne _ _ e2
  · have no : ∀ {f' : Str} {p' : Int}, valV kvs [.inr f', .inl p'] ≠ some (.ref e) := fun {f' p'} z => by
      obtain ⟨q, ws, e1, e2, _⟩ := h4 f' p' _ z
      cases e1
      rw [ne] at e2
      cases e2
    rw [valV_put] at z1 z2
    split at z1
    · rename_i hk1
      split at z2
      · rename_i hk2
        obtain ⟨rfl, rfl⟩ := key.mp hk1
        obtain ⟨rfl, rfl⟩ := key.mp hk2
        exact ⟨rfl, rfl⟩
      · cases z1
        exact absurd z2 no
    · split at z2
      · cases z2
        exact absurd z1 no
      · exact h5 f1 p1 f2 p2 q z1 z2
  · rw [valV_put, if_pos rfl]
/-- one more in an entry -/
theorem WAt.app {H0 H : Hp} {Wd q t : Addr} {g : Str → Int → List (Int × Int)} {n : Nat} {f : Str} {p : Int} {ws : List V} {x : Int × Int} (h : WAt K H0 H Wd g n) (he : EntAt H Wd f p q) (hq : H q = some (.lst ws)) (ht : Dp K H (.ref t) (pairD x)) :
    WAt K H0 (upd H q (.lst (ws ++ [.ref t]))) Wd (fun f' p' => if f' = f ∧ p' = p then g f p ++ [x] else g f' p') (n + 1) := by
  obtain ⟨kvs, h1, h2, h3, h4, h5⟩ := h.ex
  obtain ⟨kvs', h1', hv⟩ := he
  rw [h1] at h1'
  cases h1'
  have kt : Kt H (upd H q (.lst (ws ++ [.ref t]))) := Kt.upd hq (fun z => z)
  refine ⟨kvs, by rw [upd_ne (ne_of h1 hq (fun z => nomatch z))]; exact h1, by omega, fun f' p' z => ?_, fun f' p' v z => ?_, h5⟩
  · have hne : ¬ (f' = f ∧ p' = p) := fun e => by
      rw [e.1, e.2, hv] at z
      cases z
    rw [if_neg hne]
    exact h3 f' p' z
  · by_cases hc : f' = f ∧ p' = p
    · obtain ⟨rfl, rfl⟩ := hc
      rw [hv] at z
      cases z
      obtain ⟨q', ws', e1, e2, e3, e4, e5⟩ := h4 f' p' _ hv
      cases e1
      rw [hq] at e2
      cases e2
      refine ⟨q, _, rfl, upd_same, ?_, e4, ?_⟩
      · rw [if_pos ⟨rfl, rfl⟩, List.map_append]
        exact dpAll_append (dp_ktAll kt _ _ (pairs_imm _) e3) (.cons (dp_kt kt _ _ (pairD_imm x) ht) .nil)
      · rw [if_pos ⟨rfl, rfl⟩, List.length_append]
        show _ + 1 ≤ _
        omega
    · obtain ⟨q', ws', e1, e2, e3, e4, e5⟩ := h4 f' p' v z
      have hqq : q' ≠ q := fun e => by
        subst e
        subst e1
        exact hc (h5 f' p' f p q' z hv)
      refine ⟨q', ws', e1, by rw [upd_ne hqq]; exact e2, ?_, e4, ?_⟩
      · rw [if_neg hc]
        exact dp_ktAll kt _ _ (pairs_imm _) e3
      · rw [if_neg hc]
        omega
theorem wrs_take {rs : List LRow} {i : Nat} {r : LRow} (e : rs[i]? = some r) (f : Str) (p : Int) : wrs (rs.take (i + 1)) f p = wrs (rs.take i) f p ++ (if isW f p r = true then [(r.n, r.v.getD 0)] else []) := by
  unfold wrs
  rw [List.take_add_one, e, List.filter_append, List.map_append]
  congr 1
  cases h : isW f p r <;> simp [h]
theorem lost_take {rs : List LRow} {i : Nat} {r : LRow} (e : rs[i]? = some r) (n : Int) : lostS (rs.take (i + 1)) n = (lostS (rs.take i) n || (decide (r.w = "lost") && decide (r.n = n))) := by
  unfold lostS
  rw [any_take _ _ i r e]
def staleAt (rs : List LRow) (j : Nat) : Option Int := match rs[j]? with
  | some r => if r.w = "read" ∧ ¬ r.v = some (truthF (rs.take j) r.f r.p) then some r.n else none
  | none => none
theorem staleAt_eq {rs : List LRow} {j : Nat} {r : LRow} (e : rs[j]? = some r) : staleAt rs j = if r.w = "read" ∧ ¬ r.v = some (truthF (rs.take j) r.f r.p) then some r.n else none := by
  unfold staleAt
  rw [e]
def staleL (rs : List LRow) : List Int := (List.range rs.length).filterMap (staleAt rs)
def staleF (rs : List LRow) : Option Int := (staleL rs).head?
theorem head_range (g : Nat → Option Int) {n i : Nat} {x : Int} (hi : i < n) (h0 : ∀ j, j < i → g j = none) (h1 : g i = some x) : ((List.range n).filterMap g).head? = some x := by
  obtain ⟨m, rfl⟩ : ∃ m, n = i + (m + 1) := ⟨n - i - 1, by omega⟩
  have e : (List.range i).filterMap g = [] := List.filterMap_eq_nil_iff.mpr fun j hj => h0 j (List.mem_range.mp hj)
  rw [List.range_add, List.filterMap_append, e, List.nil_append, List.range_succ_eq_map, List.map_cons, List.filterMap_cons, show i + 0 = i from rfl, h1]
  rfl
theorem none_range (g : Nat → Option Int) {n : Nat} (h0 : ∀ j, j < n → g j = none) : ((List.range n).filterMap g) = [] := List.filterMap_eq_nil_iff.mpr fun j hj => h0 j (List.mem_range.mp hj)
abbrev s_first_stale : Stmt := topS 16
theorem sc_first_stale : FnScope ["log", "lost", "writes", "time", "word", "task", "client", "file", "page", "value", "place"] ["log"] (defScope s_first_stale) := ⟨rfl, rfl, rfl, by decide +kernel, rfl, by decide +kernel, by decide +kernel⟩
def spfirst_stale (K : PySem.W.Frag) : Sp := fun vs H Q _ => ∃ (v : V) (rs : List LRow), vs = [v] ∧ Dp K H v (.list (rs.map rowD)) ∧ rs.length ≤ 1000 ∧ VOk rs ∧ ∀ H', Same H H' → Q (optV (staleF rs)) H'
theorem ok_first_stale {f : Addr} {fd : FuncData} (F : Fun K "first_stale" "first_stale" s_first_stale f fd) (gm : mg "first_stale" = some (.ref f)) (N : Fre K mg) (c_last_value : C8.Cal P w K mg base 1 "last_value" (splast_value K) []) : C8.Cal P w K mg base 2 "first_stale" (spfirst_stale K) [] := by
  refine mkCal F gm sc_first_stale (F.binds (ps := ["log"]) fun _ _ _ _ _ _ us hl => match us, hl with | [_], _ => rfl) (fun vs H Q E h => ?_) (fun cdv A outer s H vs Q E hr h => ?_)
  · obtain ⟨v, rs, rfl, _⟩ := h
    rfl
  · obtain ⟨v, rs, rfl, hv, hlen, ok, q⟩ := h
    refine ⟨_, (pss_cons (ps_set (i := 1) sc_first_stale.nd rfl (.inl rfl) pe_dnewK)
 (pss_cons (ps_set (i := 2) sc_first_stale.nd rfl (.inl rfl) pe_dnewT)
 (pss_cons (ps_for PassesOwn.never rfl (pi_list (pv 0)) (pg_tup rfl (pgs_cons (pg_name (i := 3) sc_first_stale.nd rfl (.inl rfl)) (pgs_cons (pg_name (i := 4) sc_first_stale.nd rfl (.inl rfl)) (pgs_cons (pg_name (i := 5) sc_first_stale.nd rfl (.inl rfl)) (pgs_cons (pg_name (i := 6) sc_first_stale.nd rfl (.inl rfl)) (pgs_cons (pg_name (i := 7) sc_first_stale.nd rfl (.inl rfl)) (pgs_cons (pg_name (i := 8) sc_first_stale.nd rfl (.inl rfl)) (pgs_cons (pg_name (i := 9) sc_first_stale.nd rfl (.inl rfl)) pgs_nil))))))))
 (pss_cons (ps_set (i := 10) sc_first_stale.nd rfl (.inl rfl) (pe_tup (pa_cons (pv 7) (pa_cons (pv 8) pa_nil))))
 (pss_one (ps_if (pt_cmpR op_eq (pv 4) pe_str (nomark _))
 (pss_one (ps_dput (hu_of hr) (pv 1) (pv 5) pe_bl rfl))
 (pss_one (ps_if (pt_cmpR op_eq (pv 4) pe_str (nomark _))
 (pss_one (ps_expr (pe_bm PySem.F.plainAttrs_list PySem.F.slot_list_append PySem.F.type_list_append mt_append (pe_setdT (hu_of hr) (pv 2) (pv 10) (pe_lst pa_nil) ⟨rfl, rfl, rfl, rfl⟩) (pa_cons (pe_tup (pa_cons (pv 5) (pa_cons (pv 9) pa_nil))) pa_nil))))
 (pss_one (ps_if (PW.pt (pw_and (pt_cmpR op_eq (pv 4) pe_str (nomark _)) (pw_and1 (pt_cmpR op_ne (pv 9) (C8.pe_c c_last_value hr (by decide) rfl (pa_cons (pe_dget2 (hu_of hr) (pv 2) (pv 10) (pe_lst pa_nil) ⟨rfl, rfl, rfl, rfl⟩) (pa_cons (pv 1) pa_nil))) (nomark _)))))
 (pss_one (ps_ret (pv 5)))
 pss_nil))))))))
 (pss_one (ps_ret pe_non))))), ?_⟩
    obtain ⟨a, xs, rfl, hs, ha⟩ := dp_list hv
    have hl := dpAll_len ha
    rw [List.length_map] at hl
    refine fun Ld nL => fun Wd nW => ?_
    have sL := same_upd (o := .dK []) nL
    have sW := same_upd (o := .dT []) nW
    have s0 := sL.trans sW
    have hLd : upd (upd H Ld (.dK [])) Wd (.dT []) Ld = some (.dK []) := sW _ _ upd_same
    have hWd : upd (upd H Ld (.dK [])) Wd (.dT []) Wd = some (.dT []) := upd_same
    have nW0 : H Wd = none := sL.free nW
    revert s0 hLd hWd
    generalize upd (upd H Ld (.dK [])) Wd (.dT []) = H1
    intro s0 hLd hWd
    refine ⟨_, rfl, a, rfl, ⟨_, s0.seq hs⟩, for_list (xs := xs) (fun i σ H2 => (∃ y3 y4 y5 y6 y7 y8 y9 y10, σ = [some (.ref a), some (.ref Ld), some (.ref Wd), y3, y4, y5, y6, y7, y8, y9, y10]) ∧ Same H H2 ∧ (∃ kvs, H2 Ld = some (.dK kvs) ∧ kvs.length ≤ i ∧ ∀ n, (valV kvs (.inl n)).isSome = lostS (rs.take i) n) ∧ WAt K H H2 Wd (wrs (rs.take i)) (i + i) ∧ ∀ j, j < i → staleAt rs j = none)
      ⟨⟨_, _, _, _, _, _, _, _, rfl⟩, s0, ⟨[], hLd, Nat.le_refl _, fun n => rfl⟩, ⟨[], hWd, Nat.le_refl _, fun f p _ => rfl, (fun f p v z => by cases z), (fun f p f' p' q z => by cases z)⟩, fun j hj => absurd hj (Nat.not_lt_zero j)⟩ (fun i σ H2 _ z => z.2.1.seq hs) ?_ ?_⟩
    · rintro i x σ H2 hx ⟨⟨y3, y4, y5, y6, y7, y8, y9, y10, rfl⟩, s2, ⟨kl, hL2, hkl, hvl⟩, hW2, inv⟩
      obtain ⟨d, ed, pd⟩ := dpAll_get ha hx
      rw [List.getElem?_map] at ed
      obtain ⟨r, er, rfl⟩ := Option.map_eq_some_iff.mp ed
      obtain ⟨b, rfl, hb⟩ := dp_row (dp_same s2 _ _ pd)
      have hi : i < rs.length := (List.getElem?_eq_some_iff.mp er).1
      have rok := ok r (List.mem_of_getElem? er)
      refine ⟨b, _, rfl, hb, rfl, _, _, rfl, _, _, rfl, _, _, rfl, _, _, rfl, _, _, rfl, _, _, rfl, _, _, rfl, rfl, ?_⟩
      -- place
      refine ⟨_, rfl, _, rfl, two_ok _ _, fun pl npl => ?_⟩
      have s3 := same_upd (o := .tup [V.str r.f, V.int r.p]) npl
      have hpl := upd_same (H := H2) (a := pl) (o := .tup [V.str r.f, V.int r.p])
      have hL3 := s3 _ _ hL2
      have hW3 := hW2.same s3 (Nat.le_refl _)
      have s23 := s2.trans s3
      revert hpl hL3 hW3 s23
      generalize upd H2 pl (.tup [V.str r.f, V.int r.p]) = H3
      intro hpl hL3 hW3 s23
      have hWkeep : (∀ f p, isW f p r = false) → ∀ {H4 : Hp} {m : Nat}, WAt K H H4 Wd (wrs (rs.take i)) m → WAt K H H4 Wd (wrs (rs.take (i + 1))) m := fun hno H4 m hh => by
        have e : wrs (rs.take (i + 1)) = wrs (rs.take i) := by
          funext f p
          rw [wrs_take er, hno f p]
          simp
        rw [e]
        exact hh
      have hLkeep : ¬ r.w = "lost" → ∀ n, lostS (rs.take (i + 1)) n = lostS (rs.take i) n := fun hno n => by
        rw [lost_take er, decide_eq_false hno]
        simp
      refine ⟨_, rfl, rfl, _, rfl, ite2 (fun e => ?_) (fun e => ?_)⟩
      · -- lost
        have e1 : r.w = "lost" := V.str.inj (of_decide_eq_true e)
        refine ⟨_, rfl, _, rfl, Ld, _, rfl, DPut.k (k := .inl r.n) hL3 (by rw [sizeLine_eq]; omega), ⟨_, _, _, _, _, _, _, _, rfl⟩, ?_, ⟨_, upd_same, ?_, fun n => ?_⟩, ?_, ?_⟩
        · intro c o ec
          rw [upd_ne (ne_of_none ec nL)]
          exact s23 _ _ ec
        · have := length_putK kl (.inl r.n) (.bl true)
          omega
        · rw [valV_put, lost_take er, e1]
          by_cases hn : n = r.n
          · subst hn
            simp
          · rw [if_neg (fun z => hn (Sum.inl.inj z)), hvl n]
            simp [show ¬ r.n = n from fun z => hn z.symm]
        · refine hWkeep (fun f p => ?_) (hW3.keep But.put hL3 (fun z => z) (fun ws z => nomatch z) (fun kvs z => nomatch z) (by omega))
          unfold isW
          rw [e1]
          rfl
        · intro j hj
          by_cases hj2 : j < i
          · exact inv j hj2
          · obtain rfl : j = i := by omega
            unfold staleAt
            rw [er]
            exact if_neg (fun z => absurd (e1.symm.trans z.1) (by decide))
      · have e1 : ¬ r.w = "lost" := fun z => e (decide_eq_true (by rw [z]))
        refine ⟨_, rfl, rfl, _, rfl, ite2 (fun e2 => ?_) (fun e2 => ?_)⟩
        · -- wrote
          have ew : r.w = "wrote" := V.str.inj (of_decide_eq_true e2)
          obtain ⟨iv, eiv⟩ := rok.v (by rw [ew]; decide)
          obtain ⟨kw, k1, k2, k3, k4, k5⟩ := hW3.ex
          have fin : ∀ {H4 : Hp} {qq : Addr} {m : Nat}, m ≤ i + i + 1 → Same H H4 → H4 Ld = some (.dK kl) → WAt K H H4 Wd (wrs (rs.take i)) m → EntAt H4 Wd r.f r.p qq → tBM K "list" rAppend (fun _ H Q => Q (.ref qq) H) (fun _ H Q => [V.int r.n, optV r.v].length ≤ sizeLine ∧ ∀ t, H t = none → Q [.ref t] (upd H t (.tup [V.int r.n, optV r.v]))) [] H4 fun _ H5 => Same H H5 ∧ (∃ kvs, H5 Ld = some (.dK kvs) ∧ kvs.length ≤ i + 1 ∧ ∀ n, (valV kvs (.inl n)).isSome = lostS (rs.take (i + 1)) n) ∧ WAt K H H5 Wd (wrs (rs.take (i + 1))) (i + 1 + (i + 1)) := by
            intro H4 qq m hm s4 hL4 hW4 hE4
            obtain ⟨kv, g1, g2, g3, g4, g5⟩ := hW4.ex
            obtain ⟨kv', g1', gv⟩ := hE4
            rw [g1] at g1'
            cases g1'
            obtain ⟨q', ws, z1, z2, z3, z4, z5⟩ := g4 _ _ _ gv
            cases z1
            have hwl := dpAll_len z3
            rw [List.length_map] at hwl
            refine ⟨.inl ⟨rfl, _, SqL.of z2⟩, two_ok _ _, fun t nt => ?_⟩
            have s5 := same_upd (o := .tup [V.int r.n, optV r.v]) nt
            have hq5 := s5 _ _ z2
            refine ⟨qq, ws, _, rfl, rfl, hq5, by rw [sizeLine_eq]; omega, ?_, ⟨kl, ?_, by omega, fun n => by rw [hvl, hLkeep e1 n]⟩, ?_⟩
            · intro c o ec
              rw [upd_ne (ne_of_none ec z4)]
              exact s5 _ _ (s4 _ _ ec)
            · rw [upd_ne (ne_of hL4 z2 (fun z => nomatch z))]
              exact s5 _ _ hL4
            · have hW6 := (hW4.same s5 (Nat.le_refl _)).app (x := (r.n, iv)) ⟨kv, s5 _ _ g1, gv⟩ hq5 (t := t) (.tup (SqT.of upd_same) (.cons (.int _) (.cons (by rw [eiv]; exact .int _) .nil)))
              have e7 : wrs (rs.take (i + 1)) = fun f' p' => if f' = r.f ∧ p' = r.p then wrs (rs.take i) r.f r.p ++ [(r.n, iv)] else wrs (rs.take i) f' p' := by
                funext f' p'
                rw [wrs_take er, eiv]
                unfold isW
                rw [ew]
                by_cases hc : f' = r.f ∧ p' = r.p
                · obtain ⟨rfl, rfl⟩ := hc
                  simp
                · rw [if_neg hc]
                  have : ¬ (r.f = f' ∧ r.p = p') := fun z => hc ⟨z.1.symm, z.2.symm⟩
                  simp [this]
              rw [e7]
              exact hW6.same (Same.refl _) (by omega)
          have stl : ∀ j, j < i + 1 → staleAt rs j = none := by
            intro j hj
            by_cases hj2 : j < i
            · exact inv j hj2
            · obtain rfl : j = i := by omega
              unfold staleAt
              rw [er]
              exact if_neg (fun z => absurd (ew.symm.trans z.1) (by decide))
          refine ⟨_, rfl, Wd, rfl, .inr ⟨kw, .inl k1⟩, _, rfl, Nat.zero_le _, fun e ne => ?_⟩
          have se := same_upd (o := .lst []) ne
          refine ⟨kw, [.inr r.f, .inl r.p], pl, se _ _ k1, rfl, se _ _ hpl, by rw [sizeLine_eq]; omega, fun v hv => ?_, fun hn => ?_⟩
          · obtain ⟨q', ws, z1, z2, z3, z4, z5⟩ := k4 _ _ _ hv
            subst z1
            have := fin (m := i + i) (by omega) (s23.trans se) (se _ _ hL3) (hW3.same se (Nat.le_refl _)) ⟨kw, se _ _ k1, hv⟩
            obtain ⟨t1, t2, t3⟩ := this
            exact ⟨t1, _, rfl, _, rfl, t2, fun t nt => by
              obtain ⟨l, zs, y, w1, w2, w3, w4, w5, w6, w7⟩ := t3 t nt
              exact ⟨l, zs, y, w1, w2, w3, w4, ⟨_, _, _, _, _, _, _, _, rfl⟩, w5, w6, w7, stl⟩⟩
          · obtain ⟨n1, n2⟩ := hW3.new k1 hn s23 ne
            have sd : Same H (upd (upd H3 e (.lst [])) Wd (.dT (putK kw [.inr r.f, .inl r.p] (.ref e)))) := fun c o ec => by
              rw [upd_ne (ne_of_none ec nW0)]
              exact se _ _ (s23 _ _ ec)
            have hL4 : upd (upd H3 e (.lst [])) Wd (.dT (putK kw [.inr r.f, .inl r.p] (.ref e))) Ld = some (.dK kl) := by
              rw [upd_ne (ne_of hL3 k1 (fun z => nomatch z))]
              exact se _ _ hL3
            have := fin (m := i + i + 1) (by omega) sd hL4 n1 n2
            obtain ⟨t1, t2, t3⟩ := this
            exact ⟨t1, _, rfl, _, rfl, t2, fun t nt => by
              obtain ⟨l, zs, y, w1, w2, w3, w4, w5, w6, w7⟩ := t3 t nt
              exact ⟨l, zs, y, w1, w2, w3, w4, ⟨_, _, _, _, _, _, _, _, rfl⟩, w5, w6, w7, stl⟩⟩
        · have e2' : ¬ r.w = "wrote" := fun z => e2 (decide_eq_true (by rw [z]))
          have noW : ∀ f p, isW f p r = false := fun f p => by
            unfold isW
            rw [decide_eq_false e2']
            rfl
          refine ⟨_, rfl, rfl, _, rfl, ite2 (fun e3 => ?_) (fun e3 => ?_)⟩
          · -- read
            have ew : r.w = "read" := V.str.inj (of_decide_eq_true e3)
            obtain ⟨iv, eiv⟩ := rok.v (by rw [ew]; decide)
            obtain ⟨kw, k1, k2, k3, k4, k5⟩ := hW3.ex
            refine ⟨_, rfl, _, rfl, Wd, rfl, .inr ⟨kw, .inl k1⟩, _, rfl, Nat.zero_le _, fun e ne => ?_⟩
            have se := same_upd (o := .lst []) ne
            have s4 := s23.trans se
            have hdp : Dp K (upd H3 e (.lst [])) ((valV kw [.inr r.f, .inl r.p]).getD (.ref e)) (.list ((wrs (rs.take i) r.f r.p).map pairD)) := by
              cases hv : valV kw [.inr r.f, .inl r.p] with
              | none =>
                rw [k3 _ _ hv]
                exact .lst (SqL.of upd_same) .nil
              | some v =>
                obtain ⟨q', ws, z1, z2, z3, z4, z5⟩ := k4 _ _ _ hv
                subst z1
                exact .lst (SqL.of (se _ _ z2)) (dp_sameAll se _ _ z3)
            refine ⟨_, DGet.t (k := [.inr r.f, .inl r.p]) (se _ _ k1) (se _ _ hpl), _, rfl, _, Ld, lostS (rs.take i), _, rfl, hdp, ⟨kl, se _ _ hL3, by omega, hvl⟩, ?_⟩
            have ev : optV r.v = .int iv := by rw [eiv]; rfl
            refine ⟨by rw [ev]; rfl, _, rfl, ?_⟩
            rw [ev]
            by_cases hst : iv = truthF (rs.take i) r.f r.p
            · have hd : (!decide (V.int iv = V.int (lastV (lostS (rs.take i)) (wrs (rs.take i) r.f r.p)))) = false := by
                rw [show V.int iv = V.int (lastV (lostS (rs.take i)) (wrs (rs.take i) r.f r.p)) from congrArg V.int hst]
                simp
              rw [hd]
              refine iteF ⟨⟨_, _, _, _, _, _, _, _, rfl⟩, s4, ⟨kl, se _ _ hL3, by omega, fun n => by rw [hvl, hLkeep e1 n]⟩, hWkeep noW (hW3.same se (by omega)), ?_⟩
              intro j hj
              by_cases hj2 : j < i
              · exact inv j hj2
              · obtain rfl : j = i := by omega
                unfold staleAt
                rw [er]
                exact if_neg (fun z => z.2 (by rw [eiv, hst]))
            · have hd : (!decide (V.int iv = V.int (lastV (lostS (rs.take i)) (wrs (rs.take i) r.f r.p)))) = true := by
                show (!decide (V.int iv = V.int (truthF (rs.take i) r.f r.p))) = true
                rw [decide_eq_false (fun z => hst (V.int.inj z))]
                rfl
              rw [hd]
              refine iteT ⟨_, rfl, ?_⟩
              have := q _ s4
              have es : staleF rs = some r.n := by
                refine head_range (staleAt rs) hi inv ?_
                unfold staleAt
                rw [er]
                exact if_pos ⟨ew, fun z => hst (by rw [eiv] at z; exact Option.some.inj z)⟩
              rw [es] at this
              exact this
          · have ew : ¬ r.w = "read" := fun z => e3 (decide_eq_true (by rw [z]))
            refine iteF ⟨⟨_, _, _, _, _, _, _, _, rfl⟩, s23, ⟨kl, hL3, by omega, fun n => by rw [hvl, hLkeep e1 n]⟩, hWkeep noW (hW3.same (Same.refl _) (by omega)), ?_⟩
            intro j hj
            by_cases hj2 : j < i
            · exact inv j hj2
            · obtain rfl : j = i := by omega
              unfold staleAt
              rw [er]
              exact if_neg (fun z => ew z.1)
    · rintro σ H2 ⟨_, s2, _, _, inv⟩
      rw [hl] at inv
      have := q H2 s2
      have es : staleF rs = none := by
        unfold staleF staleL
        rw [none_range _ inv]
        rfl
      rw [es] at this
      exact this

/-! ### is_log, of what is one -/
def words4 : List Str := ["began", "read", "wrote", "lost"]
structure RGood (r : LRow) : Prop where
  t : 0 ≤ r.t
  w : r.w ∈ words4
  n : 0 ≤ r.n
  c : nameD (.str r.c) = true
  f : nameD (.str r.f) = true
  p : 0 ≤ r.p ∧ r.p ≤ 3
  v : r.v = none → r.w = "began"
theorem name_small {x : Str} (h : nameD (.str x) = true) : Small (.str x) := by
  rw [nameD_str] at h
  have h2 : x.length ≤ 8 := by
    simp only [Bool.and_eq_true, decide_eq_true_eq] at h
    exact h.1.2
  unfold Small siz
  omega
theorem inV_str (x : Str) (ns : List Str) : inV (.str x) (ns.map V.str) = decide (x ∈ ns) := by
  unfold inV
  rw [List.any_map]
  by_cases h : x ∈ ns
  · rw [decide_eq_true h, List.any_eq_true]
    exact ⟨x, h, by simp [eqV]⟩
  · rw [decide_eq_false h, List.any_eq_false]
    intro y hy
    simp only [Function.comp, eqV, beq_iff_eq]
    exact fun z => h (z ▸ hy)
abbrev s_is_log_row : Stmt := topS 12
theorem sc_is_log_row : FnScope ["thing", "time", "word", "task", "client", "file", "page", "value"] ["thing"] (defScope s_is_log_row) := ⟨rfl, rfl, rfl, by decide +kernel, rfl, by decide +kernel, by decide +kernel⟩
def spis_log_row (K : PySem.W.Frag) : Sp := fun vs H Q _ => ∃ (v : V) (r : LRow), vs = [v] ∧ Dp K H v (rowD r) ∧ RGood r ∧ ∀ H', Same H H' → Q (.bl true) H'
theorem ok_is_log_row {f : Addr} {fd : FuncData} (F : Fun K "is_log_row" "is_log_row" s_is_log_row f fd) (gm : mg "is_log_row" = some (.ref f)) (N : Fre K mg) (c_is_name : C8.Cal P w K mg base 1 "is_name" (pure1S K nameD) []) (c_is_number : C8.Cal P w K mg base 2 "is_number" (pure1 K numD) []) (c_is_tuple : C8.Cal P w K mg base 1 "is_tuple" (spis_tuple K) []) (c_is_whole : C8.Cal P w K mg base 1 "is_whole" (pure1 K wholeD) []) (c_is_within : C8.Cal P w K mg base 2 "is_within" (spis_within K) []) : C8.Cal P w K mg base 3 "is_log_row" (spis_log_row K) [] := by
  refine mkCal F gm sc_is_log_row (F.binds (ps := ["thing"]) fun _ _ _ _ _ _ us hl => match us, hl with | [_], _ => rfl) (fun vs H Q E h => ?_) (fun cdv A outer s H vs Q E hr h => ?_)
  · obtain ⟨v, r, rfl, _⟩ := h
    rfl
  · obtain ⟨v, r, rfl, hv, g, q⟩ := h
    obtain ⟨W_WORDS, g_WORDS, hW⟩ := N.c_WORDS
    obtain ⟨_, g_LAST_PAGE⟩ := N.c_LAST_PAGE
    refine ⟨_, (pss_cons (ps_if (pt_not (pt_val (C8.pe_c c_is_tuple hr (by decide) rfl (pa_cons (pv 0) (pa_cons pe_int (pa_cons pe_int pa_nil))))))
 (pss_one (ps_ret pe_bl))
 pss_nil)
 (pss_cons (ps_asg (pv 0) (pg_tup rfl (pgs_cons (pg_name (i := 1) sc_is_log_row.nd rfl (.inl rfl)) (pgs_cons (pg_name (i := 2) sc_is_log_row.nd rfl (.inl rfl)) (pgs_cons (pg_name (i := 3) sc_is_log_row.nd rfl (.inl rfl)) (pgs_cons (pg_name (i := 4) sc_is_log_row.nd rfl (.inl rfl)) (pgs_cons (pg_name (i := 5) sc_is_log_row.nd rfl (.inl rfl)) (pgs_cons (pg_name (i := 6) sc_is_log_row.nd rfl (.inl rfl)) (pgs_cons (pg_name (i := 7) sc_is_log_row.nd rfl (.inl rfl)) pgs_nil)))))))))
 (pss_cons (ps_if (PW.pt (pw_or (pt_not (pt_val (C8.pe_c c_is_number hr (by decide) rfl (pa_cons (pv 1) pa_nil)))) (pw_or (pt_cmpR op_notIn_seq (pv 2) (pe_glob (v := .ref W_WORDS) rfl g_WORDS rfl) (by with_unfolding_all rfl)) (pw_or1 (pt_not (pt_val (C8.pe_c c_is_number hr (by decide) rfl (pa_cons (pv 3) pa_nil))))))))
 (pss_one (ps_ret pe_bl))
 pss_nil)
 (pss_cons (ps_if (PW.pt (pw_or (pt_not (pt_val (C8.pe_c c_is_name hr (by decide) rfl (pa_cons (pv 4) pa_nil)))) (pw_or (pt_not (pt_val (C8.pe_c c_is_name hr (by decide) rfl (pa_cons (pv 5) pa_nil)))) (pw_or1 (pt_not (pt_val (C8.pe_c c_is_within hr (by decide) rfl (pa_cons (pv 6) (pa_cons pe_int (pa_cons (pe_glob (v := .int 3) rfl g_LAST_PAGE ⟨_, rfl⟩) pa_nil))))))))))
 (pss_one (ps_ret pe_bl))
 pss_nil)
 (pss_one (ps_ret (pe_or (C8.pe_c c_is_whole hr (by decide) rfl (pa_cons (pv 7) pa_nil)) (pe_one (pe_and (pe_cmpR op_isN (pv 7) pe_non (nomark _)) (pe_one (pe_cmpR op_eq (pv 2) pe_str (nomark _)))))))))))), ?_⟩
    obtain ⟨a, rfl, ha⟩ := dp_row hv
    refine ⟨_, rfl, _, _, 7, 7, rfl, hv, _, rfl, iteF ?_⟩
    refine ⟨_, rfl, a, _, rfl, ha, rfl, _, _, rfl, _, _, rfl, _, _, rfl, _, _, rfl, _, _, rfl, _, _, rfl, _, _, rfl, rfl, ?_⟩
    refine ⟨_, rfl, _, _, rfl, .int r.t, fun H1 s1 => ⟨_, rfl, ?_⟩⟩
    rw [show numD (.int r.t) = true from decide_eq_true g.t]
    refine iteF ⟨_, rfl, W_WORDS, _, rfl, .inr (hW H1), rfl, rfl, _, rfl, ?_⟩
    show if (!inV (.str r.w) (words4.map V.str)) = true then _ else _
    rw [inV_str, decide_eq_true g.w]
    refine iteF ⟨_, rfl, _, _, rfl, .int r.n, fun H2 s2 => ⟨_, rfl, ?_⟩⟩
    rw [show numD (.int r.n) = true from decide_eq_true g.n]
    refine iteF ⟨_, rfl, _, _, rfl, .str r.c, name_small g.c, fun H3 s3 => ⟨_, rfl, ?_⟩⟩
    rw [g.c]
    refine iteF ⟨_, rfl, _, _, rfl, .str r.f, name_small g.f, fun H4 s4 => ⟨_, rfl, ?_⟩⟩
    rw [g.f]
    refine iteF ⟨_, rfl, _, _, 0, 3, rfl, .int r.p, fun H5 s5 => ⟨_, rfl, ?_⟩⟩
    rw [show withinD 0 3 (.int r.p) = true by rw [withinD_int, decide_eq_true g.p.1, decide_eq_true g.p.2]; rfl]
    refine iteF ⟨_, rfl, _, _, rfl, opt_dp r.v, fun H6 s6 => ⟨_, rfl, ?_⟩⟩
    have := q H6 (s1.trans (s2.trans (s3.trans (s4.trans (s5.trans s6)))))
    cases hv : r.v with
    | some i => exact iteT this
    | none =>
      refine iteF ⟨_, rfl, rfl, _, rfl, ?_⟩
      rw [show decide (optV none = V.non) = true from decide_eq_true rfl]
      refine iteT ⟨_, rfl, rfl, ?_⟩
      rw [g.v hv, show decide (V.str (Str.ofString "began") = V.str (Str.ofString "began")) = true from decide_eq_true rfl]
      exact this
abbrev s_is_log : Stmt := topS 13
theorem sc_is_log : FnScope ["thing", "row"] ["thing"] (defScope s_is_log) := ⟨rfl, rfl, rfl, by decide +kernel, rfl, by decide +kernel, by decide +kernel⟩
def spis_log (K : PySem.W.Frag) : Sp := fun vs H Q _ => ∃ (v : V) (rs : List LRow), vs = [v] ∧ Dp K H v (.list (rs.map rowD)) ∧ (∀ r ∈ rs, RGood r) ∧ rs.length ≤ 1000 ∧ ∀ H', Same H H' → Q (.bl true) H'
theorem ok_is_log {f : Addr} {fd : FuncData} (F : Fun K "is_log" "is_log" s_is_log f fd) (gm : mg "is_log" = some (.ref f)) (N : Fre K mg) (c_is_log_row : C8.Cal P w K mg base 3 "is_log_row" (spis_log_row K) []) : C8.Cal P w K mg base 4 "is_log" (spis_log K) [] := by
  refine mkCal F gm sc_is_log (F.binds (ps := ["thing"]) fun _ _ _ _ _ _ us hl => match us, hl with | [_], _ => rfl) (fun vs H Q E h => ?_) (fun cdv A outer s H vs Q E hr h => ?_)
  · obtain ⟨v, rs, rfl, _⟩ := h
    rfl
  · obtain ⟨v, rs, rfl, hv, g, hlen, q⟩ := h
    obtain ⟨_, g_MOST_ROWS⟩ := N.c_MOST_ROWS
    refine ⟨_, (pss_cons (ps_if (PW.pt (pw_or (pt_not (pt_val (pe_callB call_isi (by rfl) N.isinstance (by decide +kernel) (pa_cons (pv 0) (pa_cons (pe_bltn (v := .ty "list") (u := .type "list") rfl N.list (by decide +kernel) rfl) pa_nil))))) (pw_or1 (pt_cmpR op_gt (pe_callB call_len_seq (by rfl) N.len (by decide +kernel) (pa_cons (pv 0) pa_nil)) (pe_glob (v := .int 1000) rfl g_MOST_ROWS ⟨_, rfl⟩) (nomark _)))))
 (pss_one (ps_ret pe_bl))
 pss_nil)
 (pss_one (ps_ret (pe_callB (cr_all rfl) (by rfl) N.all (by decide +kernel) (pa_cons (pe_lc (own := [("row", 1)]) (g := gName 1) (tt := tYes) rfl sc_is_log.nd (pi_list (pv 0)) (blkOk_by (N := ["thing", "row"]) (sc := defScope s_is_log) (by decide +kernel)) (fun _ _ _ _ _ => pg_name (i := 1) sc_is_log.nd rfl (Or.inl rfl)) (fun _ _ _ _ _ => pts_nil) (fun _ _ _ _ _ => (C8.pe_c c_is_log_row hr (by decide) rfl (pa_cons (pv 1) pa_nil)))) pa_nil))))), ?_⟩
    have hty := dp_ty hv
    obtain ⟨a, xs, rfl, hs, ha⟩ := dp_list hv
    have hl := dpAll_len ha
    rw [List.length_map] at hl
    refine ⟨_, rfl, _, _, _, _, true, rfl, .ty _, hty, kit_d _ (.inr (.inr (.inr (.inr rfl)))), _, rfl, iteF ?_⟩
    refine ⟨_, rfl, _, _, rfl, .inl hs, _, 1000, rfl, rfl, _, rfl, iteD (by omega) ?_⟩
    refine ⟨_, rfl, a, rfl, ⟨_, hs⟩, fun D nD => lc_map rowD PyData.bool (fun _ => true) hs ha nD (by omega) (fun _ => rfl) ?_ ?_⟩
    · intro i v r H2 k er s2 pr hk
      exact ⟨rfl, _, rfl, v, r, rfl, pr, g r (List.mem_of_getElem? er), fun H3 s3 => hk _ _ s3 (.bl _)⟩
    · intro H2 ys s2 hD hy
      have ey : ys = (rs.map fun _ => true).map V.bl := by
        clear hD
        generalize (rs.map fun _ => true) = bs at hy
        induction bs generalizing ys with
        | nil => cases hy; rfl
        | cons b bs ih =>
          cases hy with
          | cons h1 h2 =>
            cases h1
            rw [ih _ h2]
            rfl
      rw [ey] at hD
      refine ⟨D, _, rfl, SqL.of hD, ?_⟩
      have := q H2 s2
      rw [show (rs.map fun _ => true).all id = true by simp]
      exact this

/-! ### a row drawn -/
def words6 : List Str := ["began", "read", "wrote", "lost", "wrote", "read"]
def files3 : List Str := ["a", "b", "ab"]
def clients3 : List Str := ["ann", "bo", "abcdefgh"]
theorem words6_ok : ∀ m ∈ words6, PyData.strOk m = true := by decide +kernel
theorem files3_ok : ∀ m ∈ files3, PyData.strOk m = true := by decide +kernel
theorem clients3_ok : ∀ m ∈ clients3, PyData.strOk m = true := by decide +kernel
abbrev s__law_log_row : Stmt := topS 20
theorem sc__law_log_row : FnScope ["bag", "word", "file", "number", "value", "way", "client"] ["bag"] (defScope s__law_log_row) := ⟨rfl, rfl, rfl, by decide +kernel, rfl, by decide +kernel, by decide +kernel⟩
def sp_law_log_row (K : PySem.W.Frag) : Sp := fun vs H Q _ => ∃ b : Addr, vs = [.ref b] ∧ Bag H b ∧ ∀ r p H', ROk r → r.f ∈ files3 → 0 ≤ r.p → r.p < 4 → 0 ≤ r.t → 0 ≤ r.n → r.w ∈ words6 → r.c ∈ clients3 → H p = none → But b H H' → Bag H' b → Dp K H' (.ref p) (rowD r) → Q (.ref p) H'
theorem ok__law_log_row {f : Addr} {fd : FuncData} (F : Fun K "_law_log_row" "_law_log_row" s__law_log_row f fd) (gm : mg "_law_log_row" = some (.ref f)) (N : Fre K mg) (c__law_take : C8.Cal P w K mg base 1 "_law_take" sp_law_take []) : C8.Cal P w K mg base 2 "_law_log_row" (sp_law_log_row K) [] := by
  refine mkCal F gm sc__law_log_row (F.binds (ps := ["bag"]) fun _ _ _ _ _ _ us hl => match us, hl with | [_], _ => rfl) (fun vs H Q E h => ?_) (fun cdv A outer s H vs Q E hr h => ?_)
  · obtain ⟨b, rfl, _⟩ := h
    rfl
  · obtain ⟨b, rfl, hB, q⟩ := h
    refine ⟨_, (pss_cons (ps_set (i := 1) sc__law_log_row.nd rfl (.inl rfl) (pe_ix ix_list (pe_lst (pa_cons pe_str (pa_cons pe_str (pa_cons pe_str (pa_cons pe_str (pa_cons pe_str (pa_cons pe_str pa_nil))))))) (C8.pe_c c__law_take hr (by decide) rfl (pa_cons (pv 0) (pa_cons pe_int pa_nil))) (fun _ _ => rfl)))
 (pss_cons (ps_set (i := 2) sc__law_log_row.nd rfl (.inl rfl) (pe_ix ix_list (pe_lst (pa_cons pe_str (pa_cons pe_str (pa_cons pe_str pa_nil)))) (C8.pe_c c__law_take hr (by decide) rfl (pa_cons (pv 0) (pa_cons pe_int pa_nil))) (fun _ _ => rfl)))
 (pss_cons (ps_set (i := 3) sc__law_log_row.nd rfl (.inl rfl) (C8.pe_c c__law_take hr (by decide) rfl (pa_cons (pv 0) (pa_cons pe_int pa_nil))))
 (pss_cons (ps_set (i := 4) sc__law_log_row.nd rfl (.inl rfl) (C8.pe_c c__law_take hr (by decide) rfl (pa_cons (pv 0) (pa_cons pe_int pa_nil))))
 (pss_cons (ps_set (i := 5) sc__law_log_row.nd rfl (.inl rfl) (C8.pe_c c__law_take hr (by decide) rfl (pa_cons (pv 0) (pa_cons pe_int pa_nil))))
 (C8.pss_cut (ps_if (pt_cmpR op_eq (pv 5) pe_int (nomark _))
 (pss_one (ps_set (i := 3) sc__law_log_row.nd rfl (.inl rfl) (C8.pe_c c__law_take hr (by decide) rfl (pa_cons (pv 0) (pa_cons (pe_op op_pow pe_int pe_int) pa_nil)))))
 pss_nil)
 (C8.pss_cut (ps_if (pt_cmpR op_eq (pv 5) pe_int (nomark _))
 (pss_one (ps_set (i := 4) sc__law_log_row.nd rfl (.inl rfl) (pe_op op_add (pe_un un_neg (pe_op op_pow pe_int pe_int)) (C8.pe_c c__law_take hr (by decide) rfl (pa_cons (pv 0) (pa_cons pe_int pa_nil))))))
 pss_nil)
 (C8.pss_cut (ps_if (PW.pt (pw_and (pt_cmpR op_eq (pv 1) pe_str (nomark _)) (pw_and1 (pt_cmpR op_lt (pv 5) pe_int (nomark _)))))
 (pss_one (ps_set (i := 4) sc__law_log_row.nd rfl (.inl rfl) pe_non))
 pss_nil)
 (pss_cons (ps_set (i := 6) sc__law_log_row.nd rfl (.inl rfl) (pe_ix ix_list (pe_lst (pa_cons pe_str (pa_cons pe_str (pa_cons pe_str pa_nil)))) (C8.pe_c c__law_take hr (by decide) rfl (pa_cons (pv 0) (pa_cons pe_int pa_nil))) (fun _ _ => rfl)))
 (pss_one (ps_ret (pe_tup (pa_cons (C8.pe_c c__law_take hr (by decide) rfl (pa_cons (pv 0) (pa_cons pe_int pa_nil))) (pa_cons (pv 1) (pa_cons (pv 3) (pa_cons (pv 6) (pa_cons (pv 2) (pa_cons (C8.pe_c c__law_take hr (by decide) rfl (pa_cons (pv 0) (pa_cons pe_int pa_nil))) (pa_cons (pv 4) pa_nil))))))))))))))))))), ?_⟩
    -- word
    refine ⟨(by show 6 ≤ sizeLine; decide), fun L nL => ?_⟩
    refine ⟨_, rfl, b, 6, rfl, hB.new nL, by decide, by decide, fun i H1 i0 i1 B1 G1 => ?_⟩
    obtain ⟨w, hw, ew⟩ := pickStr words6 i0 (by show i < 6; exact i1)
    have hL : H1 L = some (.lst (words6.map V.str)) := B1 _ _ (hB.ne nL) upd_same
    refine ⟨L, _, i, _, rfl, rfl, SqL.of hL, ew, ?_⟩
    have b1 : But b H H1 := (But.new nL).trans B1
    clear hL B1
    -- file
    refine ⟨three_ok _ _ _, fun L2 nL2 => ?_⟩
    refine ⟨_, rfl, b, 3, rfl, G1.new nL2, by decide, by decide, fun i2 H2 i20 i21 B2 G2 => ?_⟩
    obtain ⟨f, hf, ef⟩ := pickStr files3 i20 (by show i2 < 3; exact i21)
    have hL2 : H2 L2 = some (.lst (files3.map V.str)) := B2 _ _ (G1.ne nL2) upd_same
    refine ⟨L2, _, i2, _, rfl, rfl, SqL.of hL2, ef, ?_⟩
    have b2 : But b H H2 := b1.trans ((But.new nL2).trans B2)
    clear hL2 B2
    -- number, value, way
    refine ⟨_, rfl, b, 9, rfl, G2, by decide, by decide, fun n H3 n0 n1 B3 G3 => ?_⟩
    refine ⟨_, rfl, b, 5, rfl, G3, by decide, by decide, fun v H4 v0 v1 B4 G4 => ?_⟩
    refine ⟨_, rfl, b, 9, rfl, G4, by decide, by decide, fun y H5 y0 y1 B5 G5 => ?_⟩
    have b5 : But b H H5 := b2.trans (B3.trans (B4.trans B5))
    refine ⟨fun σ H' => ∃ n, 0 ≤ n ∧ σ = [some (.ref b), some (.str w), some (.str f), some (.int n), some (.int v), some (.int y), none] ∧ But b H H' ∧ Bag H' b, ?_, ?_⟩
    · refine ⟨_, rfl, rfl, _, rfl, ite2 (fun e => ?_) (fun e => ?_)⟩
      · refine ⟨_, rfl, 10, 39, rfl, rfl, ⟨by decide, by decide, by decide⟩, b, _, rfl, G5, by decide, by decide, fun n' H6 n0' n1' B6 G6 => ?_⟩
        exact ⟨n', n0', rfl, b5.trans B6, G6⟩
      · exact ⟨n, n0, rfl, b5, G5⟩
    · rintro σ H6 ⟨n, n0, rfl, b6, G6⟩
      refine ⟨fun σ H' => ∃ v, σ = [some (.ref b), some (.str w), some (.str f), some (.int n), some (.int v), some (.int y), none] ∧ But b H H' ∧ Bag H' b, ?_, ?_⟩
      · refine ⟨_, rfl, rfl, _, rfl, ite2 (fun e => ?_) (fun e => ?_)⟩
        · refine ⟨10, 39, rfl, rfl, ⟨by decide, by decide, by decide⟩, _, rfl, _, rfl, b, 99, rfl, G6, by decide, by decide, fun v' H7 v0' v1' B7 G7 => ?_⟩
          exact ⟨_, _, rfl, rfl, _, rfl, b6.trans B7, G7⟩
        · exact ⟨v, rfl, b6, G6⟩
      · rintro σ H7 ⟨v, rfl, b7, G7⟩
        refine ⟨fun σ H' => ∃ o : Option Int, (w ≠ "began" → ∃ i, o = some i) ∧ σ = [some (.ref b), some (.str w), some (.str f), some (.int n), some (optV o), some (.int y), none] ∧ But b H H' ∧ Bag H' b, ?_, ?_⟩
        · refine ⟨_, rfl, rfl, _, rfl, ite2 (fun e => ?_) (fun e => ?_)⟩
          · have e1 : w = "began" := V.str.inj (of_decide_eq_true e)
            refine ⟨_, rfl, _, _, rfl, rfl, _, rfl, ite2 (fun e2 => ?_) (fun e2 => ?_)⟩
            · exact ⟨none, fun z => absurd e1 z, rfl, b7, G7⟩
            · exact ⟨some v, fun _ => ⟨v, rfl⟩, rfl, b7, G7⟩
          · exact iteF ⟨some v, fun _ => ⟨v, rfl⟩, rfl, b7, G7⟩
        · rintro σ H8 ⟨o, ho, rfl, b8, G8⟩
          -- client
          refine ⟨three_ok _ _ _, fun L3 nL3 => ?_⟩
          refine ⟨_, rfl, b, 3, rfl, G8.new nL3, by decide, by decide, fun i3 H9 i30 i31 B9 G9 => ?_⟩
          obtain ⟨c, hc, ec⟩ := pickStr clients3 i30 (by show i3 < 3; exact i31)
          have hL3 : H9 L3 = some (.lst (clients3.map V.str)) := B9 _ _ (G8.ne nL3) upd_same
          refine ⟨L3, _, i3, _, rfl, rfl, SqL.of hL3, ec, ?_⟩
          have b9 : But b H H9 := b8.trans ((But.new nL3).trans B9)
          -- the row
          refine ⟨_, rfl, b, 50, rfl, G9, by decide, by decide, fun t Ha t0 t1 Ba Ga => ?_⟩
          refine ⟨_, rfl, _, rfl, _, rfl, _, rfl, _, rfl, b, 4, rfl, Ga, by decide, by decide, fun p Hb p0 p1 Bb Gb => ?_⟩
          refine ⟨_, rfl, (by show 7 ≤ sizeLine; decide), fun z nz => ?_⟩
          have bb : But b H Hb := b9.trans (Ba.trans Bb)
          refine q ⟨t, w, n, c, f, p, o⟩ z _ ⟨ho, words6_ok w hw, clients3_ok c hc, files3_ok f hf⟩ hf p0 p1 t0 n0 hw hc ?_ (bb.trans (But.new nz)) (Gb.new nz) (row_dp (SqT.of upd_same))
          exact free_of bb hB Gb nz

/-! ### the mathematics of logs made longer -/
theorem staleAt_app {rs ms : List LRow} {j : Nat} (h : j < rs.length) : staleAt (rs ++ ms) j = staleAt rs j := by
  have e : (rs ++ ms)[j]? = rs[j]? := List.getElem?_append_left h
  unfold staleAt
  rw [e]
  have e2 : (rs ++ ms).take j = rs.take j := by rw [List.take_append_of_le_length (by omega)]
  rw [e2]
theorem fm_congr {α β : Type} {f g : α → Option β} : ∀ {xs : List α}, (∀ x ∈ xs, f x = g x) → xs.filterMap f = xs.filterMap g
  | [], _ => rfl
  | x :: xs, h => by
    rw [List.filterMap_cons, List.filterMap_cons, h x List.mem_cons_self, fm_congr fun y hy => h y (List.mem_cons_of_mem _ hy)]
theorem staleL_app (rs ms : List LRow) : ∃ zs, staleL (rs ++ ms) = staleL rs ++ zs := by
  unfold staleL
  refine ⟨((List.range ms.length).map (rs.length + ·)).filterMap (staleAt (rs ++ ms)), ?_⟩
  rw [List.length_append, List.range_add, List.filterMap_append]
  congr 1
  exact fm_congr fun j hj => staleAt_app (List.mem_range.mp hj)
theorem staleF_app {rs ms : List LRow} {x : Int} (h : staleF rs = some x) : staleF (rs ++ ms) = some x := by
  obtain ⟨zs, e⟩ := staleL_app rs ms
  unfold staleF at *
  rw [e]
  cases hl : staleL rs with
  | nil => rw [hl] at h; cases h
  | cons y ys => rw [hl] at h; exact h
theorem staleF_one {rs : List LRow} {r : LRow} (h : staleF rs = none) : staleF (rs ++ [r]) = if r.w = "read" ∧ ¬ r.v = some (truthF rs r.f r.p) then some r.n else none := by
  have hl : staleL rs = [] := by
    unfold staleF at h
    exact List.head?_eq_none_iff.mp h
  have e : staleL (rs ++ [r]) = staleL rs ++ (staleAt (rs ++ [r]) rs.length).toList := by
    unfold staleL
    rw [List.length_append, show rs.length + [r].length = rs.length + 1 from rfl, List.range_succ, List.filterMap_append]
    congr 1
    exact fm_congr fun j hj => staleAt_app (List.mem_range.mp hj)
  have e2 : (rs ++ [r])[rs.length]? = some r := by simp
  unfold staleF
  rw [e, hl, staleAt_eq e2, List.take_append_of_le_length (Nat.le_refl _), List.take_of_length_le (Nat.le_refl _)]
  split <;> rfl
/-- the writes of one page, told one by one; from c on lost -/
structure LInv (vals : List Int) (pg : Int) (m c : Nat) (rs : List LRow) : Prop where
  w : wrs rs "a" pg = (List.range m).map fun (i : Nat) => ((10 : Int) + (i : Int), vals.getD i 0)
  l : ∀ j : Nat, j < 20 → lostS rs (10 + (j : Int)) = (decide (c ≤ j) && decide (j < m))
theorem wrs_ins {rs : List LRow} {r : LRow} {pg : Int} (i : Nat) (h : isW "a" pg r = false) : wrs (rs.take i ++ [r] ++ rs.drop i) "a" pg = wrs rs "a" pg := by
  unfold wrs
  rw [List.filter_append, List.filter_append, List.filter_cons, h]
  simp only [Bool.false_eq_true, if_false, List.filter_nil, List.append_nil]
  rw [← List.filter_append, List.take_append_drop]
theorem lost_ins {rs : List LRow} {r : LRow} (i : Nat) (n : Int) : lostS (rs.take i ++ [r] ++ rs.drop i) n = (lostS rs n || (decide (r.w = "lost") && decide (r.n = n))) := by
  unfold lostS
  rw [List.any_append, List.any_append]
  have e : rs.any (fun r => decide (r.w = ("lost" : Str)) && decide (r.n = n)) = ((rs.take i).any (fun r => decide (r.w = ("lost" : Str)) && decide (r.n = n)) || (rs.drop i).any (fun r => decide (r.w = ("lost" : Str)) && decide (r.n = n))) := by
    rw [← List.any_append, List.take_append_drop]
  rw [e]
  simp only [List.any_cons, List.any_nil, Bool.or_false]
  rw [Bool.or_assoc, Bool.or_assoc, Bool.or_comm (List.any (List.drop i rs) _)]
theorem LInv.ins {vals : List Int} {pg : Int} {m c : Nat} {rs : List LRow} {r : LRow} (h : LInv vals pg m c rs) (i : Nat) (h1 : isW "a" pg r = false) (h2 : ∀ j : Nat, j < 20 → r.n ≠ 10 + (j : Int)) : LInv vals pg m c (rs.take i ++ [r] ++ rs.drop i) := by
  refine ⟨by rw [wrs_ins i h1]; exact h.w, fun j hj => ?_⟩
  rw [lost_ins, h.l j hj, decide_eq_false (h2 j hj)]
  simp
theorem LInv.lose {vals : List Int} {pg : Int} {m c : Nat} {rs : List LRow} {r : LRow} (h : LInv vals pg m (c + 1) rs) (i : Nat) (hc : c < m) (hw : r.w = "lost") (hn : r.n = 10 + (c : Int)) : LInv vals pg m c (rs.take i ++ [r] ++ rs.drop i) := by
  have h1 : isW "a" pg r = false := by
    unfold isW
    rw [hw]
    rfl
  refine ⟨by rw [wrs_ins i h1]; exact h.w, fun j hj => ?_⟩
  rw [lost_ins, h.l j hj, hw, hn, show decide ((("lost" : Str)) = "lost") = true from decide_eq_true rfl, Bool.true_and]
  by_cases e : j = c
  · subst e
    rw [decide_eq_true (rfl : (10 : Int) + (j : Int) = 10 + (j : Int)), decide_eq_true (Nat.le_refl j), decide_eq_true hc]
    simp
  · rw [decide_eq_false (show ¬ (10 : Int) + (c : Int) = 10 + (j : Int) by omega), Bool.or_false]
    by_cases h3 : c + 1 ≤ j
    · rw [decide_eq_true h3, decide_eq_true (show c ≤ j by omega)]
    · rw [decide_eq_false h3, decide_eq_false (show ¬ c ≤ j by omega)]
theorem LInv.put {vals : List Int} {pg : Int} {m c : Nat} {rs : List LRow} {r : LRow} (h : LInv vals pg m c rs) (hc : m ≤ c) (hw : r.w = "wrote") (hf : r.f = "a") (hp : r.p = pg) (hn : r.n = 10 + (m : Int)) (hv : r.v = some (vals.getD m 0)) : LInv vals pg (m + 1) (m + 1) (rs ++ [r]) := by
  refine ⟨?_, fun j hj => ?_⟩
  · have e := h.w
    unfold wrs at *
    rw [List.filter_append, List.map_append, e, List.range_succ, List.map_append]
    congr 1
    have : isW "a" pg r = true := by
      unfold isW
      rw [hw, hf, hp]
      simp
    simp [this, hn, hv]
  · have e := h.l j hj
    unfold lostS at *
    rw [List.any_append, e]
    simp only [List.any_cons, List.any_nil, Bool.or_false, hw]
    rw [show decide ((("wrote" : Str)) = "lost") = false from decide_eq_false (by decide), Bool.false_and, Bool.or_false]
    by_cases h1 : c ≤ j
    · rw [decide_eq_false (show ¬ j < m by omega), Bool.and_false]
      by_cases h2 : m + 1 ≤ j
      · rw [decide_eq_false (show ¬ j < m + 1 by omega), Bool.and_false]
      · rw [decide_eq_false h2, Bool.false_and]
    · rw [decide_eq_false h1, Bool.false_and]
      by_cases h2 : m + 1 ≤ j
      · rw [decide_eq_false (show ¬ j < m + 1 by omega), Bool.and_false]
      · rw [decide_eq_false h2, Bool.false_and]
theorem LInv.truth {vals : List Int} {pg : Int} {m c : Nat} {rs : List LRow} (h : LInv vals pg m (c + 1) rs) (hc : c < m) (hm : m ≤ 20) : truthF rs "a" pg = vals.getD c 0 := by
  unfold truthF
  refine lastV_hit (j := c) (p := (10 + (c : Int), vals.getD c 0)) ?_ ?_ ?_
  · rw [h.w, List.getElem?_map, List.getElem?_range hc]
    rfl
  · show lostS rs (10 + (c : Int)) = false
    rw [h.l c (by omega), decide_eq_false (show ¬ c + 1 ≤ c by omega)]
    rfl
  · intro i q hi e
    rw [h.w, List.getElem?_map] at e
    obtain ⟨k, hk, rfl⟩ := Option.map_eq_some_iff.mp e
    have hk2 := (List.getElem?_eq_some_iff.mp hk)
    obtain ⟨h1, h2⟩ := hk2
    rw [List.length_range] at h1
    rw [List.getElem_range] at h2
    subst h2
    show lostS rs (10 + (i : Int)) = true
    rw [h.l i (by omega), decide_eq_true (show c + 1 ≤ i by omega), decide_eq_true h1]
    rfl
theorem LInv.truth0 {vals : List Int} {pg : Int} {m : Nat} {rs : List LRow} (h : LInv vals pg m 0 rs) (hm : m ≤ 20) : truthF rs "a" pg = 0 := by
  unfold truthF
  refine lastV_none fun i q e => ?_
  rw [h.w, List.getElem?_map] at e
  obtain ⟨k, hk, rfl⟩ := Option.map_eq_some_iff.mp e
  obtain ⟨h1, h2⟩ := List.getElem?_eq_some_iff.mp hk
  rw [List.length_range] at h1
  rw [List.getElem_range] at h2
  subst h2
  show lostS rs (10 + (i : Int)) = true
  rw [h.l i (by omega), decide_eq_true (Nat.zero_le i), decide_eq_true h1]
  rfl

/-! ### rows drawn -/
structure Drawn (r : LRow) : Prop where
  ok : ROk r
  f : r.f ∈ files3
  p0 : 0 ≤ r.p
  p1 : r.p < 4
  t : 0 ≤ r.t
  n : 0 ≤ r.n
  w : r.w ∈ words6
  c : r.c ∈ clients3
theorem rows_imm (rs : List LRow) : immAll (rs.map rowD) = true := immAll_iff.mpr fun e he => by
  obtain ⟨y, _, rfl⟩ := List.mem_map.mp he
  exact rowD_imm y
theorem Bag.at {H : Hp} {b L : Addr} {o : HO} (g : Bag H b) (n : L ≠ b) : Bag (upd H L o) b := by
  obtain ⟨x, y, e, r⟩ := g
  exact ⟨x, y, by rw [upd_ne n.symm]; exact e, r⟩
theorem Bag.same {H H' : Hp} {b : Addr} (g : Bag H b) (s : Same H H') : Bag H' b := by
  obtain ⟨x, y, e, r⟩ := g
  exact ⟨x, y, s _ _ e, r⟩
theorem draw_rows {σ : L2.St} {g : TG} {b L : Addr} {H3 : Hp} {n : Nat} {ws : List Nat} {te : TE} {Qd : Hp → Prop} (G3 : Bag H3 b) (nL : H3 L = none) (hn : n ≤ 1000)
    (hte : ∀ (v : V) (H : Hp) (Qk : VK), Bag H b → (∀ r p H', Drawn r → H p = none → But b H H' → Bag H' b → Dp K H' (.ref p) (rowD r) → Qk (.ref p) H') → g v (wipe σ ws) H fun σ2 H2 => wipe σ2 ws = wipe σ ws ∧ te σ2 H2 Qk)
    (hd : ∀ (H : Hp) (ys : List V) (rs : List LRow), But b H3 H → Bag H b → H L = some (.lst ys) → DpAll K H ys (rs.map rowD) → (∀ r ∈ rs, Drawn r) → rs.length = n → Qd H) :
    ∃ W : Nat → Nat → Hp → Prop, (∃ m, W 0 m (upd H3 L (.lst []))) ∧ ∀ i m H, W i m H →
      ((Itr 0 n).stop i H ∧ Qd H) ∨ ((Itr 0 n).go i H ∧ ∃ Nx : Hp → Prop, (∀ H', Nx H' → ∃ m', m' < m ∧ W (i + 1) m' H') ∧ ∀ x H', (Itr 0 n).yld i H x H' → g x (wipe σ ws) H' fun σ2 H2 => wipe σ2 ws = wipe σ ws ∧ tYes σ2 H2 fun b H3 =>
        if b = true then te σ2 H3 fun y H4 => ∃ acc, H4 L = some (.lst acc) ∧ acc.length < sizeLine ∧ Nx (upd H4 L (.lst (acc ++ [y]))) else Nx H3) := by
  have Lb : L ≠ b := G3.ne nL
  refine lc_it walk_range (fun i H4 => But b H3 H4 ∧ Bag H4 b ∧ ∃ (ys : List V) (rs : List LRow), H4 L = some (.lst ys) ∧ DpAll K H4 ys (rs.map rowD) ∧ (∀ r ∈ rs, Drawn r) ∧ rs.length = i) ⟨But.new nL, G3.new nL, [], [], upd_same, .nil, (fun r hr => by cases hr), rfl⟩ (fun _ _ _ _ => trivial) ?_ ?_
  · rintro j v H4 H5 hj ⟨b4, G4, ys, rs, hL4, hA4, ok4, hl4⟩ ⟨rfl, hv⟩
    have key := hte v H5 (fun y H4 => ∃ acc, H4 L = some (.lst acc) ∧ acc.length < sizeLine ∧ (fun H4 => But b H3 H4 ∧ Bag H4 b ∧ ∃ (ys : List V) (rs : List LRow), H4 L = some (.lst ys) ∧ DpAll K H4 ys (rs.map rowD) ∧ (∀ r ∈ rs, Drawn r) ∧ rs.length = j + 1) (upd H4 L (.lst (acc ++ [y])))) G4 ?_
    · simpa only [tYes, if_true] using key
    · intro r p H6 rok np B6 G6 hp
      have hL6 := B6 _ _ Lb hL4
      have kt : Kt H5 H6 := Kt.bag B6 G4
      have hyl := dpAll_len hA4
      rw [List.length_map] at hyl
      refine ⟨ys, hL6, by rw [sizeLine_eq]; omega, ?_, G6.at Lb, ys ++ [.ref p], rs ++ [r], upd_same, ?_, ?_, ?_⟩
      · intro c o ne e
        rw [upd_ne (ne_of_none e nL)]
        exact B6 _ _ ne (b4 _ _ ne e)
      · rw [List.map_append]
        have k2 := Kt.upd (o' := .lst (ys ++ [.ref p])) hL6 (fun z => z)
        exact dpAll_append (dp_ktAll (kt.trans k2) _ _ (rows_imm _) hA4) (.cons (dp_kt k2 _ _ (rowD_imm r) hp) .nil)
      · intro r' hr'
        rcases List.mem_append.mp hr' with h | h
        · exact ok4 r' h
        · rw [List.mem_singleton.mp h]
          exact rok
      · rw [List.length_append, hl4]
        rfl
  · rintro H4 ⟨b4, G4, ys, rs, hL4, hA4, ok4, hl4⟩
    exact hd H4 ys rs b4 G4 hL4 hA4 ok4 hl4

/-! ### the law -/
theorem clients3_name : ∀ m ∈ clients3, nameD (.str m) = true := by decide +kernel
theorem files3_name : ∀ m ∈ files3, nameD (.str m) = true := by decide +kernel
theorem words_in : ∀ m ∈ words6, m ∈ words4 := by decide +kernel
theorem Drawn.good {r : LRow} (h : Drawn r) : RGood r := by
  refine ⟨h.t, words_in _ h.w, h.n, clients3_name _ h.c, files3_name _ h.f, ⟨h.p0, by have := h.p1; omega⟩, fun e => ?_⟩
  by_cases hw : r.w = "began"
  · exact hw
  · obtain ⟨i, ei⟩ := h.ok.v hw
    rw [ei] at e
    cases e
structure Both (r : LRow) : Prop where
  g : RGood r
  ok : ROk r
theorem both_ok {rs : List LRow} (h : ∀ r ∈ rs, Both r) : VOk rs := fun r hr => (h r hr).ok
abbrev s_law : Stmt := topS 21
theorem sc_law : FnScope ["script", "k", "bag", "rows", "more", "first", "page", "last", "values", "log", "at", "value", "other", "turn"] ["script"] (defScope s_law) := ⟨rfl, rfl, rfl, by decide +kernel, rfl, by decide +kernel, by decide +kernel⟩
def splaw (K : PySem.W.Frag) : Sp := fun vs H Q _ => ∃ (a : Addr) (ns : List Int), vs = [.ref a] ∧ SqL K H a (ns.map V.int) ∧ ns.length ≤ 63 ∧ ∀ H', Q (.bl true) H'
theorem okRead : PyData.strOk ("read" : Str) = true := by decide +kernel
theorem okAnn : PyData.strOk ("ann" : Str) = true := by decide +kernel
theorem okBo : PyData.strOk ("bo" : Str) = true := by decide +kernel
theorem okWrote : PyData.strOk ("wrote" : Str) = true := by decide +kernel
theorem okLost : PyData.strOk ("lost" : Str) = true := by decide +kernel
theorem nameBo : nameD (.str "bo") = true := by decide +kernel
theorem nameA : nameD (.str "a") = true := by decide +kernel
theorem inWrote : ("wrote" : Str) ∈ words4 := by decide
theorem inLost : ("lost" : Str) ∈ words4 := by decide
theorem okA : PyData.strOk ("a" : Str) = true := by decide +kernel
def row0 (pg v : Int) : LRow := ⟨99, "read", 77, "ann", "a", pg, some v⟩
theorem row0_ok (pg v : Int) : ROk (row0 pg v) := ⟨fun _ => ⟨v, rfl⟩, okRead, okAnn, okA⟩
theorem ok_app {rs ms : List LRow} (h : VOk rs) (g : VOk ms) : VOk (rs ++ ms) := fun r hr => by
  rcases List.mem_append.mp hr with z | z
  · exact h r z
  · exact g r z
theorem ok_one {r : LRow} (h : ROk r) : VOk [r] := fun r' hr => by
  rw [List.mem_singleton.mp hr]
  exact h
theorem both_app {rs ms : List LRow} (h : ∀ r ∈ rs, Both r) (g : ∀ r ∈ ms, Both r) : ∀ r ∈ rs ++ ms, Both r := fun r hr => by
  rcases List.mem_append.mp hr with z | z
  · exact h r z
  · exact g r z
theorem both_ins {rs : List LRow} {r : LRow} (i : Nat) (h : ∀ r ∈ rs, Both r) (g : Both r) : ∀ r' ∈ rs.take i ++ [r] ++ rs.drop i, Both r' := both_app (both_app (fun r' hr => h r' (List.mem_of_mem_take hr)) fun r' hr => by rw [List.mem_singleton.mp hr]; exact g) fun r' hr => h r' (List.mem_of_mem_drop hr)
theorem ins_len {α : Type} (xs : List α) (x : α) (i : Nat) : (xs.take i ++ [x] ++ xs.drop i).length = xs.length + 1 := by
  have e : (xs.take i).length + (xs.drop i).length = xs.length := by rw [← List.length_append, List.take_append_drop]
  rw [List.length_append, List.length_append]
  show (xs.take i).length + 1 + (xs.drop i).length = _
  omega
/-- the log being made, as it stands -/
def LogAt (K : PySem.W.Frag) (H : Hp) (L : Addr) (rs : List LRow) : Prop := ∃ ys, H L = some (.lst ys) ∧ DpAll K H ys (rs.map rowD)
theorem LogAt.len {H : Hp} {L : Addr} {rs : List LRow} {ys : List V} (h : LogAt K H L rs) (e : H L = some (.lst ys)) : ys.length = rs.length := by
  obtain ⟨zs, h1, h2⟩ := h
  rw [e] at h1
  cases h1
  have := dpAll_len h2
  rwa [List.length_map] at this
theorem LogAt.same {H H' : Hp} {L : Addr} {rs : List LRow} (h : LogAt K H L rs) (s : Same H H') : LogAt K H' L rs := by
  obtain ⟨zs, h1, h2⟩ := h
  exact ⟨zs, s _ _ h1, dp_sameAll s _ _ h2⟩
theorem LogAt.bag {H H' : Hp} {L b : Addr} {rs : List LRow} (h : LogAt K H L rs) (g : Bag H b) (n : L ≠ b) (s : But b H H') : LogAt K H' L rs := by
  obtain ⟨zs, h1, h2⟩ := h
  exact ⟨zs, s _ _ n h1, dp_ktAll (Kt.bag s g) _ _ (rows_imm _) h2⟩
theorem LogAt.put {H : Hp} {L M : Addr} {rs : List LRow} {xs ys : List V} (h : LogAt K H L rs) (e : H M = some (.lst xs)) (n : L ≠ M) : LogAt K (upd H M (.lst ys)) L rs := by
  obtain ⟨zs, h1, h2⟩ := h
  exact ⟨zs, by rw [upd_ne n]; exact h1, dp_ktAll (Kt.upd e (fun z => z)) _ _ (rows_imm _) h2⟩
theorem LogAt.dp {H : Hp} {L : Addr} {rs : List LRow} (h : LogAt K H L rs) : Dp K H (.ref L) (.list (rs.map rowD)) := by
  obtain ⟨zs, h1, h2⟩ := h
  exact .lst (SqL.of h1) h2
theorem ok_law {f : Addr} {fd : FuncData} (F : Fun K "law" "law" s_law f fd) (N : Fre K mg) (c__law_bag : C8.Cal P w K mg base 1 "_law_bag" (sp_law_bag K) []) (c__law_log_row : C8.Cal P w K mg base 2 "_law_log_row" (sp_law_log_row K) []) (c__law_take : C8.Cal P w K mg base 1 "_law_take" sp_law_take []) (c_first_stale : C8.Cal P w K mg base 2 "first_stale" (spfirst_stale K) []) (c_is_log : C8.Cal P w K mg base 4 "is_log" (spis_log K) []) (c_truth : C8.Cal P w K mg base 2 "truth" (sptruth K) []) : FnOk P w K mg base CX0 5 f fd ["script"] (splaw K) := by
  refine F.ok sc_law (fun vs H Q E h => ?_) (fun cdv A outer s H vs Q E hr h => ?_)
  · obtain ⟨a, ns, rfl, _⟩ := h
    rfl
  · obtain ⟨a, ns, rfl, hS, hlen, q⟩ := h
    refine ⟨_, (pss_cons (ps_for PassesOwn.never rfl (pi_range1 (by rfl) N.range (pa_cons (pe_op op_add pe_int (pe_callB (call_min2 rfl) (by rfl) N.min (by decide +kernel) (pa_cons (pe_callB call_len_seq (by rfl) N.len (by decide +kernel) (pa_cons (pv 0) pa_nil)) (pa_cons pe_int pa_nil)))) pa_nil)) (pg_name (i := 1) sc_law.nd rfl (.inl rfl))
 (pss_cons (ps_set (i := 2) sc_law.nd rfl (.inr rfl) (C8.pe_c c__law_bag hr (by decide) rfl (pa_cons (pv 0) (pa_cons (pv 1) pa_nil))))
 (pss_cons (ps_setLc (i := 3) (own := [("turn", 13)]) (g := gName 13) (tt := tYes) rfl sc_law.nd rfl rfl (sw_true rfl rfl rfl (by decide +kernel)) (pi_range1 (by rfl) N.range (pa_cons (C8.pe_c c__law_take hr (by decide) rfl (pa_cons (pv 2) (pa_cons pe_int pa_nil))) pa_nil)) (blkOk_by (N := ["script", "k", "bag", "rows", "more", "first", "page", "last", "values", "log", "at", "value", "other", "turn"]) (sc := defScope s_law) (by decide +kernel)) (fun _ _ _ _ _ => pg_name (i := 13) sc_law.nd rfl (Or.inl rfl)) (fun _ _ _ _ _ => pts_nil) (fun _ _ _ _ _ => (C8.pe_c c__law_log_row hr (by decide) rfl (pa_cons (pv 2) pa_nil))))
 (pss_cons (ps_setLc (i := 4) (own := [("turn", 13)]) (g := gName 13) (tt := tYes) rfl sc_law.nd rfl rfl (sw_true rfl rfl rfl (by decide +kernel)) (pi_range1 (by rfl) N.range (pa_cons (C8.pe_c c__law_take hr (by decide) rfl (pa_cons (pv 2) (pa_cons pe_int pa_nil))) pa_nil)) (blkOk_by (N := ["script", "k", "bag", "rows", "more", "first", "page", "last", "values", "log", "at", "value", "other", "turn"]) (sc := defScope s_law) (by decide +kernel)) (fun _ _ _ _ _ => pg_name (i := 13) sc_law.nd rfl (Or.inl rfl)) (fun _ _ _ _ _ => pts_nil) (fun _ _ _ _ _ => (C8.pe_c c__law_log_row hr (by decide) rfl (pa_cons (pv 2) pa_nil))))
 (pss_cons (ps_set (i := 5) sc_law.nd rfl (.inl rfl) (C8.pe_c c_first_stale hr (by decide) rfl (pa_cons (pv 3) pa_nil)))
 (C8.pss_cut (ps_if (PW.pt (pw_and (pt_cmpR op_notN (pv 5) pe_non (nomark _)) (pw_and1 (pt_cmpR op_ne (C8.pe_c c_first_stale hr (by decide) rfl (pa_cons (pe_op op_cat (pv 3) (pv 4)) pa_nil)) (pv 5) (nomark _)))))
 (pss_one (ps_ret pe_bl))
 pss_nil)
 (pss_cons (ps_set (i := 6) sc_law.nd rfl (.inl rfl) (C8.pe_c c__law_take hr (by decide) rfl (pa_cons (pv 2) (pa_cons pe_int pa_nil))))
 (C8.pss_cut (ps_if (pt_cmpR op_isN (C8.pe_c c_first_stale hr (by decide) rfl (pa_cons (pv 3) pa_nil)) pe_non (nomark _))
 (pss_cons (ps_set (i := 7) sc_law.nd rfl (.inl rfl) (pe_lst (pa_cons (pe_tup (pa_cons pe_int (pa_cons pe_str (pa_cons pe_int (pa_cons pe_str (pa_cons pe_str (pa_cons (pv 6) (pa_cons (C8.pe_c c_truth hr (by decide) rfl (pa_cons (pv 3) (pa_cons pe_str (pa_cons (pv 6) pa_nil)))) pa_nil)))))))) pa_nil)))
 (pss_cons (ps_if (pt_cmpR op_notN (C8.pe_c c_first_stale hr (by decide) rfl (pa_cons (pe_op op_cat (pv 3) (pv 7)) pa_nil)) pe_non (nomark _))
 (pss_one (ps_ret pe_bl))
 pss_nil)
 (pss_one (ps_if (pt_cmpR op_ne (C8.pe_c c_first_stale hr (by decide) rfl (pa_cons (pe_op op_cat (pv 3) (pe_lst (pa_cons (pe_op op_catA (pe_slice sl_tup (pe_ix ix_list (pv 7) pe_int (fun _ _ => rfl)) po_none (po_some pe_int)) (pe_tup (pa_cons (pe_op op_add (pe_ix ix_tup (pe_ix ix_list (pv 7) pe_int (fun _ _ => rfl)) pe_int (fun _ _ => rfl)) pe_int) pa_nil))) pa_nil))) pa_nil)) pe_int (nomark _))
 (pss_one (ps_ret pe_bl))
 pss_nil))))
 pss_nil)
 (pss_cons (ps_setLc (i := 8) (own := [("turn", 13)]) (g := gName 13) (tt := tYes) rfl sc_law.nd rfl rfl (sw_true rfl rfl rfl (by decide +kernel)) (pi_range1 (by rfl) N.range (pa_cons (pe_op op_add pe_int (C8.pe_c c__law_take hr (by decide) rfl (pa_cons (pv 2) (pa_cons pe_int pa_nil)))) pa_nil)) (blkOk_by (N := ["script", "k", "bag", "rows", "more", "first", "page", "last", "values", "log", "at", "value", "other", "turn"]) (sc := defScope s_law) (by decide +kernel)) (fun _ _ _ _ _ => pg_name (i := 13) sc_law.nd rfl (Or.inl rfl)) (fun _ _ _ _ _ => pts_nil) (fun _ _ _ _ _ => (pe_op op_add pe_int (C8.pe_c c__law_take hr (by decide) rfl (pa_cons (pv 2) (pa_cons pe_int pa_nil))))))
 (pss_cons (ps_set (i := 9) sc_law.nd rfl (.inl rfl) (pe_lst pa_nil))
 (pss_cons (ps_for PassesOwn.never rfl (pi_enum (by rfl) N.enumerate (pa_cons (pv 8) pa_nil)) (pg_tup rfl (pgs_cons (pg_name (i := 10) sc_law.nd rfl (.inl rfl)) (pgs_cons (pg_name (i := 11) sc_law.nd rfl (.inl rfl)) pgs_nil)))
 (pss_cons (ps_expr (pe_bm PySem.F.plainAttrs_list PySem.F.slot_list_append PySem.F.type_list_append mt_append (pv 9) (pa_cons (pe_tup (pa_cons (pv 10) (pa_cons pe_str (pa_cons (pe_op op_add pe_int (pv 10)) (pa_cons pe_str (pa_cons pe_str (pa_cons (pv 6) (pa_cons (pv 11) pa_nil)))))))) pa_nil)))
 (pss_cons (ps_set (i := 12) sc_law.nd rfl (.inl rfl) (C8.pe_c c__law_log_row hr (by decide) rfl (pa_cons (pv 2) pa_nil)))
 (pss_one (ps_if (PW.pt (pw_and (pt_cmpR (op_neD hr.units) (pe_tup (pa_cons (pe_ix ix_tup (pv 12) pe_int (fun _ _ => rfl)) (pa_cons (pe_ix ix_tup (pv 12) pe_int (fun _ _ => rfl)) pa_nil))) (pe_tup (pa_cons pe_str (pa_cons (pv 6) pa_nil))) (nomark _)) (pw_and1 (pt_not (pt_chain op_le op_lt pe_int (pe_ix ix_tup (pv 12) pe_int (fun _ _ => rfl)) pe_int)))))
 (pss_one (ps_expr (pe_bm PySem.F.plainAttrs_list PySem.F.slot_list_insert PySem.F.type_list_insert mt_insert (pv 9) (pa_cons (C8.pe_c c__law_take hr (by decide) rfl (pa_cons (pv 2) (pa_cons (pe_op op_add (pe_callB call_len_seq (by rfl) N.len (by decide +kernel) (pa_cons (pv 9) pa_nil)) pe_int) pa_nil))) (pa_cons (pv 12) pa_nil)))))
 pss_nil)))))
 (pss_cons (ps_for PassesOwn.never rfl (pi_range3 (by rfl) N.range (pa_cons (pe_op op_sub (pe_callB call_len_seq (by rfl) N.len (by decide +kernel) (pa_cons (pv 8) pa_nil)) pe_int) (pa_cons (pe_un un_neg pe_int) (pa_cons (pe_un un_neg pe_int) pa_nil)))) (pg_name (i := 10) sc_law.nd rfl (.inl rfl))
 (pss_cons (ps_if (pt_cmpR op_ne (C8.pe_c c_truth hr (by decide) rfl (pa_cons (pv 9) (pa_cons pe_str (pa_cons (pv 6) pa_nil)))) (pe_ix ix_list (pv 8) (pv 10) (fun _ _ => rfl)) (nomark _))
 (pss_one (ps_ret pe_bl))
 pss_nil)
 (pss_one (ps_expr (pe_bm PySem.F.plainAttrs_list PySem.F.slot_list_insert PySem.F.type_list_insert mt_insert (pv 9) (pa_cons (C8.pe_c c__law_take hr (by decide) rfl (pa_cons (pv 2) (pa_cons (pe_op op_add (pe_callB call_len_seq (by rfl) N.len (by decide +kernel) (pa_cons (pv 9) pa_nil)) pe_int) pa_nil))) (pa_cons (pe_tup (pa_cons pe_int (pa_cons pe_str (pa_cons (pe_op op_add pe_int (pv 10)) (pa_cons pe_str (pa_cons pe_str (pa_cons (pv 6) (pa_cons (pe_ix ix_list (pv 8) (pv 10) (fun _ _ => rfl)) pa_nil)))))))) pa_nil)))))))
 (pss_one (ps_if (PW.pt (pw_or (pt_cmpR op_ne (C8.pe_c c_truth hr (by decide) rfl (pa_cons (pv 9) (pa_cons pe_str (pa_cons (pv 6) pa_nil)))) pe_int (nomark _)) (pw_or1 (pt_not (pt_val (C8.pe_c c_is_log hr (by decide) rfl (pa_cons (pv 9) pa_nil)))))))
 (pss_one (ps_ret pe_bl))
 pss_nil))))))))))))))
 (pss_one (ps_ret pe_bl))), ?_⟩
    refine ⟨_, rfl, a, _, rfl, .inl hS, _, 10, rfl, 1, _, rfl, rfl, ?_⟩
    have hm : 0 ≤ (if (10 : Int) < ((ns.map V.int).length : Nat) then (10 : Int) else ((ns.map V.int).length : Nat)) ∧ (if (10 : Int) < ((ns.map V.int).length : Nat) then (10 : Int) else ((ns.map V.int).length : Nat)) ≤ 10 := by
      split <;> omega
    generalize (if (10 : Int) < ((ns.map V.int).length : Nat) then (10 : Int) else ((ns.map V.int).length : Nat)) = mn at hm ⊢
    refine ⟨1 + mn, rfl, by omega, by omega, for_range (fun _ σ H1 => ∃ y1 y2 y3 y4 y5 y6 y7 y8 y9 y10 y11 y12 y13, σ = [some (.ref a), y1, y2, y3, y4, y5, y6, y7, y8, y9, y10, y11, y12, y13] ∧ Same H H1) ⟨none, none, none, none, none, none, none, none, none, none, none, none, none, rfl, Same.refl H⟩ ?_ (fun σ H1 _ => q H1)⟩
    rintro i σ H1 hi ⟨y1, y2, y3, y4, y5, y6, y7, y8, y9, y10, y11, y12, y13, rfl, sm1⟩
    -- bag
    refine ⟨_, rfl, _, rfl, a, ns, _, rfl, sm1.seq hS, by omega, by omega, fun b H2 nb sm2 G2 => ?_⟩
    have nb0 : H b = none := sm1.free nb
    have s2 : Same H H2 := sm1.trans sm2
    -- rows
    refine ⟨_, rfl, b, 21, rfl, G2, by decide, by decide, fun m1 H3 m10 m11 B3 G3 => ⟨m1, rfl, by omega, by omega, fun L1 nL1 => draw_rows G3 nL1 (by omega) (fun v Hx Qk Gx hk => ⟨rfl, _, rfl, b, rfl, Gx, fun r p H' e1 e2 e3 e4 e5 e6 e7 e8 => hk r p H' ⟨e1, e2, e3, e4, e5, e6, e7, e8⟩⟩) fun H4 ys1 rs1 b4 G4 hL1 hA1 ok1 hl1 => ?_⟩⟩
    have s4 : Same H H4 := same_but s2 nb0 (B3.trans b4)
    have L1b : L1 ≠ b := G3.ne nL1
    have g1 : LogAt K H4 L1 rs1 := ⟨ys1, hL1, hA1⟩
    have v1 : VOk rs1 := fun r hr => (ok1 r hr).ok
    -- more
    refine ⟨_, rfl, b, 16, rfl, G4, by decide, by decide, fun m2 H5 m20 m21 B5 G5 => ⟨m2, rfl, by omega, by omega, fun L2 nL2 => draw_rows G5 nL2 (by omega) (fun v Hx Qk Gx hk => ⟨rfl, _, rfl, b, rfl, Gx, fun r p H' e1 e2 e3 e4 e5 e6 e7 e8 => hk r p H' ⟨e1, e2, e3, e4, e5, e6, e7, e8⟩⟩) fun H6 ys2 rs2 b6 G6 hL2 hA2 ok2 hl2 => ?_⟩⟩
    have s6 : Same H H6 := same_but s4 nb0 (B5.trans b6)
    have g16 : LogAt K H6 L1 rs1 := g1.bag G4 L1b (B5.trans b6)
    have g26 : LogAt K H6 L2 rs2 := ⟨ys2, hL2, hA2⟩
    have v2 : VOk rs2 := fun r hr => (ok2 r hr).ok
    have l1 : rs1.length ≤ 20 := by omega
    have l2 : rs2.length ≤ 15 := by omega
    clear hL1 hA1 hL2 hA2 g1 hl1 hl2 b4 b6 B3 B5
    -- first
    refine ⟨_, rfl, _, rs1, rfl, g16.dp, by omega, v1, fun H7 s7 => ?_⟩
    have g17 := g16.same s7
    have g27 := g26.same s7
    have G7 := G6.same s7
    have s07 := s6.trans s7
    refine ⟨fun σ' H' => σ' = [some (.ref a), some (.int (0 + (i : Int))), some (.ref b), some (.ref L1), some (.ref L2), some (optV (staleF rs1)), y6, y7, y8, y9, y10, y11, y12, y13] ∧ Same H7 H', ?_, ?_⟩
    · refine ⟨_, rfl, rfl, _, rfl, ?_⟩
      cases hst : staleF rs1 with
      | none =>
        rw [show (!decide (optV none = V.non)) = false by simp [optV]]
        exact iteF (iteF ⟨by rw [← hst]; rfl, Same.refl _⟩)
      | some x =>
        rw [show (!decide (optV (some x) = V.non)) = true by simp [optV]]
        obtain ⟨z1, h1, a1⟩ := g17
        obtain ⟨z2, h2, a2⟩ := g27
        have e1 := LogAt.len ⟨z1, h1, a1⟩ h1
        have e2 := LogAt.len ⟨z2, h2, a2⟩ h2
        refine iteT ⟨_, rfl, _, rfl, L1, L2, _, _, rfl, rfl, h1, h2, by rw [sizeLine_eq]; omega, fun R nR => ?_⟩
        have sR := same_upd (o := .lst (z1 ++ z2)) nR
        refine ⟨_, rs1 ++ rs2, rfl, .lst (SqL.of upd_same) (by rw [List.map_append]; exact dpAll_append (dp_sameAll sR _ _ a1) (dp_sameAll sR _ _ a2)), by rw [List.length_append]; omega, ok_app v1 v2, fun H8 s8 => ?_⟩
        refine ⟨_, rfl, by rw [staleF_app hst]; rfl, _, rfl, ?_⟩
        rw [staleF_app hst, show (!decide (optV (some x) = optV (some x))) = false by simp]
        exact iteF ⟨by rw [← hst]; rfl, sR.trans s8⟩
    rintro σ' H8 ⟨rfl, s8⟩
    have g18 := g17.same s8
    have G8 := G7.same s8
    have s08 := s07.trans s8
    clear g17 g27 G7 g16 g26 G6
    -- page
    refine ⟨_, rfl, b, 4, rfl, G8, by decide, by decide, fun pg H9 pg0 pg1 B9 G9 => ?_⟩
    have g19 := g18.bag G8 L1b B9
    have s09 := same_but s08 nb0 B9
    refine ⟨fun σ' H' => (∃ x7, σ' = [some (.ref a), some (.int (0 + (i : Int))), some (.ref b), some (.ref L1), some (.ref L2), some (optV (staleF rs1)), some (.int pg), x7, y8, y9, y10, y11, y12, y13]) ∧ Same H9 H', ?_, ?_⟩
    · refine ⟨_, rfl, _, rs1, rfl, g19.dp, by omega, v1, fun Ha sa => ⟨rfl, _, rfl, ?_⟩⟩
      cases hst : staleF rs1 with
      | some x =>
        rw [show decide (optV (some x) = V.non) = false by simp [optV]]
        exact iteF ⟨⟨_, by rw [← hst]; rfl⟩, sa⟩
      | none =>
        rw [show decide (optV none = V.non) = true by simp [optV]]
        have ga := g19.same sa
        refine iteT ⟨_, rfl, _, rfl, _, rfl, _, rs1, "a", pg, rfl, ga.dp, by omega, v1, okA, fun Hb sb => ⟨(by show 7 ≤ sizeLine; decide), fun t nt => ⟨(by show 1 ≤ sizeLine; decide), fun Ll nLl => ?_⟩⟩⟩
        have st := same_upd (o := .tup [V.int 99, V.str "read", V.int 77, V.str "ann", V.str "a", V.int pg, V.int (truthF rs1 "a" pg)]) nt
        have ht := upd_same (H := Hb) (a := t) (o := .tup [V.int 99, V.str "read", V.int 77, V.str "ann", V.str "a", V.int pg, V.int (truthF rs1 "a" pg)])
        have sl := same_upd (o := .lst [V.ref t]) nLl
        have hl := upd_same (H := upd Hb t (.tup [V.int 99, V.str "read", V.int 77, V.str "ann", V.str "a", V.int pg, V.int (truthF rs1 "a" pg)])) (a := Ll) (o := .lst [V.ref t])
        have ht2 := sl _ _ ht
        have s9c := sa.trans (sb.trans (st.trans sl))
        have gc := ga.same (sb.trans (st.trans sl))
        revert hl ht2 s9c gc
        generalize (upd (upd Hb t (.tup [V.int 99, V.str "read", V.int 77, V.str "ann", V.str "a", V.int pg, V.int (truthF rs1 "a" pg)])) Ll (.lst [V.ref t])) = Hc
        intro hl ht2 s9c gc
        clear ht st sl
        obtain ⟨z1, h1, a1⟩ := gc
        have e1 := LogAt.len ⟨z1, h1, a1⟩ h1
        -- right, it is not stale
        refine ⟨_, rfl, _, rfl, L1, Ll, _, _, rfl, rfl, h1, hl, by rw [sizeLine_eq]; show z1.length + 1 ≤ _; omega, fun R nR => ?_⟩
        have sR := same_upd (o := .lst (z1 ++ [V.ref t])) nR
        refine ⟨_, rs1 ++ [row0 pg (truthF rs1 "a" pg)], rfl, .lst (SqL.of upd_same) (by rw [List.map_append]; exact dpAll_append (dp_sameAll sR _ _ a1) (.cons (dp_same sR _ _ (row_dp (SqT.of ht2))) .nil)), by rw [List.length_append]; show _ + 1 ≤ _; omega, ok_app v1 (ok_one (row0_ok _ _)), fun Hd sd => ⟨rfl, _, rfl, ?_⟩⟩
        rw [staleF_one hst, if_neg (fun z => z.2 rfl), show (!decide (optV none = V.non)) = false by simp [optV]]
        refine iteF ?_
        have sRd := sR.trans sd
        have h1d := sRd _ _ h1
        have hld := sRd _ _ hl
        have htd := sRd _ _ ht2
        have a1d := dp_sameAll sRd _ _ a1
        -- one more, it is
        refine ⟨_, rfl, _, rfl, Ll, _, 0, _, rfl, rfl, SqL.of hld, atI_nat (j := 0) rfl, 6, rfl, t, _, rfl, SqT.of htd, (fun z => absurd (show HT.sIx 7 7 (some 6) = 7 from z.2) (by decide)), fun u nu => ?_⟩
        have su := same_upd (o := .tup (cutV [V.int 99, V.str "read", V.int 77, V.str "ann", V.str "a", V.int pg, V.int (truthF rs1 "a" pg)] none (some 6))) nu
        have hu : SqT K (upd Hd u (.tup (cutV [V.int 99, V.str "read", V.int 77, V.str "ann", V.str "a", V.int pg, V.int (truthF rs1 "a" pg)] none (some 6)))) u [V.int 99, V.str "read", V.int 77, V.str "ann", V.str "a", V.int pg] := SqT.of upd_same
        refine ⟨_, rfl, Ll, _, 0, _, rfl, rfl, SqL.of (su _ _ hld), atI_nat (j := 0) rfl, t, _, 6, _, rfl, rfl, SqT.of (su _ _ htd), atI_nat (j := 6) rfl, truthF rs1 "a" pg, 1, rfl, rfl, (by show 1 ≤ sizeLine; decide), fun w nw => ?_⟩
        have sw := same_upd (o := .tup [V.int (truthF rs1 "a" pg + 1)]) nw
        refine ⟨u, w, _, _, rfl, rfl, sqT_same sw hu, SqT.of upd_same, (by show 7 ≤ sizeLine; decide), (fun z => nomatch z), (fun _ z => nomatch z), fun _ _ x nx => ⟨(by show 1 ≤ sizeLine; decide), fun Lx nLx => ?_⟩⟩
        have sx := same_upd (o := .tup ([V.int 99, V.str "read", V.int 77, V.str "ann", V.str "a", V.int pg] ++ [V.int (truthF rs1 "a" pg + 1)])) nx
        have slx := same_upd (o := .lst [V.ref x]) nLx
        have hx := slx _ _ (upd_same (H := upd (upd Hd u (.tup (cutV [V.int 99, V.str "read", V.int 77, V.str "ann", V.str "a", V.int pg, V.int (truthF rs1 "a" pg)] none (some 6)))) w (.tup [V.int (truthF rs1 "a" pg + 1)])) (a := x) (o := .tup ([V.int 99, V.str "read", V.int 77, V.str "ann", V.str "a", V.int pg] ++ [V.int (truthF rs1 "a" pg + 1)])))
        have sE := su.trans (sw.trans (sx.trans slx))
        refine ⟨L1, Lx, _, _, rfl, rfl, sE _ _ h1d, upd_same, by rw [sizeLine_eq]; show z1.length + 1 ≤ _; omega, fun R2 nR2 => ?_⟩
        have sR2 := same_upd (o := .lst (z1 ++ [V.ref x])) nR2
        refine ⟨_, rs1 ++ [row0 pg (truthF rs1 "a" pg + 1)], rfl, .lst (SqL.of upd_same) (by rw [List.map_append]; exact dpAll_append (dp_sameAll (sE.trans sR2) _ _ a1d) (.cons (dp_same sR2 _ _ (row_dp (SqT.of hx))) .nil)), by rw [List.length_append]; show _ + 1 ≤ _; omega, ok_app v1 (ok_one (row0_ok _ _)), fun Hf sf => ?_⟩
        have e77 : staleF (rs1 ++ [row0 pg (truthF rs1 "a" pg + 1)]) = some 77 := by
          rw [staleF_one hst]
          refine if_pos ⟨rfl, fun z => ?_⟩
          have z2 : truthF rs1 "a" pg + 1 = truthF rs1 "a" pg := Option.some.inj z
          omega
        refine ⟨by rw [e77]; rfl, _, rfl, ?_⟩
        rw [e77, show (!decide (optV (some 77) = V.int 77)) = false by simp [optV]]
        exact iteF ⟨⟨_, by rw [← hst]; rfl⟩, s9c.trans (sRd.trans (sE.trans (sR2.trans sf)))⟩
    rintro σ' Ha ⟨⟨x7, rfl⟩, sa⟩
    have Ga := G9.same sa
    have s0a := s09.trans sa
    clear g18 g19 G8 G9
    -- values
    refine ⟨_, rfl, b, 12, rfl, Ga, by decide, by decide, fun nv Hb nv0 nv1 Bb Gb => ⟨1, nv, rfl, rfl, 1 + nv, rfl, by omega, by omega, fun Lv nLv => ?_⟩⟩
    have Lvb : Lv ≠ b := Gb.ne nLv
    have s0b := same_but s0a nb0 Bb
    refine lc_it walk_range (fun j H4 => But b Hb H4 ∧ Bag H4 b ∧ ∃ vals : List Int, H4 Lv = some (.lst (vals.map V.int)) ∧ vals.length = j) ⟨But.new nLv, Gb.new nLv, [], upd_same, rfl⟩ (fun _ _ _ _ => trivial) ?_ ?_
    · rintro j v H4 H5 hj ⟨b4, G4, vals, hL4, hl4⟩ ⟨rfl, hv⟩
      refine ⟨rfl, ⟨_, rfl, b, 999, rfl, G4, by decide, by decide, fun x H6 x0 x1 B6 G6 => ⟨1, x, rfl, rfl, _, B6 _ _ Lvb hL4, ?_, ?_, G6.at Lvb, vals ++ [1 + x], ?_, ?_⟩⟩⟩
      · rw [List.length_map, sizeLine_eq]
        omega
      · intro c o ne e
        rw [upd_ne (ne_of_none e nLv)]
        exact B6 _ _ ne (b4 _ _ ne e)
      · rw [upd_same, List.map_append]
        rfl
      · rw [List.length_append, hl4]
        rfl
    rintro Hc ⟨bc, Gc, vals, hLv, hlv⟩
    have s0c := same_but s0b nb0 bc
    have nLv0 : H Lv = none := s0b.free nLv
    have hlv1 : 1 ≤ vals.length ∧ vals.length ≤ 12 := by omega
    -- log
    refine ⟨Nat.zero_le _, fun Lg nLg => ?_⟩
    have Lgb : Lg ≠ b := Gc.ne nLg
    have nLg0 : H Lg = none := s0c.free nLg
    have LvLg : Lv ≠ Lg := ne_of_none hLv nLg
    have sg := same_upd (o := .lst []) nLg
    refine ⟨_, rfl, Lv, _, rfl, SqL.of (sg _ _ hLv), for_it (walk_enum (K := K) (a := Lv) (xs := vals.map V.int)) (fun m σ Hd => (∃ x10 x11 x12, σ = [some (.ref a), some (.int (0 + (i : Int))), some (.ref b), some (.ref L1), some (.ref L2), some (optV (staleF rs1)), some (.int pg), x7, some (.ref Lv), some (.ref Lg), x10, x11, x12, y13]) ∧ Same H Hd ∧ Bag Hd b ∧ Hd Lv = some (.lst (vals.map V.int)) ∧ ∃ rs, LogAt K Hd Lg rs ∧ (∀ r ∈ rs, Both r) ∧ rs.length ≤ m + m ∧ LInv vals pg m m rs)
      ⟨⟨_, _, _, rfl⟩, s0c.trans sg, Gc.new nLg, sg _ _ hLv, [], ⟨[], upd_same, .nil⟩, (fun r hr => by cases hr), Nat.zero_le _, ⟨rfl, fun j hj => by simp [lostS]⟩⟩ (fun _ _ _ _ z => SqL.of z.2.2.2.1) ?_ ?_⟩
    · rintro m x σ Hd He hmx ⟨⟨x10, x11, x12, rfl⟩, sd, Gd, hLvd, rs, gd, okd, hld, inv⟩ ⟨T, x, y, rfl, nT, rfl, hx, hy⟩
      cases hx
      rw [List.length_map] at hmx
      have hy : (vals.map V.int)[m]? = some y := hy
      rw [List.getElem?_map] at hy
      obtain ⟨v, hv, rfl⟩ := Option.map_eq_some_iff.mp hy
      have evd : vals.getD m 0 = v := by rw [List.getD_eq_getElem?_getD, hv]; rfl
      have sT := same_upd (o := .tup [V.int (m : Nat), V.int v]) nT
      have hT := upd_same (H := Hd) (a := T) (o := .tup [V.int (m : Nat), V.int v])
      have gT := gd.same sT
      have hLvT := sT _ _ hLvd
      have GT := Gd.same sT
      have s0T := sd.trans sT
      revert hT gT hLvT GT s0T
      generalize upd Hd T (.tup [V.int (m : Nat), V.int v]) = He
      intro hT gT hLvT GT s0T
      refine ⟨T, _, rfl, SqT.of hT, rfl, _, _, rfl, _, _, rfl, rfl, ?_⟩
      -- append
      obtain ⟨ys, hLg, hA⟩ := gT
      have hyl := LogAt.len ⟨ys, hLg, hA⟩ hLg
      refine ⟨_, rfl, .inl ⟨rfl, _, SqL.of hLg⟩, _, rfl, _, rfl, 10, _, rfl, rfl, _, rfl, _, rfl, (by show 7 ≤ sizeLine; decide), fun t nt => ?_⟩
      have st := same_upd (o := .tup [V.int ((m : Nat) : Int), V.str "wrote", V.int (10 + ((m : Nat) : Int)), V.str "bo", V.str "a", V.int pg, V.int v]) nt
      have hLgt := st _ _ hLg
      refine ⟨Lg, ys, _, rfl, rfl, hLgt, by rw [sizeLine_eq]; omega, ?_⟩
      have kt : Kt He (upd (upd He t (.tup [V.int ((m : Nat) : Int), V.str "wrote", V.int (10 + ((m : Nat) : Int)), V.str "bo", V.str "a", V.int pg, V.int v])) Lg (.lst (ys ++ [.ref t]))) := (Kt.same st).trans (Kt.upd hLgt (fun z => z))
      have gf : LogAt K (upd (upd He t (.tup [V.int ((m : Nat) : Int), V.str "wrote", V.int (10 + ((m : Nat) : Int)), V.str "bo", V.str "a", V.int pg, V.int v])) Lg (.lst (ys ++ [.ref t]))) Lg (rs ++ [⟨(m : Nat), "wrote", 10 + ((m : Nat) : Int), "bo", "a", pg, some v⟩]) := by
        refine ⟨_, upd_same, ?_⟩
        rw [List.map_append]
        exact dpAll_append (dp_ktAll kt _ _ (rows_imm _) hA) (.cons (dp_kt (Kt.upd hLgt (fun z => z)) _ _ (rowD_imm _) (row_dp (SqT.of upd_same))) .nil)
      have sf : Same H (upd (upd He t (.tup [V.int ((m : Nat) : Int), V.str "wrote", V.int (10 + ((m : Nat) : Int)), V.str "bo", V.str "a", V.int pg, V.int v])) Lg (.lst (ys ++ [.ref t]))) := fun c o e => by
        rw [upd_ne (ne_of_none e nLg0)]
        exact st _ _ (s0T _ _ e)
      have Gf := (GT.same st).at (o := .lst (ys ++ [.ref t])) Lgb
      have hLvf : upd (upd He t (.tup [V.int ((m : Nat) : Int), V.str "wrote", V.int (10 + ((m : Nat) : Int)), V.str "bo", V.str "a", V.int pg, V.int v])) Lg (.lst (ys ++ [.ref t])) Lv = some (.lst (vals.map V.int)) := by
        rw [upd_ne LvLg]
        exact st _ _ hLvT
      revert gf sf Gf hLvf
      generalize upd (upd He t (.tup [V.int ((m : Nat) : Int), V.str "wrote", V.int (10 + ((m : Nat) : Int)), V.str "bo", V.str "a", V.int pg, V.int v])) Lg (.lst (ys ++ [.ref t])) = Hf
      intro gf sf Gf hLvf
      have okf := both_app okd (fun r (hr : r ∈ [(⟨(m : Nat), "wrote", 10 + ((m : Nat) : Int), "bo", "a", pg, some v⟩ : LRow)]) => show Both r by
        rw [List.mem_singleton.mp hr]
        exact ⟨⟨by show (0 : Int) ≤ (m : Nat); omega, inWrote, by show (0 : Int) ≤ 10 + ((m : Nat) : Int); omega, nameBo, nameA, ⟨pg0, by show pg ≤ 3; omega⟩, fun z => nomatch z⟩, ⟨fun _ => ⟨v, rfl⟩, okWrote, okBo, okA⟩⟩)
      have invf := inv.put (r := ⟨(m : Nat), "wrote", 10 + ((m : Nat) : Int), "bo", "a", pg, some v⟩) (Nat.le_refl _) rfl rfl rfl rfl (by rw [evd])
      have lenf : (rs ++ [(⟨(m : Nat), "wrote", 10 + ((m : Nat) : Int), "bo", "a", pg, some v⟩ : LRow)]).length ≤ m + m + 1 := by
        rw [List.length_append]
        show rs.length + 1 ≤ _
        omega
      revert gf okf invf lenf
      generalize rs ++ [(⟨(m : Nat), "wrote", 10 + ((m : Nat) : Int), "bo", "a", pg, some v⟩ : LRow)] = rsf
      intro gf okf invf lenf
      clear kt hLgt hLg hA hyl st nt
      -- other
      refine ⟨_, rfl, b, rfl, Gf, fun r p Hg o1 o2 o3 o4 o5 o6 o7 o8 np Bg Gg hp => ?_⟩
      have dr : Drawn r := ⟨o1, o2, o3, o4, o5, o6, o7, o8⟩
      have gg := gf.bag Gf Lgb Bg
      have s0g := same_but sf nb0 Bg
      have hLvg := Bg _ _ Lvb hLvf
      obtain ⟨p', ep, hpT⟩ := dp_row hp
      cases ep
      refine ⟨_, rfl, p, _, 4, _, rfl, rfl, hpT, atI_nat (j := 4) rfl, _, rfl, p, _, 5, _, rfl, rfl, hpT, atI_nat (j := 5) rfl, two_ok _ _, fun t1 n1 => ⟨_, rfl, two_ok _ _, fun t2 n2 => ?_⟩⟩
      have u1 := same_upd (o := .tup [V.str r.f, V.int r.p]) n1
      have u2 := same_upd (o := .tup [V.str "a", V.int pg]) n2
      have ht1 := u2 _ _ (upd_same (H := Hg) (a := t1) (o := .tup [V.str r.f, V.int r.p]))
      refine ⟨_, _, place_dp (SqT.of ht1), place_dp (SqT.of upd_same), place_sh o1.f, place_sh okA, _, rfl, ?_⟩
      have uu := u1.trans u2
      have gh := gg.same uu
      have Gh := Gg.same uu
      have s0h := s0g.trans uu
      have hLvh := uu _ _ hLvg
      have hpTh := sqT_same uu hpT
      have hph := dp_same uu _ _ hp
      clear ht1 u1 u2 uu
      revert gh Gh s0h hLvh hpTh hph
      generalize upd (upd Hg t1 (.tup [V.str r.f, V.int r.p])) t2 (.tup [V.str "a", V.int pg]) = Hh
      intro gh Gh s0h hLvh hpTh hph
      rw [place_eqv]
      have stay : (∃ x10 x11 x12, [some (.ref a), some (.int (0 + (i : Int))), some (.ref b), some (.ref L1), some (.ref L2), some (optV (staleF rs1)), some (.int pg), x7, some (.ref Lv), some (.ref Lg), some (V.int ((m : Nat) : Int)), some (V.int v), some (V.ref p), y13] = [some (.ref a), some (.int (0 + (i : Int))), some (.ref b), some (.ref L1), some (.ref L2), some (optV (staleF rs1)), some (.int pg), x7, some (.ref Lv), some (.ref Lg), x10, x11, x12, y13]) ∧ Same H Hh ∧ Bag Hh b ∧ Hh Lv = some (.lst (vals.map V.int)) ∧ ∃ rs, LogAt K Hh Lg rs ∧ (∀ r ∈ rs, Both r) ∧ rs.length ≤ m + 1 + (m + 1) ∧ LInv vals pg (m + 1) (m + 1) rs :=
        ⟨⟨_, _, _, rfl⟩, s0h, Gh, hLvh, rsf, gh, okf, by omega, invf⟩
      by_cases hpl : r.f = "a" ∧ r.p = pg
      · rw [show (!(decide (r.f = "a") && decide (r.p = pg))) = false by rw [decide_eq_true hpl.1, decide_eq_true hpl.2]; rfl]
        exact iteF (iteF stay)
      · rw [show (!(decide (r.f = "a") && decide (r.p = pg))) = true by
          by_cases h1 : r.f = "a"
          · rw [decide_eq_false (fun z => hpl ⟨h1, z⟩), Bool.and_false]; rfl
          · rw [decide_eq_false h1]; rfl]
        refine iteT ⟨_, rfl, p, _, 2, _, rfl, rfl, hpTh, atI_nat (j := 2) rfl, 10, r.n, rfl, rfl, _, rfl, ?_⟩
        have fin : ∀ (ys : List V), Hh Lg = some (.lst ys) → DpAll K Hh ys (rsf.map rowD) → ys.length = rsf.length → ¬ (10 ≤ r.n ∧ r.n < 30) → ∀ (n : Int) (Hi : Hp), 0 ≤ n → But b Hh Hi → Bag Hi b →
            Hi Lg = some (.lst ys) ∧ ((∃ x10 x11 x12, [some (.ref a), some (.int (0 + (i : Int))), some (.ref b), some (.ref L1), some (.ref L2), some (optV (staleF rs1)), some (.int pg), x7, some (.ref Lv), some (.ref Lg), some (V.int ((m : Nat) : Int)), some (V.int v), some (V.ref p), y13] = [some (.ref a), some (.int (0 + (i : Int))), some (.ref b), some (.ref L1), some (.ref L2), some (optV (staleF rs1)), some (.int pg), x7, some (.ref Lv), some (.ref Lg), x10, x11, x12, y13]) ∧ Same H (upd Hi Lg (.lst (ys.take n.toNat ++ [.ref p] ++ ys.drop n.toNat))) ∧ Bag (upd Hi Lg (.lst (ys.take n.toNat ++ [.ref p] ++ ys.drop n.toNat))) b ∧ (upd Hi Lg (.lst (ys.take n.toNat ++ [.ref p] ++ ys.drop n.toNat))) Lv = some (.lst (vals.map V.int)) ∧ ∃ rs, LogAt K (upd Hi Lg (.lst (ys.take n.toNat ++ [.ref p] ++ ys.drop n.toNat))) Lg rs ∧ (∀ r ∈ rs, Both r) ∧ rs.length ≤ m + 1 + (m + 1) ∧ LInv vals pg (m + 1) (m + 1) rs) := by
          intro ys hLg hA hyl hno n Hi n0 Bi Gi
          have hLi := Bi _ _ Lgb hLg
          refine ⟨hLi, ⟨_, _, _, rfl⟩, ?_, Gi.at Lgb, ?_, rsf.take n.toNat ++ [r] ++ rsf.drop n.toNat, ⟨_, upd_same, ?_⟩, both_ins _ okf ⟨dr.good, o1⟩, ?_, ?_⟩
          · intro c o e
            rw [upd_ne (ne_of_none e nLg0)]
            exact same_but s0h nb0 Bi _ _ e
          · rw [upd_ne LvLg]
            exact Bi _ _ Lvb hLvh
          · have ki := (Kt.bag Bi Gh).trans (Kt.upd (o' := .lst (ys.take n.toNat ++ [.ref p] ++ ys.drop n.toNat)) hLi (fun z => z))
            rw [List.map_append, List.map_append, List.map_take, List.map_drop]
            exact dpA_ins _ (dp_kt ki _ _ (rowD_imm r) hph) (dp_ktAll ki _ _ (rows_imm _) hA)
          · rw [ins_len]
            omega
          · refine invf.ins _ ?_ fun j hj z => hno (by omega)
            unfold isW
            by_cases h1 : r.f = "a"
            · rw [decide_eq_false (fun z => hpl ⟨h1, z⟩), Bool.and_false, Bool.and_false]
            · rw [decide_eq_false h1, Bool.false_and, Bool.and_false]
        obtain ⟨ys, hLg, hA⟩ := gh
        have hyl := LogAt.len ⟨ys, hLg, hA⟩ hLg
        have doIns := fin ys hLg hA hyl
        by_cases h10 : 10 ≤ r.n
        · refine iteD' h10 ⟨_, _, rfl, rfl, _, rfl, ?_⟩
          by_cases h30 : r.n < 30
          · rw [decide_eq_true h30]
            exact iteF stay
          · rw [decide_eq_false h30]
            refine iteT ⟨_, rfl, .inl ⟨rfl, _, SqL.of hLg⟩, _, rfl, _, rfl, Lg, _, rfl, .inl (SqL.of hLg), _, 1, rfl, rfl, b, _, rfl, Gh, by omega, by omega, fun n Hi n0 n1 Bi Gi => ⟨_, rfl, ?_⟩⟩
            obtain ⟨w1, w2⟩ := doIns (fun z => h30 z.2) n Hi n0 Bi Gi
            exact ⟨Lg, ys, n, _, rfl, rfl, w1, by rw [sizeLine_eq]; omega, n0, by omega, w2⟩
        · refine iteD h10 ⟨_, rfl, iteT ⟨_, rfl, .inl ⟨rfl, _, SqL.of hLg⟩, _, rfl, _, rfl, Lg, _, rfl, .inl (SqL.of hLg), _, 1, rfl, rfl, b, _, rfl, Gh, by omega, by omega, fun n Hi n0 n1 Bi Gi => ⟨_, rfl, ?_⟩⟩⟩
          obtain ⟨w1, w2⟩ := doIns (fun z => h10 z.1) n Hi n0 Bi Gi
          exact ⟨Lg, ys, n, _, rfl, rfl, w1, by rw [sizeLine_eq]; omega, n0, by omega, w2⟩
    -- told as lost, from the last one on
    rintro σ Hd ⟨⟨x10, x11, x12, rfl⟩, sd, Gd, hLvd, rs, gd, okd, hld, inv⟩
    rw [List.length_map] at hld inv
    have en : (((vals.map V.int).length : Nat) : Int) - 1 = (vals.length : Int) - 1 := by rw [List.length_map]
    refine ⟨_, rfl, Lv, _, rfl, .inl (SqL.of hLvd), _, 1, rfl, rfl, 1, rfl, 1, rfl, _, _, _, vals.length, rfl, ?_, for_rangeC (fun t σ He => (∃ x10 x11 x12, σ = [some (.ref a), some (.int (0 + (i : Int))), some (.ref b), some (.ref L1), some (.ref L2), some (optV (staleF rs1)), some (.int pg), x7, some (.ref Lv), some (.ref Lg), x10, x11, x12, y13]) ∧ Same H He ∧ Bag He b ∧ He Lv = some (.lst (vals.map V.int)) ∧ ∃ rs, LogAt K He Lg rs ∧ (∀ r ∈ rs, Both r) ∧ rs.length ≤ 30 + t ∧ LInv vals pg vals.length (vals.length - t) rs)
      ⟨⟨_, _, _, rfl⟩, sd, Gd, hLvd, rs, gd, okd, by omega, inv⟩ ?_ ?_⟩
    · rw [en]
      have := RgC.neg (i := (vals.length : Int) - 1) (j := -1) (by omega) (by omega) (by omega) (by omega)
      rw [show ((vals.length : Int) - 1 - -1).toNat = vals.length by omega] at this
      exact this
    · rintro t σ He ht ⟨⟨x10, x11, x12, rfl⟩, se, Ge, hLve, rs, ge, oke, hle, inve⟩
      obtain ⟨c, hc⟩ : ∃ c, vals.length - t = c + 1 := ⟨vals.length - t - 1, by omega⟩
      rw [hc] at inve
      have hcl : c < vals.length := by omega
      have eat : (((vals.map V.int).length : Nat) : Int) - 1 + (t : Nat) * -1 = (c : Int) := by rw [List.length_map]; omega
      have eti := inve.truth hcl (by omega)
      have hav : atI (vals.map V.int) (((vals.map V.int).length : Nat) - 1 + (t : Nat) * -1) = some (.int (vals.getD c 0)) := by
        rw [eat]
        refine atI_nat ?_
        rw [List.getElem?_map, List.getElem?_eq_getElem hcl, List.getD_eq_getElem?_getD, List.getElem?_eq_getElem hcl]
        rfl
      refine ⟨_, rfl, _, rfl, _, rs, "a", pg, rfl, ge.dp, by omega, both_ok oke, okA, fun Hf sf => ?_⟩
      refine ⟨_, rfl, _, rfl, Lv, _, _, _, rfl, rfl, SqL.of (sf _ _ hLve), hav, rfl, _, rfl, ?_⟩
      rw [eti, show (!decide (V.int (vals.getD c 0) = V.int (vals.getD c 0))) = false by simp]
      refine iteF ?_
      have gf := ge.same sf
      have Gf := Ge.same sf
      have s0f := se.trans sf
      have hLvf := sf _ _ hLve
      obtain ⟨ys, hLg, hA⟩ := gf
      have hyl := LogAt.len ⟨ys, hLg, hA⟩ hLg
      refine ⟨_, rfl, .inl ⟨rfl, _, SqL.of hLg⟩, _, rfl, _, rfl, Lg, _, rfl, .inl (SqL.of hLg), _, 1, rfl, rfl, b, _, rfl, Gf, by omega, by omega, fun n Hg n0 n1 Bg Gg => ?_⟩
      have hLgg := Bg _ _ Lgb hLg
      have hLvg := Bg _ _ Lvb hLvf
      have s0g := same_but s0f nb0 Bg
      refine ⟨_, rfl, 10, _, rfl, rfl, _, rfl, _, rfl, _, rfl, Lv, _, _, _, rfl, rfl, SqL.of hLvg, hav, (by show 7 ≤ sizeLine; decide), fun p np => ?_⟩
      rw [eat]
      have sp := same_upd (o := .tup (rowV ⟨40, "lost", 10 + (c : Int), "bo", "a", pg, some (vals.getD c 0)⟩)) np
      have hLgp := sp _ _ hLgg
      refine ⟨Lg, ys, n, _, rfl, rfl, hLgp, by rw [sizeLine_eq]; omega, n0, by omega, ⟨_, _, _, rfl⟩, ?_, (Gg.same sp).at Lgb, ?_, rs.take n.toNat ++ [⟨40, "lost", 10 + (c : Int), "bo", "a", pg, some (vals.getD c 0)⟩] ++ rs.drop n.toNat, ⟨_, upd_same, ?_⟩, both_ins _ oke ?_, ?_, ?_⟩
      · intro z o e
        rw [upd_ne (ne_of_none e nLg0)]
        exact sp _ _ (s0g _ _ e)
      · rw [upd_ne LvLg]
        exact sp _ _ hLvg
      · have ku := Kt.upd (o' := .lst (ys.take n.toNat ++ [.ref p] ++ ys.drop n.toNat)) hLgp (fun z => z)
        have ki := ((Kt.bag Bg Gf).trans (Kt.same sp)).trans ku
        rw [List.map_append, List.map_append, List.map_take, List.map_drop]
        exact dpA_ins _ (dp_kt ku _ _ (rowD_imm _) (row_dp (SqT.of upd_same))) (dp_ktAll ki _ _ (rows_imm _) hA)
      · exact ⟨⟨by show (0 : Int) ≤ 40; decide, inLost, by show (0 : Int) ≤ 10 + (c : Int); omega, nameBo, nameA, ⟨pg0, by show pg ≤ 3; omega⟩, fun z => nomatch z⟩, ⟨fun _ => ⟨_, rfl⟩, okLost, okBo, okA⟩⟩
      · rw [ins_len]
        omega
      · rw [show vals.length - (t + 1) = c by omega]
        exact inve.lose _ hcl rfl rfl
    · rintro σ He ⟨⟨x10, x11, x12, rfl⟩, se, Ge, hLve, rs, ge, oke, hle, inve⟩
      rw [Nat.sub_self] at inve
      refine ⟨_, rfl, _, rfl, _, rs, "a", pg, rfl, ge.dp, by omega, both_ok oke, okA, fun Hf sf => ⟨rfl, _, rfl, ?_⟩⟩
      rw [inve.truth0 (by omega), show (!decide (V.int 0 = V.int 0)) = false by simp]
      refine iteF ⟨_, rfl, _, rs, rfl, (ge.same sf).dp, fun r hr => (oke r hr).g, by omega, fun Hg sg => ⟨_, rfl, iteF ?_⟩⟩
      exact ⟨_, _, _, _, _, _, _, _, _, _, _, _, _, rfl, se.trans (sf.trans sg)⟩

end
theorem all_mk {l : PySem.W.OpenLaw} {w : World} {K : PySem.W.Frag} {h : Heap} {mg : Str → Option Value} {fa f0 f1 f2 f3 f4 f5 f6 f7 f8 f9 f10 f11 f12 f13 : Addr} (X : K.In h) (G : h.Ns mainGlobals mg) (hfa : mg "law" = some (.ref fa))
    {od0 an0 : Option Addr} {sl0 : Array (Option Value)} {oc0 kV0 dc0 pm0 cd0 ct0 : Value} {od1 an1 : Option Addr} {sl1 : Array (Option Value)} {oc1 kV1 dc1 pm1 cd1 ct1 : Value} {od2 an2 : Option Addr} {sl2 : Array (Option Value)} {oc2 kV2 dc2 pm2 cd2 ct2 : Value} {od3 an3 : Option Addr} {sl3 : Array (Option Value)} {oc3 kV3 dc3 pm3 cd3 ct3 : Value} {od4 an4 : Option Addr} {sl4 : Array (Option Value)} {oc4 kV4 dc4 pm4 cd4 ct4 : Value} {od5 an5 : Option Addr} {sl5 : Array (Option Value)} {oc5 kV5 dc5 pm5 cd5 ct5 : Value} {od6 an6 : Option Addr} {sl6 : Array (Option Value)} {oc6 kV6 dc6 pm6 cd6 ct6 : Value} {od7 an7 : Option Addr} {sl7 : Array (Option Value)} {oc7 kV7 dc7 pm7 cd7 ct7 : Value} {od8 an8 : Option Addr} {sl8 : Array (Option Value)} {oc8 kV8 dc8 pm8 cd8 ct8 : Value} {od9 an9 : Option Addr} {sl9 : Array (Option Value)} {oc9 kV9 dc9 pm9 cd9 ct9 : Value} {od10 an10 : Option Addr} {sl10 : Array (Option Value)} {oc10 kV10 dc10 pm10 cd10 ct10 : Value} {od11 an11 : Option Addr} {sl11 : Array (Option Value)} {oc11 kV11 dc11 pm11 cd11 ct11 : Value} {od12 an12 : Option Addr} {sl12 : Array (Option Value)} {oc12 kV12 dc12 pm12 cd12 ct12 : Value} {od13 an13 : Option Addr} {sl13 : Array (Option Value)} {oc13 kV13 dc13 pm13 cd13 ct13 : Value} {ac_WORDS : Addr} {tc_WORDS_0 tc_WORDS_1 tc_WORDS_2 tc_WORDS_3 : Tok} {odc_WORDS : Option Addr} {nc_WORDS : Nat} {slc_WORDS : Array (Option Value)} {tc_LETTERS : Tok} {tc_LONGEST_NAME : Tok} {tc_MOST_ROWS : Tok} {tc_LAST_PAGE : Tok}
    (a0 : PySem.W.nsIn K mainGlobals "is_whole" = some (some (.ref f0)))
    (l0 : K.lookup f0 = some ⟨oc0, od0, .func (PySem.W.fnOf "is_whole" "is_whole" (defArgs s_is_whole) (defBody s_is_whole) (defScope s_is_whole) .none kV0 dc0 pm0 an0 cd0 ct0), sl0⟩)
    (c0 : PySem.W.codeIn K cd0 "is_whole" = true) (k0 : PySem.W.keepIn K (.ref f0) = true)
    (a1 : PySem.W.nsIn K mainGlobals "is_number" = some (some (.ref f1)))
    (l1 : K.lookup f1 = some ⟨oc1, od1, .func (PySem.W.fnOf "is_number" "is_number" (defArgs s_is_number) (defBody s_is_number) (defScope s_is_number) .none kV1 dc1 pm1 an1 cd1 ct1), sl1⟩)
    (c1 : PySem.W.codeIn K cd1 "is_number" = true) (k1 : PySem.W.keepIn K (.ref f1) = true)
    (a2 : PySem.W.nsIn K mainGlobals "is_within" = some (some (.ref f2)))
    (l2 : K.lookup f2 = some ⟨oc2, od2, .func (PySem.W.fnOf "is_within" "is_within" (defArgs s_is_within) (defBody s_is_within) (defScope s_is_within) .none kV2 dc2 pm2 an2 cd2 ct2), sl2⟩)
    (c2 : PySem.W.codeIn K cd2 "is_within" = true) (k2 : PySem.W.keepIn K (.ref f2) = true)
    (a3 : PySem.W.nsIn K mainGlobals "is_name" = some (some (.ref f3)))
    (l3 : K.lookup f3 = some ⟨oc3, od3, .func (PySem.W.fnOf "is_name" "is_name" (defArgs s_is_name) (defBody s_is_name) (defScope s_is_name) .none kV3 dc3 pm3 an3 cd3 ct3), sl3⟩)
    (c3 : PySem.W.codeIn K cd3 "is_name" = true) (k3 : PySem.W.keepIn K (.ref f3) = true)
    (a4 : PySem.W.nsIn K mainGlobals "is_tuple" = some (some (.ref f4)))
    (l4 : K.lookup f4 = some ⟨oc4, od4, .func (PySem.W.fnOf "is_tuple" "is_tuple" (defArgs s_is_tuple) (defBody s_is_tuple) (defScope s_is_tuple) .none kV4 dc4 pm4 an4 cd4 ct4), sl4⟩)
    (c4 : PySem.W.codeIn K cd4 "is_tuple" = true) (k4 : PySem.W.keepIn K (.ref f4) = true)
    (a5 : PySem.W.nsIn K mainGlobals "is_log_row" = some (some (.ref f5)))
    (l5 : K.lookup f5 = some ⟨oc5, od5, .func (PySem.W.fnOf "is_log_row" "is_log_row" (defArgs s_is_log_row) (defBody s_is_log_row) (defScope s_is_log_row) .none kV5 dc5 pm5 an5 cd5 ct5), sl5⟩)
    (c5 : PySem.W.codeIn K cd5 "is_log_row" = true) (k5 : PySem.W.keepIn K (.ref f5) = true)
    (a6 : PySem.W.nsIn K mainGlobals "is_log" = some (some (.ref f6)))
    (l6 : K.lookup f6 = some ⟨oc6, od6, .func (PySem.W.fnOf "is_log" "is_log" (defArgs s_is_log) (defBody s_is_log) (defScope s_is_log) .none kV6 dc6 pm6 an6 cd6 ct6), sl6⟩)
    (c6 : PySem.W.codeIn K cd6 "is_log" = true) (k6 : PySem.W.keepIn K (.ref f6) = true)
    (a7 : PySem.W.nsIn K mainGlobals "last_value" = some (some (.ref f7)))
    (l7 : K.lookup f7 = some ⟨oc7, od7, .func (PySem.W.fnOf "last_value" "last_value" (defArgs s_last_value) (defBody s_last_value) (defScope s_last_value) .none kV7 dc7 pm7 an7 cd7 ct7), sl7⟩)
    (c7 : PySem.W.codeIn K cd7 "last_value" = true) (k7 : PySem.W.keepIn K (.ref f7) = true)
    (a8 : PySem.W.nsIn K mainGlobals "truth" = some (some (.ref f8)))
    (l8 : K.lookup f8 = some ⟨oc8, od8, .func (PySem.W.fnOf "truth" "truth" (defArgs s_truth) (defBody s_truth) (defScope s_truth) .none kV8 dc8 pm8 an8 cd8 ct8), sl8⟩)
    (c8 : PySem.W.codeIn K cd8 "truth" = true) (k8 : PySem.W.keepIn K (.ref f8) = true)
    (a9 : PySem.W.nsIn K mainGlobals "first_stale" = some (some (.ref f9)))
    (l9 : K.lookup f9 = some ⟨oc9, od9, .func (PySem.W.fnOf "first_stale" "first_stale" (defArgs s_first_stale) (defBody s_first_stale) (defScope s_first_stale) .none kV9 dc9 pm9 an9 cd9 ct9), sl9⟩)
    (c9 : PySem.W.codeIn K cd9 "first_stale" = true) (k9 : PySem.W.keepIn K (.ref f9) = true)
    (a10 : PySem.W.nsIn K mainGlobals "_law_bag" = some (some (.ref f10)))
    (l10 : K.lookup f10 = some ⟨oc10, od10, .func (PySem.W.fnOf "_law_bag" "_law_bag" (defArgs s__law_bag) (defBody s__law_bag) (defScope s__law_bag) .none kV10 dc10 pm10 an10 cd10 ct10), sl10⟩)
    (c10 : PySem.W.codeIn K cd10 "_law_bag" = true) (k10 : PySem.W.keepIn K (.ref f10) = true)
    (a11 : PySem.W.nsIn K mainGlobals "_law_take" = some (some (.ref f11)))
    (l11 : K.lookup f11 = some ⟨oc11, od11, .func (PySem.W.fnOf "_law_take" "_law_take" (defArgs s__law_take) (defBody s__law_take) (defScope s__law_take) .none kV11 dc11 pm11 an11 cd11 ct11), sl11⟩)
    (c11 : PySem.W.codeIn K cd11 "_law_take" = true) (k11 : PySem.W.keepIn K (.ref f11) = true)
    (a12 : PySem.W.nsIn K mainGlobals "_law_log_row" = some (some (.ref f12)))
    (l12 : K.lookup f12 = some ⟨oc12, od12, .func (PySem.W.fnOf "_law_log_row" "_law_log_row" (defArgs s__law_log_row) (defBody s__law_log_row) (defScope s__law_log_row) .none kV12 dc12 pm12 an12 cd12 ct12), sl12⟩)
    (c12 : PySem.W.codeIn K cd12 "_law_log_row" = true) (k12 : PySem.W.keepIn K (.ref f12) = true)
    (a13 : PySem.W.nsIn K mainGlobals "law" = some (some (.ref f13)))
    (l13 : K.lookup f13 = some ⟨oc13, od13, .func (PySem.W.fnOf "law" "law" (defArgs s_law) (defBody s_law) (defScope s_law) .none kV13 dc13 pm13 an13 cd13 ct13), sl13⟩)
    (c13 : PySem.W.codeIn K cd13 "law" = true) (k13 : PySem.W.keepIn K (.ref f13) = true)
    (g_WORDS : PySem.W.nsIn K mainGlobals "WORDS" = some (some (.ref ac_WORDS)))
    (w_WORDS : K.lookup ac_WORDS = some ⟨.type "tuple", odc_WORDS, .seq #[.str "began" tc_WORDS_0, .str "read" tc_WORDS_1, .str "wrote" tc_WORDS_2, .str "lost" tc_WORDS_3] nc_WORDS, slc_WORDS⟩)
    (g_LETTERS : PySem.W.nsIn K mainGlobals "LETTERS" = some (some (.str "abcdefghijklmnopqrstuvwxyz" tc_LETTERS)))
    (g_LONGEST_NAME : PySem.W.nsIn K mainGlobals "LONGEST_NAME" = some (some (.int 8 tc_LONGEST_NAME)))
    (g_MOST_ROWS : PySem.W.nsIn K mainGlobals "MOST_ROWS" = some (some (.int 1000 tc_MOST_ROWS)))
    (g_LAST_PAGE : PySem.W.nsIn K mainGlobals "LAST_PAGE" = some (some (.int 3 tc_LAST_PAGE)))
    (z_abs : PySem.W.nsIn K mainGlobals "abs" = some none)
    (z_all : PySem.W.nsIn K mainGlobals "all" = some none)
    (z_bool : PySem.W.nsIn K mainGlobals "bool" = some none)
    (z_enumerate : PySem.W.nsIn K mainGlobals "enumerate" = some none)
    (z_int : PySem.W.nsIn K mainGlobals "int" = some none)
    (z_isinstance : PySem.W.nsIn K mainGlobals "isinstance" = some none)
    (z_len : PySem.W.nsIn K mainGlobals "len" = some none)
    (z_list : PySem.W.nsIn K mainGlobals "list" = some none)
    (z_min : PySem.W.nsIn K mainGlobals "min" = some none)
    (z_range : PySem.W.nsIn K mainGlobals "range" = some none)
    (z_reversed : PySem.W.nsIn K mainGlobals "reversed" = some none)
    (z_str : PySem.W.nsIn K mainGlobals "str" = some none)
    (z_tuple : PySem.W.nsIn K mainGlobals "tuple" = some none) :
    ∃ fd : FuncData, (∀ (s : Shared) (v : Value), BindsTo s fd ⟨[v], []⟩ [("script", v)]) ∧ ∀ base : Heap, K.In base → base.Ns mainGlobals mg → FnOk l.prog w K mg base CX0 5 fa fd ["script"] (splaw K) := by
  have N : Fre K mg := ⟨PySem.W.mg_none_of X G z_abs, PySem.W.mg_none_of X G z_all, PySem.W.mg_none_of X G z_bool, PySem.W.mg_none_of X G z_enumerate, PySem.W.mg_none_of X G z_int, PySem.W.mg_none_of X G z_isinstance, PySem.W.mg_none_of X G z_len, PySem.W.mg_none_of X G z_list, PySem.W.mg_none_of X G z_min, PySem.W.mg_none_of X G z_range, PySem.W.mg_none_of X G z_reversed, PySem.W.mg_none_of X G z_str, PySem.W.mg_none_of X G z_tuple, ⟨_, PySem.W.mg_of X G g_WORDS, fun H => .inr ⟨_, _, _, w_WORDS, rfl, rfl, by show 4 ≤ sizeLine; decide, (.cons ⟨_, rfl⟩ (.cons ⟨_, rfl⟩ (.cons ⟨_, rfl⟩ (.cons ⟨_, rfl⟩ .nil))))⟩⟩, ⟨_, PySem.W.mg_of X G g_LETTERS⟩, ⟨_, PySem.W.mg_of X G g_LONGEST_NAME⟩, ⟨_, PySem.W.mg_of X G g_MOST_ROWS⟩, ⟨_, PySem.W.mg_of X G g_LAST_PAGE⟩⟩
  have e := hfa.symm.trans (PySem.W.mg_of X G a13)
  cases e
  have F0 := fun_mk (st := s_is_whole) l0 c0 k0
  have F1 := fun_mk (st := s_is_number) l1 c1 k1
  have F2 := fun_mk (st := s_is_within) l2 c2 k2
  have F3 := fun_mk (st := s_is_name) l3 c3 k3
  have F4 := fun_mk (st := s_is_tuple) l4 c4 k4
  have F5 := fun_mk (st := s_is_log_row) l5 c5 k5
  have F6 := fun_mk (st := s_is_log) l6 c6 k6
  have F7 := fun_mk (st := s_last_value) l7 c7 k7
  have F8 := fun_mk (st := s_truth) l8 c8 k8
  have F9 := fun_mk (st := s_first_stale) l9 c9 k9
  have F10 := fun_mk (st := s__law_bag) l10 c10 k10
  have F11 := fun_mk (st := s__law_take) l11 c11 k11
  have F12 := fun_mk (st := s__law_log_row) l12 c12 k12
  have F13 := fun_mk (st := s_law) l13 c13 k13
  refine ⟨PySem.W.fnOf "law" "law" (defArgs s_law) (defBody s_law) (defScope s_law) .none kV13 dc13 pm13 an13 cd13 ct13, fun s v => .of_eq rfl, fun base _ _ => ?_⟩
  have c_is_whole := ok_is_whole (base := base) (P := l.prog) (w := w) F0 (PySem.W.mg_of X G a0) N
  have c_is_number := ok_is_number (base := base) (P := l.prog) (w := w) F1 (PySem.W.mg_of X G a1) N c_is_whole
  have c_is_within := ok_is_within (base := base) (P := l.prog) (w := w) F2 (PySem.W.mg_of X G a2) N c_is_whole
  have c_is_name := ok_is_name (base := base) (P := l.prog) (w := w) F3 (PySem.W.mg_of X G a3) N
  have c_is_tuple := ok_is_tuple (base := base) (P := l.prog) (w := w) F4 (PySem.W.mg_of X G a4) N
  have c_is_log_row := ok_is_log_row (base := base) (P := l.prog) (w := w) F5 (PySem.W.mg_of X G a5) N c_is_name c_is_number c_is_tuple c_is_whole c_is_within
  have c_is_log := ok_is_log (base := base) (P := l.prog) (w := w) F6 (PySem.W.mg_of X G a6) N c_is_log_row
  have c_last_value := ok_last_value (base := base) (P := l.prog) (w := w) F7 (PySem.W.mg_of X G a7) N
  have c_truth := ok_truth (base := base) (P := l.prog) (w := w) F8 (PySem.W.mg_of X G a8) N c_last_value
  have c_first_stale := ok_first_stale (base := base) (P := l.prog) (w := w) F9 (PySem.W.mg_of X G a9) N c_last_value
  have c__law_bag := ok__law_bag (base := base) (P := l.prog) (w := w) F10 (PySem.W.mg_of X G a10) N
  have c__law_take := ok__law_take (base := base) (P := l.prog) (w := w) F11 (PySem.W.mg_of X G a11) N
  have c__law_log_row := ok__law_log_row (base := base) (P := l.prog) (w := w) F12 (PySem.W.mg_of X G a12) N c__law_take
  exact ok_law (base := base) (P := l.prog) (w := w) F13 N c__law_bag c__law_log_row c__law_take c_first_stale c_is_log c_truth
end My
open PySem PySem.W PyProof.Rows
set_option maxRecDepth 100000 in
set_option maxHeartbeats 0 in
theorem PySem.Challenge.cw_pagelend_k45_whole_logs_made_longer_holds : PySem.Challenge.rw_pagelend_k45_whole_logs_made_longer.Holds := by
  w_on; o_law; k_head; (case hw => w_witness2)
  k_fill
  refine L2.walk_of (l := PySem.Challenge.rw_pagelend_k45_whole_logs_made_longer) (n := 63) (k := 5) (x := "script") (CX := fun _ => L2.CX0) (sp := fun w => My.splaw _) rfl (by decide) rfl ⟨rfl, by decide, by decide⟩ (fun w h Y => PySem.W.kIn_of Y) ?F (fun _ _ a ns hl _ hS => ⟨a, ns, rfl, hS, hl, fun _ => rfl⟩) (fun _ _ _ _ _ h => h)
  case F =>
    intro w mg fa h KX G hmg
    refine' My.all_mk KX G hmg ?a0 ?l0 ?c0 ?k0 ?a1 ?l1 ?c1 ?k1 ?a2 ?l2 ?c2 ?k2 ?a3 ?l3 ?c3 ?k3 ?a4 ?l4 ?c4 ?k4 ?a5 ?l5 ?c5 ?k5 ?a6 ?l6 ?c6 ?k6 ?a7 ?l7 ?c7 ?k7 ?a8 ?l8 ?c8 ?k8 ?a9 ?l9 ?c9 ?k9 ?a10 ?l10 ?c10 ?k10 ?a11 ?l11 ?c11 ?k11 ?a12 ?l12 ?c12 ?k12 ?a13 ?l13 ?c13 ?k13 ?g_WORDS ?w_WORDS ?g_LETTERS ?g_LONGEST_NAME ?g_MOST_ROWS ?g_LAST_PAGE ?z_abs ?z_all ?z_bool ?z_enumerate ?z_int ?z_isinstance ?z_len ?z_list ?z_min ?z_range ?z_reversed ?z_str ?z_tuple
    (case a0 => k_is); (case l0 => k_is); (case c0 => k_is); (case k0 => k_is); (case a1 => k_is); (case l1 => k_is); (case c1 => k_is); (case k1 => k_is); (case a2 => k_is); (case l2 => k_is); (case c2 => k_is); (case k2 => k_is); (case a3 => k_is); (case l3 => k_is); (case c3 => k_is); (case k3 => k_is); (case a4 => k_is); (case l4 => k_is); (case c4 => k_is); (case k4 => k_is); (case a5 => k_is); (case l5 => k_is); (case c5 => k_is); (case k5 => k_is); (case a6 => k_is); (case l6 => k_is); (case c6 => k_is); (case k6 => k_is); (case a7 => k_is); (case l7 => k_is); (case c7 => k_is); (case k7 => k_is); (case a8 => k_is); (case l8 => k_is); (case c8 => k_is); (case k8 => k_is); (case a9 => k_is); (case l9 => k_is); (case c9 => k_is); (case k9 => k_is); (case a10 => k_is); (case l10 => k_is); (case c10 => k_is); (case k10 => k_is); (case a11 => k_is); (case l11 => k_is); (case c11 => k_is); (case k11 => k_is); (case a12 => k_is); (case l12 => k_is); (case c12 => k_is); (case k12 => k_is); (case a13 => k_is); (case l13 => k_is); (case c13 => k_is); (case k13 => k_is); (case g_WORDS => k_is); (case w_WORDS => k_is); (case g_LETTERS => k_is); (case g_LONGEST_NAME => k_is); (case g_MOST_ROWS => k_is); (case g_LAST_PAGE => k_is); (case z_abs => k_is); (case z_all => k_is); (case z_bool => k_is); (case z_enumerate => k_is); (case z_int => k_is); (case z_isinstance => k_is); (case z_len => k_is); (case z_list => k_is); (case z_min => k_is); (case z_range => k_is); (case z_reversed => k_is); (case z_str => k_is); (case z_tuple => k_is)

