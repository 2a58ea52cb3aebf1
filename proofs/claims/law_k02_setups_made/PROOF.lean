
import PyProof.Rows.All
import Wide.All
import OpenK.AllK
import Wide.FinOn
import PySem.Challenge.RW_pagelend_k02_setups_made
import HandS.ForMost
import HandS.Wide
import HandS.Defaults
import HandS.MakeKwOnly
import HandS.IsInst
import HandS.Codes
import HandS.Walk
import HandS.TupAny
import HandS.More
import HandS.Sort
import HandS.Conv
import HandS.HotCalls
import HandS.ExcIs
import KE.KSortTupAny
set_option Elab.async false
set_option linter.all false
set_option maxRecDepth 100000
set_option maxHeartbeats 1000000
namespace My
open PySem PySem.Spec PyProof.Rows L2
def topS (i : Nat) : Stmt := PySem.Challenge.pw_pagelend_k02_setups_made.main.body.getD i (.Pass ⟨0, 0, 0, 0⟩)
structure Fre (K : PySem.W.Frag) (mg : Str → Option Value) : Prop where
  ValueError : mg "ValueError" = none
  abs : mg "abs" = none
  all : mg "all" = none
  bool : mg "bool" = none
  int : mg "int" = none
  isinstance : mg "isinstance" = none
  len : mg "len" = none
  list : mg "list" = none
  min : mg "min" = none
  range : mg "range" = none
  sorted : mg "sorted" = none
  str : mg "str" = none
  tuple : mg "tuple" = none
  c_LETTERS : ∃ t, mg "LETTERS" = some (.str "abcdefghijklmnopqrstuvwxyz" t)
  c_LONGEST_NAME : ∃ t, mg "LONGEST_NAME" = some (.int 8 t)
  c_LENGTH : ∃ t, mg "LENGTH" = some (.int 20 t)
  c_DRIFT : ∃ t, mg "DRIFT" = some (.int 10 t)
  c_MOST : ∃ t, mg "MOST" = some (.int 300 t)
  c_SERVER : ∃ t, mg "SERVER" = some (.str "server" t)
/-! ### calls with keywords, a def kept as its promise -/
structure CalN (P : Program) (w : World) (K : PySem.W.Frag) (mg : Str → Option Value) (base : Heap) (k : Nat) (x : Str) (sp : Sp) (n : Nat) (ks : List Str) (gV : List V → List V → List V) : Prop where
  ex : ∃ (f : Addr) (fd : FuncData) (ps : List Str) (g : List Value → List Value → List Value), FnOk P w K mg base CX0 k f fd ps sp ∧ mg x = some (.ref f) ∧ PySem.W.keepIn K (.ref f) = true ∧ KBn K fd ps n ks g gV
section
variable {X : Cx} {k j n : Nat} {x : Str} {sp : Sp} {ks : List Str} {gV : List V → List V → List V} {p pos : Pos} {e : Expr} {es : List Expr} {kws : List Keyword} {t tk : TA}
theorem pe_cn (c : CalN X.prog X.w X.K X.mg X.base k x sp n ks gV) (hr : Room j X.A) (hk : k ≤ j) (hg : Gl X x) (ha : PA X (e :: es) t) (hkw : PK X kws tk)
    (hall : (backToKw pos (keywordEach kws X.env)).all (·.1.isSome) = true := by rfl) (hks : (backToKw pos (keywordEach kws X.env)).filterMap (·.1) = ks := by rfl)
    (hdb : (x == ("__debug__" : Str)) = false := by decide) (he : starEach (e :: es) X.env = (false, eval e X.env) :: starEach es X.env := by rfl)
    (hpl : ((backTo pos (starEach (e :: es) X.env)).any (·.1) || (backToKw pos (keywordEach kws X.env)).any (·.1.isNone)) = false := by rfl) :
    PE X (.Call (.Name x p) (e :: es) kws pos) (tCallN n ks.length sp gV E0 t tk) := by
  obtain ⟨f, fd, ps, g, F, hm, kp, b⟩ := c.ex
  exact pe_callN F (hr.mono hk) hg hm kp b pass0 ha hkw hall hks hdb he hpl
theorem pe_cn0 (c : CalN X.prog X.w X.K X.mg X.base k x sp 0 ks gV) (hr : Room j X.A) (hk : k ≤ j) (hg : Gl X x) (hkw : PK X kws tk)
    (hall : (backToKw pos (keywordEach kws X.env)).all (·.1.isSome) = true := by rfl) (hks : (backToKw pos (keywordEach kws X.env)).filterMap (·.1) = ks := by rfl)
    (hdb : (x == ("__debug__" : Str)) = false := by decide)
    (hpl : ((backTo pos (starEach [] X.env)).any (·.1) || (backToKw pos (keywordEach kws X.env)).any (·.1.isNone)) = false := by rfl) :
    PE X (.Call (.Name x p) [] kws pos) (tCallN 0 ks.length sp gV E0 tNil tk) := by
  obtain ⟨f, fd, ps, g, F, hm, kp, b⟩ := c.ex
  refine ⟨fun pins s σ H Q I h => ?_⟩
  refine wpAny_Call_Name_kw (ld_glob I hg hm ?_ hdb)
  refine PySem.W.callWith_KW0 (h₀ := X.base) I.ok.mod.kin kp hall ?_ hpl
  refine thn (hkw.run pos pins s σ H _ I h) fun ws s2 ⟨zs, H2, I2, rz, l1, l2, q2⟩ => ⟨I2.kIn, ?_⟩
  rw [hks]
  exact run_fnN (us := []) (vs := []) F (hr.mono hk) b pass0 I2 .nil rz rfl l2 q2
end
section
variable {P : Program} {w : World} {K : PySem.W.Frag} {mg : Str → Option Value} {base : Heap}
theorem mkCal {x : Str} {st : Stmt} {f : Addr} {fd : FuncData} {N ps : List Str} {k : Nat} {sp : Sp} (F : Fun K x x st f fd) (gm : mg x = some (.ref f)) (S : FnScope N ps (defScope st)) (b : Binds K fd ps []) (len : ∀ vs H Q E, sp vs H Q E → vs.length = ps.length)
    (hbody : ∀ (cdv : Value) (A : Around) (outer : List Env) (s : Shared) (H : Hp) (vs : List V) (Q : VK) (E : XK), Room k (A.deeper (envOfC x (defScope st) s.heap.objs.size f cdv)) → sp vs H Q E →
      ∃ t, PSs (cxOf CX0 P w K mg base N x (defScope st) f cdv A outer s H E).nox (defBody st) t ∧ t { nx := fun _ H' => Q .non H', rt := Q } (start N vs) H) : C8.Cal P w K mg base (k + 1) x sp [] :=
  ⟨f, fd, ps, [], F.ok S len hbody, gm, F.kp, b, .nil⟩
end
/-! ### heaps -/
def But (b : Addr) (H H' : Hp) : Prop := ∀ a o, a ≠ b → H a = some o → H' a = some o
theorem But.trans {b : Addr} {H H1 H2 : Hp} (h : But b H H1) (g : But b H1 H2) : But b H H2 := fun a o n e => g a o n (h a o n e)
theorem But.refl (b : Addr) (H : Hp) : But b H H := fun _ _ _ e => e
theorem But.put {b : Addr} {H : Hp} {o : HO} : But b H (L2.upd H b o) := fun a _ n e => by rw [upd_ne n]; exact e
theorem But.new {b p : Addr} {H : Hp} {o : HO} (h : H p = none) : But b H (L2.upd H p o) := fun a _ n e => by rw [upd_ne (ne_of_none e h)]; exact e
theorem same_upd {H : Hp} {p : Addr} {o : HO} (h : H p = none) : Same H (upd H p o) := fun b x e => by
  rw [upd_ne (ne_of_none e h)]
  exact e
def Bag (H : Hp) (b : Addr) : Prop := ∃ x y : Int, H b = some (.lst [.int x, .int y]) ∧ 0 ≤ x ∧ 0 ≤ y ∧ y < 2147483647
theorem Bag.new {H : Hp} {b p : Addr} {o : HO} (g : Bag H b) (h : H p = none) : Bag (L2.upd H p o) b := by
  obtain ⟨x, y, e, r⟩ := g
  exact ⟨x, y, by rw [upd_ne (ne_of_none e h)]; exact e, r⟩
theorem Bag.ne {H : Hp} {b p : Addr} (g : Bag H b) (h : H p = none) : p ≠ b := by
  obtain ⟨x, y, e, r⟩ := g
  exact (ne_of_none e h).symm
theorem Bag.ne_tup {H : Hp} {b p : Addr} {xs : List V} (g : Bag H b) (h : H p = some (.tup xs)) : p ≠ b := by
  obtain ⟨x, y, e, r⟩ := g
  exact ne_of h e (by intro z; cases z)
theorem seqBut {K : PySem.W.Frag} {H H' : Hp} {a b : Addr} {xs : List V} (e : But b H H') (n : a ≠ b) (h : SqL K H a xs) : SqL K H' a xs := by
  rcases h with (h | ⟨o, h⟩) | h
  · exact .inl (.inl (e _ _ n h))
  · exact .inl (.inr ⟨o, e _ _ n h⟩)
  · exact .inr h
theorem dT {a : Bool} {b : Bool} (h : a = b) : decide (V.bl a = V.bl b) = true := by rw [h]; exact decide_eq_true rfl
theorem two_ok (a b : V) : [a, b].length ≤ sizeLine := by show 2 ≤ sizeLine; decide
theorem three_ok (a b c : V) : [a, b, c].length ≤ sizeLine := by show 3 ≤ sizeLine; decide
theorem four_ok (a b c d : V) : [a, b, c, d].length ≤ sizeLine := by show 4 ≤ sizeLine; decide
theorem free_of {b p : Addr} {H H' : Hp} (g : But b H H') (hB : Bag H b) (hB' : Bag H' b) (np : H' p = none) : H p = none := by
  cases e : H p with
  | none => rfl
  | some o =>
    have z := g p o (hB'.ne np) e
    rw [np] at z
    cases z
theorem same_but {b : Addr} {H0 H1 H2 : Hp} (sm : Same H0 H1) (nb : H0 b = none) (g : But b H1 H2) : Same H0 H2 := fun c o e => g c o (ne_of_none e nb) (sm c o e)
theorem iteD {p A B : Prop} [Decidable p] (h : ¬ p) (b : B) : if decide p = true then A else B := by
  rw [if_neg (by rw [decide_eq_false h]; exact Bool.false_ne_true)]
  exact b
theorem iteD' {p A B : Prop} [Decidable p] (h : p) (b : A) : if decide p = true then A else B := by
  rw [if_pos (decide_eq_true h)]
  exact b
theorem vone {vs : List V} {us : List Value} (i : Nat) (r : Vals vs us) : Vals ((vs.drop i).take 1) ((us.drop i).take 1) := by
  exact (r.drop i).take 1
section
variable {P : Program} {w : World} {K : PySem.W.Frag} {mg : Str → Option Value} {base : Heap}

/-! ### _law_take: any draw below many -/
abbrev s__law_take : Stmt := topS 42
theorem sc__law_take : FnScope ["bag", "many", "found"] ["bag", "many"] (defScope s__law_take) := ⟨rfl, rfl, rfl, by decide +kernel, rfl, by decide +kernel, by decide +kernel⟩
def sp_law_take : Sp := fun vs H Q _ => ∃ (b : Addr) (m : Int), vs = [.ref b, .int m] ∧ Bag H b ∧ 0 < m ∧ m < 2 ^ 200 ∧ ∀ r H', 0 ≤ r → r < m → But b H H' → Bag H' b → Q (.int r) H'
theorem ok__law_take {f : Addr} {fd : FuncData} (F : Fun K "_law_take" "_law_take" s__law_take f fd) (gm : mg "_law_take" = some (.ref f)) (N : Fre K mg)  : C8.Cal P w K mg base 1 "_law_take" sp_law_take [] := by
  refine mkCal F gm sc__law_take (F.binds (ps := ["bag", "many"]) fun _ _ _ _ _ _ us hl => match us, hl with | [_, _], _ => rfl) (fun vs H Q E h => ?_) (fun cdv A outer s H vs Q E hr h => ?_)
  · obtain ⟨b, m, rfl, _⟩ := h
    rfl
  · obtain ⟨b, m, rfl, ⟨x, y, hb, hx, hy, hy2⟩, hm, hm2, q⟩ := h
    refine ⟨_, (pss_cons (ps_if (pt_cmpR op_gt (pe_ix ix_list (pv 0) pe_int (fun _ _ => rfl)) pe_int (nomark _))
 (pss_cons (ps_set (i := 2) sc__law_take.nd rfl (.inl rfl) (pe_op op_mod (pe_ix ix_list (pv 0) pe_int (fun _ _ => rfl)) (pv 1)))
 (pss_cons (ps_asg (pe_op op_fdivW (pe_ix ix_list (pv 0) pe_int (fun _ _ => rfl)) (pv 1)) (pg_sub (pv 0) pe_int set_list))
 (pss_one (ps_ret (pv 2)))))
 pss_nil)
 (pss_cons (ps_asg (pe_op op_mod (pe_op op_mul (pe_ix ix_list (pv 0) pe_int (fun _ _ => rfl)) pe_int) pe_int) (pg_sub (pv 0) pe_int set_list))
 (pss_one (ps_ret (pe_op op_mod (pe_op op_fdiv (pe_op op_mod (pe_op op_mul (pe_ix ix_list (pv 0) pe_int (fun _ _ => rfl)) (pe_ix ix_list (pv 0) pe_int (fun _ _ => rfl))) pe_int) pe_int) (pv 1)))))), ?_⟩
    refine ⟨_, rfl, b, _, 0, .int x, rfl, rfl, SqL.of hb, atI_nat (j := 0) rfl, x, 0, rfl, rfl, _, rfl, ite2 (fun e => ?_) (fun e => ?_)⟩
    · have hx0 : 0 < x := of_decide_eq_true e
      refine ⟨_, rfl, b, _, 0, .int x, rfl, rfl, SqL.of hb, atI_nat (j := 0) rfl, _, rfl, x, m, rfl, rfl, hm, ?_⟩
      refine ⟨_, rfl, b, _, 0, .int x, rfl, rfl, SqL.of hb, atI_nat (j := 0) rfl, _, rfl, x, m, rfl, rfl, wide_div (b := 200) hm (by omega) (by decide) (by decide), _, rfl, b, _, 0, 0, rfl, rfl, hb, rfl, ?_⟩
      refine ⟨_, rfl, q _ _ (Int.emod_nonneg _ (by omega)) (Int.emod_lt_of_pos _ hm) But.put ⟨x / m, y, upd_same, Int.ediv_nonneg hx (by omega), hy, hy2⟩⟩
    · refine ⟨_, rfl, b, _, 1, .int y, rfl, rfl, SqL.of hb, atI_nat (j := 1) rfl, y, 48271, rfl, rfl, .inr ⟨by decide, by decide⟩, _, 2147483647, rfl, rfl, (by show (0 : Int) < 2147483647; decide), _, rfl, b, _, 1, 1, rfl, rfl, hb, rfl, ?_⟩
      have hb2 : (upd H b (.lst ([V.int x, V.int y].set 1 (.int (y * 48271 % 2147483647))))) b = some (.lst [.int x, .int (y * 48271 % 2147483647)]) := upd_same
      have hz1 : 0 ≤ y * 48271 % 2147483647 := Int.emod_nonneg _ (by decide)
      have hz2 : y * 48271 % 2147483647 < 2147483647 := Int.emod_lt_of_pos _ (by decide)
      refine ⟨_, rfl, b, _, 1, _, rfl, rfl, SqL.of hb2, atI_nat (j := 1) rfl, _, rfl, b, _, 1, _, rfl, rfl, SqL.of hb2, atI_nat (j := 1) rfl, _, _, rfl, rfl, .inl ⟨by omega, by omega⟩, _, 2147483629, rfl, rfl, (by show (0 : Int) < 2147483629; decide), _, 64, rfl, rfl, ⟨by decide, by decide⟩, _, rfl, _, m, rfl, rfl, hm, ?_⟩
      exact q _ _ (Int.emod_nonneg _ (by omega)) (Int.emod_lt_of_pos _ hm) But.put ⟨x, _, hb2, hx, hz1, hz2⟩
/-! ### _law_bag -/
abbrev s__law_bag : Stmt := topS 41
theorem sc__law_bag : FnScope ["script", "k", "cell"] ["script", "k"] (defScope s__law_bag) := ⟨rfl, rfl, rfl, by decide +kernel, rfl, by decide +kernel, by decide +kernel⟩
def sp_law_bag (K : PySem.W.Frag) : Sp := fun vs H Q _ => ∃ (a : Addr) (ns : List Int) (k : Int), vs = [.ref a, .int k] ∧ SqL K H a (ns.map V.int) ∧ 0 ≤ k ∧ k < 100 ∧ ∀ p H', H p = none → Same H H' → Bag H' p → Q (.ref p) H'
theorem bag_pos (c k : Int) (n : Int) : 0 ≤ 1 + (c + k) % 2147483646 ∧ 1 + (c + k) % 2147483646 < 2147483647 := by
  have h1 : 0 ≤ (c + k) % 2147483646 := Int.emod_nonneg _ (by decide)
  have h2 : (c + k) % 2147483646 < 2147483646 := Int.emod_lt_of_pos _ (by decide)
  omega
theorem ok__law_bag {f : Addr} {fd : FuncData} (F : Fun K "_law_bag" "_law_bag" s__law_bag f fd) (gm : mg "_law_bag" = some (.ref f)) (N : Fre K mg)  : C8.Cal P w K mg base 1 "_law_bag" (sp_law_bag K) [] := by
  refine mkCal F gm sc__law_bag (F.binds (ps := ["script", "k"]) fun _ _ _ _ _ _ us hl => match us, hl with | [_, _], _ => rfl) (fun vs H Q E h => ?_) (fun cdv A outer s H vs Q E hr h => ?_)
  · obtain ⟨a, ns, k, rfl, _⟩ := h
    rfl
  · obtain ⟨a, ns, k, rfl, hS, hk, hk2, q⟩ := h
    refine ⟨_, (pss_cons (ps_set (i := 2) sc__law_bag.nd rfl (.inl rfl) pe_int)
 (pss_cons (ps_if (pt_cmpR op_lt (pv 1) (pe_callB call_len_seq (by rfl) N.len (by decide +kernel) (pa_cons (pv 0) pa_nil)) (nomark _))
 (pss_one (ps_set (i := 2) sc__law_bag.nd rfl (.inl rfl) (pe_callB call_abs (by rfl) N.abs (by decide +kernel) (pa_cons (pe_ix ix_list (pv 0) (pv 1) (fun _ _ => rfl)) pa_nil))))
 pss_nil)
 (pss_cons (ps_if (pt_cmpR op_lt (pv 2) (pe_op op_pow pe_int pe_int) (nomark _))
 (pss_one (ps_ret (pe_lst (pa_cons pe_int (pa_cons (pe_op op_add pe_int (pe_op op_mod (pe_op op_add (pe_op op_mul (pv 2) pe_int) (pe_op op_mul pe_int (pv 1))) pe_int)) pa_nil)))))
 pss_nil)
 (pss_one (ps_ret (pe_lst (pa_cons (pv 2) (pa_cons (pe_op op_add pe_int (pe_op op_mod (pe_op op_add (pv 2) (pv 1)) pe_int)) pa_nil)))))))), ?_⟩
    refine ⟨_, rfl, _, rfl, a, _, rfl, .inl hS, k, _, rfl, rfl, _, rfl, ite2 (fun e => ?_) (fun e => ?_)⟩
    · have hlt : k.toNat < ns.length := by
        have e1 := of_decide_eq_true e
        rw [List.length_map] at e1
        omega
      have g1 : (ns.map V.int)[k.toNat]? = some (.int ns[k.toNat]) := by
        rw [List.getElem?_map, List.getElem?_eq_getElem hlt]
        rfl
      generalize ns[k.toNat] = c at g1
      have g2 : atI (ns.map V.int) k = some (.int c) := by
        have e2 : ((k.toNat : Nat) : Int) = k := by omega
        rw [← e2]
        exact atI_nat g1
      refine ⟨_, rfl, _, rfl, a, _, k, _, rfl, rfl, hS, g2, c, rfl, ?_⟩
      have hc : 0 ≤ (if c < 0 then -c else c) := by split <;> omega
      generalize (if c < 0 then -c else c) = d at hc
      refine ⟨_, rfl, 10, 18, rfl, rfl, ⟨by decide, by decide, by decide⟩, d, _, rfl, rfl, _, rfl, ite2 (fun e2 => ?_) (fun e2 => ?_)⟩
      · refine ⟨_, rfl, d, 7919, rfl, rfl, .inr ⟨by decide, by decide⟩, _, rfl, 104729, k, rfl, rfl, .inl ⟨by decide, by decide⟩, _, _, rfl, rfl, _, _, rfl, rfl, (by show (0 : Int) < 2147483646; decide), 1, _, rfl, rfl, two_ok _ _, fun p np => ?_⟩
        exact q p _ np (same_upd np) ⟨0, _, upd_same, by decide, bag_pos _ _ 0⟩
      · refine ⟨_, rfl, _, rfl, _, rfl, d, k, rfl, rfl, _, _, rfl, rfl, (by show (0 : Int) < 2147483646; decide), 1, _, rfl, rfl, two_ok _ _, fun p np => ?_⟩
        exact q p _ np (same_upd np) ⟨d, _, upd_same, hc, bag_pos _ _ 0⟩
    · refine ⟨_, rfl, 10, 18, rfl, rfl, ⟨by decide, by decide, by decide⟩, 0, _, rfl, rfl, _, rfl, ite2 (fun e2 => ?_) (fun e2 => ?_)⟩
      · refine ⟨_, rfl, 0, 7919, rfl, rfl, .inr ⟨by decide, by decide⟩, _, rfl, 104729, k, rfl, rfl, .inl ⟨by decide, by decide⟩, _, _, rfl, rfl, _, _, rfl, rfl, (by show (0 : Int) < 2147483646; decide), 1, _, rfl, rfl, two_ok _ _, fun p np => ?_⟩
        exact q p _ np (same_upd np) ⟨0, _, upd_same, by decide, bag_pos _ _ 0⟩
      · refine ⟨_, rfl, _, rfl, _, rfl, 0, k, rfl, rfl, _, _, rfl, rfl, (by show (0 : Int) < 2147483646; decide), 1, _, rfl, rfl, two_ok _ _, fun p np => ?_⟩
        exact q p _ np (same_upd np) ⟨0, _, upd_same, by decide, bag_pos _ _ 0⟩

/-! ### data: what stands at a value -/
theorem sqT_same {H H' : Hp} {a : Addr} {xs : List V} (e : Same H H') (h : SqT K H a xs) : SqT K H' a xs := by
  rcases h with (h | ⟨o, h⟩) | h
  · exact .inl (.inl (e _ _ h))
  · exact .inl (.inr ⟨o, e _ _ h⟩)
  · exact .inr h
mutual
theorem dp_same {H H' : Hp} (e : Same H H') : ∀ (d : PyData) (v : V), Dp K H v d → Dp K H' v d
  | .none, _, h => by cases h; exact .non
  | .bool b, _, h => by cases h; exact .bl b
  | .int i, _, h => by cases h; exact .int i
  | .str x, _, h => by cases h; exact .str x
  | .list ds, _, h => by
    cases h with
    | lst hs ha => exact .lst (e.seq hs) (dp_sameAll e ds _ ha)
  | .tuple ds, _, h => by
    cases h with
    | tup hs ha => exact .tup (sqT_same e hs) (dp_sameAll e ds _ ha)
  | .dict _, _, h => by cases h
theorem dp_sameAll {H H' : Hp} (e : Same H H') : ∀ (ds : List PyData) (vs : List V), DpAll K H vs ds → DpAll K H' vs ds
  | [], _, h => by cases h; exact .nil
  | d :: ds, _, h => by
    cases h with
    | cons h1 h2 => exact .cons (dp_same e d _ h1) (dp_sameAll e ds _ h2)
end
theorem dpAll_len {H : Hp} : ∀ {vs : List V} {ds : List PyData}, DpAll K H vs ds → vs.length = ds.length
  | [], _, h => by cases h; rfl
  | _ :: vs, _, h => by
    cases h with
    | cons _ h2 => rw [List.length_cons, List.length_cons, dpAll_len h2]
theorem dpAll_get {H : Hp} : ∀ {vs : List V} {ds : List PyData} {i : Nat} {v : V}, DpAll K H vs ds → vs[i]? = some v → ∃ d, ds[i]? = some d ∧ Dp K H v d
  | _, _, 0, _, .cons h1 _, e => by
    cases e
    exact ⟨_, rfl, h1⟩
  | _, _, i + 1, _, .cons _ h2, e => dpAll_get (i := i) h2 (by simpa using e)
  | _, _, i, _, .nil, e => by simp at e
theorem dpAll_append {H : Hp} : ∀ {vs us : List V} {ds es : List PyData}, DpAll K H vs ds → DpAll K H us es → DpAll K H (vs ++ us) (ds ++ es)
  | _, _, _, _, .nil, h => h
  | _, _, _, _, .cons h1 h2, h => .cons h1 (dpAll_append h2 h)
def tyD : PyData → String
  | .none => "NoneType"
  | .bool _ => "bool"
  | .int _ => "int"
  | .str _ => "str"
  | .list _ => "list"
  | .tuple _ => "tuple"
  | .dict _ => "dict"
theorem dp_ty {H : Hp} {v : V} {d : PyData} (h : Dp K H v d) : TyX K H v (.type (tyD d)) := by
  cases h with
  | non => exact .base .non
  | bl b => exact .base (.bl b)
  | int i => exact .base (.int i)
  | str x => exact .base (.str x)
  | lst hs _ =>
    rcases hs with (h | ⟨o, h⟩) | ⟨o, _, _, h, c, _⟩
    · exact .base (.lst h)
    · exact .base (.frz h)
    · exact .kList h c
  | tup hs _ =>
    rcases hs with (h | ⟨o, h⟩) | ⟨o, _, _, h, c, _⟩
    · exact .base (.tup h)
    · exact .fTuple h
    · exact .kTuple h c
def isTy (t T : String) : Bool := t == T || (T == "int" && t == "bool")
def isT (d : PyData) (T : String) : Bool := isTy (tyD d) T
theorem kit_all : ∀ t ∈ ["NoneType", "bool", "int", "str", "list", "tuple", "dict"], ∀ T ∈ ["int", "bool", "str", "tuple", "list"], kitB t T = some (isTy t T) := by decide +kernel
theorem tyD_mem (d : PyData) : tyD d ∈ ["NoneType", "bool", "int", "str", "list", "tuple", "dict"] := by cases d <;> simp [tyD]
theorem kit_d (d : PyData) {T : String} (hT : T = "int" ∨ T = "bool" ∨ T = "str" ∨ T = "tuple" ∨ T = "list") : PySem.W.kitOne K (.type (tyD d)) (.type T) = some (isT d T) :=
  kit_ty (kit_all _ (tyD_mem d) _ (by simpa using hT))

/-! ### pagelend.kinds -/
def sg (c : Nat) : V := .str ⟨#[c]⟩
def wholeD : PyData → Bool
  | .int _ => true
  | _ => false
def pure1 (K : PySem.W.Frag) (f : PyData → Bool) : Sp := fun vs H Q _ => ∃ (v : V) (d : PyData), vs = [v] ∧ Dp K H v d ∧ ∀ H', Same H H' → Q (.bl (f d)) H'
abbrev s_is_whole : Stmt := topS 24
theorem sc_is_whole : FnScope ["thing"] ["thing"] (defScope s_is_whole) := ⟨rfl, rfl, rfl, by decide +kernel, rfl, by decide +kernel, by decide +kernel⟩
theorem ok_is_whole {f : Addr} {fd : FuncData} (F : Fun K "is_whole" "is_whole" s_is_whole f fd) (gm : mg "is_whole" = some (.ref f)) (N : Fre K mg)  : C8.Cal P w K mg base 1 "is_whole" (pure1 K wholeD) [] := by
  refine mkCal F gm sc_is_whole (F.binds (ps := ["thing"]) fun _ _ _ _ _ _ us hl => match us, hl with | [_], _ => rfl) (fun vs H Q E h => ?_) (fun cdv A outer s H vs Q E hr h => ?_)
  · obtain ⟨v, d, rfl, _⟩ := h
    rfl
  · obtain ⟨v, d, rfl, hd, q⟩ := h
    refine ⟨_, (pss_one (ps_ret (pe_and (pe_callB call_isi (by rfl) N.isinstance (by decide +kernel) (pa_cons (pv 0) (pa_cons (pe_bltn (v := .ty "int") (u := .type "int") rfl N.int (by decide +kernel) rfl) pa_nil))) (pe_one (pe_not (pe_callB call_isi (by rfl) N.isinstance (by decide +kernel) (pa_cons (pv 0) (pa_cons (pe_bltn (v := .ty "bool") (u := .type "bool") rfl N.bool (by decide +kernel) rfl) pa_nil)))))))), ?_⟩
    refine ⟨_, rfl, _, _, _, _, isT d "int", rfl, .ty _, dp_ty hd, kit_d d (.inl rfl), _, rfl, ?_⟩
    have q0 := q H (Same.refl H)
    cases d with
    | int i => exact iteT ⟨_, rfl, _, _, _, _, false, rfl, .ty _, dp_ty hd, kit_d _ (.inr (.inl rfl)), _, rfl, q0⟩
    | bool b => exact iteT ⟨_, rfl, _, _, _, _, true, rfl, .ty _, dp_ty hd, kit_d _ (.inr (.inl rfl)), _, rfl, q0⟩
    | none => exact iteF q0
    | str x => exact iteF q0
    | list x => exact iteF q0
    | tuple x => exact iteF q0
    | dict x => exact iteF q0
def withinD (lo hi : Int) : PyData → Bool
  | .int i => decide (lo ≤ i) && decide (i ≤ hi)
  | _ => false
theorem withinD_int (lo hi i : Int) : withinD lo hi (.int i) = (decide (lo ≤ i) && decide (i ≤ hi)) := rfl
def spis_within (K : PySem.W.Frag) : Sp := fun vs H Q _ => ∃ (v : V) (d : PyData) (lo hi : Int), vs = [v, .int lo, .int hi] ∧ Dp K H v d ∧ ∀ H', Same H H' → Q (.bl (withinD lo hi d)) H'
abbrev s_is_within : Stmt := topS 25
theorem sc_is_within : FnScope ["thing", "least", "most"] ["thing", "least", "most"] (defScope s_is_within) := ⟨rfl, rfl, rfl, by decide +kernel, rfl, by decide +kernel, by decide +kernel⟩
theorem ok_is_within {f : Addr} {fd : FuncData} (F : Fun K "is_within" "is_within" s_is_within f fd) (gm : mg "is_within" = some (.ref f)) (N : Fre K mg) (c_is_whole : C8.Cal P w K mg base 1 "is_whole" (pure1 K wholeD) []) : C8.Cal P w K mg base 2 "is_within" (spis_within K) [] := by
  refine mkCal F gm sc_is_within (F.binds (ps := ["thing", "least", "most"]) fun _ _ _ _ _ _ us hl => match us, hl with | [_, _, _], _ => rfl) (fun vs H Q E h => ?_) (fun cdv A outer s H vs Q E hr h => ?_)
  · obtain ⟨v, d, lo, hi, rfl, _⟩ := h
    rfl
  · obtain ⟨v, d, lo, hi, rfl, hd, q⟩ := h
    refine ⟨_, (pss_one (ps_ret (pe_and (C8.pe_c c_is_whole hr (by decide) rfl (pa_cons (pv 0) pa_nil)) (pe_one (pe_chain op_le op_le (pv 1) (pv 0) (pv 2)))))), ?_⟩
    refine ⟨_, rfl, v, d, rfl, hd, fun H1 s1 => ⟨_, rfl, ?_⟩⟩
    have q0 := q H1 s1
    cases d with
    | int i =>
      cases hd
      refine iteT ⟨_, rfl, _, rfl, lo, i, rfl, rfl, _, rfl, ?_⟩
      by_cases h1 : lo ≤ i
      · refine iteD' h1 ⟨_, rfl, i, hi, rfl, rfl, ?_⟩
        rw [withinD_int, decide_eq_true h1] at q0
        exact q0
      · refine iteD h1 ?_
        rw [withinD_int, decide_eq_false h1] at q0
        exact q0
    | bool b => exact iteF q0
    | none => exact iteF q0
    | str x => exact iteF q0
    | list x => exact iteF q0
    | tuple x => exact iteF q0
    | dict x => exact iteF q0
/-- a bound on all of it: signs, items, bits -/
def siz : PyData → Nat
  | .none => 1
  | .bool _ => 1
  | .int i => i.natAbs.log2 + 1
  | .str x => x.length + 1
  | .list xs => 1 + sizL xs
  | .tuple xs => 1 + sizL xs
  | .dict _ => 1
where sizL : List PyData → Nat
  | [] => 0
  | d :: ds => siz d + sizL ds
theorem siz_mem {d : PyData} : ∀ {ds : List PyData}, d ∈ ds → siz d ≤ siz.sizL ds
  | [], h => by cases h
  | e :: ds, h => by
    rcases List.mem_cons.mp h with rfl | h
    · show siz _ ≤ siz _ + siz.sizL ds
      omega
    · have := siz_mem h
      show siz d ≤ siz e + siz.sizL ds
      omega
theorem siz_pos (d : PyData) : 1 ≤ siz d := by cases d <;> unfold siz <;> omega
theorem siz_len : ∀ (ds : List PyData), ds.length ≤ siz.sizL ds
  | [] => Nat.le_refl _
  | d :: ds => by
    have := siz_len ds
    have := siz_pos d
    show ds.length + 1 ≤ siz d + siz.sizL ds
    omega
def Small (d : PyData) : Prop := siz d ≤ 5000000
theorem Small.str {x : Str} (h : Small (.str x)) : x.length ≤ 5000000 := by unfold Small siz at h; omega
theorem Small.len {x : Str} (h : Small (.str x)) : x.length ≤ sizeLine := Nat.le_trans h.str (by decide)
theorem Small.mem {d : PyData} {ds : List PyData} (h : Small (.tuple ds)) (m : d ∈ ds) : Small d := by
  have := siz_mem m
  unfold Small at *
  rw [siz] at h
  omega
def letters : Str := "abcdefghijklmnopqrstuvwxyz"
def signs (x : Str) : Bool := x.cps.toList.all fun c => decide (c ∈ letters.cps.toList)
def nameD : PyData → Bool
  | .str x => (decide (1 ≤ x.length) && decide (x.length ≤ 8)) && signs x
  | _ => false
theorem nameD_str (x : Str) : nameD (.str x) = ((decide (1 ≤ x.length) && decide (x.length ≤ 8)) && signs x) := rfl
def pure1S (K : PySem.W.Frag) (f : PyData → Bool) : Sp := fun vs H Q _ => ∃ (v : V) (d : PyData), vs = [v] ∧ Dp K H v d ∧ Small d ∧ ∀ H', Same H H' → Q (.bl (f d)) H'
abbrev s_is_name : Stmt := topS 26
theorem sc_is_name : FnScope ["thing", "sign"] ["thing"] (defScope s_is_name) := ⟨rfl, rfl, rfl, by decide +kernel, rfl, by decide +kernel, by decide +kernel⟩
theorem all_take {α : Type} (p : α → Bool) (xs : List α) (i : Nat) (x : α) (h : xs[i]? = some x) : (xs.take (i + 1)).map p = (xs.take i).map p ++ [p x] := by
  rw [List.take_add_one, h, List.map_append]
  rfl
theorem ok_is_name {f : Addr} {fd : FuncData} (F : Fun K "is_name" "is_name" s_is_name f fd) (gm : mg "is_name" = some (.ref f)) (N : Fre K mg)  : C8.Cal P w K mg base 1 "is_name" (pure1S K nameD) [] := by
  refine mkCal F gm sc_is_name (F.binds (ps := ["thing"]) fun _ _ _ _ _ _ us hl => match us, hl with | [_], _ => rfl) (fun vs H Q E h => ?_) (fun cdv A outer s H vs Q E hr h => ?_)
  · obtain ⟨v, d, rfl, _⟩ := h
    rfl
  · obtain ⟨v, d, rfl, hd, sm, q⟩ := h
    obtain ⟨_, g_LONGEST_NAME⟩ := N.c_LONGEST_NAME
    obtain ⟨_, g_LETTERS⟩ := N.c_LETTERS
    refine ⟨_, (pss_cons (ps_if (PW.pt (pw_or (pt_not (pt_val (pe_callB call_isi (by rfl) N.isinstance (by decide +kernel) (pa_cons (pv 0) (pa_cons (pe_bltn (v := .ty "str") (u := .type "str") rfl N.str (by decide +kernel) rfl) pa_nil))))) (pw_or1 (pt_not (pt_chain op_le op_le pe_int (pe_callB call_len_str (by rfl) N.len (by decide +kernel) (pa_cons (pv 0) pa_nil)) (pe_glob (v := .int 8) rfl g_LONGEST_NAME ⟨_, rfl⟩))))))
 (pss_one (ps_ret pe_bl))
 pss_nil)
 (pss_one (ps_ret (pe_callB (cr_all rfl) (by rfl) N.all (by decide +kernel) (pa_cons (pe_lc (own := [("sign", 1)]) (g := gName 1) (tt := tYes) rfl sc_is_name.nd (pi_str (pv 0)) (blkOk_by (N := ["thing", "sign"]) (sc := defScope s_is_name) (by decide +kernel)) (fun _ _ _ _ _ => pg_name (i := 1) sc_is_name.nd rfl (Or.inl rfl)) (fun _ _ _ _ _ => pts_nil) (fun _ _ _ _ _ => (pe_cmpR op_in_sign (pv 1) (pe_glob (v := .str "abcdefghijklmnopqrstuvwxyz") rfl g_LETTERS ⟨_, rfl⟩) (by with_unfolding_all rfl)))) pa_nil))))), ?_⟩
    refine ⟨_, rfl, _, _, _, _, isT d "str", rfl, .ty _, dp_ty hd, kit_d d (.inr (.inr (.inl rfl))), _, rfl, ?_⟩
    have q0 := q H (Same.refl H)
    cases d with
    | str x =>
      cases hd
      refine iteF ⟨_, rfl, x, rfl, sm.len, 1, _, rfl, rfl, _, rfl, ?_⟩
      by_cases h1 : (1 : Int) ≤ (x.length : Nat)
      · refine iteD' h1 ⟨_, 8, rfl, rfl, _, rfl, ?_⟩
        by_cases h2 : ((x.length : Nat) : Int) ≤ 8
        · rw [decide_eq_true h2]
          refine iteF ?_
          refine ⟨_, rfl, x, rfl, fun D nD => lc_it walk_str (fun i H1 => Same H H1 ∧ H1 D = some (.lst (((x.cps.toList.take i).map fun c => decide (c ∈ letters.cps.toList)).map V.bl))) ⟨same_upd nD, upd_same⟩ (fun _ _ _ _ => trivial) ?_ ?_⟩
          · rintro i v H1 H2 hi ⟨s1, hD⟩ ⟨rfl, c, hc, rfl⟩
            refine ⟨rfl, ⟨_, rfl, c, _, rfl, rfl, ?_⟩⟩
            refine ⟨_, hD, ?_, fun b o e => ?_, ?_⟩
            · rw [List.length_map, List.length_map, List.length_take]
              have := sm.str
              exact Nat.lt_of_le_of_lt (Nat.min_le_right _ _) (Nat.lt_of_le_of_lt (show x.cps.toList.length ≤ 5000000 from this) (by decide))
            · rw [upd_ne (ne_of_none e nD)]
              exact s1 _ _ e
            · rw [upd_same, all_take _ _ i c (by rw [← hc]; exact (Array.getElem?_toList ..).symm ▸ rfl), List.map_append]
              rfl
          · rintro H1 ⟨s1, hD⟩
            refine ⟨D, _, rfl, SqL.of hD, ?_⟩
            have q1 := q H1 s1
            have e1 : (x.cps.toList.take x.cps.size) = x.cps.toList := List.take_of_length_le (by rw [Array.length_toList]; exact Nat.le_refl _)
            rw [e1]
            have e2 : nameD (.str x) = ((x.cps.toList.map fun c => decide (c ∈ letters.cps.toList)).all id) := by
              rw [nameD_str]
              unfold signs
              rw [decide_eq_true (show 1 ≤ x.length by omega), decide_eq_true (show x.length ≤ 8 by omega), List.all_map]
              rfl
            rw [e2] at q1
            exact q1
        · rw [decide_eq_false h2]
          refine iteT ?_
          have e2 : nameD (.str x) = false := by
            rw [nameD_str, decide_eq_false (show ¬ x.length ≤ 8 by omega), Bool.and_false]
            rfl
          rw [e2] at q0
          exact q0
      · refine iteD h1 ⟨_, rfl, iteT ?_⟩
        have e2 : nameD (.str x) = false := by
          rw [nameD_str, decide_eq_false (show ¬ 1 ≤ x.length by omega)]
          rfl
        rw [e2] at q0
        exact q0
    | bool b => exact iteT q0
    | none => exact iteT q0
    | int x => exact iteT q0
    | list x => exact iteT q0
    | tuple x => exact iteT q0
    | dict x => exact iteT q0
/-- a tuple of so many things -/
def tupD (lo hi : Int) : PyData → Bool
  | .tuple xs => decide (lo ≤ (xs.length : Nat)) && decide (((xs.length : Nat) : Int) ≤ hi)
  | _ => false
theorem tupD_tup (lo hi : Int) (xs : List PyData) : tupD lo hi (.tuple xs) = (decide (lo ≤ (xs.length : Nat)) && decide (((xs.length : Nat) : Int) ≤ hi)) := rfl
def spis_tuple (K : PySem.W.Frag) : Sp := fun vs H Q _ => ∃ (v : V) (d : PyData) (lo hi : Int), vs = [v, .int lo, .int hi] ∧ Dp K H v d ∧ Q (.bl (tupD lo hi d)) H
abbrev s_is_tuple : Stmt := topS 27
theorem sc_is_tuple : FnScope ["thing", "least", "most"] ["thing", "least", "most"] (defScope s_is_tuple) := ⟨rfl, rfl, rfl, by decide +kernel, rfl, by decide +kernel, by decide +kernel⟩
theorem ok_is_tuple {f : Addr} {fd : FuncData} (F : Fun K "is_tuple" "is_tuple" s_is_tuple f fd) (gm : mg "is_tuple" = some (.ref f)) (N : Fre K mg)  : C8.Cal P w K mg base 1 "is_tuple" (spis_tuple K) [] := by
  refine mkCal F gm sc_is_tuple (F.binds (ps := ["thing", "least", "most"]) fun _ _ _ _ _ _ us hl => match us, hl with | [_, _, _], _ => rfl) (fun vs H Q E h => ?_) (fun cdv A outer s H vs Q E hr h => ?_)
  · obtain ⟨v, d, lo, hi, rfl, _⟩ := h
    rfl
  · obtain ⟨v, d, lo, hi, rfl, hd, q⟩ := h
    refine ⟨_, (pss_one (ps_ret (pe_and (pe_callB call_isi (by rfl) N.isinstance (by decide +kernel) (pa_cons (pv 0) (pa_cons (pe_bltn (v := .ty "tuple") (u := .type "tuple") rfl N.tuple (by decide +kernel) rfl) pa_nil))) (pe_one (pe_chain op_le op_le (pv 1) (pe_callB call_len_seq (by rfl) N.len (by decide +kernel) (pa_cons (pv 0) pa_nil)) (pv 2)))))), ?_⟩
    refine ⟨_, rfl, _, _, _, _, isT d "tuple", rfl, .ty _, dp_ty hd, kit_d d (.inr (.inr (.inr (.inl rfl)))), _, rfl, ?_⟩
    cases d with
    | tuple ds =>
      cases hd with
      | @tup _ xs _ hs ha =>
        refine iteT ⟨_, rfl, _, rfl, _, _, rfl, .inr hs, lo, _, rfl, rfl, _, rfl, ?_⟩
        rw [tupD_tup, ← dpAll_len ha] at q
        by_cases h1 : lo ≤ (xs.length : Nat)
        · refine iteD' h1 ⟨_, rfl, _, hi, rfl, rfl, ?_⟩
          rw [decide_eq_true h1] at q
          exact q
        · refine iteD h1 ?_
          rw [decide_eq_false h1] at q
          exact q
    | bool b => exact iteF q
    | none => exact iteF q
    | int x => exact iteF q
    | str x => exact iteF q
    | list x => exact iteF q
    | dict x => exact iteF q

def ltS (x y : Str) : Bool := decide (x.cps.toList < y.cps.toList)
def riseAt (xs : List Str) (k : Nat) : Bool := ltS (xs.getD k Str.empty) (xs.getD (k + 1) Str.empty)
def rising (xs : List Str) : Bool := (List.range (xs.length - 1)).all (riseAt xs)
def spis_rising (K : PySem.W.Frag) : Sp := fun vs H Q _ => ∃ (a : Addr) (xs : List Str), vs = [.ref a] ∧ SqL K H a (xs.map V.str) ∧ xs.length ≤ 1000 ∧ ∀ H', Same H H' → Q (.bl (rising xs)) H'
theorem at_str {xs : List Str} {k : Nat} (h : k < xs.length) : atI (xs.map V.str) ((k : Nat) : Int) = some (.str (xs.getD k Str.empty)) := by
  refine atI_nat ?_
  rw [List.getElem?_map, List.getElem?_eq_getElem h, List.getD_eq_getElem?_getD, List.getElem?_eq_getElem h]
  rfl
abbrev s_is_rising : Stmt := topS 28
theorem sc_is_rising : FnScope ["things", "k"] ["things"] (defScope s_is_rising) := ⟨rfl, rfl, rfl, by decide +kernel, rfl, by decide +kernel, by decide +kernel⟩
theorem ok_is_rising {f : Addr} {fd : FuncData} (F : Fun K "is_rising" "is_rising" s_is_rising f fd) (gm : mg "is_rising" = some (.ref f)) (N : Fre K mg)  : C8.Cal P w K mg base 1 "is_rising" (spis_rising K) [] := by
  refine mkCal F gm sc_is_rising (F.binds (ps := ["things"]) fun _ _ _ _ _ _ us hl => match us, hl with | [_], _ => rfl) (fun vs H Q E h => ?_) (fun cdv A outer s H vs Q E hr h => ?_)
  · obtain ⟨a, xs, rfl, _⟩ := h
    rfl
  · obtain ⟨a, xs, rfl, hS, hl, q⟩ := h
    refine ⟨_, (pss_one (ps_ret (pe_callB (cr_all rfl) (by rfl) N.all (by decide +kernel) (pa_cons (pe_lc (own := [("k", 1)]) (g := gName 1) (tt := tYes) rfl sc_is_rising.nd (pi_range1 (by rfl) N.range (pa_cons (pe_op op_sub (pe_callB call_len_seq (by rfl) N.len (by decide +kernel) (pa_cons (pv 0) pa_nil)) pe_int) pa_nil)) (blkOk_by (N := ["things", "k"]) (sc := defScope s_is_rising) (by decide +kernel)) (fun _ _ _ _ _ => pg_name (i := 1) sc_is_rising.nd rfl (Or.inl rfl)) (fun _ _ _ _ _ => pts_nil) (fun _ _ _ _ _ => (pe_cmpR op_lt_str (pe_ix (show IxR _ (rIxL K) from ix_list) (pv 0) (pv 1) (fun _ _ => rfl)) (pe_ix (show IxR _ (rIxL K) from ix_list) (pv 0) (pe_op op_add (pv 1) pe_int) (fun _ _ => rfl)) (nomark _)))) pa_nil)))), ?_⟩
    refine ⟨_, rfl, a, _, rfl, .inl hS, _, 1, rfl, rfl, _, rfl, ?_, ?_, ?_⟩
    · rw [List.length_map]
      omega
    · rw [List.length_map]
      omega
    · intro D nD
      have en : ((((xs.map V.str).length : Nat) : Int) - 1).toNat = xs.length - 1 := by
        rw [List.length_map]
        omega
      rw [en]
      refine lc_it walk_range (fun i H1 => Same H H1 ∧ H1 D = some (.lst (((List.range i).map (riseAt xs)).map V.bl))) ⟨same_upd nD, upd_same⟩ (fun _ _ _ _ => trivial) ?_ ?_
      · rintro i v H1 H2 hi ⟨s1, hD⟩ ⟨rfl, hv⟩
        have e0 : (0 : Int) + (i : Int) = i := by omega
        have hv2 : v = V.int i := by rw [hv]; show V.int (0 + (i : Int)) = _; rw [e0]
        subst hv2
        have hS1 := s1.seq hS
        refine ⟨rfl, ?_⟩
        refine ⟨_, rfl, _, rfl, a, _, i, _, rfl, rfl, hS1, at_str (by omega), _, rfl, _, rfl, i, 1, rfl, rfl, a, _, _, _, rfl, rfl, hS1, at_str (k := i + 1) (by omega), _, _, rfl, rfl, ?_⟩
        refine ⟨_, hD, ?_, fun b o e => ?_, ?_⟩
        · rw [List.length_map, List.length_map, List.length_range]
          exact small1000 (by omega)
        · rw [upd_ne (ne_of_none e nD)]
          exact s1 _ _ e
        · rw [upd_same, List.range_succ, List.map_append, List.map_append]
          rfl
      · rintro H1 ⟨s1, hD⟩
        refine ⟨D, _, rfl, SqL.of hD, ?_⟩
        have q1 := q H1 s1
        have e2 : rising xs = ((List.range (xs.length - 1)).map (riseAt xs)).all id := by
          unfold rising
          rw [List.all_map]
          rfl
        rw [e2] at q1
        exact q1

/-! ### pagelend.setups -/
theorem Small.items {ds : List PyData} (h : Small (.tuple ds)) : ∀ d ∈ ds, Small d := fun d m => h.mem m
theorem Small.count {ds : List PyData} (h : Small (.tuple ds)) : ds.length ≤ 5000000 := by
  have := siz_len ds
  unfold Small at h
  rw [siz] at h
  omega
def fileD : PyData → Bool
  | .tuple [n, p] => nameD n && withinD 1 4 p
  | _ => false
def notServer : PyData → Bool
  | .str x => !decide (x = "server")
  | _ => true
def clientD : PyData → Bool
  | .tuple [n, r, a] => (nameD n && notServer n) && (withinD 50 200 r && withinD 0 99 a)
  | _ => false
theorem len2 {α : Type} {xs : List α} (h : xs.length = 2) : ∃ a b, xs = [a, b] := by
  match xs, h with
  | [a, b], _ => exact ⟨a, b, rfl⟩
theorem len3 {α : Type} {xs : List α} (h : xs.length = 3) : ∃ a b c, xs = [a, b, c] := by
  match xs, h with
  | [a, b, c], _ => exact ⟨a, b, c, rfl⟩
theorem len4 {α : Type} {xs : List α} (h : xs.length = 4) : ∃ a b c d, xs = [a, b, c, d] := by
  match xs, h with
  | [a, b, c, d], _ => exact ⟨a, b, c, d, rfl⟩
theorem fileD_len {ds : List PyData} (h : ds.length ≠ 2) : fileD (.tuple ds) = false := by
  match ds, h with
  | [], _ => rfl
  | [_], _ => rfl
  | [_, _], h => exact absurd rfl h
  | _ :: _ :: _ :: _, _ => rfl
theorem clientD_len {ds : List PyData} (h : ds.length ≠ 3) : clientD (.tuple ds) = false := by
  match ds, h with
  | [], _ => rfl
  | [_], _ => rfl
  | [_, _], _ => rfl
  | [_, _, _], h => exact absurd rfl h
  | _ :: _ :: _ :: _ :: _, _ => rfl
/-- tupD n n, of anything -/
theorem tupD_no {n : Int} {d : PyData} (h : tupD n n d = false) : ∀ ds, d = .tuple ds → (ds.length : Nat) ≠ n := by
  rintro ds rfl e
  rw [tupD_tup, e, decide_eq_true (Int.le_refl n)] at h
  cases h
theorem tupD_yes {lo hi : Int} {d : PyData} (h : tupD lo hi d = true) : ∃ ds, d = .tuple ds ∧ lo ≤ (ds.length : Nat) ∧ ((ds.length : Nat) : Int) ≤ hi := by
  cases d with
  | tuple ds =>
    rw [tupD_tup, Bool.and_eq_true] at h
    exact ⟨ds, rfl, of_decide_eq_true h.1, of_decide_eq_true h.2⟩
  | bool b => cases h
  | none => cases h
  | int x => cases h
  | str x => cases h
  | list x => cases h
  | dict x => cases h
abbrev s_is_file : Stmt := topS 34
theorem sc_is_file : FnScope ["thing", "name", "pages"] ["thing"] (defScope s_is_file) := ⟨rfl, rfl, rfl, by decide +kernel, rfl, by decide +kernel, by decide +kernel⟩
theorem ok_is_file {f : Addr} {fd : FuncData} (F : Fun K "is_file" "is_file" s_is_file f fd) (gm : mg "is_file" = some (.ref f)) (N : Fre K mg) (c_is_name : C8.Cal P w K mg base 1 "is_name" (pure1S K nameD) []) (c_is_tuple : C8.Cal P w K mg base 1 "is_tuple" (spis_tuple K) []) (c_is_within : C8.Cal P w K mg base 2 "is_within" (spis_within K) []) : C8.Cal P w K mg base 3 "is_file" (pure1S K fileD) [] := by
  refine mkCal F gm sc_is_file (F.binds (ps := ["thing"]) fun _ _ _ _ _ _ us hl => match us, hl with | [_], _ => rfl) (fun vs H Q E h => ?_) (fun cdv A outer s H vs Q E hr h => ?_)
  · obtain ⟨v, d, rfl, _⟩ := h
    rfl
  · obtain ⟨v, d, rfl, hd, sm, q⟩ := h
    refine ⟨_, (pss_cons (ps_if (pt_not (pt_val (C8.pe_c c_is_tuple hr (by decide) rfl (pa_cons (pv 0) (pa_cons pe_int (pa_cons pe_int pa_nil))))))
 (pss_one (ps_ret pe_bl))
 pss_nil)
 (pss_cons (ps_asg (pv 0) (pg_tup rfl (pgs_cons (pg_name (i := 1) sc_is_file.nd rfl (.inl rfl)) (pgs_cons (pg_name (i := 2) sc_is_file.nd rfl (.inl rfl)) pgs_nil))))
 (pss_one (ps_ret (pe_and (C8.pe_c c_is_name hr (by decide) rfl (pa_cons (pv 1) pa_nil)) (pe_one (C8.pe_c c_is_within hr (by decide) rfl (pa_cons (pv 2) (pa_cons pe_int (pa_cons pe_int pa_nil)))))))))), ?_⟩
    refine ⟨_, rfl, v, d, 2, 2, rfl, hd, _, rfl, ?_⟩
    cases e : tupD 2 2 d with
    | false =>
      refine iteT ?_
      have e2 : fileD d = false := by
        cases d with
        | tuple ds => exact fileD_len fun z => tupD_no e ds rfl (by omega)
        | bool b => rfl
        | none => rfl
        | int x => rfl
        | str x => rfl
        | list x => rfl
        | dict x => rfl
      have q0 := q H (Same.refl H)
      rw [e2] at q0
      exact q0
    | true =>
      obtain ⟨ds, rfl, l1, l2⟩ := tupD_yes e
      obtain ⟨dn, dp, rfl⟩ := len2 (xs := ds) (by omega)
      refine iteF ?_
      cases hd with
      | tup hs ha =>
        cases ha with
        | cons h1 ha =>
          cases ha with
          | cons h2 ha =>
            cases ha
            refine ⟨_, rfl, _, _, rfl, hs, rfl, _, _, rfl, _, _, rfl, rfl, ?_⟩
            refine ⟨_, rfl, _, dn, rfl, h1, sm.mem (by simp), fun H1 s1 => ⟨_, rfl, ?_⟩⟩
            cases en : nameD dn with
            | false =>
              refine iteF ?_
              have q0 := q H1 s1
              have e2 : fileD (.tuple [dn, dp]) = false := by show (nameD dn && withinD 1 4 dp) = false; rw [en]; rfl
              rw [e2] at q0
              exact q0
            | true =>
              refine iteT ⟨_, rfl, _, dp, 1, 4, rfl, dp_same s1 _ _ h2, fun H2 s2 => ?_⟩
              have q0 := q H2 (s1.trans s2)
              have e2 : fileD (.tuple [dn, dp]) = withinD 1 4 dp := by show (nameD dn && withinD 1 4 dp) = _; rw [en]; rfl
              rw [e2] at q0
              exact q0
theorem nameD_yes {d : PyData} (h : nameD d = true) : ∃ x, d = .str x := by
  cases d with
  | str x => exact ⟨x, rfl⟩
  | bool b => cases h
  | none => cases h
  | int x => cases h
  | tuple x => cases h
  | list x => cases h
  | dict x => cases h
abbrev s_is_client : Stmt := topS 35
theorem sc_is_client : FnScope ["thing", "name", "rate", "ahead"] ["thing"] (defScope s_is_client) := ⟨rfl, rfl, rfl, by decide +kernel, rfl, by decide +kernel, by decide +kernel⟩
theorem ok_is_client {f : Addr} {fd : FuncData} (F : Fun K "is_client" "is_client" s_is_client f fd) (gm : mg "is_client" = some (.ref f)) (N : Fre K mg) (c_is_name : C8.Cal P w K mg base 1 "is_name" (pure1S K nameD) []) (c_is_tuple : C8.Cal P w K mg base 1 "is_tuple" (spis_tuple K) []) (c_is_within : C8.Cal P w K mg base 2 "is_within" (spis_within K) []) : C8.Cal P w K mg base 3 "is_client" (pure1S K clientD) [] := by
  refine mkCal F gm sc_is_client (F.binds (ps := ["thing"]) fun _ _ _ _ _ _ us hl => match us, hl with | [_], _ => rfl) (fun vs H Q E h => ?_) (fun cdv A outer s H vs Q E hr h => ?_)
  · obtain ⟨v, d, rfl, _⟩ := h
    rfl
  · obtain ⟨v, d, rfl, hd, sm, q⟩ := h
    obtain ⟨_, g_SERVER⟩ := N.c_SERVER
    refine ⟨_, (pss_cons (ps_if (pt_not (pt_val (C8.pe_c c_is_tuple hr (by decide) rfl (pa_cons (pv 0) (pa_cons pe_int (pa_cons pe_int pa_nil))))))
 (pss_one (ps_ret pe_bl))
 pss_nil)
 (pss_cons (ps_asg (pv 0) (pg_tup rfl (pgs_cons (pg_name (i := 1) sc_is_client.nd rfl (.inl rfl)) (pgs_cons (pg_name (i := 2) sc_is_client.nd rfl (.inl rfl)) (pgs_cons (pg_name (i := 3) sc_is_client.nd rfl (.inl rfl)) pgs_nil)))))
 (pss_cons (ps_if (PW.pt (pw_or (pt_not (pt_val (C8.pe_c c_is_name hr (by decide) rfl (pa_cons (pv 1) pa_nil)))) (pw_or1 (pt_cmpR op_eq (pv 1) (pe_glob (v := .str "server") rfl g_SERVER ⟨_, rfl⟩) (nomark _)))))
 (pss_one (ps_ret pe_bl))
 pss_nil)
 (pss_one (ps_ret (pe_and (C8.pe_c c_is_within hr (by decide) rfl (pa_cons (pv 2) (pa_cons pe_int (pa_cons pe_int pa_nil)))) (pe_one (C8.pe_c c_is_within hr (by decide) rfl (pa_cons (pv 3) (pa_cons pe_int (pa_cons pe_int pa_nil))))))))))), ?_⟩
    refine ⟨_, rfl, v, d, 3, 3, rfl, hd, _, rfl, ?_⟩
    cases e : tupD 3 3 d with
    | false =>
      refine iteT ?_
      have e2 : clientD d = false := by
        cases d with
        | tuple ds => exact clientD_len fun z => tupD_no e ds rfl (by omega)
        | bool b => rfl
        | none => rfl
        | int x => rfl
        | str x => rfl
        | list x => rfl
        | dict x => rfl
      have q0 := q H (Same.refl H)
      rw [e2] at q0
      exact q0
    | true =>
      obtain ⟨ds, rfl, l1, l2⟩ := tupD_yes e
      obtain ⟨dn, dr, da, rfl⟩ := len3 (xs := ds) (by omega)
      refine iteF ?_
      cases hd with
      | tup hs ha =>
        cases ha with
        | cons h1 ha =>
          cases ha with
          | cons h2 ha =>
            cases ha with
            | cons h3 ha =>
              cases ha
              refine ⟨_, rfl, _, _, rfl, hs, rfl, _, _, rfl, _, _, rfl, _, _, rfl, rfl, ?_⟩
              refine ⟨_, rfl, _, dn, rfl, h1, sm.mem (by simp), fun H1 s1 => ⟨_, rfl, ?_⟩⟩
              have e0 : clientD (.tuple [dn, dr, da]) = ((nameD dn && notServer dn) && (withinD 50 200 dr && withinD 0 99 da)) := rfl
              cases en : nameD dn with
              | false =>
                refine iteT (iteT ?_)
                have q0 := q H1 s1
                rw [e0, en] at q0
                exact q0
              | true =>
                obtain ⟨x, rfl⟩ := nameD_yes en
                cases h1
                refine iteF ⟨_, rfl, rfl, _, rfl, ?_⟩
                by_cases hx : x = "server"
                · have ex : V.str x = V.str "server" := congrArg V.str hx
                  refine iteD' ex ?_
                  have q0 := q H1 s1
                  have e3 : notServer (.str x) = false := by show (!decide (x = "server")) = false; rw [decide_eq_true hx]; rfl
                  rw [e0, en, e3] at q0
                  exact q0
                · have ex : ¬ V.str x = V.str "server" := fun z => hx (V.str.inj z)
                  refine iteD ex ?_
                  have e3 : notServer (.str x) = true := by show (!decide (x = "server")) = true; rw [decide_eq_false hx]; rfl
                  refine ⟨_, rfl, _, dr, 50, 200, rfl, dp_same s1 _ _ h2, fun H2 s2 => ⟨_, rfl, ?_⟩⟩
                  cases er : withinD 50 200 dr with
                  | false =>
                    refine iteF ?_
                    have q0 := q H2 (s1.trans s2)
                    rw [e0, en, e3, er] at q0
                    exact q0
                  | true =>
                    refine iteT ⟨_, rfl, _, da, 0, 99, rfl, dp_same (s1.trans s2) _ _ h3, fun H3 s3 => ?_⟩
                    have q0 := q H3 ((s1.trans s2).trans s3)
                    rw [e0, en, e3, er] at q0
                    exact q0
/-! ### files and clients -/
def itemsD : PyData → List PyData
  | .tuple xs => xs
  | _ => []
def nm : PyData → Str
  | .tuple (.str x :: _) => x
  | _ => Str.empty
theorem all_take' {α β : Type} (p : α → β) (xs : List α) (i : Nat) (x : α) (h : xs[i]? = some x) : (xs.take (i + 1)).map p = (xs.take i).map p ++ [p x] := by
  rw [List.take_add_one, h, List.map_append]
  rfl
theorem row_at {H : Hp} {x : V} {z : Str} {ds : List PyData} (h : Dp K H x (.tuple (.str z :: ds))) : ∃ t vs, x = .ref t ∧ SqT K H t (.str z :: vs) := by
  cases h with
  | @tup a xs _ hs ha =>
    cases ha with
    | cons h1 h2 =>
      cases h1
      exact ⟨a, _, rfl, hs⟩
theorem fileD_row {d : PyData} (h : fileD d = true) : ∃ z ds, d = .tuple (.str z :: ds) := by
  cases d with
  | tuple ds =>
    by_cases hl : ds.length = 2
    · obtain ⟨n, p, rfl⟩ := len2 hl
      have h1 : (nameD n && withinD 1 4 p) = true := h
      obtain ⟨z, rfl⟩ := nameD_yes (Bool.and_eq_true _ _ ▸ h1).1
      exact ⟨z, _, rfl⟩
    · rw [fileD_len hl] at h
      cases h
  | bool b => cases h
  | none => cases h
  | int x => cases h
  | str x => cases h
  | list x => cases h
  | dict x => cases h
theorem clientD_row {d : PyData} (h : clientD d = true) : ∃ z ds, d = .tuple (.str z :: ds) := by
  cases d with
  | tuple ds =>
    by_cases hl : ds.length = 3
    · obtain ⟨n, r, a, rfl⟩ := len3 hl
      have h1 : ((nameD n && notServer n) && (withinD 50 200 r && withinD 0 99 a)) = true := h
      rw [Bool.and_eq_true, Bool.and_eq_true] at h1
      obtain ⟨z, rfl⟩ := nameD_yes h1.1.1
      exact ⟨z, _, rfl⟩
    · rw [clientD_len hl] at h
      cases h
  | bool b => cases h
  | none => cases h
  | int x => cases h
  | str x => cases h
  | list x => cases h
  | dict x => cases h

def filesD (d : PyData) : Bool := (tupD 1 3 d && (itemsD d).all fileD) && rising ((itemsD d).map nm)
abbrev s_are_files : Stmt := topS 36
theorem sc_are_files : FnScope ["thing", "row"] ["thing"] (defScope s_are_files) := ⟨rfl, rfl, rfl, by decide +kernel, rfl, by decide +kernel, by decide +kernel⟩
theorem ok_are_files {f : Addr} {fd : FuncData} (F : Fun K "are_files" "are_files" s_are_files f fd) (gm : mg "are_files" = some (.ref f)) (N : Fre K mg) (c_is_file : C8.Cal P w K mg base 3 "is_file" (pure1S K fileD) []) (c_is_rising : C8.Cal P w K mg base 1 "is_rising" (spis_rising K) []) (c_is_tuple : C8.Cal P w K mg base 1 "is_tuple" (spis_tuple K) []) : C8.Cal P w K mg base 4 "are_files" (pure1S K filesD) [] := by
  refine mkCal F gm sc_are_files (F.binds (ps := ["thing"]) fun _ _ _ _ _ _ us hl => match us, hl with | [_], _ => rfl) (fun vs H Q E h => ?_) (fun cdv A outer s H vs Q E hr h => ?_)
  · obtain ⟨v, d, rfl, _⟩ := h
    rfl
  · obtain ⟨v, d, rfl, hd, sm, q⟩ := h
    refine ⟨_, (pss_cons (ps_if (PW.pt (pw_or (pt_not (pt_val (C8.pe_c c_is_tuple hr (by decide) rfl (pa_cons (pv 0) (pa_cons pe_int (pa_cons pe_int pa_nil)))))) (pw_or1 (pt_not (pt_val (pe_callB (cr_all rfl) (by rfl) N.all (by decide +kernel) (pa_cons (pe_lc (own := [("row", 1)]) (g := gName 1) (tt := tYes) rfl sc_are_files.nd (pi_tup (pv 0)) (blkOk_by (N := ["thing", "row"]) (sc := defScope s_are_files) (by decide +kernel)) (fun _ _ _ _ _ => pg_name (i := 1) sc_are_files.nd rfl (Or.inl rfl)) (fun _ _ _ _ _ => pts_nil) (fun _ _ _ _ _ => (C8.pe_c c_is_file hr (by decide) rfl (pa_cons (pv 1) pa_nil)))) pa_nil)))))))
 (pss_one (ps_ret pe_bl))
 pss_nil)
 (pss_one (ps_ret (C8.pe_c c_is_rising hr (by decide) rfl (pa_cons (pe_lc (own := [("row", 1)]) (g := gName 1) (tt := tYes) rfl sc_are_files.nd (pi_tup (pv 0)) (blkOk_by (N := ["thing", "row"]) (sc := defScope s_are_files) (by decide +kernel)) (fun _ _ _ _ _ => pg_name (i := 1) sc_are_files.nd rfl (Or.inl rfl)) (fun _ _ _ _ _ => pts_nil) (fun _ _ _ _ _ => (pe_ix (show IxR _ (rIxT K) from ix_tup) (pv 1) pe_int (fun _ _ => rfl)))) pa_nil))))), ?_⟩
    refine ⟨_, rfl, v, d, 1, 3, rfl, hd, _, rfl, ?_⟩
    cases e : tupD 1 3 d with
    | false =>
      refine iteT (iteT ?_)
      have e2 : filesD d = false := by unfold filesD; rw [e]; rfl
      have q0 := q H (Same.refl H)
      rw [e2] at q0
      exact q0
    | true =>
      obtain ⟨ds, rfl, l1, l2⟩ := tupD_yes e
      refine iteF ?_
      cases hd with
      | @tup a xs _ hs ha =>
        have el := dpAll_len ha
        refine ⟨_, rfl, a, rfl, ⟨_, hs⟩, fun D nD => lc_it (walk_tup (xs := xs)) (fun i H1 => Same H H1 ∧ H1 D = some (.lst (((ds.take i).map fileD).map V.bl))) ⟨same_upd nD, upd_same⟩ (fun _ _ _ p => sqT_same p.1 hs) ?_ ?_⟩
        · rintro i x H1 H2 hi ⟨s1, hD⟩ ⟨rfl, hx⟩
          obtain ⟨dx, hdx, hdp⟩ := dpAll_get ha hx
          refine ⟨rfl, ⟨_, rfl, x, dx, rfl, dp_same s1 _ _ hdp, sm.mem (List.mem_of_getElem? hdx), fun H3 s3 => ⟨_, s3 _ _ hD, ?_, fun b o e => ?_, ?_⟩⟩⟩
          · rw [List.length_map, List.length_map, List.length_take]
            have := sm.count
            exact Nat.lt_of_le_of_lt (Nat.min_le_right _ _) (Nat.lt_of_le_of_lt this (by decide))
          · rw [upd_ne (ne_of_none e nD)]
            exact s3 _ _ (s1 _ _ e)
          · rw [upd_same, all_take _ _ i dx hdx, List.map_append]
            rfl
        · rintro H1 ⟨s1, hD⟩
          have e1 : ds.take xs.length = ds := List.take_of_length_le (by omega)
          rw [e1] at hD
          refine ⟨D, _, rfl, SqL.of hD, _, rfl, ?_⟩
          have e3 : (ds.map fileD).all id = ds.all fileD := by rw [List.all_map]; rfl
          rw [e3]
          cases ea : ds.all fileD with
          | false =>
            refine iteT ?_
            have e2 : filesD (.tuple ds) = false := by unfold filesD; rw [show itemsD (.tuple ds) = ds from rfl, ea, Bool.and_false]; rfl
            have q0 := q H1 s1
            rw [e2] at q0
            exact q0
          | true =>
            refine iteF ?_
            refine ⟨_, rfl, a, rfl, ⟨_, sqT_same s1 hs⟩, fun D2 nD2 => lc_it (walk_tup (xs := xs)) (fun i H2 => Same H1 H2 ∧ H2 D2 = some (.lst (((ds.take i).map nm).map V.str))) ⟨same_upd nD2, upd_same⟩ (fun _ _ _ p => sqT_same (s1.trans p.1) hs) ?_ ?_⟩
            · rintro i x H2 H3 hi ⟨s2, hD2⟩ ⟨rfl, hx⟩
              obtain ⟨dx, hdx, hdp⟩ := dpAll_get ha hx
              have hf : fileD dx = true := List.all_eq_true.mp ea dx (List.mem_of_getElem? hdx)
              obtain ⟨z, dr, rfl⟩ := fileD_row hf
              obtain ⟨t, vr, rfl, ht⟩ := row_at hdp
              refine ⟨rfl, ⟨_, rfl, t, _, 0, _, rfl, rfl, sqT_same (s1.trans s2) ht, atI_nat (j := 0) rfl, _, hD2, ?_, fun b o e => ?_, ?_⟩⟩
              · rw [List.length_map, List.length_map, List.length_take]
                have := sm.count
                exact Nat.lt_of_le_of_lt (Nat.min_le_right _ _) (Nat.lt_of_le_of_lt this (by decide))
              · rw [upd_ne (ne_of_none e nD2)]
                exact s2 _ _ e
              · rw [upd_same, all_take' _ _ i _ hdx, List.map_append]
                rfl
            · rintro H2 ⟨s2, hD2⟩
              rw [e1] at hD2
              refine ⟨D2, ds.map nm, rfl, SqL.of hD2, ?_, fun H3 s3 => ?_⟩
              · rw [List.length_map]
                omega
              · have q0 := q H3 ((s1.trans s2).trans s3)
                have e2 : filesD (.tuple ds) = rising (ds.map nm) := by unfold filesD; rw [show itemsD (.tuple ds) = ds from rfl, ea, e]; rfl
                rw [e2] at q0
                exact q0

def clientsD (d : PyData) : Bool := (tupD 1 4 d && (itemsD d).all clientD) && rising ((itemsD d).map nm)
abbrev s_are_clients : Stmt := topS 37
theorem sc_are_clients : FnScope ["thing", "row"] ["thing"] (defScope s_are_clients) := ⟨rfl, rfl, rfl, by decide +kernel, rfl, by decide +kernel, by decide +kernel⟩
theorem ok_are_clients {f : Addr} {fd : FuncData} (F : Fun K "are_clients" "are_clients" s_are_clients f fd) (gm : mg "are_clients" = some (.ref f)) (N : Fre K mg) (c_is_client : C8.Cal P w K mg base 3 "is_client" (pure1S K clientD) []) (c_is_rising : C8.Cal P w K mg base 1 "is_rising" (spis_rising K) []) (c_is_tuple : C8.Cal P w K mg base 1 "is_tuple" (spis_tuple K) []) : C8.Cal P w K mg base 4 "are_clients" (pure1S K clientsD) [] := by
  refine mkCal F gm sc_are_clients (F.binds (ps := ["thing"]) fun _ _ _ _ _ _ us hl => match us, hl with | [_], _ => rfl) (fun vs H Q E h => ?_) (fun cdv A outer s H vs Q E hr h => ?_)
  · obtain ⟨v, d, rfl, _⟩ := h
    rfl
  · obtain ⟨v, d, rfl, hd, sm, q⟩ := h
    refine ⟨_, (pss_cons (ps_if (PW.pt (pw_or (pt_not (pt_val (C8.pe_c c_is_tuple hr (by decide) rfl (pa_cons (pv 0) (pa_cons pe_int (pa_cons pe_int pa_nil)))))) (pw_or1 (pt_not (pt_val (pe_callB (cr_all rfl) (by rfl) N.all (by decide +kernel) (pa_cons (pe_lc (own := [("row", 1)]) (g := gName 1) (tt := tYes) rfl sc_are_clients.nd (pi_tup (pv 0)) (blkOk_by (N := ["thing", "row"]) (sc := defScope s_are_clients) (by decide +kernel)) (fun _ _ _ _ _ => pg_name (i := 1) sc_are_clients.nd rfl (Or.inl rfl)) (fun _ _ _ _ _ => pts_nil) (fun _ _ _ _ _ => (C8.pe_c c_is_client hr (by decide) rfl (pa_cons (pv 1) pa_nil)))) pa_nil)))))))
 (pss_one (ps_ret pe_bl))
 pss_nil)
 (pss_one (ps_ret (C8.pe_c c_is_rising hr (by decide) rfl (pa_cons (pe_lc (own := [("row", 1)]) (g := gName 1) (tt := tYes) rfl sc_are_clients.nd (pi_tup (pv 0)) (blkOk_by (N := ["thing", "row"]) (sc := defScope s_are_clients) (by decide +kernel)) (fun _ _ _ _ _ => pg_name (i := 1) sc_are_clients.nd rfl (Or.inl rfl)) (fun _ _ _ _ _ => pts_nil) (fun _ _ _ _ _ => (pe_ix (show IxR _ (rIxT K) from ix_tup) (pv 1) pe_int (fun _ _ => rfl)))) pa_nil))))), ?_⟩
    refine ⟨_, rfl, v, d, 1, 4, rfl, hd, _, rfl, ?_⟩
    cases e : tupD 1 4 d with
    | false =>
      refine iteT (iteT ?_)
      have e2 : clientsD d = false := by unfold clientsD; rw [e]; rfl
      have q0 := q H (Same.refl H)
      rw [e2] at q0
      exact q0
    | true =>
      obtain ⟨ds, rfl, l1, l2⟩ := tupD_yes e
      refine iteF ?_
      cases hd with
      | @tup a xs _ hs ha =>
        have el := dpAll_len ha
        refine ⟨_, rfl, a, rfl, ⟨_, hs⟩, fun D nD => lc_it (walk_tup (xs := xs)) (fun i H1 => Same H H1 ∧ H1 D = some (.lst (((ds.take i).map clientD).map V.bl))) ⟨same_upd nD, upd_same⟩ (fun _ _ _ p => sqT_same p.1 hs) ?_ ?_⟩
        · rintro i x H1 H2 hi ⟨s1, hD⟩ ⟨rfl, hx⟩
          obtain ⟨dx, hdx, hdp⟩ := dpAll_get ha hx
          refine ⟨rfl, ⟨_, rfl, x, dx, rfl, dp_same s1 _ _ hdp, sm.mem (List.mem_of_getElem? hdx), fun H3 s3 => ⟨_, s3 _ _ hD, ?_, fun b o e => ?_, ?_⟩⟩⟩
          · rw [List.length_map, List.length_map, List.length_take]
            have := sm.count
            exact Nat.lt_of_le_of_lt (Nat.min_le_right _ _) (Nat.lt_of_le_of_lt this (by decide))
          · rw [upd_ne (ne_of_none e nD)]
            exact s3 _ _ (s1 _ _ e)
          · rw [upd_same, all_take _ _ i dx hdx, List.map_append]
            rfl
        · rintro H1 ⟨s1, hD⟩
          have e1 : ds.take xs.length = ds := List.take_of_length_le (by omega)
          rw [e1] at hD
          refine ⟨D, _, rfl, SqL.of hD, _, rfl, ?_⟩
          have e3 : (ds.map clientD).all id = ds.all clientD := by rw [List.all_map]; rfl
          rw [e3]
          cases ea : ds.all clientD with
          | false =>
            refine iteT ?_
            have e2 : clientsD (.tuple ds) = false := by unfold clientsD; rw [show itemsD (.tuple ds) = ds from rfl, ea, Bool.and_false]; rfl
            have q0 := q H1 s1
            rw [e2] at q0
            exact q0
          | true =>
            refine iteF ?_
            refine ⟨_, rfl, a, rfl, ⟨_, sqT_same s1 hs⟩, fun D2 nD2 => lc_it (walk_tup (xs := xs)) (fun i H2 => Same H1 H2 ∧ H2 D2 = some (.lst (((ds.take i).map nm).map V.str))) ⟨same_upd nD2, upd_same⟩ (fun _ _ _ p => sqT_same (s1.trans p.1) hs) ?_ ?_⟩
            · rintro i x H2 H3 hi ⟨s2, hD2⟩ ⟨rfl, hx⟩
              obtain ⟨dx, hdx, hdp⟩ := dpAll_get ha hx
              have hf : clientD dx = true := List.all_eq_true.mp ea dx (List.mem_of_getElem? hdx)
              obtain ⟨z, dr, rfl⟩ := clientD_row hf
              obtain ⟨t, vr, rfl, ht⟩ := row_at hdp
              refine ⟨rfl, ⟨_, rfl, t, _, 0, _, rfl, rfl, sqT_same (s1.trans s2) ht, atI_nat (j := 0) rfl, _, hD2, ?_, fun b o e => ?_, ?_⟩⟩
              · rw [List.length_map, List.length_map, List.length_take]
                have := sm.count
                exact Nat.lt_of_le_of_lt (Nat.min_le_right _ _) (Nat.lt_of_le_of_lt this (by decide))
              · rw [upd_ne (ne_of_none e nD2)]
                exact s2 _ _ e
              · rw [upd_same, all_take' _ _ i _ hdx, List.map_append]
                rfl
            · rintro H2 ⟨s2, hD2⟩
              rw [e1] at hD2
              refine ⟨D2, ds.map nm, rfl, SqL.of hD2, ?_, fun H3 s3 => ?_⟩
              · rw [List.length_map]
                omega
              · have q0 := q H3 ((s1.trans s2).trans s3)
                have e2 : clientsD (.tuple ds) = rising (ds.map nm) := by unfold clientsD; rw [show itemsD (.tuple ds) = ds from rfl, ea, e]; rfl
                rw [e2] at q0
                exact q0

def setupD : PyData → Bool
  | .tuple [f, c, l, d] => (filesD f && clientsD c) && (withinD 2 1000 l && withinD 0 50 d)
  | _ => false
theorem setupD_len {ds : List PyData} (h : ds.length ≠ 4) : setupD (.tuple ds) = false := by
  match ds, h with
  | [], _ => rfl
  | [_], _ => rfl
  | [_, _], _ => rfl
  | [_, _, _], _ => rfl
  | [_, _, _, _], h => exact absurd rfl h
  | _ :: _ :: _ :: _ :: _ :: _, _ => rfl
abbrev s_is_setup : Stmt := topS 38
theorem sc_is_setup : FnScope ["thing", "files", "clients", "length", "drift"] ["thing"] (defScope s_is_setup) := ⟨rfl, rfl, rfl, by decide +kernel, rfl, by decide +kernel, by decide +kernel⟩
theorem ok_is_setup {f : Addr} {fd : FuncData} (F : Fun K "is_setup" "is_setup" s_is_setup f fd) (gm : mg "is_setup" = some (.ref f)) (N : Fre K mg) (c_are_clients : C8.Cal P w K mg base 4 "are_clients" (pure1S K clientsD) []) (c_are_files : C8.Cal P w K mg base 4 "are_files" (pure1S K filesD) []) (c_is_tuple : C8.Cal P w K mg base 1 "is_tuple" (spis_tuple K) []) (c_is_within : C8.Cal P w K mg base 2 "is_within" (spis_within K) []) : C8.Cal P w K mg base 5 "is_setup" (pure1S K setupD) [] := by
  refine mkCal F gm sc_is_setup (F.binds (ps := ["thing"]) fun _ _ _ _ _ _ us hl => match us, hl with | [_], _ => rfl) (fun vs H Q E h => ?_) (fun cdv A outer s H vs Q E hr h => ?_)
  · obtain ⟨v, d, rfl, _⟩ := h
    rfl
  · obtain ⟨v, d, rfl, hd, sm, q⟩ := h
    refine ⟨_, (pss_cons (ps_if (pt_not (pt_val (C8.pe_c c_is_tuple hr (by decide) rfl (pa_cons (pv 0) (pa_cons pe_int (pa_cons pe_int pa_nil))))))
 (pss_one (ps_ret pe_bl))
 pss_nil)
 (pss_cons (ps_asg (pv 0) (pg_tup rfl (pgs_cons (pg_name (i := 1) sc_is_setup.nd rfl (.inl rfl)) (pgs_cons (pg_name (i := 2) sc_is_setup.nd rfl (.inl rfl)) (pgs_cons (pg_name (i := 3) sc_is_setup.nd rfl (.inl rfl)) (pgs_cons (pg_name (i := 4) sc_is_setup.nd rfl (.inl rfl)) pgs_nil))))))
 (pss_cons (ps_if (PW.pt (pw_or (pt_not (pt_val (C8.pe_c c_are_files hr (by decide) rfl (pa_cons (pv 1) pa_nil)))) (pw_or1 (pt_not (pt_val (C8.pe_c c_are_clients hr (by decide) rfl (pa_cons (pv 2) pa_nil)))))))
 (pss_one (ps_ret pe_bl))
 pss_nil)
 (pss_one (ps_ret (pe_and (C8.pe_c c_is_within hr (by decide) rfl (pa_cons (pv 3) (pa_cons pe_int (pa_cons pe_int pa_nil)))) (pe_one (C8.pe_c c_is_within hr (by decide) rfl (pa_cons (pv 4) (pa_cons pe_int (pa_cons pe_int pa_nil))))))))))), ?_⟩
    refine ⟨_, rfl, v, d, 4, 4, rfl, hd, _, rfl, ?_⟩
    cases e : tupD 4 4 d with
    | false =>
      refine iteT ?_
      have e2 : setupD d = false := by
        cases d with
        | tuple ds => exact setupD_len fun z => tupD_no e ds rfl (by omega)
        | bool b => rfl
        | none => rfl
        | int x => rfl
        | str x => rfl
        | list x => rfl
        | dict x => rfl
      have q0 := q H (Same.refl H)
      rw [e2] at q0
      exact q0
    | true =>
      obtain ⟨ds, rfl, l1, l2⟩ := tupD_yes e
      obtain ⟨df, dc, dl, dd, rfl⟩ := len4 (xs := ds) (by omega)
      refine iteF ?_
      cases hd with
      | tup hs ha =>
        cases ha with
        | cons h1 ha =>
          cases ha with
          | cons h2 ha =>
            cases ha with
            | cons h3 ha =>
              cases ha with
              | cons h4 ha =>
                cases ha
                refine ⟨_, rfl, _, _, rfl, hs, rfl, _, _, rfl, _, _, rfl, _, _, rfl, _, _, rfl, rfl, ?_⟩
                have e0 : setupD (.tuple [df, dc, dl, dd]) = ((filesD df && clientsD dc) && (withinD 2 1000 dl && withinD 0 50 dd)) := rfl
                refine ⟨_, rfl, _, df, rfl, h1, sm.mem (by simp), fun H1 s1 => ⟨_, rfl, ?_⟩⟩
                cases e1 : filesD df with
                | false =>
                  refine iteT (iteT ?_)
                  have q0 := q H1 s1
                  rw [e0, e1] at q0
                  exact q0
                | true =>
                  refine iteF ⟨_, rfl, _, dc, rfl, dp_same s1 _ _ h2, sm.mem (by simp), fun H2 s2 => ⟨_, rfl, ?_⟩⟩
                  cases e2 : clientsD dc with
                  | false =>
                    refine iteT ?_
                    have q0 := q H2 (s1.trans s2)
                    rw [e0, e1, e2] at q0
                    exact q0
                  | true =>
                    refine iteF ?_
                    refine ⟨_, rfl, _, dl, 2, 1000, rfl, dp_same (s1.trans s2) _ _ h3, fun H3 s3 => ⟨_, rfl, ?_⟩⟩
                    cases e3 : withinD 2 1000 dl with
                    | false =>
                      refine iteF ?_
                      have q0 := q H3 ((s1.trans s2).trans s3)
                      rw [e0, e1, e2, e3] at q0
                      exact q0
                    | true =>
                      refine iteT ⟨_, rfl, _, dd, 0, 50, rfl, dp_same ((s1.trans s2).trans s3) _ _ h4, fun H4 s4 => ?_⟩
                      have q0 := q H4 (((s1.trans s2).trans s3).trans s4)
                      rw [e0, e1, e2, e3] at q0
                      exact q0

end
/-! ### rules of our own: a list against an empty one -/
section
variable {X : Cx}
theorem op_eqNil (hu : X.A.units < cLine) : OpR X (compareOp .Eq) (fun x y H Q => ∃ a b xs, x = .ref a ∧ y = .ref b ∧ SqL X.K H a xs ∧ SqL X.K H b [] ∧ Q (.bl xs.isEmpty) H) := by
  intro pins s σ H x y v u Q I rx ry h
  obtain ⟨a, b, xs, rfl, rfl, ha, hb, q⟩ := h
  obtain rfl : v = Value.ref a := rx
  obtain rfl : u = Value.ref b := ry
  obtain ⟨its, rv, p, _⟩ := I.list ha
  obtain ⟨its2, rv2, p2, _⟩ := I.list hb
  cases rv2
  cases xs with
  | nil =>
    cases rv
    exact PySem.EqBoolInt.of_rc (SeqAt.RcAt.lists (e := fun _ => true) p.isList p2.isList rfl hu (fun j h1 => absurd h1 (Nat.not_lt_zero j))) ⟨.bl true, H, I, rfl, q⟩
  | cons z zs =>
    cases rv
    exact PySem.EqBoolInt.of_rc (SeqAt.RcAt.lists_lengths p.isList p2.isList (by simp) hu) ⟨.bl false, H, I, rfl, q⟩
theorem op_neNil (hu : X.A.units < cLine) : OpR X (compareOp .NotEq) (fun x y H Q => ∃ a b xs, x = .ref a ∧ y = .ref b ∧ SqL X.K H a xs ∧ SqL X.K H b [] ∧ Q (.bl (!xs.isEmpty)) H) := by
  intro pins s σ H x y v u Q I rx ry h
  obtain ⟨a, b, xs, rfl, rfl, ha, hb, q⟩ := h
  obtain rfl : v = Value.ref a := rx
  obtain rfl : u = Value.ref b := ry
  obtain ⟨its, rv, p, _⟩ := I.list ha
  obtain ⟨its2, rv2, p2, _⟩ := I.list hb
  cases rv2
  cases xs with
  | nil =>
    cases rv
    exact PySem.EqBoolInt.of_rcne (SeqAt.RcNeAt.lists (e := fun _ => true) p.isList p2.isList rfl hu (fun j h1 => absurd h1 (Nat.not_lt_zero j))) ⟨.bl false, H, I, rfl, q⟩
  | cons z zs =>
    cases rv
    exact PySem.EqBoolInt.of_rcne (SeqAt.RcNeAt.lists_lengths p.isList p2.isList (by simp) hu) ⟨.bl true, H, I, rfl, q⟩
end
theorem hu0 {A : Around} {k : Nat} (hr : Room k A) : A.units < cLine := by have := hr.un; omega
section
variable {P : Program} {w : World} {K : PySem.W.Frag} {mg : Str → Option Value} {base : Heap}

/-! ### the law's own reading of a setup -/
abbrev s__law_within : Stmt := topS 44
theorem sc__law_within : FnScope ["thing", "least", "most"] ["thing", "least", "most"] (defScope s__law_within) := ⟨rfl, rfl, rfl, by decide +kernel, rfl, by decide +kernel, by decide +kernel⟩
theorem ok__law_within {f : Addr} {fd : FuncData} (F : Fun K "_law_within" "_law_within" s__law_within f fd) (gm : mg "_law_within" = some (.ref f)) (N : Fre K mg)  : C8.Cal P w K mg base 1 "_law_within" (spis_within K) [] := by
  refine mkCal F gm sc__law_within (F.binds (ps := ["thing", "least", "most"]) fun _ _ _ _ _ _ us hl => match us, hl with | [_, _, _], _ => rfl) (fun vs H Q E h => ?_) (fun cdv A outer s H vs Q E hr h => ?_)
  · obtain ⟨v, d, lo, hi, rfl, _⟩ := h
    rfl
  · obtain ⟨v, d, lo, hi, rfl, hd, q⟩ := h
    refine ⟨_, (pss_one (ps_ret (pe_and (pe_callB call_isi (by rfl) N.isinstance (by decide +kernel) (pa_cons (pv 0) (pa_cons (pe_bltn (v := .ty "int") (u := .type "int") rfl N.int (by decide +kernel) rfl) pa_nil))) (pe_and (pe_not (pe_callB call_isi (by rfl) N.isinstance (by decide +kernel) (pa_cons (pv 0) (pa_cons (pe_bltn (v := .ty "bool") (u := .type "bool") rfl N.bool (by decide +kernel) rfl) pa_nil)))) (pe_one (pe_chain op_le op_le (pv 1) (pv 0) (pv 2))))))), ?_⟩
    refine ⟨_, rfl, _, _, _, _, isT d "int", rfl, .ty _, dp_ty hd, kit_d d (.inl rfl), _, rfl, ?_⟩
    have q0 := q H (Same.refl H)
    cases d with
    | int i =>
      refine iteT ⟨_, rfl, _, _, _, _, false, rfl, .ty _, dp_ty hd, kit_d _ (.inr (.inl rfl)), _, rfl, _, rfl, iteT ?_⟩
      cases hd
      refine ⟨_, rfl, _, rfl, lo, i, rfl, rfl, _, rfl, ?_⟩
      by_cases h1 : lo ≤ i
      · refine iteD' h1 ⟨_, rfl, i, hi, rfl, rfl, ?_⟩
        rw [withinD_int, decide_eq_true h1] at q0
        exact q0
      · refine iteD h1 ?_
        rw [withinD_int, decide_eq_false h1] at q0
        exact q0
    | bool b => exact iteT ⟨_, rfl, _, _, _, _, true, rfl, .ty _, dp_ty hd, kit_d _ (.inr (.inl rfl)), _, rfl, _, rfl, iteF q0⟩
    | none => exact iteF q0
    | str x => exact iteF q0
    | list x => exact iteF q0
    | tuple x => exact iteF q0
    | dict x => exact iteF q0
theorem filter_take {α : Type} (p : α → Bool) (xs : List α) (i : Nat) (x : α) (h : xs[i]? = some x) : (xs.take (i + 1)).filter p = (xs.take i).filter p ++ (if p x then [x] else []) := by
  rw [List.take_add_one, h, List.filter_append]
  show _ ++ List.filter p [x] = _
  cases e : p x <;> simp [List.filter, e]
theorem all_filter {α : Type} (p : α → Bool) (xs : List α) : (xs.filter fun x => !p x).isEmpty = xs.all p := by
  induction xs with
  | nil => rfl
  | cons x xs ih =>
    cases e : p x <;> simp [List.filter, e] <;> simpa using ih
abbrev s__law_is_name : Stmt := topS 45
theorem sc__law_is_name : FnScope ["thing", "sign"] ["thing"] (defScope s__law_is_name) := ⟨rfl, rfl, rfl, by decide +kernel, rfl, by decide +kernel, by decide +kernel⟩
theorem ok__law_is_name {f : Addr} {fd : FuncData} (F : Fun K "_law_is_name" "_law_is_name" s__law_is_name f fd) (gm : mg "_law_is_name" = some (.ref f)) (N : Fre K mg)  : C8.Cal P w K mg base 1 "_law_is_name" (pure1S K nameD) [] := by
  refine mkCal F gm sc__law_is_name (F.binds (ps := ["thing"]) fun _ _ _ _ _ _ us hl => match us, hl with | [_], _ => rfl) (fun vs H Q E h => ?_) (fun cdv A outer s H vs Q E hr h => ?_)
  · obtain ⟨v, d, rfl, _⟩ := h
    rfl
  · obtain ⟨v, d, rfl, hd, sm, q⟩ := h
    refine ⟨_, (pss_cons (ps_if (PW.pt (pw_or (pt_not (pt_val (pe_callB call_isi (by rfl) N.isinstance (by decide +kernel) (pa_cons (pv 0) (pa_cons (pe_bltn (v := .ty "str") (u := .type "str") rfl N.str (by decide +kernel) rfl) pa_nil))))) (pw_or1 (pt_not (pt_chain op_le op_le pe_int (pe_callB call_len_str (by rfl) N.len (by decide +kernel) (pa_cons (pv 0) pa_nil)) pe_int)))))
 (pss_one (ps_ret pe_bl))
 pss_nil)
 (pss_one (ps_ret (pe_cmpR (op_eqNil (hu0 hr)) (pe_lc (own := [("sign", 1)]) (g := gName 1) rfl sc__law_is_name.nd (pi_str (pv 0)) (blkOk_by (N := ["thing", "sign"]) (sc := defScope s__law_is_name) (by decide +kernel)) (fun _ _ _ _ _ => pg_name (i := 1) sc__law_is_name.nd rfl (Or.inl rfl)) (fun _ _ _ _ _ => pts_one (pt_cmpR op_notIn_sign (pv 1) pe_str (by with_unfolding_all rfl))) (fun _ _ _ _ _ => (pv 1))) (pe_lst pa_nil) (nomark _))))), ?_⟩
    refine ⟨_, rfl, _, _, _, _, isT d "str", rfl, .ty _, dp_ty hd, kit_d d (.inr (.inr (.inl rfl))), _, rfl, ?_⟩
    have q0 := q H (Same.refl H)
    cases d with
    | str x =>
      cases hd
      refine iteF ⟨_, rfl, x, rfl, sm.len, 1, _, rfl, rfl, _, rfl, ?_⟩
      by_cases h1 : (1 : Int) ≤ (x.length : Nat)
      · refine iteD' h1 ⟨_, 8, rfl, rfl, _, rfl, ?_⟩
        by_cases h2 : ((x.length : Nat) : Int) ≤ 8
        · rw [decide_eq_true h2]
          refine iteF ?_
          refine ⟨_, rfl, x, rfl, fun D nD => lc_it walk_str (fun i H1 => Same H H1 ∧ H1 D = some (.lst (((x.cps.toList.take i).filter fun c => !decide (c ∈ letters.cps.toList)).map sg))) ⟨same_upd nD, upd_same⟩ (fun _ _ _ _ => trivial) ?_ ?_⟩
          · rintro i v H1 H2 hi ⟨s1, hD⟩ ⟨rfl, c, hc, rfl⟩
            have hct : x.cps.toList[i]? = some c := by rw [← hc]; exact (Array.getElem?_toList ..).symm ▸ rfl
            refine ⟨rfl, ⟨_, rfl, c, _, rfl, rfl, _, rfl, ite2 (fun e => ?_) (fun e => ?_)⟩⟩
            · have e' : (!decide (c ∈ letters.cps.toList)) = true := e
              refine ⟨_, rfl, _, hD, ?_, fun b o e => ?_, ?_⟩
              · rw [List.length_map]
                have := sm.str
                refine Nat.lt_of_le_of_lt (List.length_filter_le _ _) ?_
                rw [List.length_take]
                exact Nat.lt_of_le_of_lt (Nat.min_le_right _ _) (Nat.lt_of_le_of_lt (show x.cps.toList.length ≤ 5000000 from this) (by decide))
              · rw [upd_ne (ne_of_none e nD)]
                exact s1 _ _ e
              · rw [upd_same, filter_take _ _ i c hct, e', List.map_append]
                rfl
            · have e' : (!decide (c ∈ letters.cps.toList)) = false := Bool.eq_false_iff.mpr e
              refine ⟨s1, ?_⟩
              rw [hD, filter_take _ _ i c hct, e']
              simp
          · rintro H1 ⟨s1, hD⟩
            refine ⟨Nat.zero_le _, fun L nL => ⟨D, L, _, rfl, rfl, SqL.of (same_upd nL _ _ hD), SqL.of upd_same, ?_⟩⟩
            have q1 := q _ (s1.trans (same_upd (o := .lst []) nL))
            have e1 : (x.cps.toList.take x.cps.size) = x.cps.toList := List.take_of_length_le (by rw [Array.length_toList]; exact Nat.le_refl _)
            rw [e1]
            have e2 : nameD (.str x) = ((x.cps.toList.filter fun c => !decide (c ∈ letters.cps.toList)).map sg).isEmpty := by
              rw [nameD_str]
              unfold signs
              rw [decide_eq_true (show 1 ≤ x.length by omega), decide_eq_true (show x.length ≤ 8 by omega), List.isEmpty_map, all_filter]
              rfl
            rw [e2] at q1
            exact q1
        · rw [decide_eq_false h2]
          refine iteT ?_
          have e2 : nameD (.str x) = false := by
            rw [nameD_str, decide_eq_false (show ¬ x.length ≤ 8 by omega), Bool.and_false]
            rfl
          rw [e2] at q0
          exact q0
      · refine iteD h1 ⟨_, rfl, iteT ?_⟩
        have e2 : nameD (.str x) = false := by
          rw [nameD_str, decide_eq_false (show ¬ 1 ≤ x.length by omega)]
          rfl
        rw [e2] at q0
        exact q0
    | bool b => exact iteT q0
    | none => exact iteT q0
    | int x => exact iteT q0
    | list x => exact iteT q0
    | tuple x => exact iteT q0
    | dict x => exact iteT q0
def rowsFrom (w : Nat) (last : Str) : List PyData → Bool
  | [] => true
  | .tuple (.str n :: r) :: ds => ((decide (r.length + 1 = w) && nameD (.str n)) && ltS last n) && rowsFrom w n ds
  | _ :: _ => false
def rowsD (most : Int) (w : Nat) (d : PyData) : Bool := tupD 1 most d && rowsFrom w Str.empty (itemsD d)
def sp_law_are_rows (K : PySem.W.Frag) : Sp := fun vs H Q _ => ∃ (v : V) (d : PyData) (most : Int) (w : Nat), vs = [v, .int most, .int (w : Nat)] ∧ Dp K H v d ∧ Small d ∧ 1 ≤ w ∧ ∀ H', Same H H' → Q (.bl (rowsD most w d)) H'
theorem rows_no {w : Nat} {last : Str} {d : PyData} {ds : List PyData} (h : ∀ n r, d ≠ .tuple (.str n :: r)) : rowsFrom w last (d :: ds) = false := by
  unfold rowsFrom
  split
  · cases ‹_ :: _ = []›
  · rename_i n r ds' e
    injection e with e1 e2
    exact absurd e1 (h n r)
  · rfl
theorem rows_yes {w : Nat} {last n : Str} {r ds : List PyData} : rowsFrom w last (.tuple (.str n :: r) :: ds) = (((decide (r.length + 1 = w) && nameD (.str n)) && ltS last n) && rowsFrom w n ds) := rfl
abbrev s__law_are_rows : Stmt := topS 51
theorem sc__law_are_rows : FnScope ["thing", "most", "width", "last", "row"] ["thing", "most", "width"] (defScope s__law_are_rows) := ⟨rfl, rfl, rfl, by decide +kernel, rfl, by decide +kernel, by decide +kernel⟩
theorem ok__law_are_rows {f : Addr} {fd : FuncData} (F : Fun K "_law_are_rows" "_law_are_rows" s__law_are_rows f fd) (gm : mg "_law_are_rows" = some (.ref f)) (N : Fre K mg) (c__law_is_name : C8.Cal P w K mg base 1 "_law_is_name" (pure1S K nameD) []) : C8.Cal P w K mg base 2 "_law_are_rows" (sp_law_are_rows K) [] := by
  refine mkCal F gm sc__law_are_rows (F.binds (ps := ["thing", "most", "width"]) fun _ _ _ _ _ _ us hl => match us, hl with | [_, _, _], _ => rfl) (fun vs H Q E h => ?_) (fun cdv A outer s H vs Q E hr h => ?_)
  · obtain ⟨v, d, most, w, rfl, _⟩ := h
    rfl
  · obtain ⟨v, d, most, w, rfl, hd, sm, hw, q⟩ := h
    refine ⟨_, (pss_cons (ps_if (PW.pt (pw_or (pt_not (pt_val (pe_callB call_isi (by rfl) N.isinstance (by decide +kernel) (pa_cons (pv 0) (pa_cons (pe_bltn (v := .ty "tuple") (u := .type "tuple") rfl N.tuple (by decide +kernel) rfl) pa_nil))))) (pw_or1 (pt_not (pt_chain op_le op_le pe_int (pe_callB call_len_seq (by rfl) N.len (by decide +kernel) (pa_cons (pv 0) pa_nil)) (pv 1))))))
 (pss_one (ps_ret pe_bl))
 pss_nil)
 (pss_cons (ps_set (i := 3) sc__law_are_rows.nd rfl (.inl rfl) pe_str)
 (pss_cons (ps_for PassesOwn.never rfl (pi_tup (pv 0)) (pg_name (i := 4) sc__law_are_rows.nd rfl (.inl rfl))
 (pss_cons (ps_if (PW.pt (pw_or (pt_not (pt_val (pe_callB call_isi (by rfl) N.isinstance (by decide +kernel) (pa_cons (pv 4) (pa_cons (pe_bltn (v := .ty "tuple") (u := .type "tuple") rfl N.tuple (by decide +kernel) rfl) pa_nil))))) (pw_or (pt_cmpR op_ne (pe_callB call_len_seq (by rfl) N.len (by decide +kernel) (pa_cons (pv 4) pa_nil)) (pv 2) (nomark _)) (pw_or (pt_not (pt_val (C8.pe_c c__law_is_name hr (by decide) rfl (pa_cons (pe_ix ix_tup (pv 4) pe_int (fun _ _ => rfl)) pa_nil)))) (pw_or1 (pt_cmpR op_le_str (pe_ix ix_tup (pv 4) pe_int (fun _ _ => rfl)) (pv 3) (nomark _)))))))
 (pss_one (ps_ret pe_bl))
 pss_nil)
 (pss_one (ps_set (i := 3) sc__law_are_rows.nd rfl (.inl rfl) (pe_ix ix_tup (pv 4) pe_int (fun _ _ => rfl))))))
 (pss_one (ps_ret pe_bl))))), ?_⟩
    refine ⟨_, rfl, _, _, _, _, isT d "tuple", rfl, .ty _, dp_ty hd, kit_d d (.inr (.inr (.inr (.inl rfl)))), _, rfl, ?_⟩
    have q0 := q H (Same.refl H)
    cases d with
    | tuple ds =>
      cases hd with
      | @tup a xs _ hs ha =>
        have el := dpAll_len ha
        refine iteF ⟨_, rfl, _, _, rfl, .inr hs, 1, _, rfl, rfl, _, rfl, ?_⟩
        by_cases h1 : (1 : Int) ≤ (xs.length : Nat)
        · refine iteD' h1 ⟨_, rfl, _, most, rfl, rfl, _, rfl, ?_⟩
          by_cases h2 : ((xs.length : Nat) : Int) ≤ most
          · rw [decide_eq_true h2]
            refine iteF ?_
            have et : tupD 1 most (.tuple ds) = true := by rw [tupD_tup, ← el, decide_eq_true h1, decide_eq_true h2]; rfl
            have er : rowsD most w (.tuple ds) = rowsFrom w Str.empty ds := by unfold rowsD; rw [et]; rfl
            rw [er] at q
            refine ⟨_, rfl, a, rfl, ⟨_, hs⟩, for_tup (xs := xs) (fun i σ H1 => ∃ last y, σ = [some (.ref a), some (.int most), some (.int (w : Nat)), some (.str last), y] ∧ Same H H1 ∧ rowsFrom w Str.empty ds = rowsFrom w last (ds.drop i)) ⟨Str.empty, none, rfl, Same.refl H, rfl⟩ (fun _ _ _ _ p => by obtain ⟨_, _, _, s1, _⟩ := p; exact sqT_same s1 hs) ?_ ?_⟩
            · rintro i x σ H1 hx ⟨last, y, rfl, s1, hr1⟩
              obtain ⟨dx, hdx, hdp⟩ := dpAll_get ha hx
              have hdp1 := dp_same s1 _ _ hdp
              have edr : ds.drop i = dx :: ds.drop (i + 1) := by
                obtain ⟨hlt, he⟩ := List.getElem?_eq_some_iff.mp hdx
                rw [List.drop_eq_getElem_cons hlt, he]
              rw [edr] at hr1
              have q1 := q H1 s1
              refine ⟨_, rfl, _, _, _, _, isT dx "tuple", rfl, .ty _, dp_ty hdp1, kit_d dx (.inr (.inr (.inr (.inl rfl)))), _, rfl, ?_⟩
              have no : (∀ n r, dx ≠ .tuple (.str n :: r)) → Q (.bl false) H1 := fun hn => by
                rw [hr1, rows_no hn] at q1
                exact q1
              cases dx with
              | tuple dr =>
                refine iteF ?_
                cases hdp1 with
                | @tup t vs _ ht hta =>
                  have elt := dpAll_len hta
                  refine ⟨_, rfl, t, _, rfl, .inr ht, _, rfl, rfl, _, rfl, ?_⟩
                  by_cases hlw : vs.length = w
                  · refine iteNS (by rw [hlw]) ?_
                    cases hta with
                    | nil =>
                      exfalso
                      have : (0 : Nat) = w := hlw
                      omega
                    | @cons v0 vr d0 drr h0 h0r =>
                      have smx : Small (.tuple (d0 :: drr)) := sm.mem (List.mem_of_getElem? hdx)
                      refine ⟨_, rfl, t, _, 0, _, rfl, rfl, ht, atI_nat (j := 0) rfl, v0, d0, rfl, h0, smx.mem (by simp), fun H2 s2 => ⟨_, rfl, ?_⟩⟩
                      have q2 := q H2 (s1.trans s2)
                      cases en : nameD d0 with
                      | false =>
                        refine iteT ?_
                        have e3 : rowsFrom w last (.tuple (d0 :: drr) :: ds.drop (i + 1)) = false := by
                          cases d0 with
                          | str n => rw [rows_yes, en, Bool.and_false]; rfl
                          | bool b => rfl
                          | none => rfl
                          | int x => rfl
                          | tuple x => rfl
                          | list x => rfl
                          | dict x => rfl
                        rw [hr1, e3] at q2
                        exact q2
                      | true =>
                        obtain ⟨n, rfl⟩ := nameD_yes en
                        cases h0
                        refine iteF ⟨_, rfl, t, _, 0, _, rfl, rfl, sqT_same s2 ht, atI_nat (j := 0) rfl, _, rfl, n, last, rfl, rfl, _, rfl, ?_⟩
                        have ew : decide (drr.length + 1 = w) = true := decide_eq_true (by have : vr.length + 1 = drr.length + 1 := elt; have h5 : vr.length + 1 = w := hlw; omega)
                        rw [rows_yes, ew, en] at hr1
                        by_cases hlt : last.cps.toList < n.cps.toList
                        · have e4 : ltS last n = true := decide_eq_true hlt
                          refine iteNS hlt ?_
                          refine ⟨_, rfl, t, _, 0, _, rfl, rfl, sqT_same s2 ht, atI_nat (j := 0) rfl, ?_⟩
                          refine ⟨n, _, rfl, s1.trans s2, ?_⟩
                          rw [hr1, e4]
                          rfl
                        · have e4 : ltS last n = false := decide_eq_false hlt
                          rw [decide_eq_false hlt]
                          refine iteT ?_
                          rw [hr1, e4] at q2
                          exact q2
                  · have hne : ¬ V.int ((vs.length : Nat) : Int) = V.int (w : Nat) := fun z => hlw (by have := V.int.inj z; omega)
                    rw [decide_eq_false hne]
                    refine iteT ?_
                    have e3 : rowsFrom w last (.tuple dr :: ds.drop (i + 1)) = false := by
                      cases dr with
                      | nil => rfl
                      | cons d0 drr =>
                        cases d0 with
                        | str n => rw [rows_yes, decide_eq_false (by have : vs.length = drr.length + 1 := elt; omega)]; rfl
                        | bool b => rfl
                        | none => rfl
                        | int x => rfl
                        | tuple x => rfl
                        | list x => rfl
                        | dict x => rfl
                    rw [hr1, e3] at q1
                    exact q1
              | bool b => exact iteT (no (by intro n r z; cases z))
              | none => exact iteT (no (by intro n r z; cases z))
              | int x => exact iteT (no (by intro n r z; cases z))
              | str x => exact iteT (no (by intro n r z; cases z))
              | list x => exact iteT (no (by intro n r z; cases z))
              | dict x => exact iteT (no (by intro n r z; cases z))
            · rintro σ H1 ⟨last, y, rfl, s1, hr1⟩
              have q1 := q H1 s1
              rw [hr1, List.drop_of_length_le (by omega)] at q1
              exact q1
          · rw [decide_eq_false h2]
            refine iteT ?_
            have et : tupD 1 most (.tuple ds) = false := by rw [tupD_tup, ← el, decide_eq_false h2, Bool.and_false]
            have er : rowsD most w (.tuple ds) = false := by unfold rowsD; rw [et]; rfl
            rw [er] at q0
            exact q0
        · refine iteD h1 ⟨_, rfl, iteT ?_⟩
          have et : tupD 1 most (.tuple ds) = false := by rw [tupD_tup, ← el, decide_eq_false h1]; rfl
          have er : rowsD most w (.tuple ds) = false := by unfold rowsD; rw [et]; rfl
          rw [er] at q0
          exact q0
    | bool b => exact iteT q0
    | none => exact iteT q0
    | int x => exact iteT q0
    | str x => exact iteT q0
    | list x => exact iteT q0
    | dict x => exact iteT q0

/-! ### the two readings are one -/
def riseFrom (last : Str) : List Str → Bool
  | [] => true
  | n :: ns => ltS last n && riseFrom n ns
theorem rise_at (a b : Str) (r : List Str) (k : Nat) : riseAt (a :: b :: r) (k + 1) = riseAt (b :: r) k := rfl
theorem rising_from : ∀ (n : Str) (ns : List Str), rising (n :: ns) = riseFrom n ns
  | n, [] => rfl
  | n, b :: r => by
    have ih := rising_from b r
    unfold rising at *
    show (List.range (r.length + 1)).all (riseAt (n :: b :: r)) = (ltS n b && riseFrom b r)
    rw [List.range_succ_eq_map, List.all_cons, List.all_map, ← ih]
    rfl
theorem empty_lt {n : Str} (h : nameD (.str n) = true) : ltS Str.empty n = true := by
  rw [nameD_str, Bool.and_eq_true, Bool.and_eq_true] at h
  have h1 : 1 ≤ n.length := of_decide_eq_true h.1.1
  refine decide_eq_true ?_
  have h2 : 1 ≤ n.cps.toList.length := h1
  show ([] : List Nat) < n.cps.toList
  cases e : n.cps.toList with
  | nil => rw [e] at h2; exact absurd h2 (by decide)
  | cons x xs => exact List.Lex.nil
/-- second of a file within, and third of a client -/
def sec2 : PyData → Bool
  | .tuple [_, p] => withinD 1 4 p
  | _ => false
def sec3 : PyData → Bool
  | .tuple [n, r, a] => (notServer n && withinD 50 200 r) && withinD 0 99 a
  | _ => false
theorem sec2_len {ds : List PyData} (h : ds.length ≠ 2) : sec2 (.tuple ds) = false := by
  match ds, h with
  | [], _ => rfl
  | [_], _ => rfl
  | [_, _], h => exact absurd rfl h
  | _ :: _ :: _ :: _, _ => rfl
theorem files_eq : ∀ (ds : List PyData) (last : Str), (rowsFrom 2 last ds && ds.all sec2) = (ds.all fileD && riseFrom last (ds.map nm))
  | [], _ => rfl
  | d :: ds, last => by
    cases d with
    | tuple dr =>
      by_cases hl : dr.length = 2
      · obtain ⟨n, p, rfl⟩ := len2 hl
        cases n with
        | str n =>
          have ih := files_eq ds n
          rw [rows_yes, List.all_cons, List.all_cons, List.map_cons]
          show (((true && nameD (.str n)) && ltS last n) && rowsFrom 2 n ds && (withinD 1 4 p && ds.all sec2)) = ((nameD (.str n) && withinD 1 4 p) && ds.all fileD && (ltS last n && riseFrom n (ds.map nm)))
          generalize nameD (.str n) = a at *
          generalize ltS last n = b at *
          generalize withinD 1 4 p = c at *
          generalize rowsFrom 2 n ds = d at *
          generalize ds.all sec2 = e at *
          generalize ds.all fileD = f at *
          generalize riseFrom n (ds.map nm) = g at *
          revert ih
          revert a b c d e f g
          decide
        | bool b => simp [rowsFrom, fileD, nameD]
        | none => simp [rowsFrom, fileD, nameD]
        | int x => simp [rowsFrom, fileD, nameD]
        | tuple x => simp [rowsFrom, fileD, nameD]
        | list x => simp [rowsFrom, fileD, nameD]
        | dict x => simp [rowsFrom, fileD, nameD]
      · rw [List.all_cons, List.all_cons, sec2_len hl, fileD_len hl]
        simp
    | bool b => simp [rowsFrom, fileD]
    | none => simp [rowsFrom, fileD]
    | int x => simp [rowsFrom, fileD]
    | str x => simp [rowsFrom, fileD]
    | list x => simp [rowsFrom, fileD]
    | dict x => simp [rowsFrom, fileD]
theorem sec3_len {ds : List PyData} (h : ds.length ≠ 3) : sec3 (.tuple ds) = false := by
  match ds, h with
  | [], _ => rfl
  | [_], _ => rfl
  | [_, _], _ => rfl
  | [_, _, _], h => exact absurd rfl h
  | _ :: _ :: _ :: _ :: _, _ => rfl
theorem clients_eq : ∀ (ds : List PyData) (last : Str), (rowsFrom 3 last ds && ds.all sec3) = (ds.all clientD && riseFrom last (ds.map nm))
  | [], _ => rfl
  | d :: ds, last => by
    cases d with
    | tuple dr =>
      by_cases hl : dr.length = 3
      · obtain ⟨n, r, p, rfl⟩ := len3 hl
        cases n with
        | str n =>
          have ih := clients_eq ds n
          rw [rows_yes, List.all_cons, List.all_cons, List.map_cons]
          show (((true && nameD (.str n)) && ltS last n) && rowsFrom 3 n ds && (((notServer (.str n) && withinD 50 200 r) && withinD 0 99 p) && ds.all sec3)) = (((nameD (.str n) && notServer (.str n)) && (withinD 50 200 r && withinD 0 99 p)) && ds.all clientD && (ltS last n && riseFrom n (ds.map nm)))
          generalize nameD (.str n) = a at *
          generalize ltS last n = b at *
          generalize withinD 0 99 p = c at *
          generalize withinD 50 200 r = c2 at *
          generalize notServer (.str n) = c3 at *
          generalize rowsFrom 3 n ds = d at *
          generalize ds.all sec3 = e at *
          generalize ds.all clientD = f at *
          generalize riseFrom n (ds.map nm) = g at *
          cases a <;> cases b <;> cases c <;> cases c2 <;> cases c3 <;> first | (simp; done) | (simp at ih ⊢; exact ih) | (simpa using ih)
        | bool b => simp [rowsFrom, clientD, nameD]
        | none => simp [rowsFrom, clientD, nameD]
        | int x => simp [rowsFrom, clientD, nameD]
        | tuple x => simp [rowsFrom, clientD, nameD]
        | list x => simp [rowsFrom, clientD, nameD]
        | dict x => simp [rowsFrom, clientD, nameD]
      · rw [List.all_cons, List.all_cons, sec3_len hl, clientD_len hl]
        simp
    | bool b => simp [rowsFrom, clientD]
    | none => simp [rowsFrom, clientD]
    | int x => simp [rowsFrom, clientD]
    | str x => simp [rowsFrom, clientD]
    | list x => simp [rowsFrom, clientD]
    | dict x => simp [rowsFrom, clientD]
theorem rise_files (ds : List PyData) (p : PyData → Bool) (hp : ∀ d, p d = true → ∃ n r, d = .tuple (.str n :: r) ∧ nameD (.str n) = true) : (ds.all p && riseFrom Str.empty (ds.map nm)) = (ds.all p && rising (ds.map nm)) := by
  cases ds with
  | nil => rfl
  | cons d ds =>
    cases e : p d with
    | false => rw [List.all_cons, e]; rfl
    | true =>
      obtain ⟨n, r, rfl, hn⟩ := hp d e
      rw [List.map_cons, rising_from]
      show (_ && (ltS Str.empty n && riseFrom n (ds.map nm))) = _
      rw [empty_lt hn]
      rfl
theorem fileD_name {d : PyData} (h : fileD d = true) : ∃ n r, d = .tuple (.str n :: r) ∧ nameD (.str n) = true := by
  obtain ⟨n, r, rfl⟩ := fileD_row h
  refine ⟨n, r, rfl, ?_⟩
  by_cases hl : r.length = 1
  · match r, hl with
    | [p], _ =>
      have h1 : (nameD (.str n) && withinD 1 4 p) = true := h
      rw [Bool.and_eq_true] at h1
      exact h1.1
  · rw [fileD_len (by rw [List.length_cons]; omega)] at h
    cases h
theorem clientD_name {d : PyData} (h : clientD d = true) : ∃ n r, d = .tuple (.str n :: r) ∧ nameD (.str n) = true := by
  obtain ⟨n, r, rfl⟩ := clientD_row h
  refine ⟨n, r, rfl, ?_⟩
  by_cases hl : r.length = 2
  · obtain ⟨x, y, rfl⟩ := len2 hl
    have h1 : ((nameD (.str n) && notServer (.str n)) && (withinD 50 200 x && withinD 0 99 y)) = true := h
    rw [Bool.and_eq_true, Bool.and_eq_true] at h1
    exact h1.1.1
  · rw [clientD_len (by rw [List.length_cons]; omega)] at h
    cases h
theorem filesD_eq (d : PyData) : (rowsD 3 2 d && (itemsD d).all sec2) = filesD d := by
  unfold rowsD filesD
  rw [Bool.and_assoc, files_eq, rise_files _ _ (fun _ => fileD_name), Bool.and_assoc]
theorem clientsD_eq (d : PyData) : (rowsD 4 3 d && (itemsD d).all sec3) = clientsD d := by
  unfold rowsD clientsD
  rw [Bool.and_assoc, clients_eq, rise_files _ _ (fun _ => clientD_name), Bool.and_assoc]
theorem rows_shape {w : Nat} : ∀ {ds : List PyData} {last : Str}, rowsFrom w last ds = true → ∀ d ∈ ds, ∃ n r, d = .tuple (.str n :: r) ∧ r.length + 1 = w ∧ nameD (.str n) = true
  | [], _, _, d, m => by cases m
  | e :: ds, last, h, d, m => by
    cases e with
    | tuple dr =>
      cases dr with
      | nil => cases h
      | cons d0 r =>
        cases d0 with
        | str n =>
          rw [rows_yes, Bool.and_eq_true, Bool.and_eq_true, Bool.and_eq_true] at h
          rcases List.mem_cons.mp m with rfl | m
          · exact ⟨n, r, rfl, of_decide_eq_true h.1.1.1, h.1.1.2⟩
          · exact rows_shape h.2 d m
        | bool b => cases h
        | none => cases h
        | int x => cases h
        | tuple x => cases h
        | list x => cases h
        | dict x => cases h
    | bool b => cases h
    | none => cases h
    | int x => cases h
    | str x => cases h
    | list x => cases h
    | dict x => cases h
theorem setupD_eq (f c l d : PyData) : setupD (.tuple [f, c, l, d]) = (((rowsD 3 2 f && rowsD 4 3 c) && (itemsD f).all sec2) && (itemsD c).all sec3 && (withinD 2 1000 l && withinD 0 50 d)) := by
  show ((filesD f && clientsD c) && _) = _
  rw [← filesD_eq, ← clientsD_eq]
  generalize rowsD 3 2 f = a
  generalize rowsD 4 3 c = b
  generalize (itemsD f).all sec2 = e
  generalize (itemsD c).all sec3 = g
  cases a <;> cases b <;> cases e <;> cases g <;> rfl
abbrev s__law_is_setup : Stmt := topS 52
theorem sc__law_is_setup : FnScope ["thing", "row"] ["thing"] (defScope s__law_is_setup) := ⟨rfl, rfl, rfl, by decide +kernel, rfl, by decide +kernel, by decide +kernel⟩
theorem ok__law_is_setup {f : Addr} {fd : FuncData} (F : Fun K "_law_is_setup" "_law_is_setup" s__law_is_setup f fd) (gm : mg "_law_is_setup" = some (.ref f)) (N : Fre K mg) (c__law_are_rows : C8.Cal P w K mg base 2 "_law_are_rows" (sp_law_are_rows K) []) (c__law_within : C8.Cal P w K mg base 1 "_law_within" (spis_within K) []) : C8.Cal P w K mg base 3 "_law_is_setup" (pure1S K setupD) [] := by
  refine mkCal F gm sc__law_is_setup (F.binds (ps := ["thing"]) fun _ _ _ _ _ _ us hl => match us, hl with | [_], _ => rfl) (fun vs H Q E h => ?_) (fun cdv A outer s H vs Q E hr h => ?_)
  · obtain ⟨v, d, rfl, _⟩ := h
    rfl
  · obtain ⟨v, d, rfl, hd, sm, q⟩ := h
    refine ⟨_, (pss_cons (ps_if (PW.pt (pw_or (pt_not (pt_val (pe_callB call_isi (by rfl) N.isinstance (by decide +kernel) (pa_cons (pv 0) (pa_cons (pe_bltn (v := .ty "tuple") (u := .type "tuple") rfl N.tuple (by decide +kernel) rfl) pa_nil))))) (pw_or1 (pt_cmpR op_ne (pe_callB call_len_seq (by rfl) N.len (by decide +kernel) (pa_cons (pv 0) pa_nil)) pe_int (nomark _)))))
 (pss_one (ps_ret pe_bl))
 pss_nil)
 (pss_cons (ps_if (PW.pt (pw_or (pt_not (pt_val (C8.pe_c c__law_are_rows hr (by decide) rfl (pa_cons (pe_ix ix_tup (pv 0) pe_int (fun _ _ => rfl)) (pa_cons pe_int (pa_cons pe_int pa_nil)))))) (pw_or1 (pt_not (pt_val (C8.pe_c c__law_are_rows hr (by decide) rfl (pa_cons (pe_ix ix_tup (pv 0) pe_int (fun _ _ => rfl)) (pa_cons pe_int (pa_cons pe_int pa_nil)))))))))
 (pss_one (ps_ret pe_bl))
 pss_nil)
 (pss_cons (ps_if (pt_cmpR (op_neNil (hu0 hr)) (pe_lc (own := [("row", 1)]) (g := gName 1) rfl sc__law_is_setup.nd (pi_tup (pe_ix ix_tup (pv 0) pe_int (fun _ _ => rfl))) (blkOk_by (N := ["thing", "row"]) (sc := defScope s__law_is_setup) (by decide +kernel)) (fun _ _ _ _ _ => pg_name (i := 1) sc__law_is_setup.nd rfl (Or.inl rfl)) (fun _ _ _ _ _ => pts_one (pt_not (pt_val (C8.pe_c c__law_within hr (by decide) rfl (pa_cons (pe_ix (show IxR _ (rIxT K) from ix_tup) (pv 1) pe_int (fun _ _ => rfl)) (pa_cons pe_int (pa_cons pe_int pa_nil))))))) (fun _ _ _ _ _ => (pv 1))) (pe_lst pa_nil) (nomark _))
 (pss_one (ps_ret pe_bl))
 pss_nil)
 (pss_cons (ps_for PassesOwn.never rfl (pi_tup (pe_ix ix_tup (pv 0) pe_int (fun _ _ => rfl))) (pg_name (i := 1) sc__law_is_setup.nd rfl (.inl rfl))
 (pss_one (ps_if (PW.pt (pw_or (pt_cmpR op_eq (pe_ix ix_tup (pv 1) pe_int (fun _ _ => rfl)) pe_str (nomark _)) (pw_or (pt_not (pt_val (C8.pe_c c__law_within hr (by decide) rfl (pa_cons (pe_ix ix_tup (pv 1) pe_int (fun _ _ => rfl)) (pa_cons pe_int (pa_cons pe_int pa_nil)))))) (pw_or1 (pt_not (pt_val (C8.pe_c c__law_within hr (by decide) rfl (pa_cons (pe_ix ix_tup (pv 1) pe_int (fun _ _ => rfl)) (pa_cons pe_int (pa_cons pe_int pa_nil))))))))))
 (pss_one (ps_ret pe_bl))
 pss_nil)))
 (pss_one (ps_ret (pe_and (C8.pe_c c__law_within hr (by decide) rfl (pa_cons (pe_ix ix_tup (pv 0) pe_int (fun _ _ => rfl)) (pa_cons pe_int (pa_cons pe_int pa_nil)))) (pe_one (C8.pe_c c__law_within hr (by decide) rfl (pa_cons (pe_ix ix_tup (pv 0) pe_int (fun _ _ => rfl)) (pa_cons pe_int (pa_cons pe_int pa_nil)))))))))))), ?_⟩
    refine ⟨_, rfl, _, _, _, _, isT d "tuple", rfl, .ty _, dp_ty hd, kit_d d (.inr (.inr (.inr (.inl rfl)))), _, rfl, ?_⟩
    have q0 := q H (Same.refl H)
    cases d with
    | tuple ds =>
      cases hd with
      | @tup a xs _ hs ha =>
        have el := dpAll_len ha
        refine iteF ⟨_, rfl, a, _, rfl, .inr hs, rfl, _, rfl, ?_⟩
        by_cases hl : xs.length = 4
        · refine iteNS (by rw [hl]; rfl) ?_
          obtain ⟨df, dc, dl, dd, rfl⟩ := len4 (xs := ds) (by omega)
          cases ha with
          | cons h1 ha =>
            cases ha with
            | cons h2 ha =>
              cases ha with
              | cons h3 ha =>
                cases ha with
                | cons h4 ha =>
                  cases ha
                  rw [setupD_eq] at q
                  refine ⟨_, rfl, a, _, 0, _, rfl, rfl, hs, atI_nat (j := 0) rfl, _, df, 3, 2, rfl, h1, sm.mem (by simp), by decide, fun H1 s1 => ⟨_, rfl, ?_⟩⟩
                  cases e1 : rowsD 3 2 df with
                  | false =>
                    refine iteT (iteT ?_)
                    have q1 := q H1 s1
                    rw [e1] at q1
                    exact q1
                  | true =>
                    refine iteF ⟨_, rfl, a, _, 1, _, rfl, rfl, sqT_same s1 hs, atI_nat (j := 1) rfl, _, dc, 4, 3, rfl, dp_same s1 _ _ h2, sm.mem (by simp), by decide, fun H2 s2 => ⟨_, rfl, ?_⟩⟩
                    have s12 := s1.trans s2
                    cases e2 : rowsD 4 3 dc with
                    | false =>
                      refine iteT ?_
                      have q1 := q H2 s12
                      rw [e1, e2] at q1
                      exact q1
                    | true =>
                      refine iteF ?_
                      rw [e1, e2] at q
                      unfold rowsD at e1 e2
                      rw [Bool.and_eq_true] at e1 e2
                      obtain ⟨fs, rfl, f1, f2⟩ := tupD_yes e1.1
                      obtain ⟨cs, rfl, c1, c2⟩ := tupD_yes e2.1
                      have shf := rows_shape (ds := fs) e1.2
                      have shc := rows_shape (ds := cs) e2.2
                      have smf : Small (.tuple fs) := sm.mem (by simp)
                      have smc : Small (.tuple cs) := sm.mem (by simp)
                      cases h1 with
                      | @tup af xf _ hsf haf =>
                        have elf := dpAll_len haf
                        refine ⟨_, rfl, a, _, 0, _, rfl, rfl, sqT_same s12 hs, atI_nat (j := 0) rfl, af, rfl, ⟨_, sqT_same s12 hsf⟩, fun D nD => lc_it (walk_tup (xs := xf)) (fun i H3 => Same H2 H3 ∧ ∃ ys : List V, ys.length ≤ i ∧ H3 D = some (.lst ys) ∧ ys.isEmpty = (fs.take i).all sec2) ⟨same_upd nD, [], Nat.le_refl _, upd_same, rfl⟩ (fun _ _ _ p => sqT_same (s12.trans p.1) hsf) ?_ ?_⟩
                        · rintro i x H3 H4 hi ⟨s3, ys, yl, hD, ye⟩ ⟨rfl, hx⟩
                          obtain ⟨dx, hdx, hdp⟩ := dpAll_get haf hx
                          obtain ⟨n, r, rfl, rl, rn⟩ := shf dx (List.mem_of_getElem? hdx)
                          obtain ⟨p, rfl⟩ : ∃ p, r = [p] := by
                            match r, rl with
                            | [p], _ => exact ⟨p, rfl⟩
                          cases hdp with
                          | @tup t vs _ ht hta =>
                            cases hta with
                            | cons g1 g2 =>
                              cases g2 with
                              | cons g2 g3 =>
                                cases g3
                                have s123 := s12.trans s3
                                refine ⟨rfl, ⟨_, rfl, t, _, 1, _, rfl, rfl, sqT_same s123 ht, atI_nat (j := 1) rfl, _, p, 1, 4, rfl, dp_same s123 _ _ g2, fun H5 s5 => ⟨_, rfl, ?_⟩⟩⟩
                                have es : (fs.take (i + 1)).all sec2 = ((fs.take i).all sec2 && withinD 1 4 p) := by
                                  rw [List.take_add_one, hdx, List.all_append]
                                  show (_ && (sec2 _ && true)) = _
                                  rw [Bool.and_true]
                                  rfl
                                cases ew : withinD 1 4 p with
                                | false =>
                                  refine iteT ⟨_, rfl, _, s5 _ _ hD, ?_, fun b o e => ?_, _, ?_, upd_same, ?_⟩
                                  · have : xf.length ≤ 3 := by omega
                                    exact small1000 (by omega)
                                  · rw [upd_ne (ne_of_none e nD)]
                                    exact s5 _ _ (s3 _ _ e)
                                  · rw [List.length_append]
                                    exact Nat.succ_le_succ yl
                                  · rw [es, ew, Bool.and_false]
                                    cases ys <;> rfl
                                | true =>
                                  refine iteF ⟨s3.trans s5, ys, Nat.le_succ_of_le yl, s5 _ _ hD, ?_⟩
                                  rw [es, ew, Bool.and_true]
                                  exact ye
                        · rintro H3 ⟨s3, ys, yl, hD, ye⟩
                          rw [List.take_of_length_le (by omega)] at ye
                          refine ⟨Nat.zero_le _, fun L nL => ⟨D, L, _, rfl, rfl, SqL.of (same_upd nL _ _ hD), SqL.of upd_same, _, rfl, ?_⟩⟩
                          have s4 : Same H (upd H3 L (.lst [])) := (s12.trans s3).trans (same_upd nL)
                          rw [ye]
                          revert s4
                          generalize upd H3 L (.lst []) = H4
                          intro s4
                          have q3 : ∀ H', Same H H' → Q (.bl ((fs.all sec2 && cs.all sec3) && (withinD 2 1000 dl && withinD 0 50 dd))) H' := q
                          cases e3 : fs.all sec2 with
                          | false =>
                            refine iteT ?_
                            have q1 := q3 H4 s4
                            rw [e3] at q1
                            exact q1
                          | true =>
                            refine iteF ?_
                            rw [e3] at q3
                            have q4 : ∀ H', Same H H' → Q (.bl (cs.all sec3 && (withinD 2 1000 dl && withinD 0 50 dd))) H' := q3
                            cases h2 with
                            | @tup ac xc _ hsc hac =>
                              have elc := dpAll_len hac
                              refine ⟨_, rfl, a, _, 1, _, rfl, rfl, sqT_same s4 hs, atI_nat (j := 1) rfl, ac, rfl, ⟨_, sqT_same s4 hsc⟩, for_tup (xs := xc) (fun i σ H5 => ∃ y, σ = [some (.ref a), y] ∧ Same H H5 ∧ (cs.take i).all sec3 = true) ⟨_, rfl, s4, rfl⟩ (fun _ _ _ _ p => by obtain ⟨_, _, s5, _⟩ := p; exact sqT_same s5 hsc) ?_ ?_⟩
                              · rintro i x σ H5 hx ⟨y, rfl, s5, hall⟩
                                obtain ⟨dx, hdx, hdp⟩ := dpAll_get hac hx
                                have hmem := List.mem_of_getElem? hdx
                                obtain ⟨n, r, rfl, rl, rn⟩ := shc dx hmem
                                obtain ⟨pr, pa, rfl⟩ := len2 (xs := r) (by omega)
                                have esx : sec3 (.tuple [.str n, pr, pa]) = ((notServer (.str n) && withinD 50 200 pr) && withinD 0 99 pa) := rfl
                                have es : (cs.take (i + 1)).all sec3 = sec3 (.tuple [.str n, pr, pa]) := by
                                  rw [List.take_add_one, hdx, List.all_append, hall]
                                  show (true && (sec3 _ && true)) = _
                                  rw [Bool.and_true, Bool.true_and]
                                have bad : ∀ {H'}, Same H H' → sec3 (.tuple [.str n, pr, pa]) = false → Q (.bl false) H' := fun {H'} sH hb => by
                                  have q5 := q4 H' sH
                                  have : cs.all sec3 = false := by
                                    rw [List.all_eq_false]
                                    exact ⟨_, hmem, by rw [hb]; exact Bool.false_ne_true⟩
                                  rw [this] at q5
                                  exact q5
                                cases hdp with
                                | @tup t vs _ ht hta =>
                                  cases hta with
                                  | cons g1 hta =>
                                    cases hta with
                                    | cons g2 hta =>
                                      cases hta with
                                      | cons g3 hta =>
                                        cases hta
                                        cases g1
                                        refine ⟨_, rfl, t, _, 0, _, rfl, rfl, sqT_same s5 ht, atI_nat (j := 0) rfl, rfl, _, rfl, ?_⟩
                                        by_cases hn : n = "server"
                                        · refine iteD' (congrArg V.str hn) ?_
                                          refine bad s5 ?_
                                          rw [esx]
                                          have : notServer (.str n) = false := by show (!decide (n = "server")) = false; rw [decide_eq_true hn]; rfl
                                          rw [this]
                                          rfl
                                        · refine iteD (fun z => hn (V.str.inj z)) ?_
                                          have e6 : notServer (.str n) = true := by show (!decide (n = "server")) = true; rw [decide_eq_false hn]; rfl
                                          refine ⟨_, rfl, t, _, 1, _, rfl, rfl, sqT_same s5 ht, atI_nat (j := 1) rfl, _, pr, 50, 200, rfl, dp_same s5 _ _ g2, fun H6 s6 => ⟨_, rfl, ?_⟩⟩
                                          have s56 := s5.trans s6
                                          cases er : withinD 50 200 pr with
                                          | false =>
                                            refine iteT (bad s56 ?_)
                                            rw [esx, er, Bool.and_false]
                                            rfl
                                          | true =>
                                            refine iteF ⟨_, rfl, t, _, 2, _, rfl, rfl, sqT_same s56 ht, atI_nat (j := 2) rfl, _, pa, 0, 99, rfl, dp_same s56 _ _ g3, fun H7 s7 => ⟨_, rfl, ?_⟩⟩
                                            cases ea : withinD 0 99 pa with
                                            | false =>
                                              refine iteT (bad (s56.trans s7) ?_)
                                              rw [esx, ea, Bool.and_false]
                                            | true =>
                                              refine iteF ⟨_, rfl, s56.trans s7, ?_⟩
                                              rw [es, esx, e6, er, ea]
                                              rfl
                              · rintro σ H5 ⟨y, rfl, s5, hall⟩
                                rw [List.take_of_length_le (by omega)] at hall
                                rw [hall] at q4
                                refine ⟨_, rfl, a, _, 2, _, rfl, rfl, sqT_same s5 hs, atI_nat (j := 2) rfl, _, dl, 2, 1000, rfl, dp_same s5 _ _ h3, fun H6 s6 => ⟨_, rfl, ?_⟩⟩
                                have s56 := s5.trans s6
                                cases e7 : withinD 2 1000 dl with
                                | false =>
                                  refine iteF ?_
                                  have q5 := q4 H6 s56
                                  rw [e7] at q5
                                  exact q5
                                | true =>
                                  refine iteT ⟨_, rfl, a, _, 3, _, rfl, rfl, sqT_same s56 hs, atI_nat (j := 3) rfl, _, dd, 0, 50, rfl, dp_same s56 _ _ h4, fun H7 s7 => ?_⟩
                                  have q5 := q4 H7 (s56.trans s7)
                                  rw [e7] at q5
                                  exact q5
        · have hne : ¬ V.int ((xs.length : Nat) : Int) = V.int 4 := fun z => hl (by have := V.int.inj z; omega)
          rw [decide_eq_false hne]
          refine iteT ?_
          rw [setupD_len (by omega)] at q0
          exact q0
    | bool b => exact iteT q0
    | none => exact iteT q0
    | int x => exact iteT q0
    | str x => exact iteT q0
    | list x => exact iteT q0
    | dict x => exact iteT q0

/-! ### what the law draws -/
abbrev s__law_terms : Stmt := topS 53
theorem sc__law_terms : FnScope ["bag", "most", "slack"] ["bag"] (defScope s__law_terms) := ⟨rfl, rfl, rfl, by decide +kernel, rfl, by decide +kernel, by decide +kernel⟩
def sp_law_terms : Sp := fun vs H Q _ => ∃ b : Addr, vs = [.ref b] ∧ Bag H b ∧ ∀ l d p H', 2 ≤ l → l ≤ 1000 → 0 ≤ d → d ≤ 50 → H p = none → But b H H' → Bag H' b → H' p = some (.tup [.int l, .int d]) → Q (.ref p) H'
theorem pick3 {x y z i : Int} (h0 : 0 ≤ i) (h1 : i < 3) : ∃ m, atI [V.int x, V.int y, V.int z] i = some (.int m) ∧ (m = x ∨ m = y ∨ m = z) := by
  have : i = 0 ∨ i = 1 ∨ i = 2 := by omega
  rcases this with rfl | rfl | rfl
  · exact ⟨x, atI_nat (j := 0) rfl, .inl rfl⟩
  · exact ⟨y, atI_nat (j := 1) rfl, .inr (.inl rfl)⟩
  · exact ⟨z, atI_nat (j := 2) rfl, .inr (.inr rfl)⟩
theorem pick6 {x y z u v w i : Int} (h0 : 0 ≤ i) (h1 : i < 6) : ∃ m, atI [V.int x, V.int y, V.int z, V.int u, V.int v, V.int w] i = some (.int m) ∧ (m = x ∨ m = y ∨ m = z ∨ m = u ∨ m = v ∨ m = w) := by
  have : i = 0 ∨ i = 1 ∨ i = 2 ∨ i = 3 ∨ i = 4 ∨ i = 5 := by omega
  rcases this with rfl | rfl | rfl | rfl | rfl | rfl
  · exact ⟨x, atI_nat (j := 0) rfl, by omega⟩
  · exact ⟨y, atI_nat (j := 1) rfl, by omega⟩
  · exact ⟨z, atI_nat (j := 2) rfl, by omega⟩
  · exact ⟨u, atI_nat (j := 3) rfl, by omega⟩
  · exact ⟨v, atI_nat (j := 4) rfl, by omega⟩
  · exact ⟨w, atI_nat (j := 5) rfl, by omega⟩
theorem six_ok (a b c d e f : V) : [a, b, c, d, e, f].length ≤ sizeLine := by show 6 ≤ sizeLine; decide
theorem ok__law_terms {f : Addr} {fd : FuncData} (F : Fun K "_law_terms" "_law_terms" s__law_terms f fd) (gm : mg "_law_terms" = some (.ref f)) (N : Fre K mg) (c__law_take : C8.Cal P w K mg base 1 "_law_take" sp_law_take []) : C8.Cal P w K mg base 2 "_law_terms" sp_law_terms [] := by
  refine mkCal F gm sc__law_terms (F.binds (ps := ["bag"]) fun _ _ _ _ _ _ us hl => match us, hl with | [_], _ => rfl) (fun vs H Q E h => ?_) (fun cdv A outer s H vs Q E hr h => ?_)
  · obtain ⟨b, rfl, _⟩ := h
    rfl
  · obtain ⟨b, rfl, hB, q⟩ := h
    refine ⟨_, (pss_cons (ps_set (i := 1) sc__law_terms.nd rfl (.inl rfl) (pe_ix ix_list (pe_lst (pa_cons pe_int (pa_cons pe_int (pa_cons pe_int pa_nil)))) (C8.pe_c c__law_take hr (by decide) rfl (pa_cons (pv 0) (pa_cons pe_int pa_nil))) (fun _ _ => rfl)))
 (pss_cons (ps_set (i := 2) sc__law_terms.nd rfl (.inl rfl) (pe_ix ix_list (pe_lst (pa_cons pe_int (pa_cons pe_int (pa_cons pe_int (pa_cons pe_int (pa_cons pe_int (pa_cons pe_int pa_nil))))))) (C8.pe_c c__law_take hr (by decide) rfl (pa_cons (pv 0) (pa_cons pe_int pa_nil))) (fun _ _ => rfl)))
 (pss_cons (ps_if (pt_cmpR op_eq (pv 2) pe_int (nomark _))
 (pss_one (ps_set (i := 2) sc__law_terms.nd rfl (.inl rfl) (C8.pe_c c__law_take hr (by decide) rfl (pa_cons (pv 0) (pa_cons pe_int pa_nil)))))
 pss_nil)
 (pss_one (ps_ret (pe_tup (pa_cons (pe_op op_add pe_int (C8.pe_c c__law_take hr (by decide) rfl (pa_cons (pv 0) (pa_cons (pv 1) pa_nil)))) (pa_cons (pv 2) pa_nil)))))))), ?_⟩
    -- most
    refine ⟨three_ok _ _ _, fun L nL => ?_⟩
    refine ⟨_, rfl, b, 3, rfl, hB.new nL, by decide, by decide, fun i H1 i0 i1 B1 G1 => ?_⟩
    obtain ⟨m, e1, hm⟩ := pick3 (x := 9) (y := 60) (z := 999) i0 i1
    have hL : H1 L = some (.lst [.int 9, .int 60, .int 999]) := B1 _ _ (hB.ne nL) upd_same
    refine ⟨L, _, i, .int m, rfl, rfl, SqL.of hL, e1, ?_⟩
    have s1 : Same H H1 ∨ True := .inr trivial
    have bH1 : But b H H1 := (But.new nL).trans B1
    -- slack
    refine ⟨six_ok _ _ _ _ _ _, fun L2 nL2 => ?_⟩
    refine ⟨_, rfl, b, 6, rfl, G1.new nL2, by decide, by decide, fun j H2 j0 j1 B2 G2 => ?_⟩
    obtain ⟨s, e2, hs⟩ := pick6 (x := 0) (y := 1) (z := 49) (u := 50) (v := 10) (w := 51) j0 j1
    have hL2 : H2 L2 = some (.lst [.int 0, .int 1, .int 49, .int 50, .int 10, .int 51]) := B2 _ _ (G1.ne nL2) upd_same
    refine ⟨L2, _, j, .int s, rfl, rfl, SqL.of hL2, e2, ?_⟩
    have bH2 : But b H H2 := bH1.trans ((But.new nL2).trans B2)
    -- if slack == 51
    refine ⟨_, rfl, rfl, _, rfl, ite2 (fun e => ?_) (fun e => ?_)⟩
    · refine ⟨_, rfl, b, 51, rfl, G2, by decide, by decide, fun d H3 d0 d1 B3 G3 => ?_⟩
      refine ⟨_, rfl, _, rfl, b, m, rfl, G3, by omega, by omega, fun l H4 l0 l1 B4 G4 => ?_⟩
      refine ⟨2, l, rfl, rfl, _, rfl, two_ok _ _, fun p np => ?_⟩
      have bH4 : But b H H4 := bH2.trans (B3.trans B4)
      refine q (2 + l) d p _ (by omega) (by omega) (by omega) (by omega) ?_ (bH4.trans (But.new np)) (G4.new np) upd_same
      exact free_of bH4 hB G4 np
    · have hs2 : s ≠ 51 := fun z => e (by rw [z]; exact decide_eq_true rfl)
      refine ⟨_, rfl, _, rfl, b, m, rfl, G2, by omega, by omega, fun l H4 l0 l1 B4 G4 => ?_⟩
      refine ⟨2, l, rfl, rfl, _, rfl, two_ok _ _, fun p np => ?_⟩
      have bH4 : But b H H4 := bH2.trans B4
      refine q (2 + l) s p _ (by omega) (by omega) (by omega) (by omega) ?_ (bH4.trans (But.new np)) (G4.new np) upd_same
      exact free_of bH4 hB G4 np

/-! ### names drawn -/
def NameOk (x : Str) : Prop := 1 ≤ x.length ∧ x.length ≤ 8
abbrev s__law_name : Stmt := topS 46
theorem sc__law_name : FnScope ["bag", "many", "k"] ["bag"] (defScope s__law_name) := ⟨rfl, rfl, rfl, by decide +kernel, rfl, by decide +kernel, by decide +kernel⟩
def sp_law_name : Sp := fun vs H Q _ => ∃ b : Addr, vs = [.ref b] ∧ Bag H b ∧ ∀ x H', NameOk x → But b H H' → Bag H' b → Q (.str x) H'
theorem pick2 {x y i : Int} (h : i = 0 ∨ i = 1) : ∃ m, atI [V.int x, V.int y] i = some (.int m) ∧ (m = x ∨ m = y) := by
  rcases h with rfl | rfl
  · exact ⟨x, atI_nat (j := 0) rfl, .inl rfl⟩
  · exact ⟨y, atI_nat (j := 1) rfl, .inr rfl⟩
theorem letters_at {i : Int} (h0 : 0 ≤ i) (h1 : i < 26) : ∃ c, atI letters.cps.toList i = some c := by
  have hl : letters.cps.toList.length = 26 := by decide +kernel
  have hi : i.toNat < letters.cps.toList.length := by omega
  obtain ⟨c, hc⟩ : ∃ c, letters.cps.toList[i.toNat]? = some c := ⟨_, List.getElem?_eq_getElem hi⟩
  refine ⟨c, ?_⟩
  have e : ((i.toNat : Nat) : Int) = i := by omega
  rw [← e]
  exact atI_nat hc
theorem ones_map (zs : List Nat) : zs.map sg = (zs.map fun c => (⟨#[c]⟩ : Str)).map V.str := by
  rw [List.map_map]
  rfl
theorem ok__law_name {f : Addr} {fd : FuncData} (F : Fun K "_law_name" "_law_name" s__law_name f fd) (gm : mg "_law_name" = some (.ref f)) (N : Fre K mg) (c__law_take : C8.Cal P w K mg base 1 "_law_take" sp_law_take []) : C8.Cal P w K mg base 2 "_law_name" sp_law_name [] := by
  refine mkCal F gm sc__law_name (F.binds (ps := ["bag"]) fun _ _ _ _ _ _ us hl => match us, hl with | [_], _ => rfl) (fun vs H Q E h => ?_) (fun cdv A outer s H vs Q E hr h => ?_)
  · obtain ⟨b, rfl, _⟩ := h
    rfl
  · obtain ⟨b, rfl, hB, q⟩ := h
    refine ⟨_, (pss_cons (ps_set (i := 1) sc__law_name.nd rfl (.inl rfl) (pe_op op_add pe_int (pe_ix ix_list (pe_lst (pa_cons (C8.pe_c c__law_take hr (by decide) rfl (pa_cons (pv 0) (pa_cons pe_int pa_nil))) (pa_cons (C8.pe_c c__law_take hr (by decide) rfl (pa_cons (pv 0) (pa_cons pe_int pa_nil))) pa_nil))) (pe_callTy call_int1 (by rfl) N.int (by decide +kernel) (pa_cons (pe_cmpR op_eq (C8.pe_c c__law_take hr (by decide) rfl (pa_cons (pv 0) (pa_cons pe_int pa_nil))) pe_int (nomark _)) pa_nil)) (fun _ _ => rfl))))
 (pss_one (ps_ret (pe_join pe_str (pe_lc (own := [("k", 2)]) (g := gName 2) (tt := tYes) rfl sc__law_name.nd (pi_range1 (by rfl) N.range (pa_cons (pv 1) pa_nil)) (blkOk_by (N := ["bag", "many", "k"]) (sc := defScope s__law_name) (by decide +kernel)) (fun _ _ _ _ _ => pg_name (i := 2) sc__law_name.nd rfl (Or.inl rfl)) (fun _ _ _ _ _ => pts_nil) (fun _ _ _ _ _ => (pe_ix ix_str pe_str (C8.pe_c c__law_take hr (by decide) rfl (pa_cons (pv 0) (pa_cons pe_int pa_nil))) (fun _ _ => rfl)))))))), ?_⟩
    refine ⟨_, rfl, b, 3, rfl, hB, by decide, by decide, fun x H1 x0 x1 B1 G1 => ?_⟩
    refine ⟨_, rfl, b, 8, rfl, G1, by decide, by decide, fun y H2 y0 y1 B2 G2 => ⟨two_ok _ _, fun L nL => ?_⟩⟩
    refine ⟨_, rfl, b, 4, rfl, G2.new nL, by decide, by decide, fun z H3 z0 z1 B3 G3 => ⟨rfl, ?_⟩⟩
    have b3 : But b H H3 := (B1.trans B2).trans ((But.new nL).trans B3)
    have hL : H3 L = some (.lst [.int x, .int y]) := B3 _ _ (G2.ne nL) upd_same
    refine .inr ⟨_, rfl, ?_⟩
    obtain ⟨m, e1, hm⟩ := pick2 (x := x) (y := y) (i := if decide (V.int z = V.int 0) = true then 1 else 0) (by split <;> simp)
    refine ⟨L, _, _, .int m, rfl, rfl, SqL.of hL, e1, 1, m, rfl, rfl, ?_⟩
    have hm2 : 0 ≤ m ∧ m ≤ 7 := by omega
    refine ⟨⟨_, rfl⟩, ?_⟩
    refine ⟨_, rfl, 1 + m, rfl, by omega, by omega, fun D nD => lc_it walk_range (fun i H4 => But b H3 H4 ∧ Bag H4 b ∧ ∃ zs : List Nat, zs.length = i ∧ H4 D = some (.lst (zs.map sg))) ⟨But.new nD, G3.new nD, [], rfl, upd_same⟩ (fun _ _ _ _ => trivial) ?_ ?_⟩
    · rintro i v H4 H5 hi ⟨b4, G4, zs, zl, hD⟩ ⟨rfl, hv⟩
      have hDb : D ≠ b := G3.ne nD
      refine ⟨rfl, ⟨_, rfl, b, 26, rfl, G4, by decide, by decide, fun c H6 c0 c1 B6 G6 => ?_⟩⟩
      obtain ⟨ch, hch⟩ := letters_at c0 c1
      refine ⟨letters, c, ch, rfl, rfl, by decide, hch, _, B6 _ _ hDb hD, ?_, fun a o ne e => ?_, ?_, zs ++ [ch], ?_, ?_⟩
      · rw [List.length_map, zl]
        exact small1000 (by omega)
      · rw [upd_ne (ne_of_none e nD)]
        exact B6 _ _ ne (b4 _ _ ne e)
      · obtain ⟨p, r, e, g⟩ := G6
        exact ⟨p, r, by rw [upd_ne hDb.symm]; exact e, g⟩
      · rw [List.length_append, zl]
        rfl
      · rw [upd_same, List.map_append]
        rfl
    · rintro H4 ⟨b4, G4, zs, zl, hD⟩
      rw [ones_map] at hD
      have hz : (zs.map fun c => (⟨#[c]⟩ : Str)).length = (1 + m).toNat := by rw [List.length_map, zl]
      have h1 : ∀ a ∈ zs.map fun c => (⟨#[c]⟩ : Str), a.length = 1 := fun a ha => by
        obtain ⟨c, _, rfl⟩ := List.mem_map.mp ha
        rfl
      refine ⟨Str.ofString "", D, _, rfl, rfl, .inl (SqL.of hD), ?_, ?_⟩
      · have e1 : ((zs.map fun c => (⟨#[c]⟩ : Str)).map (·.length)).sum = zs.length := by
          rw [List.map_map]
          clear hz h1 hD zl
          induction zs with
          | nil => rfl
          | cons a r ih =>
            rw [List.map_cons, List.sum_cons, ih, List.length_cons]
            show 1 + r.length = _
            omega
        rw [e1, zl]
        have : (Str.ofString "").length = 0 := by decide
        rw [this]
        omega
      · have e2 := PySem.W.KT.join_ones _ h1
        refine q _ H4 ⟨?_, ?_⟩ (b3.trans b4) G4
        · rw [e2, hz]
          omega
        · rw [e2, hz]
          omega
/-! ### so many of them -/
theorem keys_put {kvs : List (Key × V)} {ks : List Str} {x : Str} {v : V} (h : kvs.map (·.1) = ks.map Sum.inr) (hk : ∀ y ∈ ks, NameOk y) (hx : NameOk x) : ∃ ks' : List Str, (putK kvs (Sum.inr x) v).map (·.1) = ks'.map Sum.inr ∧ (∀ y ∈ ks', NameOk y) ∧ ks'.length ≤ ks.length + 1 := by
  unfold putK
  split
  · refine ⟨ks, ?_, hk, Nat.le_succ _⟩
    rw [← h, List.map_map]
    refine List.map_congr_left fun a _ => ?_
    show (if a.1 = Sum.inr x then (a.1, v) else a).1 = a.1
    split <;> rfl
  · refine ⟨ks ++ [x], ?_, fun y hy => ?_, by rw [List.length_append]; exact Nat.le_refl _⟩
    · rw [List.map_append, h, List.map_append]
      rfl
    · rcases List.mem_append.mp hy with hy | hy
      · exact hk y hy
      · rw [List.mem_singleton.mp hy]
        exact hx
theorem keys_drop {kvs : List (Key × V)} {ks : List Str} {x : Key} (h : kvs.map (·.1) = ks.map Sum.inr) (hk : ∀ y ∈ ks, NameOk y) : ∃ ks' : List Str, (dropK kvs x).map (·.1) = ks'.map Sum.inr ∧ (∀ y ∈ ks', NameOk y) ∧ ks'.length ≤ ks.length := by
  induction kvs generalizing ks with
  | nil => exact ⟨[], rfl, (fun y hy => by cases hy), Nat.zero_le _⟩
  | cons a r ih =>
    cases ks with
    | nil => cases h
    | cons k ks =>
      rw [List.map_cons, List.map_cons] at h
      injection h with h1 h2
      obtain ⟨ks', e1, e2, e3⟩ := ih h2 (fun y hy => hk y (List.mem_cons_of_mem _ hy))
      by_cases ex : a.1 = x
      · rw [dropK_pos ex]
        exact ⟨ks', e1, e2, Nat.le_succ_of_le e3⟩
      · rw [dropK_neg ex]
        refine ⟨k :: ks', by rw [List.map_cons, List.map_cons, e1, h1], fun y hy => ?_, Nat.succ_le_succ e3⟩
        rcases List.mem_cons.mp hy with rfl | hy
        · exact hk _ (List.mem_cons_self ..)
        · exact e2 y hy
abbrev s__law_names : Stmt := topS 47
theorem sc__law_names : FnScope ["bag", "many", "found", "k"] ["bag", "many"] (defScope s__law_names) := ⟨rfl, rfl, rfl, by decide +kernel, rfl, by decide +kernel, by decide +kernel⟩
def sp_law_names : Sp := fun vs H Q _ => ∃ (b : Addr) (m : Int), vs = [.ref b, .int m] ∧ Bag H b ∧ 0 ≤ m ∧ m ≤ 20 ∧ ∀ (p : Addr) (xs : List Str) (H' : Hp), H p = none → xs.length ≤ (max m.toNat 1) → (∀ x ∈ xs, NameOk x) → But b H H' → Bag H' b → H' p = some (.lst (xs.map V.str)) → Q (.ref p) H'
theorem ok__law_names {f : Addr} {fd : FuncData} (F : Fun K "_law_names" "_law_names" s__law_names f fd) (gm : mg "_law_names" = some (.ref f)) (N : Fre K mg) (c__law_name : C8.Cal P w K mg base 2 "_law_name" sp_law_name []) : C8.Cal P w K mg base 3 "_law_names" sp_law_names [] := by
  refine mkCal F gm sc__law_names (F.binds (ps := ["bag", "many"]) fun _ _ _ _ _ _ us hl => match us, hl with | [_, _], _ => rfl) (fun vs H Q E h => ?_) (fun cdv A outer s H vs Q E hr h => ?_)
  · obtain ⟨b, m, rfl, _⟩ := h
    rfl
  · obtain ⟨b, m, rfl, hB, m0, m1, q⟩ := h
    refine ⟨_, (pss_cons (ps_set (i := 2) sc__law_names.nd rfl (.inl rfl) pe_dnewK)
 (pss_cons (ps_for PassesOwn.never rfl (pi_range1 (by rfl) N.range (pa_cons (pv 1) pa_nil)) (pg_name (i := 3) sc__law_names.nd rfl (.inl rfl))
 (pss_one (ps_dput (hu_of hr) (pv 2) (C8.pe_c c__law_name hr (by decide) rfl (pa_cons (pv 0) pa_nil)) pe_bl rfl)))
 (pss_cons (ps_expr (pe_dpop2 (pv 2) pe_str pe_non ⟨rfl, rfl, rfl, rfl⟩))
 (pss_cons (ps_if (pt_cmpR op_eq (pe_callB call_lenD (by rfl) N.len (by decide +kernel) (pa_cons (pv 2) pa_nil)) pe_int (nomark _))
 (pss_one (ps_ret (pe_lst (pa_cons pe_str pa_nil))))
 pss_nil)
 (pss_one (ps_ret (pe_callB (call_sortedD rfl) (by rfl) N.sorted (by decide +kernel) (pa_cons (pv 2) pa_nil)))))))), ?_⟩
    -- found = {}
    intro F0 nF
    have hFb : F0 ≠ b := hB.ne nF
    refine ⟨_, rfl, m, rfl, by omega, by omega, for_range (fun i σ H1 => ∃ kvs ks y, σ = [some (.ref b), some (.int m), some (.ref F0), y] ∧ But b H H1 ∧ Bag H1 b ∧ H1 F0 = some (.dK kvs) ∧ kvs.map (·.1) = ks.map Sum.inr ∧ (∀ x ∈ ks, NameOk x) ∧ ks.length ≤ i) ⟨[], [], none, rfl, But.new nF, hB.new nF, upd_same, rfl, (fun x hx => by cases hx), Nat.le_refl _⟩ ?_ ?_⟩
    · rintro i σ H1 hi ⟨kvs, ks, y, rfl, b1, G1, hF, hk, hn, hl⟩
      -- found[_law_name(bag)] = True
      refine ⟨_, rfl, _, rfl, b, rfl, G1, fun x H2 hx B2 G2 => ?_⟩
      have hF2 := B2 _ _ hFb hF
      have hkl : kvs.length = ks.length := by have := congrArg List.length hk; rw [List.length_map, List.length_map] at this; exact this
      refine ⟨F0, _, rfl, DPut.k (k := Sum.inr x) hF2 (small1000 (by omega)), ?_⟩
      obtain ⟨ks', e1, e2, e3⟩ := keys_put (v := .bl true) hk hn hx
      refine ⟨_, ks', _, rfl, fun a o ne e => ?_, ?_, upd_same, e1, e2, by omega⟩
      · rw [upd_ne (ne_of_none e nF)]
        exact B2 _ _ ne (b1 _ _ ne e)
      · obtain ⟨p, r, e, g⟩ := G2
        exact ⟨p, r, by rw [upd_ne hFb.symm]; exact e, g⟩
    · rintro σ H1 ⟨kvs, ks, y, rfl, b1, G1, hF, hk, hn, hl⟩
      -- found.pop("server", None)
      refine ⟨_, rfl, F0, rfl, .inl ⟨_, .inl hF⟩, kvs, Sum.inr "server", hF, rfl, fun v _ => ?_, fun _ => ?_⟩
      · obtain ⟨k2, hk2, hn2, hl2⟩ := keys_drop (x := Sum.inr "server") hk hn
        have b2 : But b H (upd H1 F0 (.dK (dropK kvs (Sum.inr "server")))) := fun a o ne e => by
          rw [upd_ne (ne_of_none e nF)]
          exact b1 _ _ ne e
        have G2 : Bag (upd H1 F0 (.dK (dropK kvs (Sum.inr "server")))) b := by
          obtain ⟨p, r, e, g⟩ := G1
          exact ⟨p, r, by rw [upd_ne hFb.symm]; exact e, g⟩
        have h2 : upd H1 F0 (.dK (dropK kvs (Sum.inr "server"))) F0 = some (.dK (dropK kvs (Sum.inr "server"))) := upd_same
        revert b2 G2 h2
        generalize upd H1 F0 (.dK (dropK kvs (Sum.inr "server"))) = H2
        intro b2 G2 h2
        refine ⟨_, rfl, F0, _, rfl, h2, rfl, _, rfl, ite2 (fun _ => ⟨(by show 1 ≤ sizeLine; decide), fun p np => ?_⟩) (fun _ => ⟨_, rfl, F0, _, k2, rfl, .inl h2, hk2, (by omega), fun zs p hp _ np => ?_⟩)⟩
        · exact q p ["a"] _ (free_of b2 hB G2 np) (by show 1 ≤ _; omega) (fun x hx => by rw [List.mem_singleton.mp hx]; exact ⟨by decide, by decide⟩) (b2.trans (But.new np)) (G2.new np) upd_same
        · exact q p zs _ (free_of b2 hB G2 np) (by rw [hp.length_eq]; omega) (fun x hx => hn2 x (hp.mem_iff.mp hx)) (b2.trans (But.new np)) (G2.new np) upd_same
      · have b2 := b1
        have G2 := G1
        have h2 := hF
        have hk2 := hk
        have hn2 := hn
        have hl2 := hl
        refine ⟨_, rfl, F0, _, rfl, h2, rfl, _, rfl, ite2 (fun _ => ⟨(by show 1 ≤ sizeLine; decide), fun p np => ?_⟩) (fun _ => ⟨_, rfl, F0, _, ks, rfl, .inl h2, hk2, (by omega), fun zs p hp _ np => ?_⟩)⟩
        · exact q p ["a"] _ (free_of b2 hB G2 np) (by show 1 ≤ _; omega) (fun x hx => by rw [List.mem_singleton.mp hx]; exact ⟨by decide, by decide⟩) (b2.trans (But.new np)) (G2.new np) upd_same
        · exact q p zs _ (free_of b2 hB G2 np) (by rw [hp.length_eq]; omega) (fun x hx => hn2 x (hp.mem_iff.mp hx)) (b2.trans (But.new np)) (G2.new np) upd_same

/-! ### a setup drawn -/
def cut (H : Hp) (b : Addr) : Hp := fun c => if c = b then none else H c
theorem cut_ne {H : Hp} {b c : Addr} (h : c ≠ b) : cut H b c = H c := if_neg h
theorem cut_same {H : Hp} {b : Addr} : Same (cut H b) H := fun c o e => by
  by_cases h : c = b
  · unfold cut at e
    rw [if_pos h] at e
    cases e
  · rw [cut_ne h] at e
    exact e
theorem cut_but {H H' : Hp} {b : Addr} (g : But b H H') : Same (cut H b) (cut H' b) := fun c o e => by
  by_cases h : c = b
  · unfold cut at e
    rw [if_pos h] at e
    cases e
  · rw [cut_ne h] at e ⊢
    exact g _ _ h e
/-- a file, a client, as they stand -/
def FileAt (H : Hp) (x : V) : Prop := ∃ t n k, x = .ref t ∧ H t = some (.tup [.str n, .int k]) ∧ NameOk n ∧ 0 ≤ k ∧ k ≤ 1000
def ClientAt (H : Hp) (x : V) : Prop := ∃ t n r a, x = .ref t ∧ H t = some (.tup [.str n, .int r, .int a]) ∧ NameOk n ∧ 0 ≤ r ∧ r ≤ 1000 ∧ 0 ≤ a ∧ a ≤ 1000
structure SetupAt (H : Hp) (p : Addr) : Prop where
  ex : ∃ pf pc xf xc l d, H p = some (.tup [.ref pf, .ref pc, .int l, .int d]) ∧ H pf = some (.tup xf) ∧ H pc = some (.tup xc) ∧ (∀ x ∈ xf, FileAt H x) ∧ (∀ x ∈ xc, ClientAt H x) ∧ xf.length ≤ 3 ∧ xc.length ≤ 4 ∧ 0 ≤ l ∧ l ≤ 1000 ∧ 0 ≤ d ∧ d ≤ 50
theorem FileAt.keep {H H' : Hp} {b : Addr} {x : V} (h : FileAt H x) (G : Bag H b) (g : But b H H') : FileAt H' x := by
  obtain ⟨t, n, k, e, ht, r⟩ := h
  exact ⟨t, n, k, e, g _ _ (G.ne_tup ht) ht, r⟩
theorem ClientAt.keep {H H' : Hp} {b : Addr} {x : V} (h : ClientAt H x) (G : Bag H b) (g : But b H H') : ClientAt H' x := by
  obtain ⟨t, n, r, a, e, ht, z⟩ := h
  exact ⟨t, n, r, a, e, g _ _ (G.ne_tup ht) ht, z⟩
theorem FileAt.same {H H' : Hp} {x : V} (h : FileAt H x) (g : Same H H') : FileAt H' x := by
  obtain ⟨t, n, k, e, ht, r⟩ := h
  exact ⟨t, n, k, e, g _ _ ht, r⟩
theorem ClientAt.same {H H' : Hp} {x : V} (h : ClientAt H x) (g : Same H H') : ClientAt H' x := by
  obtain ⟨t, n, r, a, e, ht, z⟩ := h
  exact ⟨t, n, r, a, e, g _ _ ht, z⟩
theorem pick4 {x y z u i : Int} (h0 : 0 ≤ i) (h1 : i < 4) : ∃ m, atI [V.int x, V.int y, V.int z, V.int u] i = some (.int m) ∧ (m = x ∨ m = y ∨ m = z ∨ m = u) := by
  have : i = 0 ∨ i = 1 ∨ i = 2 ∨ i = 3 := by omega
  rcases this with rfl | rfl | rfl | rfl
  · exact ⟨x, atI_nat (j := 0) rfl, by omega⟩
  · exact ⟨y, atI_nat (j := 1) rfl, by omega⟩
  · exact ⟨z, atI_nat (j := 2) rfl, by omega⟩
  · exact ⟨u, atI_nat (j := 3) rfl, by omega⟩
abbrev s__law_setup : Stmt := topS 48
theorem sc__law_setup : FnScope ["bag", "slow", "long", "slack", "name", "some", "least", "folk", "rate"] ["bag", "slow"] (defScope s__law_setup) := ⟨rfl, rfl, rfl, by decide +kernel, rfl, by decide +kernel, by decide +kernel⟩
def sp_law_setup : Sp := fun vs H Q _ => ∃ (b : Addr) (s : Int), vs = [.ref b, .int s] ∧ Bag H b ∧ (s = 0 ∨ s = 1) ∧ ∀ p H', H p = none → SetupAt H' p → But b H H' → Bag H' b → Q (.ref p) H'
theorem ok__law_setup {f : Addr} {fd : FuncData} (F : Fun K "_law_setup" "_law_setup" s__law_setup f fd) (gm : mg "_law_setup" = some (.ref f)) (N : Fre K mg) (c__law_names : C8.Cal P w K mg base 3 "_law_names" sp_law_names []) (c__law_take : C8.Cal P w K mg base 1 "_law_take" sp_law_take []) (c__law_terms : C8.Cal P w K mg base 2 "_law_terms" sp_law_terms []) : C8.Cal P w K mg base 4 "_law_setup" sp_law_setup [] := by
  refine mkCal F gm sc__law_setup (F.binds (ps := ["bag", "slow"]) fun _ _ _ _ _ _ us hl => match us, hl with | [_, _], _ => rfl) (fun vs H Q E h => ?_) (fun cdv A outer s H vs Q E hr h => ?_)
  · obtain ⟨b, s, rfl, _⟩ := h
    rfl
  · obtain ⟨b, sl, rfl, hB, hsl, q⟩ := h
    refine ⟨_, (pss_cons (ps_asg (C8.pe_c c__law_terms hr (by decide) rfl (pa_cons (pv 0) pa_nil)) (pg_tup rfl (pgs_cons (pg_name (i := 2) sc__law_setup.nd rfl (.inl rfl)) (pgs_cons (pg_name (i := 3) sc__law_setup.nd rfl (.inl rfl)) pgs_nil))))
 (pss_cons (ps_setLc (i := 5) (own := [("name", 4)]) (g := gName 4) (tt := tYes) rfl sc__law_setup.nd rfl rfl (sw_true rfl rfl rfl (by decide +kernel)) (pi_list (C8.pe_c c__law_names hr (by decide) rfl (pa_cons (pv 0) (pa_cons (pe_op op_add pe_int (pe_ix ix_list (pe_lst (pa_cons pe_int (pa_cons pe_int (pa_cons pe_int (pa_cons pe_int pa_nil))))) (C8.pe_c c__law_take hr (by decide) rfl (pa_cons (pv 0) (pa_cons pe_int pa_nil))) (fun _ _ => rfl))) pa_nil)))) (blkOk_by (N := ["bag", "slow", "long", "slack", "name", "some", "least", "folk", "rate"]) (sc := defScope s__law_setup) (by decide +kernel)) (fun _ _ _ _ _ => pg_name (i := 4) sc__law_setup.nd rfl (Or.inl rfl)) (fun _ _ _ _ _ => pts_nil) (fun _ _ _ _ _ => (pe_tup (pa_cons (pv 4) (pa_cons (pe_op op_add pe_int (C8.pe_c c__law_take hr (by decide) rfl (pa_cons (pv 0) (pa_cons pe_int pa_nil)))) pa_nil)))))
 (pss_cons (ps_set (i := 6) sc__law_setup.nd rfl (.inl rfl) (pe_ix ix_list (pe_lst (pa_cons (pe_op op_sub pe_int (pv 3)) (pa_cons pe_int pa_nil))) (pv 1) (fun _ _ => rfl)))
 (pss_cons (ps_set (i := 7) sc__law_setup.nd rfl (.inl rfl) (pe_lst pa_nil))
 (pss_cons (ps_for PassesOwn.never rfl (pi_list (C8.pe_c c__law_names hr (by decide) rfl (pa_cons (pv 0) (pa_cons (pe_op op_add pe_int (pe_ix ix_list (pe_lst (pa_cons pe_int (pa_cons pe_int (pa_cons pe_int (pa_cons pe_int (pa_cons pe_int (pa_cons pe_int pa_nil))))))) (C8.pe_c c__law_take hr (by decide) rfl (pa_cons (pv 0) (pa_cons pe_int pa_nil))) (fun _ _ => rfl))) pa_nil)))) (pg_name (i := 4) sc__law_setup.nd rfl (.inl rfl))
 (pss_cons (ps_set (i := 8) sc__law_setup.nd rfl (.inl rfl) (pe_ix ix_list (pe_lst (pa_cons pe_int (pa_cons (pv 6) (pa_cons pe_int pa_nil)))) (C8.pe_c c__law_take hr (by decide) rfl (pa_cons (pv 0) (pa_cons pe_int pa_nil))) (fun _ _ => rfl)))
 (pss_cons (ps_if (pt_cmpR op_eq (pv 8) pe_int (nomark _))
 (pss_one (ps_set (i := 8) sc__law_setup.nd rfl (.inl rfl) (pe_op op_add (pv 6) (C8.pe_c c__law_take hr (by decide) rfl (pa_cons (pv 0) (pa_cons (pe_op op_sub pe_int (pv 6)) pa_nil))))))
 pss_nil)
 (pss_one (ps_expr (pe_bm PySem.F.plainAttrs_list PySem.F.slot_list_append PySem.F.type_list_append mt_append (pv 7) (pa_cons (pe_tup (pa_cons (pv 4) (pa_cons (pv 8) (pa_cons (C8.pe_c c__law_take hr (by decide) rfl (pa_cons (pv 0) (pa_cons pe_int pa_nil))) pa_nil)))) pa_nil)))))))
 (pss_one (ps_ret (pe_tup (pa_cons (pe_callTy call_tuple_of (by rfl) N.tuple (by decide +kernel) (pa_cons (pv 5) pa_nil)) (pa_cons (pe_callTy call_tuple_of (by rfl) N.tuple (by decide +kernel) (pa_cons (pv 7) pa_nil)) (pa_cons (pv 2) (pa_cons (pv 3) pa_nil)))))))))))), ?_⟩
    -- long, slack
    refine ⟨_, rfl, b, rfl, hB, fun l d p0 H1 l0 l1 d0 d1 np0 B1 G1 hp0 => ⟨p0, _, rfl, SqT.of hp0, rfl, .int l, _, rfl, .int d, _, rfl, rfl, ?_⟩⟩
    -- some
    refine ⟨_, rfl, four_ok _ _ _ _, fun L nL => ?_⟩
    refine ⟨_, rfl, b, 4, rfl, G1.new nL, by decide, by decide, fun i H2 i0 i1 B2 G2 => ?_⟩
    obtain ⟨m, e1, hm⟩ := pick4 (x := 0) (y := 0) (z := 1) (u := 2) i0 i1
    have hL : H2 L = some (.lst [.int 0, .int 0, .int 1, .int 2]) := B2 _ _ (G1.ne nL) upd_same
    refine ⟨L, _, i, .int m, rfl, rfl, SqL.of hL, e1, 1, m, rfl, rfl, b, 1 + m, rfl, G2, by omega, by omega, fun pn xs H3 npn xl xn B3 G3 hpn => ?_⟩
    have b3 : But b H H3 := B1.trans (((But.new nL).trans B2).trans B3)
    have hpnb : pn ≠ b := G2.ne npn
    refine ⟨pn, rfl, ⟨_, SqL.of hpn⟩, fun D nD => lc_it (walk_list (xs := xs.map V.str)) (fun i H4 => But b H3 H4 ∧ Bag H4 b ∧ ∃ ys : List V, ys.length = i ∧ H4 D = some (.lst ys) ∧ ∀ y ∈ ys, FileAt H4 y) ⟨But.new nD, G3.new nD, [], rfl, upd_same, (fun y hy => by cases hy)⟩ (fun _ _ _ z => SqL.of (z.1 _ _ hpnb hpn)) ?_ ?_⟩
    · rintro i v H4 H5 hi ⟨b4, G4, ys, yl, hD, hy⟩ ⟨rfl, hv⟩
      have hDb : D ≠ b := G3.ne nD
      obtain ⟨x, hx, rfl⟩ := List.mem_map.mp (List.mem_of_getElem? hv)
      have hxs : xs.length ≤ 3 := by omega
      rw [List.length_map] at hi
      refine ⟨rfl, ⟨_, rfl, _, rfl, b, 4, rfl, G4, by decide, by decide, fun k H6 k0 k1 B6 G6 => ⟨1, k, rfl, rfl, two_ok _ _, fun t nt => ?_⟩⟩⟩
      have hD6 := B6 _ _ hDb hD
      have hDt : D ≠ t := ne_of_none hD6 nt
      have hty : FileAt (upd H6 t (.tup [.str x, .int (1 + k)])) (.ref t) := ⟨t, x, 1 + k, rfl, upd_same, xn x hx, by omega, by omega⟩
      refine ⟨_, same_upd nt _ _ hD6, small1000 (by omega), ?_, ?_, ys ++ [.ref t], ?_, upd_same, ?_⟩
      · intro a o ne e
        rw [upd_ne (ne_of_none e nD)]
        exact same_upd nt _ _ (B6 _ _ ne (b4 _ _ ne e))
      · obtain ⟨p, r, e, g⟩ := G6.new (o := .tup [.str x, .int (1 + k)]) nt
        exact ⟨p, r, by rw [upd_ne hDb.symm]; exact e, g⟩
      · rw [List.length_append, yl]
        rfl
      · intro y hy2
        have put : ∀ {z : V}, FileAt (upd H6 t (.tup [.str x, .int (1 + k)])) z → FileAt (upd (upd H6 t (.tup [.str x, .int (1 + k)])) D (.lst (ys ++ [.ref t]))) z := by
          rintro z ⟨t', n, k', e, ht', r⟩
          refine ⟨t', n, k', e, ?_, r⟩
          rw [upd_ne (ne_of ht' (same_upd nt _ _ hD6) (by intro z; cases z))]
          exact ht'
        rcases List.mem_append.mp hy2 with hy2 | hy2
        · exact put (((hy y hy2).keep G4 B6).same (same_upd nt))
        · rw [List.mem_singleton.mp hy2]
          exact put hty
    · rintro H4 ⟨b4, G4, ys, yl, hD, hy⟩
      rw [List.length_map] at yl
      have hDb : D ≠ b := G3.ne nD
      have b04 := b3.trans b4
      -- least
      refine ⟨_, rfl, 100, d, rfl, rfl, two_ok _ _, fun L2 nL2 => ?_⟩
      obtain ⟨ls, e2, hls⟩ := pick2 (x := 100 - d) (y := 50) (i := sl) hsl
      refine ⟨_, rfl, L2, _, sl, .int ls, rfl, rfl, SqL.of upd_same, e2, ?_⟩
      have s5 : Same H4 (upd H4 L2 (.lst [.int (100 - d), .int 50])) := same_upd nL2
      have b05 := b04.trans (But.new (o := .lst [.int (100 - d), .int 50]) nL2)
      have G5 := G4.new (o := .lst [.int (100 - d), .int 50]) nL2
      have hD5 := s5 _ _ hD
      have hy5 : ∀ y ∈ ys, FileAt (upd H4 L2 (.lst [.int (100 - d), .int 50])) y := fun y h => (hy y h).same s5
      clear s5
      revert b05 G5 hD5 hy5
      generalize upd H4 L2 (.lst [.int (100 - d), .int 50]) = H5
      intro b05 G5 hD5 hy5
      -- folk
      refine ⟨Nat.zero_le _, fun Fk nFk => ?_⟩
      have hFb : Fk ≠ b := G5.ne nFk
      have hFD : Fk ≠ D := (ne_of_none hD5 nFk).symm
      have nFk0 : H Fk = none := free_of b05 hB G5 nFk
      refine ⟨_, rfl, six_ok _ _ _ _ _ _, fun L3 nL3 => ?_⟩
      have G6 := (G5.new (o := .lst []) nFk).new (o := .lst [V.int 1, V.int 2, V.int 2, V.int 3, V.int 3, V.int 0]) nL3
      refine ⟨_, rfl, b, 6, rfl, G6, by decide, by decide, fun j H7 j0 j1 B7 G7 => ?_⟩
      obtain ⟨m2, e3, hm2⟩ := pick6 (x := 1) (y := 2) (z := 2) (u := 3) (v := 3) (w := 0) j0 j1
      have hL3 : H7 L3 = some (.lst [.int 1, .int 2, .int 2, .int 3, .int 3, .int 0]) := B7 _ _ ((G5.new (o := .lst []) nFk).ne nL3) upd_same
      have m7 := ((But.new (b := b) (o := .lst []) nFk).trans (But.new nL3)).trans B7
      have b07 := b05.trans m7
      have hD7 := m7 _ _ hDb hD5
      have hy7 : ∀ y ∈ ys, FileAt H7 y := fun y h => (hy5 y h).keep G5 m7
      have hF7 : H7 Fk = some (.lst []) := B7 _ _ hFb (same_upd nL3 _ _ upd_same)
      refine ⟨L3, _, j, .int m2, rfl, rfl, SqL.of hL3, e3, 1, m2, rfl, rfl, b, 1 + m2, rfl, G7, by omega, by omega, fun pq xq H8 npq xql xqn B8 G8 hpq => ?_⟩
      have b08 := b07.trans B8
      have hD8 := B8 _ _ hDb hD7
      have hy8 : ∀ y ∈ ys, FileAt H8 y := fun y h => (hy7 y h).keep G7 B8
      have hF8 := B8 _ _ hFb hF7
      have hqb : pq ≠ b := G7.ne npq
      have hqF : pq ≠ Fk := fun z => by rw [z, hF7] at npq; cases npq
      have hqD : pq ≠ D := fun z => by rw [z, hD7] at npq; cases npq
      refine ⟨pq, rfl, ⟨_, SqL.of hpq⟩, for_list (xs := xq.map V.str) (fun i σ H9 => ∃ y7 y8 zs, σ = [some (.ref b), some (.int sl), some (.int l), some (.int d), y7, some (.ref D), some (.int ls), some (.ref Fk), y8] ∧ But b H H9 ∧ Bag H9 b ∧ H9 D = some (.lst ys) ∧ (∀ y ∈ ys, FileAt H9 y) ∧ H9 pq = some (.lst (xq.map V.str)) ∧ H9 Fk = some (.lst zs) ∧ zs.length = i ∧ ∀ z ∈ zs, ClientAt H9 z)
        ⟨_, _, [], rfl, b08, G8, hD8, hy8, hpq, hF8, rfl, (fun z hz => by cases hz)⟩ (fun _ _ _ _ z => by obtain ⟨_, _, _, _, _, _, _, _, h, _⟩ := z; exact SqL.of h) ?_ ?_⟩
      · rintro i v σ H9 hv ⟨y7, y8, zs, rfl, b9, G9, hD9, hy9, hq9, hF9, zl, hz9⟩
        obtain ⟨x, hx, rfl⟩ := List.mem_map.mp (List.mem_of_getElem? hv)
        have hi : i < xq.length := by have := (List.getElem?_eq_some_iff.mp hv).1; rw [List.length_map] at this; exact this
        -- rate
        refine ⟨_, rfl, three_ok _ _ _, fun L4 nL4 => ?_⟩
        refine ⟨_, rfl, b, 3, rfl, G9.new nL4, by decide, by decide, fun k Ha k0 k1 Ba Ga => ?_⟩
        obtain ⟨rt, e4, hrt⟩ := pick3 (x := 100) (y := ls) (z := 0) k0 k1
        have hL4 : Ha L4 = some (.lst [.int 100, .int ls, .int 0]) := Ba _ _ (G9.ne nL4) upd_same
        refine ⟨L4, _, k, .int rt, rfl, rfl, SqL.of hL4, e4, ?_⟩
        have ma := (But.new (b := b) (o := .lst [.int 100, .int ls, .int 0]) nL4).trans Ba
        have ba := b9.trans ma
        have hDa := ma _ _ hDb hD9
        have hya : ∀ y ∈ ys, FileAt Ha y := fun y h => (hy9 y h).keep G9 ma
        have hqa := ma _ _ hqb hq9
        have hFa := ma _ _ hFb hF9
        have hza : ∀ z ∈ zs, ClientAt Ha z := fun z h => (hz9 z h).keep G9 ma
        refine ⟨_, rfl, rfl, _, rfl, ite2 (fun e => ?_) (fun e => ?_)⟩
        · refine ⟨_, rfl, _, rfl, _, rfl, 201, ls, rfl, rfl, b, 201 - ls, rfl, Ga, by omega, by omega, fun r2 Hb r20 r21 Bb Gb => ⟨ls, r2, rfl, rfl, ?_⟩⟩
          refine ⟨_, rfl, .inl ⟨rfl, _, SqL.of (Bb _ _ hFb hFa)⟩, _, rfl, _, rfl, _, rfl, b, 100, rfl, Gb, by decide, by decide, fun h2 Hc h20 h21 Bc Gc => ⟨three_ok _ _ _, fun t nt => ?_⟩⟩
          have mc := Bb.trans Bc
          have hFc := mc _ _ hFb hFa
          refine ⟨Fk, _, _, rfl, rfl, same_upd nt _ _ hFc, small1000 (by omega), ?_⟩
          have mt : But b Ha (upd Hc t (.tup [.str x, .int (ls + r2), .int h2])) := mc.trans (But.new nt)
          have hcl : ClientAt (upd Hc t (.tup [.str x, .int (ls + r2), .int h2])) (.ref t) := ⟨t, x, ls + r2, h2, rfl, upd_same, xqn x hx, by omega, by omega, by omega, by omega⟩
          have put : ∀ {z : V}, ClientAt (upd Hc t (.tup [.str x, .int (ls + r2), .int h2])) z → ClientAt (upd (upd Hc t (.tup [.str x, .int (ls + r2), .int h2])) Fk (.lst (zs ++ [.ref t]))) z := by
            rintro z ⟨t', n, r', a', e, ht', g⟩
            refine ⟨t', n, r', a', e, ?_, g⟩
            rw [upd_ne (ne_of ht' (same_upd nt _ _ hFc) (by intro z; cases z))]
            exact ht'
          have putf : ∀ {z : V}, FileAt (upd Hc t (.tup [.str x, .int (ls + r2), .int h2])) z → FileAt (upd (upd Hc t (.tup [.str x, .int (ls + r2), .int h2])) Fk (.lst (zs ++ [.ref t]))) z := by
            rintro z ⟨t', n, k', e, ht', g⟩
            refine ⟨t', n, k', e, ?_, g⟩
            rw [upd_ne (ne_of ht' (same_upd nt _ _ hFc) (by intro z; cases z))]
            exact ht'
          refine ⟨_, _, zs ++ [.ref t], rfl, ?_, ?_, ?_, ?_, ?_, upd_same, ?_, ?_⟩
          · intro a o ne e
            rw [upd_ne (fun z => by rw [z, nFk0] at e; cases e)]
            exact mt _ _ ne (ba _ _ ne e)
          · obtain ⟨p, r, e, g⟩ := Gc.new (o := .tup [.str x, .int (ls + r2), .int h2]) nt
            exact ⟨p, r, by rw [upd_ne hFb.symm]; exact e, g⟩
          · rw [upd_ne hFD.symm]
            exact mt _ _ hDb hDa
          · exact fun y h => putf ((hya y h).keep Ga mt)
          · rw [upd_ne hqF]
            exact mt _ _ hqb hqa
          · rw [List.length_append, zl]
            rfl
          · intro z hz
            rcases List.mem_append.mp hz with hz | hz
            · exact put ((hza z hz).keep Ga mt)
            · rw [List.mem_singleton.mp hz]
              exact put hcl
        · have hrt0 : rt ≠ 0 := fun z => e (by rw [z]; exact decide_eq_true rfl)
          refine ⟨_, rfl, .inl ⟨rfl, _, SqL.of hFa⟩, _, rfl, _, rfl, _, rfl, b, 100, rfl, Ga, by decide, by decide, fun h2 Hc h20 h21 Bc Gc => ⟨three_ok _ _ _, fun t nt => ?_⟩⟩
          have hFc := Bc _ _ hFb hFa
          refine ⟨Fk, _, _, rfl, rfl, same_upd nt _ _ hFc, small1000 (by omega), ?_⟩
          have mt : But b Ha (upd Hc t (.tup [.str x, .int rt, .int h2])) := Bc.trans (But.new nt)
          have hcl : ClientAt (upd Hc t (.tup [.str x, .int rt, .int h2])) (.ref t) := ⟨t, x, rt, h2, rfl, upd_same, xqn x hx, by omega, by omega, by omega, by omega⟩
          have put : ∀ {z : V}, ClientAt (upd Hc t (.tup [.str x, .int rt, .int h2])) z → ClientAt (upd (upd Hc t (.tup [.str x, .int rt, .int h2])) Fk (.lst (zs ++ [.ref t]))) z := by
            rintro z ⟨t', n, r', a', e, ht', g⟩
            refine ⟨t', n, r', a', e, ?_, g⟩
            rw [upd_ne (ne_of ht' (same_upd nt _ _ hFc) (by intro z; cases z))]
            exact ht'
          have putf : ∀ {z : V}, FileAt (upd Hc t (.tup [.str x, .int rt, .int h2])) z → FileAt (upd (upd Hc t (.tup [.str x, .int rt, .int h2])) Fk (.lst (zs ++ [.ref t]))) z := by
            rintro z ⟨t', n, k', e, ht', g⟩
            refine ⟨t', n, k', e, ?_, g⟩
            rw [upd_ne (ne_of ht' (same_upd nt _ _ hFc) (by intro z; cases z))]
            exact ht'
          refine ⟨_, _, zs ++ [.ref t], rfl, ?_, ?_, ?_, ?_, ?_, upd_same, ?_, ?_⟩
          · intro a o ne e
            rw [upd_ne (fun z => by rw [z, nFk0] at e; cases e)]
            exact mt _ _ ne (ba _ _ ne e)
          · obtain ⟨p, r, e, g⟩ := Gc.new (o := .tup [.str x, .int rt, .int h2]) nt
            exact ⟨p, r, by rw [upd_ne hFb.symm]; exact e, g⟩
          · rw [upd_ne hFD.symm]
            exact mt _ _ hDb hDa
          · exact fun y h => putf ((hya y h).keep Ga mt)
          · rw [upd_ne hqF]
            exact mt _ _ hqb hqa
          · rw [List.length_append, zl]
            rfl
          · intro z hz
            rcases List.mem_append.mp hz with hz | hz
            · exact put ((hza z hz).keep Ga mt)
            · rw [List.mem_singleton.mp hz]
              exact put hcl
      · rintro σ H9 ⟨y7, y8, zs, rfl, b9, G9, hD9, hy9, hq9, hF9, zl, hz9⟩
        rw [List.length_map] at zl
        refine ⟨_, rfl, D, ys, rfl, .inl ⟨SqL.of hD9, fun pf npf => ?_⟩⟩
        refine ⟨_, rfl, Fk, zs, rfl, .inl ⟨SqL.of (same_upd npf _ _ hF9), fun pc npc => ?_⟩⟩
        refine ⟨_, rfl, _, rfl, four_ok _ _ _ _, fun p np => ?_⟩
        have m9 : Same H9 (upd (upd (upd H9 pf (.tup ys)) pc (.tup zs)) p (.tup [.ref pf, .ref pc, .int l, .int d])) := ((same_upd npf).trans (same_upd npc)).trans (same_upd np)
        refine q p _ ?_ ⟨pf, pc, ys, zs, l, d, upd_same, ?_, ?_, fun y h => (hy9 y h).same m9, fun z h => (hz9 z h).same m9, by omega, by omega, by omega, by omega, by omega, by omega⟩ (b9.trans fun a o _ e => m9 _ _ e) ?_
        · have n9 : H9 p = none := (same_upd npf).free ((same_upd npc).free np)
          exact free_of b9 hB G9 n9
        · exact same_upd np _ _ (same_upd npc _ _ upd_same)
        · exact same_upd np _ _ upd_same
        · exact ((G9.new npf).new npc).new np

end
/-! ### rules of our own: truths among numbers -/
def IntV (x : V) (i : Int) : Prop := x = .int i ∨ ∃ k, x = .bl k ∧ i = b2i k
section
variable {X : Cx}
theorem op_addI : OpR X (binaryOp .Add) (fun x y H Q => ∃ i j, IntV x i ∧ y = .int j ∧ Q (.int (i + j)) H) := by
  intro pins s σ H x y v u Q I rx ry h
  obtain ⟨i, j, hx, rfl, q⟩ := h
  rcases hx with rfl | ⟨k, rfl, rfl⟩
  · exact op_add pins s σ H _ _ v u Q I rx ry ⟨i, j, rfl, rfl, q⟩
  · obtain rfl : v = Value.bool k := rx
    obtain ⟨t, rfl⟩ := ry
    exact PySem.IntBool.add_bool_int ⟨.int (b2i k + j), H, I.tok _, ⟨_, rfl⟩, q⟩
theorem op_subI : OpR X (binaryOp .Sub) (fun x y H Q => ∃ i j, IntV x i ∧ y = .int j ∧ Q (.int (i - j)) H) := by
  intro pins s σ H x y v u Q I rx ry h
  obtain ⟨i, j, hx, rfl, q⟩ := h
  rcases hx with rfl | ⟨k, rfl, rfl⟩
  · exact op_sub pins s σ H _ _ v u Q I rx ry ⟨i, j, rfl, rfl, q⟩
  · obtain rfl : v = Value.bool k := rx
    obtain ⟨t, rfl⟩ := ry
    exact PySem.IntBool.sub_bool_int ⟨.int (b2i k - j), H, I.tok _, ⟨_, rfl⟩, q⟩
theorem op_mulI : OpR X (binaryOp .Mult) (fun x y H Q => ∃ i, IntV x i ∧ y = .int 100 ∧ Q (.int (i * 100)) H) := by
  intro pins s σ H x y v u Q I rx ry h
  obtain ⟨i, hx, rfl, q⟩ := h
  rcases hx with rfl | ⟨k, rfl, rfl⟩
  · exact op_mul pins s σ H _ _ v u Q I rx ry ⟨i, 100, rfl, rfl, .inr ⟨by decide, by decide⟩, q⟩
  · obtain rfl : v = Value.bool k := rx
    obtain ⟨t, rfl⟩ := ry
    exact PySem.IntBool.mul_bool_int ⟨.int (b2i k * 100), H, I.tok _, ⟨_, rfl⟩, q⟩
theorem un_negI : UnR X (unaryOp .USub) (fun x H Q => ∃ i, IntV x i ∧ Q (.int (-i)) H) := by
  intro pins s σ H x v Q I rx h
  obtain ⟨i, hx, q⟩ := h
  rcases hx with rfl | ⟨k, rfl, rfl⟩
  · exact un_neg pins s σ H _ v Q I rx ⟨i, rfl, q⟩
  · obtain rfl : v = Value.bool k := rx
    exact unaryOp_gives (op := .USub) (typeIs_bool' s k) rfl F.slot_bool_neg F.entry_int_neg (F.args_int_neg_1 _) (show Gives (Builtin.«int.__neg__» ⟨[.bool k], []⟩) (.int (-(b2i k))) from .of_eq rfl) ⟨.int (-(b2i k)), H, I.tok _, ⟨_, rfl⟩, q⟩
theorem call_strI : CallR X (.type "str") (fun xs H Q => ∃ x i, xs = [x] ∧ IntV x i ∧ i.natAbs.log2 < 1900 ∧ ∀ z : Str, z.length ≤ i.natAbs.log2 + 10 → Q (.str z) H) := by
  intro pins s σ H xs us Q I r h
  obtain ⟨x, i, rfl, hx, hz, q⟩ := h
  rcases hx with rfl | ⟨k, rfl, rfl⟩
  · refine call_str_int pins s σ H _ us Q I r ⟨i, rfl, by omega, q _ ?_⟩
    have e := int_text_length_le (a := i) (k := i.natAbs.log2 + 1) (by omega) (by omega)
    rw [PySem.ofString_length]
    omega
  · obtain ⟨u, rfl, ru⟩ := vals1 r
    obtain rfl : u = Value.bool k := ru
    exact PySem.P.str_of_bool ⟨.str _, H, I.tok _, ⟨_, rfl⟩, q _ (by cases k <;> decide)⟩
end
section
variable {P : Program} {w : World} {K : PySem.W.Frag} {mg : Str → Option Value} {base : Heap}

end
/-! ### rules of our own: sorted(a tuple of clients) -/
section
variable {prog : Program} {w : World} {A : Around} {E : Value → Shared → Prop} {s : Shared}
theorem gather_tup {l : Addr} {vs : List Value} {Q : List Value → Shared → Prop} (hl : s.heap.IsTuple l vs.toArray) (hsz : vs.length ≤ sizeLine)
    (h : Q vs { s with heap := (s.heap.push (seqObj "list" #[] 0)).update s.heap.objs.size (Obj.mapSeq (· ++ vs.toArray)) }) : wpAny (model prog w) A (collect (.ref l)) Q E s := by
  obtain ⟨o, ho, hc, n, hd⟩ := id hl
  have ho' : (s.heap.push (seqObj "list" #[] 0)).get? l = some o := Heap.get?_push_of_some _ ho
  unfold collect
  refine wpAny_bind (wpAny_runValue (codeAny_builtin entry_proto_collect' (show wpAny _ _ (do again (.builtin "list.__iadd__" ⟨[← newList [], .ref l], []⟩)) _ _ s from ?_)))
  refine wpAny_bind (wpAny_newList (wpAny_pure ⟨Code.quiet_builtin _ (by decide +kernel), codeAny_builtin entry_list_iadd' (show wpAny _ _ (Builtin.List.listExtendWith (.ref s.heap.objs.size) (.ref l) (.ref s.heap.objs.size)) _ _ { s with heap := s.heap.push (seqObj "list" #[] 0) } from ?_)⟩))
  unfold Builtin.List.listExtendWith
  refine wpAny_bind (wpAny_typeOf (T := "tuple") ⟨o, ho', hc⟩ ?_)
  have et : (Value.type "tuple" == Value.type "tuple") = true := by rfl
  rw [if_pos (by rw [et, Bool.or_true])]
  refine wpAny_bind (listItems_at ho' hd (wpAny_bind (listItems_at (xs := #[]) (n := 0) (Heap.get?_push_size _ rfl) rfl ?_)))
  rw [if_neg (by simp)]
  refine wpAny_bind (listUpdate_at (xs := #[]) (n := 0) (Heap.get?_push_size _ rfl) rfl (wpAny_pure ?_) (Nat.zero_le _) (by show (#[] ++ vs.toArray).size ≤ sizeLine + 1; rw [Array.size_append, List.size_toArray, List.size_toArray]; show 0 + _ ≤ _; omega))
  refine (show wpAny (model prog w) A (do let o ← load s.heap.objs.size; match o.data with | .seq xs _ => pure xs.toList | _ => unsupported "internal:collect") Q E { s with heap := (s.heap.push (seqObj "list" #[] 0)).update s.heap.objs.size (Obj.mapSeq (· ++ vs.toArray)) } from ?_)
  refine wpAny_bind (wpAny_load (get?_update_seq (Heap.get?_push_size _ rfl) _) (show wpAny _ _ (pure ((#[] : Array Value) ++ vs.toArray).toList) Q E _ from ?_))
  have e : ((#[] : Array Value) ++ vs.toArray).toList = vs := by simp
  rw [e]
  exact wpAny_pure h
open Srt in
theorem sorted_tup {l : Addr} {vs : List Value} {Q : Value → Shared → Prop} (hl : s.heap.IsTuple l vs.toArray) (hz : vs.length ≤ sizeLine)
    (hS : 2 ≤ vs.length → ∀ (h₁ : Heap) (a : Addr), h₁.get? a = some (seqObj "list" vs.toArray 0) → (∀ b o, s.heap.get? b = some o → b ≠ a ∧ h₁.get? b = some o) → Sortable prog w A.in1.in1 { s with heap := h₁ } a vs)
    (h : ∀ out : List Value, out.Perm vs → Q (.ref (s.heap.objs.size + 1)) { s with heap := sortedAll s.heap vs out.toArray }) : wpAny (model prog w) A (call (.builtin "sorted") [.ref l]) Q E s := by
  refine Calls.call_function_entry kind_sorted plain_sorted entry_sorted (args_sorted1 _) ?_
  unfold Builtin.«sorted»
  refine wpAny_bind (m := checkCount "sorted" 1 1 _) (wpAny_pure (wpAny_bind (gather_tup hl hz (wpAny_bind (wpAny_newList ?_ hz)))))
  have n1 : ((s.heap.push (seqObj "list" #[] 0)).update s.heap.objs.size (Obj.mapSeq (· ++ vs.toArray))).objs.size = s.heap.objs.size + 1 := by rw [Heap.size_update, size_push']
  have new : (((s.heap.push (seqObj "list" #[] 0)).update s.heap.objs.size (Obj.mapSeq (· ++ vs.toArray))).push (seqObj "list" vs.toArray 0)).get? (s.heap.objs.size + 1) = some (seqObj "list" vs.toArray 0) := by rw [← n1]; exact Heap.get?_push_size _ rfl
  have old : ∀ b o, s.heap.get? b = some o → b ≠ s.heap.objs.size + 1 ∧ (((s.heap.push (seqObj "list" #[] 0)).update s.heap.objs.size (Obj.mapSeq (· ++ vs.toArray))).push (seqObj "list" vs.toArray 0)).get? b = some o := fun b o q => by
    have lt : b < s.heap.objs.size := Heap.lt_size q
    exact ⟨Nat.ne_of_lt (Nat.lt_succ_of_lt lt), Heap.get?_push_of_some _ (by rw [Heap.get?_update_ne _ _ _ _ (Nat.ne_of_lt lt)]; exact Heap.get?_push_of_some _ q)⟩
  refine (show wpAny _ _ _ _ _ { s with heap := ((s.heap.push (seqObj "list" #[] 0)).update s.heap.objs.size (Obj.mapSeq (· ++ vs.toArray))).push (seqObj "list" vs.toArray 0) } from ?_)
  rw [n1]
  exact wpAny_bind (wpAny_holding (wpAny_call_entry slot_list_sort ⟨_, new, rfl⟩ entry_list_sort (list_sort_any new hz (fun h2 => hS h2 _ _ new old) fun out hp => ⟨_, rfl, wpAny_pure ⟨_, rfl, h out hp⟩⟩) (args_list_sort _)))
/-- a tuple of a text and two numbers -/
def IsTri (h : Heap) (v : Value) : Prop := ∃ a o x t y u z r n, v = .ref a ∧ h.get? a = some o ∧ o.cls = .type "tuple" ∧ o.data = .seq #[.str x t, .int y u, .int z r] n
theorem IsTri.keeps {h h' : Heap} {v : Value} (p : IsTri h v) (k : ∀ b o, h.get? b = some o → o.cls = .type "tuple" → h'.get? b = some o) : IsTri h' v := by
  obtain ⟨a, o, x, t, y, u, z, r, n, e, ho, hc, hd⟩ := p
  exact ⟨a, o, x, t, y, u, z, r, n, e, k _ _ ho hc, hc, hd⟩
theorem tri_tot {vs : List Value} (hp : ∀ v ∈ vs, IsTri s.heap v) : Srt.Tot prog w A s (tuples' true) (fun p => p.1 ∈ vs) := by
  intro p q hm hm'
  obtain ⟨a, o, x, t, y, u, z, r, n, e, ho, hc, hd⟩ := hp _ hm
  obtain ⟨a', o', x', t', y', u', z', r', n', e', ho', hc', hd'⟩ := hp _ hm'
  rw [e, e']
  refine ⟨if x = x' then (if y = y' then (if z = z' then false else decide (z < z')) else decide (y < y')) else decide (x.cps.toList < x'.cps.toList), ?_⟩
  refine PySem.W.kat_lt ho hd ho' hd' (show PySem.W.KatLex prog w A true (decide (3 < 3)) _ [(.str x t, .str x' t'), (.int y u, .int y' u'), (.int z r, .int z' r')] 0 s from ?_)
  refine PySem.W.kat_cons (SeqAt.EqAt.str_str x t x' t' prog w _ _ (PySem.W.kat_go (fun e1 => ?_) (fun e1 => ?_)))
  · have ex : x = x' := by simpa using e1
    refine PySem.W.kat_yes (PySem.W.kat_cons (SeqAt.EqAt.int_int y u y' u' prog w _ _ (PySem.W.kat_go (fun e2 => ?_) (fun e2 => ?_))))
    · have ey : y = y' := by simpa using e2
      refine PySem.W.kat_yes (PySem.W.kat_cons (SeqAt.EqAt.int_int z r z' r' prog w _ _ (PySem.W.kat_go (fun e3 => ?_) (fun e3 => ?_))))
      · have ez : z = z' := by simpa using e3
        exact PySem.W.kat_yes (PySem.W.kat_nil ⟨rfl, by rw [if_pos ex, if_pos ey, if_pos ez]; rfl⟩)
      · have ez : ¬ z = z' := by simpa using e3
        exact PySem.W.kat_no (oneLt_any_int ⟨rfl, by rw [if_pos ex, if_pos ey, if_neg ez]⟩)
    · have ey : ¬ y = y' := by simpa using e2
      exact PySem.W.kat_no (oneLt_any_int ⟨rfl, by rw [if_pos ex, if_neg ey]⟩)
  · have ex : ¬ x = x' := by simpa using e1
    exact PySem.W.kat_no (oneLt_str ⟨rfl, by rw [if_neg ex]⟩)
theorem tri_firsts {h : Heap} : ∀ {vs : List Value}, (∀ v ∈ vs, IsTri h v) → ∃ fs : List Value, PySem.W.KatTups h vs fs ∧ fs.length = vs.length ∧ ∀ f ∈ fs, ∃ x t, f = Value.str x t
  | [], _ => ⟨[], PySem.W.KatTups.nil, rfl, fun _ m => by cases m⟩
  | v :: vs, hp => by
    obtain ⟨fs, h1, h2, h3⟩ := tri_firsts (vs := vs) fun v' m => hp v' (List.mem_cons_of_mem _ m)
    obtain ⟨a, o, x, t, y, u, z, r, n, rfl, ho, hc, hd⟩ := hp v (List.mem_cons_self ..)
    refine ⟨.str x t :: fs, PySem.W.KatTups.cons ho hc hd rfl h1, congrArg Nat.succ h2, fun f m => ?_⟩
    rcases List.mem_cons.mp m with e | m
    · exact ⟨x, t, e⟩
    · exact h3 f m
theorem tris_sortable {a : Addr} {vs : List Value} (h0 : 0 < vs.length) (hp : ∀ v ∈ vs, IsTri s.heap v) (ha : ∀ o, s.heap.get? a = some o → o.cls ≠ .type "tuple") : Srt.Sortable prog w A s a vs := by
  intro h' keep
  have hp' : ∀ v ∈ vs, IsTri h' v := fun v m => (hp v m).keeps fun b o e c => keep b o (fun z => ha o (z ▸ e) c) e
  obtain ⟨fs, h1, h2, h3⟩ := tri_firsts hp'
  refine ⟨tuples' true, fun Q E hq => PySem.W.kat_kind (T := .type "str") h1 (by omega) (fun f m => ?_) (by rfl) ?_, tri_tot hp'⟩
  · obtain ⟨x, t, rfl⟩ := h3 f m
    exact PySem.W.Looks.now
  · have e : (Value.type "str" != Value.type "tuple") = true := by first | decide +kernel | rfl | decide
    rw [e]
    exact hq
end
section
variable {X : Cx}
/-- sorted(xs), a tuple of triples of a text and two numbers: a new list of the same in some order -/
theorem cr_sortedTri : CallR X (.builtin "sorted") (fun vs H Q => ∃ a xs, vs = [V.ref a] ∧ SqT X.K H a xs ∧ (∀ x ∈ xs, ∃ t n i j, x = V.ref t ∧ H t = some (.tup [.str n, .int i, .int j])) ∧ ∀ ys p, ys.Perm xs → H p = none → Q (.ref p) (upd H p (.lst ys))) := by
  intro pins s σ H vs us Q I r h
  obtain ⟨a, xs, rfl, hs, hx, q⟩ := h
  obtain ⟨its, rv, hl, hz⟩ := I.tuple hs
  obtain ⟨u, rfl, ru⟩ := vals1 r
  obtain rfl : u = Value.ref a := ru
  obtain ⟨e1, e2⟩ := refs_back rv fun x m => by
    obtain ⟨t, _, _, _, e, _⟩ := hx x m
    exact ⟨t, e⟩
  have tri : ∀ v ∈ its, IsTri s.heap v := fun v hv => by
    obtain ⟨t, rfl⟩ := e2 v hv
    have hm : V.ref t ∈ xs := by rw [e1]; exact List.mem_map.mpr ⟨_, hv, rfl⟩
    obtain ⟨t', n, i, j, e, ht⟩ := hx _ hm
    cases e
    obtain ⟨_, its2, r2, o, ho, hc, k, hd⟩ := I.hok _ _ ht
    cases r2 with
    | cons r1 r2 =>
      cases r2 with
      | cons r3 r2 =>
        cases r2 with
        | cons r4 r2 =>
          cases r2
          obtain ⟨t1, rfl⟩ := r1
          obtain ⟨t2, rfl⟩ := r3
          obtain ⟨t3, rfl⟩ := r4
          exact ⟨t, o, n, t1, i, t2, j, t3, k, rfl, ho, hc, hd⟩
  refine sorted_tup (show s.heap.IsTuple a its.toArray from hl) (by rw [← rv.length]; exact hz) (fun h2 h₁ a1 ha k => tris_sortable (s := { s with heap := h₁ }) (by omega) (fun v m => (tri v m).keeps fun b o e _ => (k b o e).2) fun o e => ?_) fun out hp => ?_
  · have e' : some o = some (seqObj "list" its.toArray 0) := e.symm.trans ha
    cases e'
    exact fun c => absurd (Value.type.inj c) (by decide)
  · have h3 : ∀ u ∈ out, ∃ a, u = Value.ref a := fun u hu => e2 u (hp.mem_iff.mp hu)
    obtain ⟨n, hn⟩ := sortedAll_at s.heap its out.toArray
    refine ⟨.ref _, upd H (s.heap.objs.size + 1) (.lst (out.map backV)), I.laid (t' := s.toks) (fun b o e => sortedAll_old e) (Nat.le_succ _) ⟨?_, out, n, vals_back h3, hn⟩, rfl, q _ _ ?_ (I.hok.fresh (Nat.le_succ _))⟩
    · rw [List.length_map, hp.length_eq, ← rv.length]
      exact hz
    · rw [e1]
      exact hp.map backV
end
section
variable {P : Program} {w : World} {K : PySem.W.Frag} {mg : Str → Option Value} {base : Heap}

/-! ### how deep, how great -/
def dep : PyData → Nat
  | .list xs => 1 + depL xs
  | .tuple xs => 1 + depL xs
  | _ => 0
where depL : List PyData → Nat
  | [] => 0
  | d :: ds => max (dep d) (depL ds)
theorem dep_mem {d : PyData} : ∀ {ds : List PyData}, d ∈ ds → dep d ≤ dep.depL ds
  | [], h => by cases h
  | e :: ds, h => by
    rcases List.mem_cons.mp h with rfl | h
    · exact Nat.le_max_left _ _
    · exact Nat.le_trans (dep_mem h) (Nat.le_max_right _ _)
theorem depL_append (xs ys : List PyData) : dep.depL (xs ++ ys) = max (dep.depL xs) (dep.depL ys) := by
  induction xs with
  | nil => show _ = max 0 _; rw [Nat.zero_max]; rfl
  | cons x xs ih =>
    show max (dep x) (dep.depL (xs ++ ys)) = max (max (dep x) (dep.depL xs)) (dep.depL ys)
    rw [ih, Nat.max_assoc]
theorem depL_take (xs : List PyData) (n : Nat) : max (dep.depL (xs.take n)) (dep.depL (xs.drop n)) = dep.depL xs := by rw [← depL_append, List.take_append_drop]
theorem depL_set : ∀ (xs : List PyData) (i : Nat) (y : PyData), dep.depL (xs.set i y) ≤ max (dep.depL xs) (dep y)
  | [], i, y => Nat.zero_le _
  | z :: xs, 0, y => by
    show max (dep y) (dep.depL xs) ≤ max (max (dep z) (dep.depL xs)) (dep y)
    omega
  | z :: xs, i + 1, y => by
    have ih := depL_set xs i y
    show max (dep z) (dep.depL (xs.set i y)) ≤ max (max (dep z) (dep.depL xs)) (dep y)
    omega
def bit : PyData → Nat
  | .int i => i.natAbs.log2
  | .list xs => bitL xs
  | .tuple xs => bitL xs
  | _ => 0
where bitL : List PyData → Nat
  | [] => 0
  | d :: ds => max (bit d) (bitL ds)
theorem bit_mem {d : PyData} : ∀ {ds : List PyData}, d ∈ ds → bit d ≤ bit.bitL ds
  | [], h => by cases h
  | e :: ds, h => by
    rcases List.mem_cons.mp h with rfl | h
    · exact Nat.le_max_left _ _
    · exact Nat.le_trans (bit_mem h) (Nat.le_max_right _ _)
theorem bitL_append (xs ys : List PyData) : bit.bitL (xs ++ ys) = max (bit.bitL xs) (bit.bitL ys) := by
  induction xs with
  | nil => show _ = max 0 _; rw [Nat.zero_max]; rfl
  | cons x xs ih =>
    show max (bit x) (bit.bitL (xs ++ ys)) = max (max (bit x) (bit.bitL xs)) (bit.bitL ys)
    rw [ih, Nat.max_assoc]
theorem bitL_take (xs : List PyData) (n : Nat) : max (bit.bitL (xs.take n)) (bit.bitL (xs.drop n)) = bit.bitL xs := by rw [← bitL_append, List.take_append_drop]
theorem bitL_set : ∀ (xs : List PyData) (i : Nat) (y : PyData), bit.bitL (xs.set i y) ≤ max (bit.bitL xs) (bit y)
  | [], i, y => Nat.zero_le _
  | z :: xs, 0, y => by
    show max (bit y) (bit.bitL xs) ≤ max (max (bit z) (bit.bitL xs)) (bit y)
    omega
  | z :: xs, i + 1, y => by
    have ih := bitL_set xs i y
    show max (bit z) (bit.bitL (xs.set i y)) ≤ max (max (bit z) (bit.bitL xs)) (bit y)
    omega

/-! ### what stands of old, and what is new -/
def grow (J H H' : Hp) (b : Addr) : Hp := fun c => if (J c).isSome = true then J c else if H c = none then cut H' b c else none
theorem grow_old {J H H' : Hp} {b : Addr} : Same J (grow J H H' b) := fun c o e => by
  unfold grow
  rw [if_pos (by rw [e]; rfl)]
  exact e
theorem grow_new {J H H' : Hp} {b c : Addr} {o : HO} (hJ : Same J (cut H b)) (hc : H c = none) (cb : c ≠ b) (e : H' c = some o) : grow J H H' b c = some o := by
  have hj : J c = none := by
    cases z : J c with
    | none => rfl
    | some u =>
      have z2 := cut_same _ _ (hJ _ _ z)
      rw [hc] at z2
      cases z2
  unfold grow
  rw [if_neg (by rw [hj]; exact Bool.false_ne_true), if_pos hc, cut_ne cb]
  exact e
theorem grow_cases {J H H' : Hp} {b c : Addr} {o : HO} (e : grow J H H' b c = some o) : J c = some o ∨ (J c = none ∧ H c = none ∧ cut H' b c = some o) := by
  unfold grow at e
  by_cases h1 : (J c).isSome = true
  · rw [if_pos h1] at e
    exact .inl e
  · rw [if_neg h1] at e
    by_cases h2 : H c = none
    · rw [if_pos h2] at e
      refine .inr ⟨?_, h2, e⟩
      cases z : J c with
      | none => rfl
      | some u => rw [z] at h1; exact absurd rfl h1
    · rw [if_neg h2] at e
      cases e
theorem grow_cut {J H H' : Hp} {b : Addr} (hJ : Same J (cut H b)) (g : But b H H') : Same (grow J H H' b) (cut H' b) := fun c o e => by
  rcases grow_cases e with h | ⟨_, _, h⟩
  · exact cut_but g _ _ (hJ _ _ h)
  · exact h
theorem grow_but {J H H1 H2 : Hp} {b : Addr} (g : But b H1 H2) : Same (grow J H H1 b) (grow J H H2 b) := fun c o e => by
  rcases grow_cases e with h | ⟨h1, h2, h3⟩
  · exact grow_old _ _ h
  · have z := cut_but g _ _ h3
    unfold grow
    rw [if_neg (by rw [h1]; exact Bool.false_ne_true), if_pos h2]
    exact z
/-- new behind a later heap is new -/
theorem grow_later {J J' H H1 H2 : Hp} {b : Addr} (hJ : Same J (cut H b)) (hJ' : Same J' J) (g : But b H H1) : Same (grow J' H1 H2 b) (grow J H H2 b) := fun c o e => by
  rcases grow_cases e with h | ⟨h1, h2, h3⟩
  · exact grow_old _ _ (hJ' _ _ h)
  · have cb : c ≠ b := fun z => by
      rw [z] at h3
      unfold cut at h3
      rw [if_pos rfl] at h3
      cases h3
    have hc : H c = none := by
      cases z : H c with
      | none => rfl
      | some u =>
        have z2 := g _ _ cb z
        rw [h2] at z2
        cases z2
    rw [cut_ne cb] at h3
    exact grow_new hJ hc cb h3
/-- .. also where a list that stood behind is stored to -/
theorem grow_put {J H H1 H2 : Hp} {b l : Addr} {u u' : HO} (hJ : Same J (cut H b)) (g : But b H H1) (hl : H1 l = some u) (hH : H l = none) : Same (grow J H1 H2 b) (grow J H (upd H2 l u') b) := fun c o e => by
  rcases grow_cases e with h | ⟨h1, h2, h3⟩
  · exact grow_old _ _ h
  · have cb : c ≠ b := fun z => by
      rw [z] at h3
      unfold cut at h3
      rw [if_pos rfl] at h3
      cases h3
    have cl : c ≠ l := fun z => by
      rw [z, hl] at h2
      cases h2
    have hc : H c = none := by
      cases z : H c with
      | none => rfl
      | some u =>
        have z2 := g _ _ cb z
        rw [h2] at z2
        cases z2
    rw [cut_ne cb] at h3
    exact grow_new hJ hc cb (by rw [upd_ne cl]; exact h3)
def noHp : Hp := fun _ => none
theorem noHp_same {H : Hp} : Same noHp H := fun _ _ e => by cases e
/-! ### a thing of any kind -/
abbrev s__law_odd : Stmt := topS 49
theorem sc__law_odd : FnScope ["bag", "some"] ["bag"] (defScope s__law_odd) := ⟨rfl, rfl, rfl, by decide +kernel, rfl, by decide +kernel, by decide +kernel⟩
def sp_law_odd (K : PySem.W.Frag) : Sp := fun vs H Q _ => ∃ b : Addr, vs = [.ref b] ∧ Bag H b ∧ ∀ v d H', Dp K (grow noHp H H' b) v d → siz d ≤ 150 → dep d ≤ 2 → bit d ≤ 100 → setupD d = false → But b H H' → Bag H' b → Q v H'
def odds1 : List PyData := [.none, .bool true, .bool false, .int 0, .int 1, .int (-1), .int 5, .int 51, .int 100, .int 201, .int 1001, .int (10 ^ (30 : Int).toNat), .str "", .str "a", .str "server", .str "Ann", .str "a b"]
def odds2 : List PyData := [.str "read", .str "write", .str "abcdefghi", .tuple [], .list [], .tuple [.str "a", .int 1], .tuple [.tuple [.str "a", .int 1]], .list [.str "a"], .tuple [.str "a", .int 100, .int 0], .list [.int 1], .tuple [.none]]
theorem odds_ok : ∀ d ∈ odds1 ++ odds2, siz d ≤ 150 ∧ dep d ≤ 2 ∧ bit d ≤ 100 ∧ setupD d = false := by
  intro d hd
  simp only [odds1, odds2, List.cons_append, List.nil_append, List.mem_cons, List.not_mem_nil, or_false] at hd
  rcases hd with rfl | rfl | rfl | rfl | rfl | rfl | rfl | rfl | rfl | rfl | rfl | rfl | rfl | rfl | rfl | rfl | rfl | rfl | rfl | rfl | rfl | rfl | rfl | rfl | rfl | rfl | rfl | rfl <;> exact ⟨by decide +kernel, by decide +kernel, by decide +kernel, by decide +kernel⟩
theorem ok__law_odd {f : Addr} {fd : FuncData} (F : Fun K "_law_odd" "_law_odd" s__law_odd f fd) (gm : mg "_law_odd" = some (.ref f)) (N : Fre K mg) (c__law_take : C8.Cal P w K mg base 1 "_law_take" sp_law_take []) : C8.Cal P w K mg base 2 "_law_odd" (sp_law_odd K) [] := by
  refine mkCal F gm sc__law_odd (F.binds (ps := ["bag"]) fun _ _ _ _ _ _ us hl => match us, hl with | [_], _ => rfl) (fun vs H Q E h => ?_) (fun cdv A outer s H vs Q E hr h => ?_)
  · obtain ⟨b, rfl, _⟩ := h
    rfl
  · obtain ⟨b, rfl, hB, q⟩ := h
    refine ⟨_, (pss_cons (ps_set (i := 1) sc__law_odd.nd rfl (.inl rfl) (pe_lst (pa_cons pe_non (pa_cons pe_bl (pa_cons pe_bl (pa_cons pe_int (pa_cons pe_int (pa_cons (pe_un un_neg pe_int) (pa_cons pe_int (pa_cons pe_int (pa_cons pe_int (pa_cons pe_int (pa_cons pe_int (pa_cons (pe_op op_pow pe_int pe_int) (pa_cons pe_str (pa_cons pe_str (pa_cons pe_str (pa_cons pe_str (pa_cons pe_str pa_nil)))))))))))))))))))
 (pss_cons (ps_set (i := 1) sc__law_odd.nd rfl (.inl rfl) (pe_op op_cat (pv 1) (pe_lst (pa_cons pe_str (pa_cons pe_str (pa_cons pe_str (pa_cons (pe_tup pa_nil) (pa_cons (pe_lst pa_nil) (pa_cons (pe_tup (pa_cons pe_str (pa_cons pe_int pa_nil))) (pa_cons (pe_tup (pa_cons (pe_tup (pa_cons pe_str (pa_cons pe_int pa_nil))) pa_nil)) (pa_cons (pe_lst (pa_cons pe_str pa_nil)) (pa_cons (pe_tup (pa_cons pe_str (pa_cons pe_int (pa_cons pe_int pa_nil)))) (pa_cons (pe_lst (pa_cons pe_int pa_nil)) (pa_cons (pe_tup (pa_cons pe_non pa_nil)) pa_nil))))))))))))))
 (pss_one (ps_ret (pe_ix ix_list (pv 1) (C8.pe_c c__law_take hr (by decide) rfl (pa_cons (pv 0) (pa_cons (pe_callB call_len_seq (by rfl) N.len (by decide +kernel) (pa_cons (pv 1) pa_nil)) pa_nil))) (fun _ _ => rfl)))))), ?_⟩
    refine ⟨1, rfl, 10, 30, rfl, rfl, ⟨by decide, by decide, by decide⟩, (by show 17 ≤ sizeLine; decide), fun L1 nL1 => ?_⟩
    have G0 := hB
    have g0 := But.refl b H
    have m1 : Same H (upd H L1 (.lst [V.non, .bl true, .bl false, .int 0, .int 1, .int (-1), .int 5, .int 51, .int 100, .int 201, .int 1001, .int (10 ^ (30 : Int).toNat), .str "", .str "a", .str "server", .str "Ann", .str "a b"])) := same_upd nL1
    have uL1 : upd H L1 (.lst [V.non, .bl true, .bl false, .int 0, .int 1, .int (-1), .int 5, .int 51, .int 100, .int 201, .int 1001, .int (10 ^ (30 : Int).toNat), .str "", .str "a", .str "server", .str "Ann", .str "a b"]) L1 = some (.lst [V.non, .bl true, .bl false, .int 0, .int 1, .int (-1), .int 5, .int 51, .int 100, .int 201, .int 1001, .int (10 ^ (30 : Int).toNat), .str "", .str "a", .str "server", .str "Ann", .str "a b"]) := upd_same
    have fL1 : H L1 = none := free_of g0 hB G0 nL1
    have G1 := G0.new (o := .lst [V.non, .bl true, .bl false, .int 0, .int 1, .int (-1), .int 5, .int 51, .int 100, .int 201, .int 1001, .int (10 ^ (30 : Int).toNat), .str "", .str "a", .str "server", .str "Ann", .str "a b"]) nL1
    have g1 := g0.trans (But.new (b := b) (o := .lst [V.non, .bl true, .bl false, .int 0, .int 1, .int (-1), .int 5, .int 51, .int 100, .int 201, .int 1001, .int (10 ^ (30 : Int).toNat), .str "", .str "a", .str "server", .str "Ann", .str "a b"]) nL1)
    clear m1
    revert uL1 G1 g1
    generalize upd H L1 (.lst [V.non, .bl true, .bl false, .int 0, .int 1, .int (-1), .int 5, .int 51, .int 100, .int 201, .int 1001, .int (10 ^ (30 : Int).toNat), .str "", .str "a", .str "server", .str "Ann", .str "a b"]) = H1
    intro tL1 G1 g1
    refine ⟨_, rfl, (by show 0 ≤ sizeLine; decide), fun p1 n1 => ?_⟩
    have m2 : Same H1 (upd H1 p1 (.tup [])) := same_upd n1
    have uL1 := m2 _ _ tL1
    have up1 : upd H1 p1 (.tup []) p1 = some (.tup []) := upd_same
    have fp1 : H p1 = none := free_of g1 hB G1 n1
    have G2 := G1.new (o := .tup []) n1
    have g2 := g1.trans (But.new (b := b) (o := .tup []) n1)
    clear m2 tL1
    revert uL1 up1 G2 g2
    generalize upd H1 p1 (.tup []) = H2
    intro tL1 tp1 G2 g2
    refine ⟨(by show 0 ≤ sizeLine; decide), fun p2 n2 => ?_⟩
    have m3 : Same H2 (upd H2 p2 (.lst [])) := same_upd n2
    have uL1 := m3 _ _ tL1
    have up1 := m3 _ _ tp1
    have up2 : upd H2 p2 (.lst []) p2 = some (.lst []) := upd_same
    have fp2 : H p2 = none := free_of g2 hB G2 n2
    have G3 := G2.new (o := .lst []) n2
    have g3 := g2.trans (But.new (b := b) (o := .lst []) n2)
    clear m3 tL1 tp1
    revert uL1 up1 up2 G3 g3
    generalize upd H2 p2 (.lst []) = H3
    intro tL1 tp1 tp2 G3 g3
    refine ⟨(by show 2 ≤ sizeLine; decide), fun p3 n3 => ?_⟩
    have m4 : Same H3 (upd H3 p3 (.tup [.str "a", .int 1])) := same_upd n3
    have uL1 := m4 _ _ tL1
    have up1 := m4 _ _ tp1
    have up2 := m4 _ _ tp2
    have up3 : upd H3 p3 (.tup [.str "a", .int 1]) p3 = some (.tup [.str "a", .int 1]) := upd_same
    have fp3 : H p3 = none := free_of g3 hB G3 n3
    have G4 := G3.new (o := .tup [.str "a", .int 1]) n3
    have g4 := g3.trans (But.new (b := b) (o := .tup [.str "a", .int 1]) n3)
    clear m4 tL1 tp1 tp2
    revert uL1 up1 up2 up3 G4 g4
    generalize upd H3 p3 (.tup [.str "a", .int 1]) = H4
    intro tL1 tp1 tp2 tp3 G4 g4
    refine ⟨(by show 2 ≤ sizeLine; decide), fun p4 n4 => ?_⟩
    have m5 : Same H4 (upd H4 p4 (.tup [.str "a", .int 1])) := same_upd n4
    have uL1 := m5 _ _ tL1
    have up1 := m5 _ _ tp1
    have up2 := m5 _ _ tp2
    have up3 := m5 _ _ tp3
    have up4 : upd H4 p4 (.tup [.str "a", .int 1]) p4 = some (.tup [.str "a", .int 1]) := upd_same
    have fp4 : H p4 = none := free_of g4 hB G4 n4
    have G5 := G4.new (o := .tup [.str "a", .int 1]) n4
    have g5 := g4.trans (But.new (b := b) (o := .tup [.str "a", .int 1]) n4)
    clear m5 tL1 tp1 tp2 tp3
    revert uL1 up1 up2 up3 up4 G5 g5
    generalize upd H4 p4 (.tup [.str "a", .int 1]) = H5
    intro tL1 tp1 tp2 tp3 tp4 G5 g5
    refine ⟨(by show 1 ≤ sizeLine; decide), fun p5 n5 => ?_⟩
    have m6 : Same H5 (upd H5 p5 (.tup [.ref p4])) := same_upd n5
    have uL1 := m6 _ _ tL1
    have up1 := m6 _ _ tp1
    have up2 := m6 _ _ tp2
    have up3 := m6 _ _ tp3
    have up4 := m6 _ _ tp4
    have up5 : upd H5 p5 (.tup [.ref p4]) p5 = some (.tup [.ref p4]) := upd_same
    have fp5 : H p5 = none := free_of g5 hB G5 n5
    have G6 := G5.new (o := .tup [.ref p4]) n5
    have g6 := g5.trans (But.new (b := b) (o := .tup [.ref p4]) n5)
    clear m6 tL1 tp1 tp2 tp3 tp4
    revert uL1 up1 up2 up3 up4 up5 G6 g6
    generalize upd H5 p5 (.tup [.ref p4]) = H6
    intro tL1 tp1 tp2 tp3 tp4 tp5 G6 g6
    refine ⟨(by show 1 ≤ sizeLine; decide), fun p6 n6 => ?_⟩
    have m7 : Same H6 (upd H6 p6 (.lst [.str "a"])) := same_upd n6
    have uL1 := m7 _ _ tL1
    have up1 := m7 _ _ tp1
    have up2 := m7 _ _ tp2
    have up3 := m7 _ _ tp3
    have up4 := m7 _ _ tp4
    have up5 := m7 _ _ tp5
    have up6 : upd H6 p6 (.lst [.str "a"]) p6 = some (.lst [.str "a"]) := upd_same
    have fp6 : H p6 = none := free_of g6 hB G6 n6
    have G7 := G6.new (o := .lst [.str "a"]) n6
    have g7 := g6.trans (But.new (b := b) (o := .lst [.str "a"]) n6)
    clear m7 tL1 tp1 tp2 tp3 tp4 tp5
    revert uL1 up1 up2 up3 up4 up5 up6 G7 g7
    generalize upd H6 p6 (.lst [.str "a"]) = H7
    intro tL1 tp1 tp2 tp3 tp4 tp5 tp6 G7 g7
    refine ⟨(by show 3 ≤ sizeLine; decide), fun p7 n7 => ?_⟩
    have m8 : Same H7 (upd H7 p7 (.tup [.str "a", .int 100, .int 0])) := same_upd n7
    have uL1 := m8 _ _ tL1
    have up1 := m8 _ _ tp1
    have up2 := m8 _ _ tp2
    have up3 := m8 _ _ tp3
    have up4 := m8 _ _ tp4
    have up5 := m8 _ _ tp5
    have up6 := m8 _ _ tp6
    have up7 : upd H7 p7 (.tup [.str "a", .int 100, .int 0]) p7 = some (.tup [.str "a", .int 100, .int 0]) := upd_same
    have fp7 : H p7 = none := free_of g7 hB G7 n7
    have G8 := G7.new (o := .tup [.str "a", .int 100, .int 0]) n7
    have g8 := g7.trans (But.new (b := b) (o := .tup [.str "a", .int 100, .int 0]) n7)
    clear m8 tL1 tp1 tp2 tp3 tp4 tp5 tp6
    revert uL1 up1 up2 up3 up4 up5 up6 up7 G8 g8
    generalize upd H7 p7 (.tup [.str "a", .int 100, .int 0]) = H8
    intro tL1 tp1 tp2 tp3 tp4 tp5 tp6 tp7 G8 g8
    refine ⟨(by show 1 ≤ sizeLine; decide), fun p8 n8 => ?_⟩
    have m9 : Same H8 (upd H8 p8 (.lst [.int 1])) := same_upd n8
    have uL1 := m9 _ _ tL1
    have up1 := m9 _ _ tp1
    have up2 := m9 _ _ tp2
    have up3 := m9 _ _ tp3
    have up4 := m9 _ _ tp4
    have up5 := m9 _ _ tp5
    have up6 := m9 _ _ tp6
    have up7 := m9 _ _ tp7
    have up8 : upd H8 p8 (.lst [.int 1]) p8 = some (.lst [.int 1]) := upd_same
    have fp8 : H p8 = none := free_of g8 hB G8 n8
    have G9 := G8.new (o := .lst [.int 1]) n8
    have g9 := g8.trans (But.new (b := b) (o := .lst [.int 1]) n8)
    clear m9 tL1 tp1 tp2 tp3 tp4 tp5 tp6 tp7
    revert uL1 up1 up2 up3 up4 up5 up6 up7 up8 G9 g9
    generalize upd H8 p8 (.lst [.int 1]) = H9
    intro tL1 tp1 tp2 tp3 tp4 tp5 tp6 tp7 tp8 G9 g9
    refine ⟨(by show 1 ≤ sizeLine; decide), fun p9 n9 => ?_⟩
    have m10 : Same H9 (upd H9 p9 (.tup [.non])) := same_upd n9
    have uL1 := m10 _ _ tL1
    have up1 := m10 _ _ tp1
    have up2 := m10 _ _ tp2
    have up3 := m10 _ _ tp3
    have up4 := m10 _ _ tp4
    have up5 := m10 _ _ tp5
    have up6 := m10 _ _ tp6
    have up7 := m10 _ _ tp7
    have up8 := m10 _ _ tp8
    have up9 : upd H9 p9 (.tup [.non]) p9 = some (.tup [.non]) := upd_same
    have fp9 : H p9 = none := free_of g9 hB G9 n9
    have G10 := G9.new (o := .tup [.non]) n9
    have g10 := g9.trans (But.new (b := b) (o := .tup [.non]) n9)
    clear m10 tL1 tp1 tp2 tp3 tp4 tp5 tp6 tp7 tp8
    revert uL1 up1 up2 up3 up4 up5 up6 up7 up8 up9 G10 g10
    generalize upd H9 p9 (.tup [.non]) = H10
    intro tL1 tp1 tp2 tp3 tp4 tp5 tp6 tp7 tp8 tp9 G10 g10
    refine ⟨(by show 11 ≤ sizeLine; decide), fun L2 nL2 => ?_⟩
    have m11 : Same H10 (upd H10 L2 (.lst [V.str "read", .str "write", .str "abcdefghi", .ref p1, .ref p2, .ref p3, .ref p5, .ref p6, .ref p7, .ref p8, .ref p9])) := same_upd nL2
    have uL1 := m11 _ _ tL1
    have up1 := m11 _ _ tp1
    have up2 := m11 _ _ tp2
    have up3 := m11 _ _ tp3
    have up4 := m11 _ _ tp4
    have up5 := m11 _ _ tp5
    have up6 := m11 _ _ tp6
    have up7 := m11 _ _ tp7
    have up8 := m11 _ _ tp8
    have up9 := m11 _ _ tp9
    have uL2 : upd H10 L2 (.lst [V.str "read", .str "write", .str "abcdefghi", .ref p1, .ref p2, .ref p3, .ref p5, .ref p6, .ref p7, .ref p8, .ref p9]) L2 = some (.lst [V.str "read", .str "write", .str "abcdefghi", .ref p1, .ref p2, .ref p3, .ref p5, .ref p6, .ref p7, .ref p8, .ref p9]) := upd_same
    have fL2 : H L2 = none := free_of g10 hB G10 nL2
    have G11 := G10.new (o := .lst [V.str "read", .str "write", .str "abcdefghi", .ref p1, .ref p2, .ref p3, .ref p5, .ref p6, .ref p7, .ref p8, .ref p9]) nL2
    have g11 := g10.trans (But.new (b := b) (o := .lst [V.str "read", .str "write", .str "abcdefghi", .ref p1, .ref p2, .ref p3, .ref p5, .ref p6, .ref p7, .ref p8, .ref p9]) nL2)
    clear m11 tL1 tp1 tp2 tp3 tp4 tp5 tp6 tp7 tp8 tp9
    revert uL1 up1 up2 up3 up4 up5 up6 up7 up8 up9 uL2 G11 g11
    generalize upd H10 L2 (.lst [V.str "read", .str "write", .str "abcdefghi", .ref p1, .ref p2, .ref p3, .ref p5, .ref p6, .ref p7, .ref p8, .ref p9]) = H11
    intro tL1 tp1 tp2 tp3 tp4 tp5 tp6 tp7 tp8 tp9 tL2 G11 g11
    refine ⟨L1, L2, _, _, rfl, rfl, tL1, tL2, (by show 28 ≤ sizeLine; decide), fun L3 nL3 => ?_⟩
    have m12 : Same H11 (upd H11 L3 (.lst ([V.non, .bl true, .bl false, .int 0, .int 1, .int (-1), .int 5, .int 51, .int 100, .int 201, .int 1001, .int (10 ^ (30 : Int).toNat), .str "", .str "a", .str "server", .str "Ann", .str "a b"] ++ [V.str "read", .str "write", .str "abcdefghi", .ref p1, .ref p2, .ref p3, .ref p5, .ref p6, .ref p7, .ref p8, .ref p9]))) := same_upd nL3
    have uL1 := m12 _ _ tL1
    have up1 := m12 _ _ tp1
    have up2 := m12 _ _ tp2
    have up3 := m12 _ _ tp3
    have up4 := m12 _ _ tp4
    have up5 := m12 _ _ tp5
    have up6 := m12 _ _ tp6
    have up7 := m12 _ _ tp7
    have up8 := m12 _ _ tp8
    have up9 := m12 _ _ tp9
    have uL2 := m12 _ _ tL2
    have uL3 : upd H11 L3 (.lst ([V.non, .bl true, .bl false, .int 0, .int 1, .int (-1), .int 5, .int 51, .int 100, .int 201, .int 1001, .int (10 ^ (30 : Int).toNat), .str "", .str "a", .str "server", .str "Ann", .str "a b"] ++ [V.str "read", .str "write", .str "abcdefghi", .ref p1, .ref p2, .ref p3, .ref p5, .ref p6, .ref p7, .ref p8, .ref p9])) L3 = some (.lst ([V.non, .bl true, .bl false, .int 0, .int 1, .int (-1), .int 5, .int 51, .int 100, .int 201, .int 1001, .int (10 ^ (30 : Int).toNat), .str "", .str "a", .str "server", .str "Ann", .str "a b"] ++ [V.str "read", .str "write", .str "abcdefghi", .ref p1, .ref p2, .ref p3, .ref p5, .ref p6, .ref p7, .ref p8, .ref p9])) := upd_same
    have fL3 : H L3 = none := free_of g11 hB G11 nL3
    have G12 := G11.new (o := .lst ([V.non, .bl true, .bl false, .int 0, .int 1, .int (-1), .int 5, .int 51, .int 100, .int 201, .int 1001, .int (10 ^ (30 : Int).toNat), .str "", .str "a", .str "server", .str "Ann", .str "a b"] ++ [V.str "read", .str "write", .str "abcdefghi", .ref p1, .ref p2, .ref p3, .ref p5, .ref p6, .ref p7, .ref p8, .ref p9])) nL3
    have g12 := g11.trans (But.new (b := b) (o := .lst ([V.non, .bl true, .bl false, .int 0, .int 1, .int (-1), .int 5, .int 51, .int 100, .int 201, .int 1001, .int (10 ^ (30 : Int).toNat), .str "", .str "a", .str "server", .str "Ann", .str "a b"] ++ [V.str "read", .str "write", .str "abcdefghi", .ref p1, .ref p2, .ref p3, .ref p5, .ref p6, .ref p7, .ref p8, .ref p9])) nL3)
    clear m12 tL1 tp1 tp2 tp3 tp4 tp5 tp6 tp7 tp8 tp9 tL2
    revert uL1 up1 up2 up3 up4 up5 up6 up7 up8 up9 uL2 uL3 G12 g12
    generalize upd H11 L3 (.lst ([V.non, .bl true, .bl false, .int 0, .int 1, .int (-1), .int 5, .int 51, .int 100, .int 201, .int 1001, .int (10 ^ (30 : Int).toNat), .str "", .str "a", .str "server", .str "Ann", .str "a b"] ++ [V.str "read", .str "write", .str "abcdefghi", .ref p1, .ref p2, .ref p3, .ref p5, .ref p6, .ref p7, .ref p8, .ref p9])) = H12
    intro tL1 tp1 tp2 tp3 tp4 tp5 tp6 tp7 tp8 tp9 tL2 tL3 G12 g12
    refine ⟨_, rfl, _, rfl, _, rfl, L3, _, rfl, .inl (SqL.of tL3), b, 28, rfl, G12, by decide, by decide, fun i HZ i0 i1 BZ GZ => ?_⟩
    have all : DpAll K (grow noHp H HZ b) ([V.non, .bl true, .bl false, .int 0, .int 1, .int (-1), .int 5, .int 51, .int 100, .int 201, .int 1001, .int (10 ^ (30 : Int).toNat), .str "", .str "a", .str "server", .str "Ann", .str "a b"] ++ [V.str "read", .str "write", .str "abcdefghi", .ref p1, .ref p2, .ref p3, .ref p5, .ref p6, .ref p7, .ref p8, .ref p9]) (odds1 ++ odds2) := by
      have tt : ∀ {p : Addr} {o : HO}, H p = none → H12 p = some o → grow noHp H HZ b p = some o := fun {p o} hn e => by
        have hpb : p ≠ b := hB.ne hn
        exact grow_new noHp_same hn hpb (BZ _ _ hpb e)
      have d3 : Dp K (grow noHp H HZ b) (.ref p3) (.tuple [.str "a", .int 1]) := .tup (SqT.of (tt fp3 tp3)) (.cons (.str _) (.cons (.int _) .nil))
      have d4 : Dp K (grow noHp H HZ b) (.ref p4) (.tuple [.str "a", .int 1]) := .tup (SqT.of (tt fp4 tp4)) (.cons (.str _) (.cons (.int _) .nil))
      refine dpAll_append ?_ ?_
      · exact .cons .non (.cons (.bl _) (.cons (.bl _) (.cons (.int _) (.cons (.int _) (.cons (.int _) (.cons (.int _) (.cons (.int _) (.cons (.int _) (.cons (.int _) (.cons (.int _) (.cons (.int _) (.cons (.str _) (.cons (.str _) (.cons (.str _) (.cons (.str _) (.cons (.str _) .nil))))))))))))))))
      · exact .cons (.str _) (.cons (.str _) (.cons (.str _) (.cons (.tup (SqT.of (tt fp1 tp1)) .nil) (.cons (.lst (SqL.of (tt fp2 tp2)) .nil) (.cons d3 (.cons (.tup (SqT.of (tt fp5 tp5)) (.cons d4 .nil))
          (.cons (.lst (SqL.of (tt fp6 tp6)) (.cons (.str _) .nil)) (.cons (.tup (SqT.of (tt fp7 tp7)) (.cons (.str _) (.cons (.int _) (.cons (.int _) .nil)))) (.cons (.lst (SqL.of (tt fp8 tp8)) (.cons (.int _) .nil)) (.cons (.tup (SqT.of (tt fp9 tp9)) (.cons .non .nil)) .nil))))))))))
    have hi : i.toNat < ([V.non, .bl true, .bl false, .int 0, .int 1, .int (-1), .int 5, .int 51, .int 100, .int 201, .int 1001, .int (10 ^ (30 : Int).toNat), .str "", .str "a", .str "server", .str "Ann", .str "a b"] ++ [V.str "read", .str "write", .str "abcdefghi", .ref p1, .ref p2, .ref p3, .ref p5, .ref p6, .ref p7, .ref p8, .ref p9]).length := by
      have : ([V.non, .bl true, .bl false, .int 0, .int 1, .int (-1), .int 5, .int 51, .int 100, .int 201, .int 1001, .int (10 ^ (30 : Int).toNat), .str "", .str "a", .str "server", .str "Ann", .str "a b"] ++ [V.str "read", .str "write", .str "abcdefghi", .ref p1, .ref p2, .ref p3, .ref p5, .ref p6, .ref p7, .ref p8, .ref p9]).length = 28 := rfl
      omega
    obtain ⟨v, hv⟩ : ∃ v, ([V.non, .bl true, .bl false, .int 0, .int 1, .int (-1), .int 5, .int 51, .int 100, .int 201, .int 1001, .int (10 ^ (30 : Int).toNat), .str "", .str "a", .str "server", .str "Ann", .str "a b"] ++ [V.str "read", .str "write", .str "abcdefghi", .ref p1, .ref p2, .ref p3, .ref p5, .ref p6, .ref p7, .ref p8, .ref p9])[i.toNat]? = some v := ⟨_, List.getElem?_eq_getElem hi⟩
    obtain ⟨d, hd, hdp⟩ := dpAll_get all hv
    obtain ⟨o1, o2, o3, o4⟩ := odds_ok d (List.mem_of_getElem? hd)
    have ei : ((i.toNat : Nat) : Int) = i := by omega
    have hL3 : HZ L3 = some (.lst ([V.non, .bl true, .bl false, .int 0, .int 1, .int (-1), .int 5, .int 51, .int 100, .int 201, .int 1001, .int (10 ^ (30 : Int).toNat), .str "", .str "a", .str "server", .str "Ann", .str "a b"] ++ [V.str "read", .str "write", .str "abcdefghi", .ref p1, .ref p2, .ref p3, .ref p5, .ref p6, .ref p7, .ref p8, .ref p9])) := BZ _ _ (hB.ne fL3) tL3
    refine ⟨L3, _, i, v, rfl, rfl, SqL.of hL3, by rw [← ei]; exact atI_nat hv, ?_⟩
    exact q v d HZ hdp o1 o2 o3 o4 (g12.trans BZ) GZ

/-! ### a thing with one part another one -/
theorem sizL_append (xs ys : List PyData) : siz.sizL (xs ++ ys) = siz.sizL xs + siz.sizL ys := by
  induction xs with
  | nil => show _ = 0 + _; rw [Nat.zero_add]; rfl
  | cons x xs ih =>
    show siz x + siz.sizL (xs ++ ys) = (siz x + siz.sizL xs) + siz.sizL ys
    omega
theorem sizL_take (xs : List PyData) (n : Nat) : siz.sizL (xs.take n) + siz.sizL (xs.drop n) = siz.sizL xs := by rw [← sizL_append, List.take_append_drop]
theorem sizL_set : ∀ (xs : List PyData) (i : Nat) (x y : PyData), xs[i]? = some x → siz.sizL (xs.set i y) + siz x = siz.sizL xs + siz y
  | [], i, x, y, h => by simp at h
  | z :: xs, 0, x, y, h => by
    cases h
    show siz y + siz.sizL xs + siz z = siz z + siz.sizL xs + siz y
    omega
  | z :: xs, i + 1, x, y, h => by
    have ih := sizL_set xs i x y (by simpa using h)
    show siz z + siz.sizL (xs.set i y) + siz x = siz z + siz.sizL xs + siz y
    omega
theorem dpAll_take {H : Hp} : ∀ {vs : List V} {ds : List PyData} (n : Nat), DpAll K H vs ds → DpAll K H (vs.take n) (ds.take n)
  | _, _, 0, _ => by simp; exact .nil
  | _, _, n + 1, .nil => by simp; exact .nil
  | _, _, n + 1, .cons h1 h2 => by
    rw [List.take_succ_cons, List.take_succ_cons]
    exact .cons h1 (dpAll_take n h2)
theorem dpAll_drop {H : Hp} : ∀ {vs : List V} {ds : List PyData} (n : Nat), DpAll K H vs ds → DpAll K H (vs.drop n) (ds.drop n)
  | _, _, 0, h => h
  | _, _, n + 1, .nil => by simp; exact .nil
  | _, _, n + 1, .cons h1 h2 => dpAll_drop n h2
theorem dpAll_set {H : Hp} {v : V} {d : PyData} (hd : Dp K H v d) : ∀ {vs : List V} {ds : List PyData} (n : Nat), DpAll K H vs ds → DpAll K H (vs.set n v) (ds.set n d)
  | _, _, 0, .nil => .nil
  | _, _, n + 1, .nil => .nil
  | _, _, 0, .cons h1 h2 => .cons hd h2
  | _, _, n + 1, .cons h1 h2 => .cons h1 (dpAll_set hd n h2)
theorem cut_take (xs : List V) {i : Int} (h0 : 0 ≤ i) (h1 : i ≤ xs.length) : cutV xs none (some i) = xs.take i.toNat := by
  obtain ⟨k, rfl⟩ : ∃ k : Nat, i = (k : Int) := ⟨i.toNat, by omega⟩
  unfold cutV
  rw [HT.sIx_none, HT.sIx_nat]
  have e2 : min k xs.length = k := by omega
  have e3 : ((k : Nat) : Int).toNat = k := by omega
  rw [e2, e3]
  rfl
theorem cut_drop (xs : List V) {i : Int} (h0 : 0 ≤ i) (h1 : i ≤ xs.length) : cutV xs (some i) none = xs.drop i.toNat := by
  obtain ⟨k, rfl⟩ : ∃ k : Nat, i = (k : Int) := ⟨i.toNat, by omega⟩
  unfold cutV
  rw [HT.sIx_none, HT.sIx_nat]
  have e2 : min k xs.length = k := by omega
  have e3 : ((k : Nat) : Int).toNat = k := by omega
  rw [e2, e3]
  exact List.take_of_length_le (by rw [List.length_drop]; exact Nat.le_refl _)
theorem kit_seq (d : PyData) : PySem.W.kitAny K (.type (tyD d)) [.type "tuple", .type "list"] = some (isT d "tuple" || isT d "list") := by
  refine kitAny_cons (kit_d d (.inr (.inr (.inr (.inl rfl))))) (fun h => ?_) (fun h => by rw [h]; rfl)
  rw [h]
  exact kitAny_cons (kit_d d (.inr (.inr (.inr (.inr rfl))))) (fun h2 => by rw [h2]; exact kitAny_nil) (fun h2 => by rw [h2]; rfl)
theorem atI_of {xs : List V} {i : Int} {x : V} (h0 : 0 ≤ i) (h : xs[i.toNat]? = some x) : atI xs i = some x := by
  have e : ((i.toNat : Nat) : Int) = i := by omega
  rw [← e]
  exact atI_nat h
theorem ixN_of {n : Nat} {i : Int} (h0 : 0 ≤ i) (h1 : i < n) : ixN n i = some i.toNat := by
  unfold ixN
  rw [if_pos h0, if_pos h1]
theorem log_of {i j : Int} (h : j.natAbs ≤ 100 * i.natAbs + 100) : j.natAbs.log2 ≤ i.natAbs.log2 + 8 := by
  have h1 : i.natAbs < 2 ^ (i.natAbs.log2 + 1) := lt_two_pow_of_log2_lt (Nat.lt_succ_self _)
  have h2 : j.natAbs < 2 ^ (i.natAbs.log2 + 1 + 7) := by
    rw [Nat.pow_add _ _ 7]
    show _ < _ * 128
    omega
  by_cases h0 : j.natAbs = 0
  · rw [h0]
    exact Nat.zero_le _
  · have := (Nat.log2_lt h0).mpr h2
    omega
theorem strs_at {zs : List Str} {n : Nat} (h : ∀ z ∈ zs, z.length ≤ n) {i : Int} (h0 : 0 ≤ i) (h1 : i < zs.length) : ∃ z, atI (zs.map V.str) i = some (.str z) ∧ z.length ≤ n := by
  have hi : i.toNat < zs.length := by omega
  refine ⟨zs[i.toNat], atI_of h0 ?_, h _ (List.getElem_mem hi)⟩
  rw [List.getElem?_map, List.getElem?_eq_getElem hi]
  rfl
abbrev s__law_spoilt : Stmt := topS 50
theorem sc__law_spoilt : FnScope ["bag", "thing", "way", "rows", "at", "other"] ["bag", "thing"] (defScope s__law_spoilt) := ⟨rfl, rfl, rfl, by decide +kernel, rfl, by decide +kernel, by decide +kernel⟩
def spSpoilt (K : PySem.W.Frag) (n : Nat) : Sp := fun vs H Q _ => ∃ (b : Addr) (v : V) (d : PyData) (J : Hp), vs = [.ref b, v] ∧ Bag H b ∧ Same J (cut H b) ∧ Dp K J v d ∧ dep d < n ∧ siz d ≤ 1000000 ∧ bit d ≤ 1000 ∧ ∀ v' d' H', Dp K (grow J H H' b) v' d' → siz d' ≤ 3 * siz d + 200 → dep d' ≤ dep d + 2 → bit d' ≤ max (bit d + 8) 100 → But b H H' → Bag H' b → Q v' H'
def sp_law_spoilt (K : PySem.W.Frag) : Sp := spSpoilt K 20
theorem spoilt_step {f : Addr} {fd : FuncData} (F : Fun K "_law_spoilt" "_law_spoilt" s__law_spoilt f fd) (gm : mg "_law_spoilt" = some (.ref f)) (N : Fre K mg) (c__law_odd : C8.Cal P w K mg base 2 "_law_odd" (sp_law_odd K) []) (c__law_take : C8.Cal P w K mg base 1 "_law_take" sp_law_take []) (n : Nat)
    (c__law_spoilt : C8.Cal P w K mg base (2 + n) "_law_spoilt" (spSpoilt K n) []) : C8.Cal P w K mg base (2 + n + 1) "_law_spoilt" (spSpoilt K (n + 1)) [] := by
  refine mkCal F gm sc__law_spoilt (F.binds (ps := ["bag", "thing"]) fun _ _ _ _ _ _ us hl => match us, hl with | [_, _], _ => rfl) (fun vs H Q E h => ?_) (fun cdv A outer s H vs Q E hr h => ?_)
  · obtain ⟨b, v, d, J, rfl, _⟩ := h
    rfl
  · obtain ⟨b, v, d, J, rfl, hB, hJ, hd, hdep, hsz, hbit, q⟩ := h
    have lv1 : 1 ≤ 2 + n := by omega
    have lv2 : 2 ≤ 2 + n := by omega
    have lv22 : 2 + n ≤ 2 + n := by omega
    refine ⟨_, (pss_cons (ps_set (i := 2) sc__law_spoilt.nd rfl (.inl rfl) (C8.pe_c c__law_take hr lv1 rfl (pa_cons (pv 0) (pa_cons pe_int pa_nil))))
 (pss_cons (ps_if (PW.pt (pw_and (pt_val (pe_callB call_isiT (by rfl) N.isinstance (by decide +kernel) (pa_cons (pv 1) (pa_cons (pe_tup (pa_cons (pe_bltn (v := .ty "tuple") (u := .type "tuple") rfl N.tuple (by decide +kernel) rfl) (pa_cons (pe_bltn (v := .ty "list") (u := .type "list") rfl N.list (by decide +kernel) rfl) pa_nil))) pa_nil)))) (pw_and (pt_cmpR op_gt (pe_callB call_len_seq (by rfl) N.len (by decide +kernel) (pa_cons (pv 1) pa_nil)) pe_int (nomark _)) (pw_and1 (pt_cmpR op_gt (pv 2) pe_int (nomark _))))))
 (pss_cons (ps_set (i := 3) sc__law_spoilt.nd rfl (.inl rfl) (pe_callTy call_list_of (by rfl) N.list (by decide +kernel) (pa_cons (pv 1) pa_nil)))
 (pss_cons (ps_set (i := 4) sc__law_spoilt.nd rfl (.inl rfl) (C8.pe_c c__law_take hr lv1 rfl (pa_cons (pv 0) (pa_cons (pe_callB call_len_seq (by rfl) N.len (by decide +kernel) (pa_cons (pv 3) pa_nil)) pa_nil))))
 (pss_cons (ps_if (pt_cmpR op_eq (pv 2) pe_int (nomark _))
 (pss_one (ps_set (i := 3) sc__law_spoilt.nd rfl (.inl rfl) (pe_op op_cat (pe_slice sl_list (pv 3) po_none (po_some (pv 4))) (pe_slice sl_list (pv 3) (po_some (pe_op op_add (pv 4) pe_int)) po_none))))
 (pss_one (ps_if (pt_cmpR op_eq (pv 2) pe_int (nomark _))
 (pss_one (ps_set (i := 3) sc__law_spoilt.nd rfl (.inl rfl) (pe_op op_cat (pe_slice sl_list (pv 3) po_none (po_some (pe_op op_add (pv 4) pe_int))) (pe_slice sl_list (pv 3) (po_some (pv 4)) po_none))))
 (pss_one (ps_if (pt_cmpR op_eq (pv 2) pe_int (nomark _))
 (pss_cons (ps_set (i := 5) sc__law_spoilt.nd rfl (.inl rfl) (C8.pe_c c__law_take hr lv1 rfl (pa_cons (pv 0) (pa_cons (pe_callB call_len_seq (by rfl) N.len (by decide +kernel) (pa_cons (pv 3) pa_nil)) pa_nil))))
 (pss_one (ps_asg (pe_tup (pa_cons (pe_ix ix_list (pv 3) (pv 5) (fun _ _ => rfl)) (pa_cons (pe_ix ix_list (pv 3) (pv 4) (fun _ _ => rfl)) pa_nil))) (pg_tup rfl (pgs_cons (pg_sub (pv 3) (pv 4) set_list) (pgs_cons (pg_sub (pv 3) (pv 5) set_list) pgs_nil))))))
 (pss_one (ps_if (pt_cmpR op_eq (pv 2) pe_int (nomark _))
 (pss_one (ps_ret (pe_ifExp (pt_val (pe_callB call_isi (by rfl) N.isinstance (by decide +kernel) (pa_cons (pv 1) (pa_cons (pe_bltn (v := .ty "tuple") (u := .type "tuple") rfl N.tuple (by decide +kernel) rfl) pa_nil)))) (pv 3) (pe_callTy call_tuple_of (by rfl) N.tuple (by decide +kernel) (pa_cons (pv 3) pa_nil)))))
 (pss_one (ps_asg (C8.pe_c c__law_spoilt hr lv22 rfl (pa_cons (pv 0) (pa_cons (pe_ix ix_list (pv 3) (pv 4) (fun _ _ => rfl)) pa_nil))) (pg_sub (pv 3) (pv 4) set_list))))))))))
 (pss_one (ps_ret (pe_ifExp (pt_val (pe_callB call_isi (by rfl) N.isinstance (by decide +kernel) (pa_cons (pv 1) (pa_cons (pe_bltn (v := .ty "tuple") (u := .type "tuple") rfl N.tuple (by decide +kernel) rfl) pa_nil)))) (pe_callTy call_tuple_of (by rfl) N.tuple (by decide +kernel) (pa_cons (pv 3) pa_nil)) (pv 3)))))))
 pss_nil)
 (pss_cons (ps_if (PW.pt (pw_and (pt_val (pe_callB call_isi (by rfl) N.isinstance (by decide +kernel) (pa_cons (pv 1) (pa_cons (pe_bltn (v := .ty "str") (u := .type "str") rfl N.str (by decide +kernel) rfl) pa_nil)))) (pw_and1 (pt_cmpR op_gt (pv 2) pe_int (nomark _)))))
 (pss_one (ps_ret (pe_ix ix_list (pe_lst (pa_cons (pe_op op_add_str (pv 1) pe_str) (pa_cons (pe_slice sl_str (pv 1) po_none (po_some (pe_un un_neg pe_int))) (pa_cons (pe_op op_add_str (pv 1) pe_str) (pa_cons (pe_upper (pv 1)) (pa_cons (pe_op op_add_str (pv 1) (pv 1)) (pa_cons (pe_op op_add_str pe_str (pv 1)) (pa_cons pe_str pa_nil)))))))) (pe_op op_sub (pv 2) pe_int) (fun _ _ => rfl))))
 pss_nil)
 (pss_cons (ps_if (PW.pt (pw_and (pt_val (pe_callB call_isi (by rfl) N.isinstance (by decide +kernel) (pa_cons (pv 1) (pa_cons (pe_bltn (v := .ty "int") (u := .type "int") rfl N.int (by decide +kernel) rfl) pa_nil)))) (pw_and1 (pt_cmpR op_gt (pv 2) pe_int (nomark _)))))
 (pss_one (ps_ret (pe_ix ix_list (pe_lst (pa_cons (pe_op op_addI (pv 1) pe_int) (pa_cons (pe_op op_subI (pv 1) pe_int) (pa_cons (pe_un un_negI (pv 1)) (pa_cons (pe_op op_mulI (pv 1) pe_int) (pa_cons (pe_callTy call_strI (by rfl) N.str (by decide +kernel) (pa_cons (pv 1) pa_nil)) (pa_cons (pe_op op_addI (pv 1) pe_int) (pa_cons (pe_tup (pa_cons (pv 1) pa_nil)) pa_nil)))))))) (pe_op op_sub (pv 2) pe_int) (fun _ _ => rfl))))
 pss_nil)
 (pss_one (ps_ret (C8.pe_c c__law_odd hr lv2 rfl (pa_cons (pv 0) pa_nil)))))))), ?_⟩
    refine ⟨_, rfl, b, 9, rfl, hB, by decide, by decide, fun wy H1 w0 w1 B1 G1 => ?_⟩
    refine ⟨_, rfl, two_ok _ _, fun tp ntp => ?_⟩
    have g2 : But b H (upd H1 tp (.tup [.ty "tuple", .ty "list"])) := B1.trans (But.new ntp)
    have G2 := G1.new (o := .tup [.ty "tuple", .ty "list"]) ntp
    have e2 : upd H1 tp (.tup [.ty "tuple", .ty "list"]) tp = some (.tup [.ty "tuple", .ty "list"]) := upd_same
    revert g2 G2 e2
    generalize upd H1 tp (.tup [.ty "tuple", .ty "list"]) = H2
    intro g2 G2 e2
    have hv2 : Dp K H2 v d := dp_same (hJ.trans ((cut_but g2).trans cut_same)) _ _ hd
    refine ⟨_, tp, _, _, _, isT d "tuple" || isT d "list", rfl, e2, .cons (.ty _) (.cons (.ty _) .nil), dp_ty hv2, kit_seq d, _, rfl, ?_⟩
    -- the end: a thing of any kind
    have odd : ∀ {v' : V} {d' : PyData} {H' : Hp}, Dp K (grow noHp H2 H' b) v' d' → siz d' ≤ 150 → dep d' ≤ 2 → bit d' ≤ 100 → But b H2 H' → Bag H' b → Q v' H' := fun h1 h2 h3 h4 h5 h6 => q _ _ _ (dp_same (grow_later hJ noHp_same g2) _ _ h1) (by omega) (by omega) (by omega) (g2.trans h5) h6
    by_cases hseq : (isT d "tuple" || isT d "list") = true
    · rw [hseq]
      refine iteT ?_
      obtain ⟨ds, xs, hsq, hall, hsd, hdd, hbd⟩ : ∃ (ds : List PyData) (xs : List V), (∃ a, v = .ref a ∧ (SqL K J a xs ∨ SqT K J a xs)) ∧ DpAll K J xs ds ∧ siz d = 1 + siz.sizL ds ∧ dep d = 1 + dep.depL ds ∧ bit d = bit.bitL ds := by
        cases hd with
        | lst h1 h2 => exact ⟨_, _, ⟨_, rfl, .inl h1⟩, h2, by rw [siz], by rw [dep], by rw [bit]⟩
        | tup h1 h2 => exact ⟨_, _, ⟨_, rfl, .inr h1⟩, h2, by rw [siz], by rw [dep], by rw [bit]⟩
        | non => cases hseq
        | bl x => cases hseq
        | int x => cases hseq
        | str x => cases hseq
      obtain ⟨a, rfl, hsq⟩ := hsq
      have sJ2 : Same J H2 := hJ.trans ((cut_but g2).trans cut_same)
      have hsqH : SqL K H2 a xs ∨ SqT K H2 a xs := hsq.elim (fun z => .inl (sJ2.seq z)) (fun z => .inr (sqT_same sJ2 z))
      have el := dpAll_len hall
      have hsl := siz_len ds
      have no1 : isT d "str" = false := by
        cases d <;> first | rfl | cases hseq
      have no2 : isT d "int" = false := by
        cases d <;> first | rfl | cases hseq
      refine ⟨_, rfl, a, xs, rfl, hsqH, _, 0, rfl, rfl, _, rfl, ?_⟩
      by_cases hne : (0 : Int) < (xs.length : Nat)
      · refine iteD' hne ?_
        refine ⟨_, rfl, wy, 0, rfl, rfl, _, rfl, ?_⟩
        by_cases hwy : 0 < wy
        · refine iteD' hwy ?_
          -- rows = list(thing)
          refine ⟨_, rfl, a, xs, rfl, hsqH, fun l nl => ?_⟩
          have lE : l ≠ b := G2.ne nl
          have nE : H l = none := free_of g2 hB G2 nl
          have g3 : But b H2 (upd H2 l (.lst xs)) := But.new nl
          have G3 := G2.new (o := .lst xs) nl
          have e3 : upd H2 l (.lst xs) l = some (.lst xs) := upd_same
          revert g3 G3 e3
          generalize upd H2 l (.lst xs) = H3
          intro g3 G3 e3
          -- at
          refine ⟨_, rfl, _, rfl, l, xs, rfl, .inl (SqL.of e3), b, _, rfl, G3, hne, by omega, fun at_ H4 a0 a1 B4 G4 => ?_⟩
          have g4 : But b H2 H4 := g3.trans B4
          have e4 := B4 _ _ lE e3
          have g04 := g2.trans g4
          refine ⟨_, rfl, rfl, _, rfl, ite2 (fun _ => ?_) (fun _ => ?_)⟩
          · -- 1: one gone
            refine ⟨_, rfl, _, rfl, at_, rfl, l, xs, rfl, SqL.of e4, fun s1 n1 => ?_⟩
            have e5 := same_upd (o := .lst (cutV xs none (some at_))) n1 _ _ e4
            refine ⟨_, rfl, _, rfl, at_, 1, rfl, rfl, _, rfl, l, xs, rfl, SqL.of e5, fun s2 n2 => ?_⟩
            have lc1 := cutV_length xs none (some (at_))
            have lc2 := cutV_length xs (some (at_ + 1)) none
            refine ⟨s1, s2, _, _, rfl, rfl, same_upd n2 _ _ upd_same, upd_same, Nat.le_trans (show _ ≤ 2000000 by omega) (by decide), fun s3 n3 => ?_⟩
            have gE : But b H (upd (upd (upd H4 s1 (.lst (cutV xs none (some at_)))) s2 (.lst (cutV xs (some (at_ + 1)) none))) s3 (.lst (cutV xs none (some at_) ++ cutV xs (some (at_ + 1)) none))) := g04.trans ((But.new n1).trans ((But.new n2).trans (But.new n3)))
            have G6 := (G4.new (o := .lst (cutV xs none (some at_))) n1).new (o := .lst (cutV xs (some (at_ + 1)) none)) n2
            have GE := G6.new (o := .lst (cutV xs none (some at_) ++ cutV xs (some (at_ + 1)) none)) n3
            have lE : s3 ≠ b := G6.ne n3
            have nE : H s3 = none := free_of (g04.trans ((But.new n1).trans (But.new n2))) hB G6 n3
            have cE : upd (upd (upd H4 s1 (.lst (cutV xs none (some at_)))) s2 (.lst (cutV xs (some (at_ + 1)) none))) s3 (.lst (cutV xs none (some at_) ++ cutV xs (some (at_ + 1)) none)) s3 = some (.lst (xs.take at_.toNat ++ xs.drop (at_.toNat + 1))) := by
              rw [upd_same, cut_take xs a0 (by omega), cut_drop xs (by omega) (by omega)]
              have : (at_ + 1).toNat = at_.toNat + 1 := by omega
              rw [this]
            clear G6
            revert gE GE cE
            generalize upd (upd (upd H4 s1 (.lst (cutV xs none (some at_)))) s2 (.lst (cutV xs (some (at_ + 1)) none))) s3 (.lst (cutV xs none (some at_) ++ cutV xs (some (at_ + 1)) none)) = H7
            intro gE GE cE
            have aE : DpAll K (grow J H H7 b) (xs.take at_.toNat ++ xs.drop (at_.toNat + 1)) (ds.take at_.toNat ++ ds.drop (at_.toNat + 1)) := dpAll_append (dpAll_take _ (dp_sameAll grow_old _ _ hall)) (dpAll_drop _ (dp_sameAll grow_old _ _ hall))
            have z1 := sizL_take ds at_.toNat
            have z2 := sizL_take ds (at_.toNat + 1)
            have z3 := depL_take ds at_.toNat
            have z4 := depL_take ds (at_.toNat + 1)
            have z5 := sizL_append (ds.take (at_.toNat)) (ds.drop (at_.toNat + 1))
            have z6 := depL_append (ds.take (at_.toNat)) (ds.drop (at_.toNat + 1))
            have y3 := bitL_take ds at_.toNat
            have y4 := bitL_take ds (at_.toNat + 1)
            have y6 := bitL_append (ds.take (at_.toNat)) (ds.drop (at_.toNat + 1))
            have dL : Dp K (grow J H H7 b) (.ref s3) (.list (ds.take at_.toNat ++ ds.drop (at_.toNat + 1))) := .lst (SqL.of (grow_new hJ nE lE cE)) aE
            have hvE : Dp K H7 (.ref a) d := dp_same (hJ.trans ((cut_but gE).trans cut_same)) _ _ hd
            refine ⟨_, rfl, _, _, _, _, isT d "tuple", rfl, .ty _, dp_ty hvE, kit_d d (.inr (.inr (.inr (.inl rfl)))), _, rfl, ite2 (fun _ => ?_) (fun _ => ?_)⟩
            · refine ⟨_, rfl, s3, (xs.take at_.toNat ++ xs.drop (at_.toNat + 1)), rfl, .inl ⟨SqL.of cE, fun pp npp => ?_⟩⟩
              have ppH : H pp = none := free_of gE hB GE npp
              have dT : Dp K (grow J H (upd H7 pp (.tup (xs.take at_.toNat ++ xs.drop (at_.toNat + 1)))) b) (.ref pp) (.tuple (ds.take at_.toNat ++ ds.drop (at_.toNat + 1))) := .tup (SqT.of (grow_new hJ ppH (GE.ne npp) upd_same)) (dp_sameAll (grow_but (But.new npp)) _ _ aE)
              exact q _ _ _ dT (by show 1 + siz.sizL (ds.take at_.toNat ++ ds.drop (at_.toNat + 1)) ≤ _; omega) (by show 1 + dep.depL (ds.take at_.toNat ++ ds.drop (at_.toNat + 1)) ≤ _; omega) (by show bit.bitL (ds.take at_.toNat ++ ds.drop (at_.toNat + 1)) ≤ _; omega) (gE.trans (But.new npp)) (GE.new npp)
            · exact ⟨_, rfl, q _ _ _ dL (by show 1 + siz.sizL (ds.take at_.toNat ++ ds.drop (at_.toNat + 1)) ≤ _; omega) (by show 1 + dep.depL (ds.take at_.toNat ++ ds.drop (at_.toNat + 1)) ≤ _; omega) (by show bit.bitL (ds.take at_.toNat ++ ds.drop (at_.toNat + 1)) ≤ _; omega) gE GE⟩
          · refine ⟨_, rfl, rfl, _, rfl, ite2 (fun _ => ?_) (fun _ => ?_)⟩
            · -- 2: one twice
              refine ⟨_, rfl, _, rfl, at_, 1, rfl, rfl, _, rfl, l, xs, rfl, SqL.of e4, fun s1 n1 => ?_⟩
              have e5 := same_upd (o := .lst (cutV xs none (some (at_ + 1)))) n1 _ _ e4
              refine ⟨_, rfl, _, rfl, at_, rfl, l, xs, rfl, SqL.of e5, fun s2 n2 => ?_⟩
              have lc1 := cutV_length xs none (some (at_ + 1))
              have lc2 := cutV_length xs (some (at_)) none
              refine ⟨s1, s2, _, _, rfl, rfl, same_upd n2 _ _ upd_same, upd_same, Nat.le_trans (show _ ≤ 2000000 by omega) (by decide), fun s3 n3 => ?_⟩
              have gE : But b H (upd (upd (upd H4 s1 (.lst (cutV xs none (some (at_ + 1))))) s2 (.lst (cutV xs (some at_) none))) s3 (.lst (cutV xs none (some (at_ + 1)) ++ cutV xs (some at_) none))) := g04.trans ((But.new n1).trans ((But.new n2).trans (But.new n3)))
              have G6 := (G4.new (o := .lst (cutV xs none (some (at_ + 1)))) n1).new (o := .lst (cutV xs (some at_) none)) n2
              have GE := G6.new (o := .lst (cutV xs none (some (at_ + 1)) ++ cutV xs (some at_) none)) n3
              have lE : s3 ≠ b := G6.ne n3
              have nE : H s3 = none := free_of (g04.trans ((But.new n1).trans (But.new n2))) hB G6 n3
              have cE : upd (upd (upd H4 s1 (.lst (cutV xs none (some (at_ + 1))))) s2 (.lst (cutV xs (some at_) none))) s3 (.lst (cutV xs none (some (at_ + 1)) ++ cutV xs (some at_) none)) s3 = some (.lst (xs.take (at_.toNat + 1) ++ xs.drop at_.toNat)) := by
                rw [upd_same, cut_take xs (by omega) (by omega), cut_drop xs a0 (by omega)]
                have : (at_ + 1).toNat = at_.toNat + 1 := by omega
                rw [this]
              clear G6
              revert gE GE cE
              generalize upd (upd (upd H4 s1 (.lst (cutV xs none (some (at_ + 1))))) s2 (.lst (cutV xs (some at_) none))) s3 (.lst (cutV xs none (some (at_ + 1)) ++ cutV xs (some at_) none)) = H7
              intro gE GE cE
              have aE : DpAll K (grow J H H7 b) (xs.take (at_.toNat + 1) ++ xs.drop at_.toNat) (ds.take (at_.toNat + 1) ++ ds.drop at_.toNat) := dpAll_append (dpAll_take _ (dp_sameAll grow_old _ _ hall)) (dpAll_drop _ (dp_sameAll grow_old _ _ hall))
              have z1 := sizL_take ds at_.toNat
              have z2 := sizL_take ds (at_.toNat + 1)
              have z3 := depL_take ds at_.toNat
              have z4 := depL_take ds (at_.toNat + 1)
              have z5 := sizL_append (ds.take (at_.toNat + 1)) (ds.drop (at_.toNat))
              have z6 := depL_append (ds.take (at_.toNat + 1)) (ds.drop (at_.toNat))
              have y3 := bitL_take ds at_.toNat
              have y4 := bitL_take ds (at_.toNat + 1)
              have y6 := bitL_append (ds.take (at_.toNat + 1)) (ds.drop (at_.toNat))
              have dL : Dp K (grow J H H7 b) (.ref s3) (.list (ds.take (at_.toNat + 1) ++ ds.drop at_.toNat)) := .lst (SqL.of (grow_new hJ nE lE cE)) aE
              have hvE : Dp K H7 (.ref a) d := dp_same (hJ.trans ((cut_but gE).trans cut_same)) _ _ hd
              refine ⟨_, rfl, _, _, _, _, isT d "tuple", rfl, .ty _, dp_ty hvE, kit_d d (.inr (.inr (.inr (.inl rfl)))), _, rfl, ite2 (fun _ => ?_) (fun _ => ?_)⟩
              · refine ⟨_, rfl, s3, (xs.take (at_.toNat + 1) ++ xs.drop at_.toNat), rfl, .inl ⟨SqL.of cE, fun pp npp => ?_⟩⟩
                have ppH : H pp = none := free_of gE hB GE npp
                have dT : Dp K (grow J H (upd H7 pp (.tup (xs.take (at_.toNat + 1) ++ xs.drop at_.toNat))) b) (.ref pp) (.tuple (ds.take (at_.toNat + 1) ++ ds.drop at_.toNat)) := .tup (SqT.of (grow_new hJ ppH (GE.ne npp) upd_same)) (dp_sameAll (grow_but (But.new npp)) _ _ aE)
                exact q _ _ _ dT (by show 1 + siz.sizL (ds.take (at_.toNat + 1) ++ ds.drop at_.toNat) ≤ _; omega) (by show 1 + dep.depL (ds.take (at_.toNat + 1) ++ ds.drop at_.toNat) ≤ _; omega) (by show bit.bitL (ds.take (at_.toNat + 1) ++ ds.drop at_.toNat) ≤ _; omega) (gE.trans (But.new npp)) (GE.new npp)
              · exact ⟨_, rfl, q _ _ _ dL (by show 1 + siz.sizL (ds.take (at_.toNat + 1) ++ ds.drop at_.toNat) ≤ _; omega) (by show 1 + dep.depL (ds.take (at_.toNat + 1) ++ ds.drop at_.toNat) ≤ _; omega) (by show bit.bitL (ds.take (at_.toNat + 1) ++ ds.drop at_.toNat) ≤ _; omega) gE GE⟩
            · refine ⟨_, rfl, rfl, _, rfl, ite2 (fun _ => ?_) (fun _ => ?_)⟩
              · -- 3: two exchanged
                refine ⟨_, rfl, _, rfl, l, xs, rfl, .inl (SqL.of e4), b, _, rfl, G4, hne, by omega, fun ot H5 o0 o1 B5 G5 => ?_⟩
                have e5 := B5 _ _ lE e4
                obtain ⟨xa, hxa⟩ : ∃ x, xs[at_.toNat]? = some x := ⟨_, List.getElem?_eq_getElem (show at_.toNat < xs.length by omega)⟩
                obtain ⟨xo, hxo⟩ : ∃ x, xs[ot.toNat]? = some x := ⟨_, List.getElem?_eq_getElem (show ot.toNat < xs.length by omega)⟩
                refine ⟨_, rfl, _, rfl, l, xs, ot, xo, rfl, rfl, SqL.of e5, atI_of o0 hxo, _, rfl, _, rfl, l, xs, at_, xa, rfl, rfl, SqL.of e5, atI_of a0 hxa, two_ok _ _, fun tt ntt => ?_⟩
                have e6 := same_upd (o := .tup [xo, xa]) ntt _ _ e5
                refine ⟨tt, _, rfl, SqT.of upd_same, rfl, xo, _, rfl, ?_⟩
                refine ⟨_, rfl, _, rfl, l, xs, at_, at_.toNat, rfl, rfl, e6, ixN_of a0 a1, xa, _, rfl, ?_⟩
                refine ⟨_, rfl, _, rfl, l, _, ot, ot.toNat, rfl, rfl, upd_same, ixN_of o0 (by rw [List.length_set]; exact o1), rfl, ?_⟩
                have bl : b ≠ l := lE.symm
                have gE : But b H (upd (upd (upd H5 tt (.tup [xo, xa])) l (.lst (xs.set at_.toNat xo))) l (.lst ((xs.set at_.toNat xo).set ot.toNat xa))) := fun c o nc hc => by
                  have cl : c ≠ l := ne_of_none hc nE
                  rw [upd_ne cl, upd_ne cl]
                  exact same_upd ntt _ _ (B5 _ _ nc (g04 _ _ nc hc))
                have GE : Bag (upd (upd (upd H5 tt (.tup [xo, xa])) l (.lst (xs.set at_.toNat xo))) l (.lst ((xs.set at_.toNat xo).set ot.toNat xa))) b := by
                  obtain ⟨x, y, e, g⟩ := G5.new (o := .tup [xo, xa]) ntt
                  exact ⟨x, y, by rw [upd_ne bl, upd_ne bl]; exact e, g⟩
                have cE : (upd (upd (upd H5 tt (.tup [xo, xa])) l (.lst (xs.set at_.toNat xo))) l (.lst ((xs.set at_.toNat xo).set ot.toNat xa))) l = some (.lst ((xs.set at_.toNat xo).set ot.toNat xa)) := upd_same
                revert gE GE cE
                generalize (upd (upd (upd H5 tt (.tup [xo, xa])) l (.lst (xs.set at_.toNat xo))) l (.lst ((xs.set at_.toNat xo).set ot.toNat xa))) = H7
                intro gE GE cE
                have allE : DpAll K (grow J H H7 b) xs ds := dp_sameAll grow_old _ _ hall
                obtain ⟨da, hda, hdpa⟩ := dpAll_get allE hxa
                obtain ⟨do_, hdo, hdpo⟩ := dpAll_get allE hxo
                have aE : DpAll K (grow J H H7 b) ((xs.set at_.toNat xo).set ot.toNat xa) ((ds.set at_.toNat do_).set ot.toNat da) := dpAll_set hdpa _ (dpAll_set hdpo _ allE)
                have z1 := sizL_set ds at_.toNat da do_ hda
                obtain ⟨dy, hdy⟩ : ∃ y, (ds.set at_.toNat do_)[ot.toNat]? = some y := ⟨_, List.getElem?_eq_getElem (show ot.toNat < (ds.set at_.toNat do_).length by rw [List.length_set]; omega)⟩
                have z2 := sizL_set (ds.set at_.toNat do_) ot.toNat dy da hdy
                have z3 := siz_mem (List.mem_of_getElem? hda)
                have z4 := siz_mem (List.mem_of_getElem? hdo)
                have z5 := depL_set ds at_.toNat do_
                have z6 := depL_set (ds.set at_.toNat do_) ot.toNat da
                have z7 := dep_mem (List.mem_of_getElem? hda)
                have z8 := dep_mem (List.mem_of_getElem? hdo)
                have y5 := bitL_set ds at_.toNat do_
                have y6 := bitL_set (ds.set at_.toNat do_) ot.toNat da
                have y7 := bit_mem (List.mem_of_getElem? hda)
                have y8 := bit_mem (List.mem_of_getElem? hdo)
                have dL : Dp K (grow J H H7 b) (.ref l) (.list ((ds.set at_.toNat do_).set ot.toNat da)) := .lst (SqL.of (grow_new hJ nE lE cE)) aE
                have hvE : Dp K H7 (.ref a) d := dp_same (hJ.trans ((cut_but gE).trans cut_same)) _ _ hd
                refine ⟨_, rfl, _, _, _, _, isT d "tuple", rfl, .ty _, dp_ty hvE, kit_d d (.inr (.inr (.inr (.inl rfl)))), _, rfl, ite2 (fun _ => ?_) (fun _ => ?_)⟩
                · refine ⟨_, rfl, l, ((xs.set at_.toNat xo).set ot.toNat xa), rfl, .inl ⟨SqL.of cE, fun pp npp => ?_⟩⟩
                  have ppH : H pp = none := free_of gE hB GE npp
                  have dT : Dp K (grow J H (upd H7 pp (.tup ((xs.set at_.toNat xo).set ot.toNat xa))) b) (.ref pp) (.tuple ((ds.set at_.toNat do_).set ot.toNat da)) := .tup (SqT.of (grow_new hJ ppH (GE.ne npp) upd_same)) (dp_sameAll (grow_but (But.new npp)) _ _ aE)
                  exact q _ _ _ dT (by show 1 + siz.sizL ((ds.set at_.toNat do_).set ot.toNat da) ≤ _; omega) (by show 1 + dep.depL ((ds.set at_.toNat do_).set ot.toNat da) ≤ _; omega) (by show bit.bitL ((ds.set at_.toNat do_).set ot.toNat da) ≤ _; omega) (gE.trans (But.new npp)) (GE.new npp)
                · exact ⟨_, rfl, q _ _ _ dL (by show 1 + siz.sizL ((ds.set at_.toNat do_).set ot.toNat da) ≤ _; omega) (by show 1 + dep.depL ((ds.set at_.toNat do_).set ot.toNat da) ≤ _; omega) (by show bit.bitL ((ds.set at_.toNat do_).set ot.toNat da) ≤ _; omega) gE GE⟩
              · refine ⟨_, rfl, rfl, _, rfl, ite2 (fun _ => ?_) (fun _ => ?_)⟩
                · -- 4: of another kind
                  have gE := g04
                  have GE := G4
                  have cE := e4
                  have aE : DpAll K (grow J H H4 b) xs ds := dp_sameAll grow_old _ _ hall
                  have dL : Dp K (grow J H H4 b) (.ref l) (.list ds) := .lst (SqL.of (grow_new hJ nE lE cE)) aE
                  have hvE : Dp K H4 (.ref a) d := dp_same (hJ.trans ((cut_but gE).trans cut_same)) _ _ hd
                  refine ⟨_, rfl, _, _, _, _, isT d "tuple", rfl, .ty _, dp_ty hvE, kit_d d (.inr (.inr (.inr (.inl rfl)))), _, rfl, ite2 (fun _ => ?_) (fun _ => ?_)⟩
                  · exact ⟨_, rfl, q _ _ _ dL (by show 1 + siz.sizL ds ≤ _; omega) (by show 1 + dep.depL ds ≤ _; omega) (by show bit.bitL ds ≤ _; omega) gE GE⟩
                  · refine ⟨_, rfl, l, xs, rfl, .inl ⟨SqL.of cE, fun pp npp => ?_⟩⟩
                    have ppH : H pp = none := free_of gE hB GE npp
                    have dT : Dp K (grow J H (upd H4 pp (.tup xs)) b) (.ref pp) (.tuple ds) := .tup (SqT.of (grow_new hJ ppH (GE.ne npp) upd_same)) (dp_sameAll (grow_but (But.new npp)) _ _ aE)
                    exact q _ _ _ dT (by show 1 + siz.sizL ds ≤ _; omega) (by show 1 + dep.depL ds ≤ _; omega) (by show bit.bitL ds ≤ _; omega) (gE.trans (But.new npp)) (GE.new npp)
                · -- a part of it spoilt
                  obtain ⟨xa, hxa⟩ : ∃ x, xs[at_.toNat]? = some x := ⟨_, List.getElem?_eq_getElem (show at_.toNat < xs.length by omega)⟩
                  obtain ⟨da, hda, hdpa⟩ := dpAll_get hall hxa
                  have z3 := siz_mem (List.mem_of_getElem? hda)
                  have z7 := dep_mem (List.mem_of_getElem? hda)
                  have y7 := bit_mem (List.mem_of_getElem? hda)
                  refine ⟨_, rfl, _, rfl, _, rfl, l, xs, at_, xa, rfl, rfl, SqL.of e4, atI_of a0 hxa, b, xa, da, J, rfl, G4, hJ.trans (cut_but g04), hdpa, by omega, by omega, by omega, fun v' d' H5 hv' hs' hd' hb' B5 G5 => ?_⟩
                  have e5 := B5 _ _ lE e4
                  refine ⟨_, rfl, _, rfl, l, xs, at_, at_.toNat, rfl, rfl, e5, ixN_of a0 a1, ?_⟩
                  have bl : b ≠ l := lE.symm
                  have gE : But b H (upd H5 l (.lst (xs.set at_.toNat v'))) := fun c o nc hc => by
                    rw [upd_ne (ne_of_none hc nE)]
                    exact B5 _ _ nc (g04 _ _ nc hc)
                  have GE : Bag (upd H5 l (.lst (xs.set at_.toNat v'))) b := by
                    obtain ⟨x, y, e, g⟩ := G5
                    exact ⟨x, y, by rw [upd_ne bl]; exact e, g⟩
                  have cE : upd H5 l (.lst (xs.set at_.toNat v')) l = some (.lst (xs.set at_.toNat v')) := upd_same
                  have hv7 : Dp K (grow J H (upd H5 l (.lst (xs.set at_.toNat v'))) b) v' d' := dp_same (grow_put hJ g04 e4 nE) _ _ hv'
                  revert gE GE cE hv7
                  generalize upd H5 l (.lst (xs.set at_.toNat v')) = H7
                  intro gE GE cE hv7
                  have aE : DpAll K (grow J H H7 b) (xs.set at_.toNat v') (ds.set at_.toNat d') := dpAll_set hv7 _ (dp_sameAll grow_old _ _ hall)
                  have z1 := sizL_set ds at_.toNat da d' hda
                  have z5 := depL_set ds at_.toNat d'
                  have y5 := bitL_set ds at_.toNat d'
                  have dL : Dp K (grow J H H7 b) (.ref l) (.list (ds.set at_.toNat d')) := .lst (SqL.of (grow_new hJ nE lE cE)) aE
                  have hvE : Dp K H7 (.ref a) d := dp_same (hJ.trans ((cut_but gE).trans cut_same)) _ _ hd
                  refine ⟨_, rfl, _, _, _, _, isT d "tuple", rfl, .ty _, dp_ty hvE, kit_d d (.inr (.inr (.inr (.inl rfl)))), _, rfl, ite2 (fun _ => ?_) (fun _ => ?_)⟩
                  · refine ⟨_, rfl, l, (xs.set at_.toNat v'), rfl, .inl ⟨SqL.of cE, fun pp npp => ?_⟩⟩
                    have ppH : H pp = none := free_of gE hB GE npp
                    have dT : Dp K (grow J H (upd H7 pp (.tup (xs.set at_.toNat v'))) b) (.ref pp) (.tuple (ds.set at_.toNat d')) := .tup (SqT.of (grow_new hJ ppH (GE.ne npp) upd_same)) (dp_sameAll (grow_but (But.new npp)) _ _ aE)
                    exact q _ _ _ dT (by show 1 + siz.sizL (ds.set at_.toNat d') ≤ _; omega) (by show 1 + dep.depL (ds.set at_.toNat d') ≤ _; omega) (by show bit.bitL (ds.set at_.toNat d') ≤ _; omega) (gE.trans (But.new npp)) (GE.new npp)
                  · exact ⟨_, rfl, q _ _ _ dL (by show 1 + siz.sizL (ds.set at_.toNat d') ≤ _; omega) (by show 1 + dep.depL (ds.set at_.toNat d') ≤ _; omega) (by show bit.bitL (ds.set at_.toNat d') ≤ _; omega) gE GE⟩
        · refine iteD hwy ?_
          refine ⟨_, rfl, _, _, _, _, isT d "str", rfl, .ty _, dp_ty hv2, kit_d d (.inr (.inr (.inl rfl))), _, rfl, ?_⟩
          rw [no1]
          refine iteF (iteF ?_)
          refine ⟨_, rfl, _, _, _, _, isT d "int", rfl, .ty _, dp_ty hv2, kit_d d (.inl rfl), _, rfl, ?_⟩
          rw [no2]
          refine iteF (iteF ?_)
          exact ⟨_, rfl, b, rfl, G2, fun v' d' H' h1 h2 h3 h4 h5 h6 h7 => odd h1 h2 h3 h4 h6 h7⟩
      · refine iteD hne (iteF ?_)
        refine ⟨_, rfl, _, _, _, _, isT d "str", rfl, .ty _, dp_ty hv2, kit_d d (.inr (.inr (.inl rfl))), _, rfl, ?_⟩
        rw [no1]
        refine iteF (iteF ?_)
        refine ⟨_, rfl, _, _, _, _, isT d "int", rfl, .ty _, dp_ty hv2, kit_d d (.inl rfl), _, rfl, ?_⟩
        rw [no2]
        refine iteF (iteF ?_)
        exact ⟨_, rfl, b, rfl, G2, fun v' d' H' h1 h2 h3 h4 h5 h6 h7 => odd h1 h2 h3 h4 h6 h7⟩
    · rw [Bool.eq_false_iff.mpr hseq]
      refine iteF (iteF ?_)
      by_cases hs : isT d "str" = true
      · obtain ⟨x, rfl⟩ : ∃ x, d = .str x := by
          cases d <;> first | exact ⟨_, rfl⟩ | cases hs
        cases hd
        have hx : siz (.str x) = x.length + 1 := by rw [siz]
        have fit : ∀ {k : Nat}, k ≤ 3000000 → k ≤ sizeLine := fun h => Nat.le_trans h (by decide)
        refine ⟨_, rfl, _, _, _, _, true, rfl, .ty _, dp_ty hv2, kit_d (.str x) (.inr (.inr (.inl rfl))), _, rfl, iteT ?_⟩
        refine ⟨_, rfl, wy, 1, rfl, rfl, _, rfl, ite2 (fun e => ?_) (fun e => ?_)⟩
        · have hw : 1 < wy := of_decide_eq_true e
          have l1 : (Str.ofString "a").length = 1 := by decide
          have l2 : (Str.ofString " ").length = 1 := by decide
          have l3 : (Str.ofString "z").length = 1 := by decide
          refine ⟨_, rfl, x, _, rfl, rfl, fit (by omega), ?_⟩
          refine ⟨_, rfl, 1, rfl, _, rfl, x, rfl, fit (by omega), ?_⟩
          refine ⟨_, rfl, x, _, rfl, rfl, fit (by omega), ?_⟩
          refine ⟨_, rfl, ⟨_, rfl⟩, x, rfl, rfl, by omega, ?_⟩
          refine ⟨_, rfl, _, rfl, x, x, rfl, rfl, fit (by omega), ?_⟩
          refine ⟨_, rfl, _, x, rfl, rfl, fit (by omega), (by show 7 ≤ sizeLine; decide), fun L nL => ?_⟩
          obtain ⟨z, hz, lz⟩ := strs_at (zs := [x ++ "a", cutS x none (some (-1)), x ++ " ", Txt.upper x, x ++ x, "z" ++ x, ""]) (n := 3 * x.length + 1) (i := wy - 2) (by
              intro z hz
              have u1 := cutS_length x none (some (-1))
              have u2 := len_upper x
              simp only [List.mem_cons, List.not_mem_nil, or_false] at hz
              rcases hz with rfl | rfl | rfl | rfl | rfl | rfl | rfl
              · rw [Str.length_append, l1]; omega
              · omega
              · rw [Str.length_append, l2]; omega
              · omega
              · rw [Str.length_append]; omega
              · rw [Str.length_append, l3]; omega
              · show 0 ≤ _; omega) (by omega) (by show wy - 2 < 7; omega)
          refine ⟨_, rfl, wy, 2, rfl, rfl, L, _, wy - 2, .str z, rfl, rfl, SqL.of upd_same, hz, ?_⟩
          exact q _ _ _ (.str z) (by rw [siz]; omega) (Nat.zero_le _) (Nat.zero_le _) (g2.trans (But.new nL)) (G2.new nL)
        · refine ⟨_, rfl, _, _, _, _, false, rfl, .ty _, dp_ty hv2, kit_d (.str x) (.inl rfl), _, rfl, iteF (iteF ?_)⟩
          exact ⟨_, rfl, b, rfl, G2, fun v' d' H' h1 h2 h3 h4 h5 h6 h7 => odd h1 h2 h3 h4 h6 h7⟩
      · refine ⟨_, rfl, _, _, _, _, isT d "str", rfl, .ty _, dp_ty hv2, kit_d d (.inr (.inr (.inl rfl))), _, rfl, ?_⟩
        rw [Bool.eq_false_iff.mpr hs]
        refine iteF (iteF ?_)
        refine ⟨_, rfl, _, _, _, _, isT d "int", rfl, .ty _, dp_ty hv2, kit_d d (.inl rfl), _, rfl, ?_⟩
        by_cases hi : isT d "int" = true
        · rw [hi]
          refine iteT ?_
          obtain ⟨i, hiv, hsi, hbi⟩ : ∃ i, IntV v i ∧ i.natAbs.log2 ≤ siz d ∧ i.natAbs.log2 ≤ bit d := by
            cases hd with
            | int i => exact ⟨i, .inl rfl, by rw [siz]; omega, by rw [bit]; exact Nat.le_refl _⟩
            | bl k => exact ⟨b2i k, .inr ⟨k, rfl, rfl⟩, by cases k <;> exact Nat.zero_le _, by cases k <;> exact Nat.zero_le _⟩
            | non => cases hi
            | str x => cases hi
            | lst h1 h2 => cases hi
            | tup h1 h2 => cases hi
          refine ⟨_, rfl, wy, 1, rfl, rfl, _, rfl, ite2 (fun e => ?_) (fun e => ?_)⟩
          · have hw : 1 < wy := of_decide_eq_true e
            refine ⟨_, rfl, i, 1, hiv, rfl, _, rfl, i, 1, hiv, rfl, _, rfl, i, hiv, _, rfl, i, hiv, rfl, ?_⟩
            refine ⟨_, rfl, v, i, rfl, hiv, by omega, fun z lz => ?_⟩
            refine ⟨_, rfl, i, 50, hiv, rfl, _, rfl, (by show 1 ≤ sizeLine; decide), fun tq ntq => ⟨(by show 7 ≤ sizeLine; decide), fun L nL => ?_⟩⟩
            have tH : H tq = none := free_of g2 hB G2 ntq
            have tb : tq ≠ b := G2.ne ntq
            have gE : But b H (upd (upd H2 tq (.tup [v])) L (.lst [.int (i + 1), .int (i - 1), .int (-i), .int (i * 100), .str z, .int (i + 50), .ref tq])) := g2.trans ((But.new ntq).trans (But.new nL))
            have GE := (G2.new (o := .tup [v]) ntq).new (o := .lst [.int (i + 1), .int (i - 1), .int (-i), .int (i * 100), .str z, .int (i + 50), .ref tq]) nL
            have eT : upd (upd H2 tq (.tup [v])) L (.lst [.int (i + 1), .int (i - 1), .int (-i), .int (i * 100), .str z, .int (i + 50), .ref tq]) tq = some (.tup [v]) := same_upd nL _ _ upd_same
            refine ⟨_, rfl, wy, 2, rfl, rfl, L, [.int (i + 1), .int (i - 1), .int (-i), .int (i * 100), .str z, .int (i + 50), .ref tq], wy - 2, ?_⟩
            have num : ∀ j : Int, j.natAbs ≤ 100 * i.natAbs + 100 → Q (.int j) (upd (upd H2 tq (.tup [v])) L (.lst [.int (i + 1), .int (i - 1), .int (-i), .int (i * 100), .str z, .int (i + 50), .ref tq])) := fun j hj => by
              have := log_of hj
              exact q _ _ _ (.int j) (by rw [siz]; omega) (Nat.zero_le _) (by rw [bit]; omega) gE GE
            have cs : wy - 2 = 0 ∨ wy - 2 = 1 ∨ wy - 2 = 2 ∨ wy - 2 = 3 ∨ wy - 2 = 4 ∨ wy - 2 = 5 ∨ wy - 2 = 6 := by omega
            rcases cs with c | c | c | c | c | c | c
            · exact ⟨_, rfl, rfl, SqL.of upd_same, by rw [c]; exact atI_nat (j := 0) rfl, num _ (by omega)⟩
            · exact ⟨_, rfl, rfl, SqL.of upd_same, by rw [c]; exact atI_nat (j := 1) rfl, num _ (by omega)⟩
            · exact ⟨_, rfl, rfl, SqL.of upd_same, by rw [c]; exact atI_nat (j := 2) rfl, num _ (by omega)⟩
            · exact ⟨_, rfl, rfl, SqL.of upd_same, by rw [c]; exact atI_nat (j := 3) rfl, num _ (by omega)⟩
            · exact ⟨_, rfl, rfl, SqL.of upd_same, by rw [c]; exact atI_nat (j := 4) rfl, q _ _ _ (.str z) (by rw [siz]; omega) (Nat.zero_le _) (Nat.zero_le _) gE GE⟩
            · exact ⟨_, rfl, rfl, SqL.of upd_same, by rw [c]; exact atI_nat (j := 5) rfl, num _ (by omega)⟩
            · refine ⟨_, rfl, rfl, SqL.of upd_same, by rw [c]; exact atI_nat (j := 6) rfl, ?_⟩
              have dT : Dp K (grow J H (upd (upd H2 tq (.tup [v])) L (.lst [.int (i + 1), .int (i - 1), .int (-i), .int (i * 100), .str z, .int (i + 50), .ref tq])) b) (.ref tq) (.tuple [d]) := .tup (SqT.of (grow_new hJ tH tb eT)) (.cons (dp_same grow_old _ _ hd) .nil)
              refine q _ _ _ dT ?_ ?_ ?_ gE GE
              · show 1 + (siz d + 0) ≤ _
                omega
              · show 1 + max (dep d) 0 ≤ _
                omega
              · show max (bit d) 0 ≤ _
                omega
          · exact ⟨_, rfl, b, rfl, G2, fun v' d' H' h1 h2 h3 h4 h5 h6 h7 => odd h1 h2 h3 h4 h6 h7⟩
        · rw [Bool.eq_false_iff.mpr hi]
          refine iteF (iteF ?_)
          exact ⟨_, rfl, b, rfl, G2, fun v' d' H' h1 h2 h3 h4 h5 h6 h7 => odd h1 h2 h3 h4 h6 h7⟩
theorem ok__law_spoilt {f : Addr} {fd : FuncData} (F : Fun K "_law_spoilt" "_law_spoilt" s__law_spoilt f fd) (gm : mg "_law_spoilt" = some (.ref f)) (N : Fre K mg) (c__law_odd : C8.Cal P w K mg base 2 "_law_odd" (sp_law_odd K) []) (c__law_take : C8.Cal P w K mg base 1 "_law_take" sp_law_take []) : C8.Cal P w K mg base 22 "_law_spoilt" (sp_law_spoilt K) [] := by
  have all : ∀ n : Nat, C8.Cal P w K mg base (2 + n) "_law_spoilt" (spSpoilt K n) [] := by
    intro n
    induction n with
    | zero =>
      refine mkCal (k := 1) F gm sc__law_spoilt (F.binds (ps := ["bag", "thing"]) fun _ _ _ _ _ _ us hl => match us, hl with | [_, _], _ => rfl) (fun vs H Q E h => ?_) (fun cdv A outer s H vs Q E hr h => ?_)
      · obtain ⟨b, v, d, J, rfl, _⟩ := h
        rfl
      · obtain ⟨b, v, d, J, rfl, hB, hJ, hd, hdep, _⟩ := h
        exact absurd hdep (Nat.not_lt_zero _)
    | succ n ih => exact spoilt_step F gm N c__law_odd c__law_take n ih
  exact all 20

/-! ### a list made where an exception is handled -/
section
variable {X : Cx}
abbrev hbk (X : Cx) (s : Shared) (H : Hp) (sc : Scope) (ce : Env) (fp : List Addr) : Cx := (X.blk s H sc ce fp).tr X.pn fun _ _ => False
theorem hbk_in {pins : List (Addr × Obj)} {σ τ : L2.St} {H : Hp} {s s' : Shared} {sc : Scope} {ce : Env} {fp : List Addr} (I : Inv X pins σ H s) (J : Inv (X.blk s H sc ce fp) [] τ H s') (hl : s.heap.objs.size ≤ ce.locals)
    (kp : ∀ b o, s.heap.get? b = some o → s'.heap.get? b = some o) : Inv (hbk X s H sc ce fp) [] τ H s' := by
  refine ⟨J.ok.toTry _ _, J.os, J.bare, J.base, J.loc, J.cell, J.free, J.freeC, fun p hp => ?_, J.hok, J.len⟩
  have hp' : p ∈ X.pn := by simpa using hp
  obtain ⟨g, f, nl, nf, nc⟩ := I.pin p (List.mem_append_left _ hp')
  refine ⟨kp _ _ g, f, Nat.ne_of_lt (Nat.lt_of_lt_of_le (Heap.lt_size g) hl), fun z => ?_, nc⟩
  exact (List.mem_cons.mp (I.stkSub p.1 z)).elim nl nf
theorem pe_lcH {el tg it : Expr} {cs : List Expr} {sc : Scope} {own : List (Str × Nat)} {pos : Pos} {wi : TI} {g : TG} {tt : TT} {te : TE} (hot : L2H.HotC X) (nd : X.N.Nodup) (hi : L2H.PIH X tg it wi) (bo : BlkOk X.N X.env.scope sc own)
    (hg : ∀ (s : Shared) (H : Hp) (C : Addr) (cl : List (Str × Addr)) (fp : List Addr), PG (hbk X s H sc (compEnvC sc cl C X.env) fp) tg g)
    (ht : ∀ (s : Shared) (H : Hp) (C : Addr) (cl : List (Str × Addr)) (fp : List Addr), PTs (hbk X s H sc (compEnvC sc cl C X.env) fp) cs tt)
    (he : ∀ (s : Shared) (H : Hp) (C : Addr) (cl : List (Str × Addr)) (fp : List Addr), PE (hbk X s H sc (compEnvC sc cl C X.env) fp) el te)
    (hs : ∀ x, foldedSetIterable it X.env x = pure x := by intro _; rfl) :
    PE X (.ListComp el [⟨tg, it, cs, 0⟩] sc pos) (tLc wi g tt te (own.map (·.2))) := by
  refine ⟨fun pins s0 σ H Q I h => ?_⟩
  rw [eval_ListComp]
  have fre : ∀ y ∈ sc.names, y.2 = .free → ∃ c, X.env.cells.lookup y.1 = some c := fun y hy e => (bo.free y hy e).elim (fun k => I.ok.has _ (.inl k)) fun k => I.ok.has _ (.inr k)
  refine wpAny_comprehension_free rfl hs (closure_ok fre) bo.kind (fun y hy e => by rw [bo.uniq y hy, e]) ?_
  refine thn (hi.run pins s0 σ H _ I h) fun xv s1 hx => thn hx fun iv s2 h2 => ?_
  obtain ⟨a, fp, tn, J, H2, ea, I2, T, t2, f2, q⟩ := h2
  subst ea
  refine wpAny_newObj_type (newEnv_comp ?_) (by show 0 ≤ sizeLine; decide)
  generalize eL : s2.heap.objs.size = L
  have nL : H2 L = none := I2.hok.fresh (Nat.le_of_eq eL)
  obtain ⟨W, ⟨m0, w0⟩, turn⟩ := q L nL
  generalize e3 : ({ s2 with heap := s2.heap.push { cls := .type "list", data := .seq ([] : List Value).toArray } } : Shared) = s3
  have hp3 : s3.heap = s2.heap.push { cls := .type "list", data := .seq ([] : List Value).toArray } := by rw [← e3]
  have I3 : Inv X pins σ (upd H2 L (.lst [])) s3 := by
    rw [← e3]
    refine I2.laid (t' := s2.toks) (fun b o e => Heap.get?_push_of_some _ e) (Nat.le_of_eq eL) ⟨Nat.zero_le _, [], 0, .nil, ?_⟩
    rw [← eL]; exact Heap.get?_push_size _ rfl
  have lt2 : ∀ b ∈ fp, b < s2.heap.objs.size := fun b m => by
    obtain ⟨o, e, _⟩ := T.obj _ _ t2 b m
    exact Heap.lt_size e
  have f3 : ∀ b ∈ fp, FpOk X pins (upd H2 L (.lst [])) b ∧ b < s3.heap.objs.size := fun b m => by
    have l := lt2 b m
    refine ⟨⟨?_, (f2 b m).2⟩, by rw [hp3, Heap.size_push]; exact Nat.lt_succ_of_lt l⟩
    rw [upd_ne (by rw [← eL]; exact Nat.ne_of_lt l)]; exact (f2 b m).1
  have t3 : tn 0 s3.heap := T.keep _ _ _ t2 fun b _ o e => by rw [hp3]; exact Heap.get?_push_of_some _ e
  have B := block_start I3 bo nd f3
  have pg := hg s3 (upd H2 L (.lst [])) s3.heap.objs.size (cellsFrom (s3.heap.objs.size + 1) sc.names (cloFrom X.env.cells sc.names [])) fp
  have pt := ht s3 (upd H2 L (.lst [])) s3.heap.objs.size (cellsFrom (s3.heap.objs.size + 1) sc.names (cloFrom X.env.cells sc.names [])) fp
  have pe := he s3 (upd H2 L (.lst [])) s3.heap.objs.size (cellsFrom (s3.heap.objs.size + 1) sc.names (cloFrom X.env.cells sc.names [])) fp
  have nfp : ∀ b ∈ fp, (upd H2 L (.lst [])) b = none := fun b m => (f3 b m).1.1
  have I4 := hbk_in I3 B (Nat.le_refl _) fun b o e => pushCells_keeps _ _ _ _ (Heap.get?_push_of_some _ e)
  show codeAny _ _ (.compStart (.ListComp el [⟨tg, it, cs, 0⟩] sc pos) 0 (.ref a) (.ref L) (compEnvC sc (cellsFrom (s3.heap.objs.size + 1) sc.names (cloFrom X.env.cells sc.names [])) s3.heap.objs.size X.env)) (compPost (model X.prog X.w) X.A X.xe none (EP X pins σ Q) (.ref L) s3.heap.objs.size) { s3 with heap := pushCells (s3.heap.push { cls := .type "dict", data := .dict #[] }) sc.names }
  generalize eG : compEnvC sc (cellsFrom (s3.heap.objs.size + 1) sc.names (cloFrom X.env.cells sc.names [])) s3.heap.objs.size X.env = ce at I4 pg pt pe ⊢
  have cl : ce.locals = s3.heap.objs.size := by subst eG; rfl
  generalize eH : upd H2 L (.lst []) = H3 at I3 I4 pg pt pe w0 nfp f3
  generalize e4 : ({ s3 with heap := pushCells (s3.heap.push { cls := .type "dict", data := .dict #[] }) sc.names } : Shared) = s4 at I4 ⊢
  have t4 : tn 0 s4.heap := T.keep _ _ _ t3 fun b _ o e => by rw [← e4]; exact pushCells_keeps _ _ _ _ (Heap.get?_push_of_some _ e)
  have hotB : L2H.HotC (hbk X s3 H3 sc ce fp) := hot
  have stat : ∀ {τ : L2.St} {H' : Hp} {s' : Shared}, Inv (hbk X s3 H3 sc ce fp) [] τ H' s' → (∀ b ∈ fp, H' b = none) → ∀ b ∈ fp, FpOk (hbk X s3 H3 sc ce fp) [] H' b := fun {τ H' s'} I' hn b m =>
    ⟨hn b m, (I'.ok.exf b m).1, I'.ok.exfs b m, .inl m, fun x c e => (I'.ok.exf b m).2 x c e, fun p hp => (f3 b m).1.2.2.2.2.2 p (List.mem_append_left _ (by simpa using hp))⟩
  have loop : codeAny (model X.prog X.w) X.A (.compLoop (.ListComp el [⟨tg, it, cs, 0⟩] sc pos) 0 (.ref a) (.ref L) ce) (compPost (model X.prog X.w) X.A X.xe none (EP X pins σ Q) (.ref L) s3.heap.objs.size) s4 := by
    refine compLoop_any (fun n s' => ∃ i H', Inv (hbk X s3 H3 sc ce fp) [] (wipe σ (own.map (·.2))) H' s' ∧ tn i s'.heap ∧ (∀ b ∈ fp, H' b = none) ∧ W i n H') ?_ m0 ⟨0, H3, I4, t4, nfp, w0⟩
    rintro n s5 ⟨i, H5, I5, t5, n5, w5⟩
    rcases turn i n H5 w5 with ⟨stop, qq⟩ | ⟨go, Nx, hNx, step⟩
    · refine thnF (T.done (hbk X s3 H3 sc ce fp) rfl rfl rfl hotB i [] s5 _ H5 (fun _ _ => False) I5 (stat I5 n5) t5 stop) fun r s6 ⟨hr, I6⟩ => ?_
      subst hr
      have I7 : Inv X pins σ H5 s6 := I3.call' (ch := fp) I6.os I6.base I6.hok I6.bare fun b m => ⟨(f3 b m).1.2.2.2.1, (f3 b m).1.2.1, (f3 b m).1.2.2.2.2.1, (f3 b m).1.2.2.2.2.2⟩
      have nC : H5 s3.heap.objs.size = none := by
        have z : H5 ce.locals = none := I6.free
        rwa [cl] at z
      obtain ⟨m, hn, _⟩ := I6.loc
      have hn' : s6.heap.Ns ce.locals m := hn
      rw [cl] at hn'
      obtain ⟨g0, g1, g2, g3, g4, g5⟩ := I3.fpOk (Nat.le_refl _) nC
      exact ⟨m, hn', fun h'' sb => ⟨.ref L, H5, I7.turned (t' := s6.toks) (fun b o ne e => (sb.2 b ne).trans e) g0 g1 g3 g4 g5, rfl, qq⟩⟩
    · refine thnF (T.item (hbk X s3 H3 sc ce fp) rfl rfl rfl hotB i [] s5 _ H5 (fun _ _ => False) I5 (stat I5 n5) t5 go) fun r s6 ⟨u, hr, h6⟩ => ?_
      subst hr
      refine thnF h6 fun _ s7 ⟨x, H7, I7, r7, y7, t7, n7⟩ => ?_
      refine thnF (pg.run _ s7 _ H7 x u _ (I7.pinned (stat I7 n7) (T.obj _ _ t7)) r7 (step x H7 y7)) fun _ s8 ⟨σ8, H8, I8, hw8, q8⟩ => ?_
      refine thnF (pt.run _ s8 σ8 H8 _ I8 q8) fun b s9 ⟨H9, I9, q9⟩ => ?_
      have fin : ∀ {s' : Shared} {H' : Hp}, Inv (hbk X s3 H3 sc ce fp) ([] ++ pinsAt fp s7.heap) σ8 H' s' → Nx H' →
          ∃ m, m < n ∧ ∃ i H', Inv (hbk X s3 H3 sc ce fp) [] (wipe σ (own.map (·.2))) H' s' ∧ tn i s'.heap ∧ (∀ b ∈ fp, H' b = none) ∧ W i m H' := fun {s' H'} I' nx => by
        obtain ⟨m', hm, w'⟩ := hNx H' nx
        have pin' : ∀ b ∈ fp, ∀ o, s7.heap.get? b = some o → s'.heap.get? b = some o ∧ H' b = none := fun b m o e => by
          obtain ⟨z1, z2, _⟩ := I'.pin (b, o) (List.mem_append_right _ (List.mem_append_right _ (mem_pinsAt m e)))
          exact ⟨z1, z2⟩
        have le : (wipe σ (own.map (·.2))).length = σ8.length := by rw [← hw8, wipe_length]
        refine ⟨m', hm, i + 1, H', (I'.unpinned (pins := [])).weak le (fun j v e => ?_), T.keep _ _ _ t7 fun b m o e => (pin' b m o e).1, fun b m => ?_, w'⟩
        · rw [← hw8] at e; exact (wipe_some e).1
        · obtain ⟨o, e, _⟩ := T.obj _ _ t7 b m
          exact (pin' b m o e).2
      cases b with
      | false =>
        simp only [Bool.false_eq_true, if_false] at q9 ⊢
        exact fin I9 q9
      | true =>
        simp only [if_true] at q9 ⊢
        refine thnF (pe.run _ s9 σ8 H9 _ I9 q9) fun z s10 ⟨yv, H10, I10, r10, acc, hD10, hz10, nx⟩ => ?_
        exact app_ok (X := hbk X s3 H3 sc ce fp) I10 hD10 hz10 r10 fun s11 I11 => fin I11 nx
  exact codeAny_compStart_list loop (T.self X.A 0 _ _ _ t4 loop)
end

/-! ### a def called where an exception of a known kind is handled -/
structure FnK (P : Program) (w : World) (K : PySem.W.Frag) (mg : Str → Option Value) (base : Heap) (Z : Obj → Prop) (k : Nat) (f : Addr) (fd : FuncData) (ps : List Str) (sp : Addr → Sp) : Prop where
  len : ∀ a vs H Q E, sp a vs H Q E → vs.length = ps.length
  run : ∀ (A : Around) (outer : List Env) (s : Shared) (H : Hp) (us : List Value) (vs : List V) (Q : VK) (E : XK) (a : Addr) (oe : Obj), L2H.RoomH k A → L2H.Hot1 A (a, oe) → Z oe → L2H.PinOk outer H s (a, oe) → Env0 P w K mg base A outer s H →
    BindsTo s fd ⟨us, []⟩ (ps.zip us) → Vals vs us → sp a vs H Q E → codeAny (model P w) A (.call (.ref f) ⟨us, []⟩) (CR CX0 outer P w H s Q E) s
theorem fnk_of {P : Program} {w : World} {K : PySem.W.Frag} {mg : Str → Option Value} {base : Heap} {x : Str} {st : Stmt} {f : Addr} {fd : FuncData} {N ps : List Str} {k : Nat} {Z : Obj → Prop} {sp : Addr → Sp} (F : Fun K x x st f fd) (S : FnScope N ps (defScope st))
    (len : ∀ a vs H Q E, sp a vs H Q E → vs.length = ps.length)
    (body : ∀ (cdv : Value) (A : Around) (outer : List Env) (s : Shared) (H : Hp) (vs : List V) (Q : VK) (E : XK) (a : Addr) (oe : Obj), L2H.Hot1 A (a, oe) → Z oe → L2H.RoomH k (A.deeper (envOfC x (defScope st) s.heap.objs.size f cdv)) → sp a vs H Q E →
      ∃ t, PSs (L2H.cxH CX0 P w K mg base N x (defScope st) f cdv A outer s H E (a, oe)).nox (defBody st) t ∧ t { nx := fun _ H' => Q .non H', rt := Q } (L2.start N vs) H) : FnK P w K mg base Z (k + 1) f fd ps sp := by
  obtain ⟨oc, od, kV, doc, pm, an, cdv, ct, osl, rfl, lk, hcd⟩ := F.ex
  refine ⟨len, fun A outer s H us vs Q E a oe hr hot hz pin e0 b r hsp => ?_⟩
  have old : ∀ b o, base.get? b = some o → s.heap.get? b = some o := fun b o e => (e0.bs b o e).1
  have KX := e0.mod.kin.keeps old
  have pk : ∀ y ∈ ps.zip us, (defScope st).names.lookup y.1 = some .local ∨ ((defScope st).names.lookup y.1 = some .cell ∧ ((cellsFrom (s.heap.objs.size + 1) (defScope st).names []).lookup y.1).isSome = true) := fun y hy =>
    (S.par y.1 (List.of_mem_zip (a := y.1) (b := y.2) hy).1).imp_right fun q => ⟨q, PySem.W.cellsFrom_some _ _ _ (.inl q)⟩
  refine codeAny_call_function hr.depth (KX _ _ lk) rfl S.co S.gen rfl (PySem.W.codeRec_of KX hcd) (b _ _ _ _ ?_)
  refine wpAny_newFunctionEnv_cells S.kind pk fun env ee s1 x1 => ?_
  subst ee
  refine ⟨(e0.mod.nolimit.keeps old).keeps x1.toInCall.keep, codeAny_func ?_⟩
  obtain ⟨t, ht, hq⟩ := body cdv A outer s H vs Q E a oe hot hz (hr.deeper _) hsp
  have J := L2H.inv_startH (CX := CX0) (E := E) S pin e0 (len _ _ _ _ _ hsp) r x1
  refine wpAny_mono (ht.nox.run [] s1 (L2.start N vs) H _ J hq) (fun fl s' hs => ?_) fun e s' z => z
  cases fl with
  | ret u =>
    obtain ⟨v, σ', H', I', rv, q⟩ := hs
    exact ⟨v, H', I'.os, I'.bare, I'.base, I'.hok, rv, q⟩
  | next =>
    obtain ⟨σ', H', I', q⟩ := hs
    exact ⟨V.non, H', I'.os, I'.bare, I'.base, I'.hok, rfl, q⟩
  | brk =>
    obtain ⟨_, _, _, q⟩ := hs
    exact q.elim
  | cont =>
    obtain ⟨_, _, _, q⟩ := hs
    exact q.elim
structure CalK (P : Program) (w : World) (K : PySem.W.Frag) (mg : Str → Option Value) (base : Heap) (Z : Obj → Prop) (k : Nat) (x : Str) (sp : Addr → Sp) : Prop where
  ex : ∃ (f : Addr) (fd : FuncData) (ps : List Str), FnK P w K mg base Z k f fd ps sp ∧ mg x = some (.ref f) ∧ PySem.W.keepIn K (.ref f) = true ∧ Binds K fd ps []
def tCallK (sp : Addr → Sp) (a : Addr) (t : TA) : TE := fun σ H Q => t σ H fun vs H1 => sp a vs H1 Q E0
section
variable {X : Cx} {k j n : Nat} {x : Str} {sp : Sp} {spk : Addr → Sp} {Z : Obj → Prop} {a D : Addr} {oe : Obj} {ks : List Str} {gV : List V → List V → List V} {q pos : Pos} {e : Expr} {es : List Expr} {kws : List Keyword} {t tk : TA}
theorem pe_cK (c : CalK X.prog X.w X.K X.mg X.base Z k x spk) (hr : L2H.RoomH j X.A) (hk : k ≤ j) (hot : L2H.Hot1 X.A (a, oe)) (hz : Z oe) (hp : (a, oe) ∈ X.pn) (hg : Gl X x) (ha : PA X (e :: es) t)
    (hdb : (x == ("__debug__" : Str)) = false := by decide) (he : starEach (e :: es) X.env = (false, eval e X.env) :: starEach es X.env := by rfl) (hpl : (backTo pos (starEach es X.env)).any (·.1) = false := by rfl) :
    PE X (.Call (.Name x q) (e :: es) [] pos) (tCallK spk a t) := by
  obtain ⟨f, fd, ps, F, hm, kp, b⟩ := c.ex
  refine ⟨fun pins s σ H Q I h => ?_⟩
  refine wpAny_Call_Name_kw (ld_glob I hg hm ?_ hdb)
  refine PySem.W.callWith_K (h₀ := X.base) I.ok.mod.kin kp (thn (ha.run pos pins s σ H _ I h) fun us s1 ⟨vs, H1, I1, r, q1⟩ => ⟨I1.kIn, ?_⟩) he hpl
  have le : us.length = ps.length := by rw [← r.length]; exact F.len _ _ _ _ _ q1
  have b1 := b s1 us I1.kIn (by rw [List.append_nil]; exact le)
  rw [List.append_nil] at b1
  obtain ⟨p1, p2, p3, p4, p5⟩ := I1.pin (a, oe) (List.mem_append_left _ hp)
  have pin : L2H.PinOk X.stack H1 s1 (a, oe) := ⟨p1, p2, fun m => (List.mem_cons.mp (I1.stkSub a m)).elim p3 p4, p5⟩
  refine wpAny_call (codeAny_mono (F.run X.A X.stack s1 H1 us vs Q E0 a oe ⟨by have := hr.dp; omega, by have := hr.un; omega⟩ hot hz pin I1.env0 b1 r q1) fun rr s' hq => ?_)
  cases rr with
  | error e => exact (pass0 (X := X) pins σ H1 s1 e s' I1 hq)
  | ok fl =>
    cases fl with
    | ret u => exact I1.after hq
    | next => exact False.elim hq
    | brk => exact False.elim hq
    | cont => exact False.elim hq
/-- isinstance of the exception that is handled -/
theorem call_isK (C : ExcC X.K D) (hp : (a, oe) ∈ X.pn) (hz : Zc (.ref D) none oe) (hf : ∃ vs, oe.data = .fields vs) : CallR X (.builtin "isinstance") (rIsE X.K D a) := by
  intro pins s σ H xs us Q I r h
  obtain ⟨c, cv, b, rfl, hcv, e, q⟩ := h
  cases r with
  | cons rx rr =>
    cases rr with
    | cons rt rr =>
      cases rr
      cases rx
      obtain rfl := hcv _ rt
      have g := (I.pin (a, oe) (List.mem_append_left _ hp)).1
      obtain ⟨vs, hv⟩ := hf
      have J : PySem.W.InstAt s.heap a oe D none := by
        cases oe
        obtain ⟨z1, z2⟩ := hz
        dsimp only at z1 z2 hv
        subst z1 z2 hv
        exact ⟨g, rfl, rfl, trivial⟩
      exact PySem.W.kia_one (PySem.W.handS_kitx_exc C.hg C.hk C.hs C.hd C.ha C.hn C.ht C.hm) I.kIn J e (fun z => nomatch z) fun tk => ⟨.bl b, H, I.kept (t' := tk) fun _ _ z => z, rfl, q⟩
theorem pss_when {c : Prop} {body : List Stmt} {ts : TS} (h : c → PSs X body ts) : PSs X body (fun D σ H => c ∧ ts D σ H) := ⟨fun pins s σ H D I hh => (h hh.1).run pins s σ H D I hh.2⟩
theorem takesN0 : L2N.Takes X (fun _ _ _ _ => False) := fun _ _ x => by
  obtain ⟨_, _, _, _, _, _, _, _, _, _, _, _, _, _, _, _, z⟩ := x
  exact z.elim
end
/-- a def that may refuse, called by keywords -/
structure CalX (P : Program) (w : World) (K : PySem.W.Frag) (mg : Str → Option Value) (base : Heap) (k : Nat) (x : Str) (sp : Sp) (n : Nat) (ks : List Str) (gV : List V → List V → List V) : Prop where
  ex : ∃ (f : Addr) (fd : FuncData) (ps : List Str) (g : List Value → List Value → List Value), FnOk P w K mg base (L2N.CX P w) k f fd ps sp ∧ mg x = some (.ref f) ∧ PySem.W.keepIn K (.ref f) = true ∧ KBn K fd ps n ks g gV
def tCallX (n m : Nat) (sp : Sp) (gV : List V → List V → List V) (W : WX) (t tk : TA) : TE := fun σ H Q => t σ H fun vs H1 => tk σ H1 fun zs H2 => vs.length = n ∧ zs.length = m ∧ sp (gV vs zs) H2 Q (WE W σ)
section
variable {X : Cx} {k j n : Nat} {x : Str} {sp : Sp} {W : WX} {ks : List Str} {gV : List V → List V → List V} {p pos : Pos} {e : Expr} {es : List Expr} {kws : List Keyword} {t tk : TA}
theorem run_x {f : Addr} {fd : FuncData} {ps : List Str} {g : List Value → List Value → List Value} {pins : List (Addr × Obj)} {σ : L2.St} {H : Hp} {s : Shared} {Q : VK} {us ws : List Value} {vs zs : List V} (F : FnOk X.prog X.w X.K X.mg X.base (L2N.CX X.prog X.w) k f fd ps sp) (hr : Room k X.A)
    (b : KBn X.K fd ps n ks g gV) (ht : L2N.Takes X W) (I : Inv X pins σ H s) (r : Vals vs us) (rz : Vals zs ws) (l1 : vs.length = n) (l2 : zs.length = ks.length) (h : sp (gV vs zs) H Q (WE W σ)) :
    wpAny (model X.prog X.w) X.A (call (.ref f) us (ks.zip ws)) (EP X pins σ Q) X.xe s := by
  refine wpAny_call (codeAny_mono (F.run X.A X.stack s H ⟨us, ks.zip ws⟩ (g us ws) (gV vs zs) Q (WE W σ) hr I.env0 (b.to s us ws I.kIn (r.length.symm.trans l1) (rz.length.symm.trans l2)) (b.rel r rz) h) fun rr s' hq => ?_)
  cases rr with
  | error e => exact L2N.passAt ht σ pins H s e s' I hq
  | ok fl =>
    cases fl with
    | ret u => exact I.after hq
    | next => exact False.elim hq
    | brk => exact False.elim hq
    | cont => exact False.elim hq
theorem pe_cx (c : CalX X.prog X.w X.K X.mg X.base k x sp n ks gV) (hr : Room j X.A) (hk : k ≤ j) (hg : Gl X x) (ht : L2N.Takes X W) (ha : PA X (e :: es) t) (hkw : PK X kws tk)
    (hall : (backToKw pos (keywordEach kws X.env)).all (·.1.isSome) = true := by rfl) (hks : (backToKw pos (keywordEach kws X.env)).filterMap (·.1) = ks := by rfl)
    (hdb : (x == ("__debug__" : Str)) = false := by decide) (he : starEach (e :: es) X.env = (false, eval e X.env) :: starEach es X.env := by rfl)
    (hpl : ((backTo pos (starEach (e :: es) X.env)).any (·.1) || (backToKw pos (keywordEach kws X.env)).any (·.1.isNone)) = false := by rfl) :
    PE X (.Call (.Name x p) (e :: es) kws pos) (tCallX n ks.length sp gV W t tk) := by
  obtain ⟨f, fd, ps, g, F, hm, kp, b⟩ := c.ex
  refine ⟨fun pins s σ H Q I h => wpAny_Call_Name_kw (ld_glob I hg hm ?_ hdb)⟩
  refine PySem.W.callWith_KW (h₀ := X.base) I.ok.mod.kin kp hall (thn (ha.run pos pins s σ H _ I h) fun us s1 ⟨vs, H1, I1, r, q⟩ => ?_) hpl he
  refine thn (hkw.run pos pins s1 σ H1 _ I1 q) fun ws s2 ⟨zs, H2, I2, rz, l1, l2, q2⟩ => ⟨I2.kIn, ?_⟩
  rw [hks]
  exact run_x F (hr.mono hk) b ht I2 r rz l1 l2 q2
theorem pe_cx0 (c : CalX X.prog X.w X.K X.mg X.base k x sp 0 ks gV) (hr : Room j X.A) (hk : k ≤ j) (hg : Gl X x) (ht : L2N.Takes X W) (hkw : PK X kws tk)
    (hall : (backToKw pos (keywordEach kws X.env)).all (·.1.isSome) = true := by rfl) (hks : (backToKw pos (keywordEach kws X.env)).filterMap (·.1) = ks := by rfl)
    (hdb : (x == ("__debug__" : Str)) = false := by decide)
    (hpl : ((backTo pos (starEach [] X.env)).any (·.1) || (backToKw pos (keywordEach kws X.env)).any (·.1.isNone)) = false := by rfl) :
    PE X (.Call (.Name x p) [] kws pos) (tCallX 0 ks.length sp gV W tNil tk) := by
  obtain ⟨f, fd, ps, g, F, hm, kp, b⟩ := c.ex
  refine ⟨fun pins s σ H Q I h => wpAny_Call_Name_kw (ld_glob I hg hm ?_ hdb)⟩
  refine PySem.W.callWith_KW0 (h₀ := X.base) I.ok.mod.kin kp hall ?_ hpl
  refine thn (hkw.run pos pins s σ H _ I h) fun ws s2 ⟨zs, H2, I2, rz, l1, l2, q2⟩ => ⟨I2.kIn, ?_⟩
  rw [hks]
  exact run_x (us := []) (vs := []) F (hr.mono hk) b ht I2 .nil rz rfl l2 q2
end

/-! ### the kinds of a refusal -/
structure Kl (K : PySem.W.Frag) (mg : Str → Option Value) (D : Addr) : Prop where
  is_ToldError : ∃ C, mg "ToldError" = some (.ref C) ∧ PySem.W.kitOne K (.ref D) (.ref C) = some true
  is_AskedError : ∃ C, mg "AskedError" = some (.ref C) ∧ PySem.W.kitOne K (.ref D) (.ref C) = some false
  is_NoSetup : ∃ C, mg "NoSetup" = some (.ref C) ∧ PySem.W.kitOne K (.ref D) (.ref C) = some true
  is_NoText : ∃ C, mg "NoText" = some (.ref C) ∧ PySem.W.kitOne K (.ref D) (.ref C) = some false
  is_NoRow : ∃ C, mg "NoRow" = some (.ref C) ∧ PySem.W.kitOne K (.ref D) (.ref C) = some false
  is_TooMany : ∃ C, mg "TooMany" = some (.ref C) ∧ PySem.W.kitOne K (.ref D) (.ref C) = some false
  is_NoClient : ∃ C, mg "NoClient" = some (.ref C) ∧ PySem.W.kitOne K (.ref D) (.ref C) = some false
  is_NoFile : ∃ C, mg "NoFile" = some (.ref C) ∧ PySem.W.kitOne K (.ref D) (.ref C) = some false
  is_NoPage : ∃ C, mg "NoPage" = some (.ref C) ∧ PySem.W.kitOne K (.ref D) (.ref C) = some false
  is_NoValue : ∃ C, mg "NoValue" = some (.ref C) ∧ PySem.W.kitOne K (.ref D) (.ref C) = some false
  is_NoTicks : ∃ C, mg "NoTicks" = some (.ref C) ∧ PySem.W.kitOne K (.ref D) (.ref C) = some false
  is_NoMessage : ∃ C, mg "NoMessage" = some (.ref C) ∧ PySem.W.kitOne K (.ref D) (.ref C) = some false
  is_Busy : ∃ C, mg "Busy" = some (.ref C) ∧ PySem.W.kitOne K (.ref D) (.ref C) = some false
  is_NotWaiting : ∃ C, mg "NotWaiting" = some (.ref C) ∧ PySem.W.kitOne K (.ref D) (.ref C) = some false
  is_NoLease : ∃ C, mg "NoLease" = some (.ref C) ∧ PySem.W.kitOne K (.ref D) (.ref C) = some false
  is_Clean : ∃ C, mg "Clean" = some (.ref C) ∧ PySem.W.kitOne K (.ref D) (.ref C) = some false
  is_NothingLeft : ∃ C, mg "NothingLeft" = some (.ref C) ∧ PySem.W.kitOne K (.ref D) (.ref C) = some false
  is_NoList : ∃ C, mg "NoList" = some (.ref C) ∧ PySem.W.kitOne K (.ref D) (.ref C) = some false
  is_TooDeep : ∃ C, mg "TooDeep" = some (.ref C) ∧ PySem.W.kitOne K (.ref D) (.ref C) = some false
  veq : PySem.W.kitOne K (.ref D) (.type "ValueError") = some true
  isc : ExcC K D
  lend : ∃ C, mg "LendError" = some (.ref C) ∧ PySem.W.exmOne K (.ref D) (.ref C) = some true
  me : mg "NoSetup" = some (.ref D)
  kp : PySem.W.keepIn K (.ref D) = true
  exc : PySem.W.excIn K D [.type "ValueError", .type "Exception", .type "BaseException", .type "object"] "ValueError.__new__" = true
  sub : PySem.W.subIn K (.ref D) (.type "BaseException") = some true
  typ : PySem.W.typeIn K (.ref D) = some (.type "type")
abbrev Zk (D : Addr) : Obj → Prop := fun o => Zc (.ref D) none o ∧ ∃ vs, o.data = .fields vs
def sp_law_kinds (a : Addr) : Sp := fun vs H Q _ => vs = [.ref a] ∧ ∀ H', Same H H' → Q (.str "told NoSetup+") H'
def kWords : List V := [.str "asked ", .str "told ", .str "Busy", .str "Clean", .str "NoClient", .str "NoFile", .str "NoLease", .str "NoList", .str "NoMessage", .str "NoPage", .str "NoRow", .str "NoSetup", .str "NoText", .str "NoTicks", .str "NothingLeft", .str "NotWaiting", .str "NoValue", .str "TooDeep", .str "TooMany", .str "+"]
def kBools : List Bool := [false, true, false, false, false, false, false, false, false, false, false, true, false, false, false, false, false, false, false, true]
def kPick (i : Nat) : List Str := ((["asked ", "told ", "Busy", "Clean", "NoClient", "NoFile", "NoLease", "NoList", "NoMessage", "NoPage", "NoRow", "NoSetup", "NoText", "NoTicks", "NothingLeft", "NotWaiting", "NoValue", "TooDeep", "TooMany", "+"] : List Str).zip kBools |>.take i |>.filter (·.2)).map (·.1)
theorem kPick_len : ∀ i, i ≤ 20 → (kPick i).length ≤ 20 := by decide +kernel
theorem kPick_yes : ∀ i, i < 20 → kBools[i]? = some true → ∃ w : Str, kWords[i]? = some (.str w) ∧ kPick (i + 1) = kPick i ++ [w] := by
  intro i hi h
  match i, hi, h with
  | 0, _, h => first | exact ⟨_, rfl, by decide +kernel⟩ | exact absurd h (by decide)
  | 1, _, h => first | exact ⟨_, rfl, by decide +kernel⟩ | exact absurd h (by decide)
  | 2, _, h => first | exact ⟨_, rfl, by decide +kernel⟩ | exact absurd h (by decide)
  | 3, _, h => first | exact ⟨_, rfl, by decide +kernel⟩ | exact absurd h (by decide)
  | 4, _, h => first | exact ⟨_, rfl, by decide +kernel⟩ | exact absurd h (by decide)
  | 5, _, h => first | exact ⟨_, rfl, by decide +kernel⟩ | exact absurd h (by decide)
  | 6, _, h => first | exact ⟨_, rfl, by decide +kernel⟩ | exact absurd h (by decide)
  | 7, _, h => first | exact ⟨_, rfl, by decide +kernel⟩ | exact absurd h (by decide)
  | 8, _, h => first | exact ⟨_, rfl, by decide +kernel⟩ | exact absurd h (by decide)
  | 9, _, h => first | exact ⟨_, rfl, by decide +kernel⟩ | exact absurd h (by decide)
  | 10, _, h => first | exact ⟨_, rfl, by decide +kernel⟩ | exact absurd h (by decide)
  | 11, _, h => first | exact ⟨_, rfl, by decide +kernel⟩ | exact absurd h (by decide)
  | 12, _, h => first | exact ⟨_, rfl, by decide +kernel⟩ | exact absurd h (by decide)
  | 13, _, h => first | exact ⟨_, rfl, by decide +kernel⟩ | exact absurd h (by decide)
  | 14, _, h => first | exact ⟨_, rfl, by decide +kernel⟩ | exact absurd h (by decide)
  | 15, _, h => first | exact ⟨_, rfl, by decide +kernel⟩ | exact absurd h (by decide)
  | 16, _, h => first | exact ⟨_, rfl, by decide +kernel⟩ | exact absurd h (by decide)
  | 17, _, h => first | exact ⟨_, rfl, by decide +kernel⟩ | exact absurd h (by decide)
  | 18, _, h => first | exact ⟨_, rfl, by decide +kernel⟩ | exact absurd h (by decide)
  | 19, _, h => first | exact ⟨_, rfl, by decide +kernel⟩ | exact absurd h (by decide)
theorem kPick_no : ∀ i, i < 20 → kBools[i]? = some false → kPick (i + 1) = kPick i := by decide +kernel
theorem kBool_at : ∀ i, i < 20 → kBools[i]? = some true ∨ kBools[i]? = some false := by decide +kernel
abbrev s__law_kinds : Stmt := topS 43
theorem sc__law_kinds : FnScope ["e", "some", "words", "k"] ["e"] (defScope s__law_kinds) := ⟨rfl, rfl, rfl, by decide +kernel, rfl, by decide +kernel, by decide +kernel⟩
theorem ok__law_kinds {f : Addr} {fd : FuncData} (F : Fun K "_law_kinds" "_law_kinds" s__law_kinds f fd) (gm : mg "_law_kinds" = some (.ref f)) (N : Fre K mg) {D : Addr} (L : Kl K mg D) : CalK P w K mg base (Zk D) 1 "_law_kinds" sp_law_kinds := by
  obtain ⟨C_AskedError, gc_AskedError, i_AskedError⟩ := L.is_AskedError
  obtain ⟨C_ToldError, gc_ToldError, i_ToldError⟩ := L.is_ToldError
  obtain ⟨C_Busy, gc_Busy, i_Busy⟩ := L.is_Busy
  obtain ⟨C_Clean, gc_Clean, i_Clean⟩ := L.is_Clean
  obtain ⟨C_NoClient, gc_NoClient, i_NoClient⟩ := L.is_NoClient
  obtain ⟨C_NoFile, gc_NoFile, i_NoFile⟩ := L.is_NoFile
  obtain ⟨C_NoLease, gc_NoLease, i_NoLease⟩ := L.is_NoLease
  obtain ⟨C_NoList, gc_NoList, i_NoList⟩ := L.is_NoList
  obtain ⟨C_NoMessage, gc_NoMessage, i_NoMessage⟩ := L.is_NoMessage
  obtain ⟨C_NoPage, gc_NoPage, i_NoPage⟩ := L.is_NoPage
  obtain ⟨C_NoRow, gc_NoRow, i_NoRow⟩ := L.is_NoRow
  obtain ⟨C_NoSetup, gc_NoSetup, i_NoSetup⟩ := L.is_NoSetup
  obtain ⟨C_NoText, gc_NoText, i_NoText⟩ := L.is_NoText
  obtain ⟨C_NoTicks, gc_NoTicks, i_NoTicks⟩ := L.is_NoTicks
  obtain ⟨C_NothingLeft, gc_NothingLeft, i_NothingLeft⟩ := L.is_NothingLeft
  obtain ⟨C_NotWaiting, gc_NotWaiting, i_NotWaiting⟩ := L.is_NotWaiting
  obtain ⟨C_NoValue, gc_NoValue, i_NoValue⟩ := L.is_NoValue
  obtain ⟨C_TooDeep, gc_TooDeep, i_TooDeep⟩ := L.is_TooDeep
  obtain ⟨C_TooMany, gc_TooMany, i_TooMany⟩ := L.is_TooMany
  refine ⟨f, fd, _, fnk_of (Z := Zk D) F sc__law_kinds (fun a vs H Q E h => ?_) (fun cdv A outer s H vs Q E a oe hot1 hz hr h => ?_), gm, F.kp, (F.binds (ps := ["e"]) fun _ _ _ _ _ _ us hl => match us, hl with | [_], _ => rfl)⟩
  · obtain ⟨rfl, _⟩ := h
    rfl
  · obtain ⟨rfl, q⟩ := h
    refine ⟨_, (pss_cons (ps_set (i := 1) sc__law_kinds.nd rfl (.inr rfl) (pe_lst (pa_cons (pe_callB (call_isK L.isc List.mem_cons_self hz.1 hz.2) (by rfl) N.isinstance (by decide +kernel) (pa_cons (pv 0) (pa_cons (pe_glob (v := .ref C_AskedError) rfl gc_AskedError rfl) pa_nil))) (pa_cons (pe_callB (call_isK L.isc List.mem_cons_self hz.1 hz.2) (by rfl) N.isinstance (by decide +kernel) (pa_cons (pv 0) (pa_cons (pe_glob (v := .ref C_ToldError) rfl gc_ToldError rfl) pa_nil))) (pa_cons (pe_callB (call_isK L.isc List.mem_cons_self hz.1 hz.2) (by rfl) N.isinstance (by decide +kernel) (pa_cons (pv 0) (pa_cons (pe_glob (v := .ref C_Busy) rfl gc_Busy rfl) pa_nil))) (pa_cons (pe_callB (call_isK L.isc List.mem_cons_self hz.1 hz.2) (by rfl) N.isinstance (by decide +kernel) (pa_cons (pv 0) (pa_cons (pe_glob (v := .ref C_Clean) rfl gc_Clean rfl) pa_nil))) pa_nil))))))
 (pss_cons (ps_set (i := 1) sc__law_kinds.nd rfl (.inr rfl) (pe_op op_cat (pv 1) (pe_lst (pa_cons (pe_callB (call_isK L.isc List.mem_cons_self hz.1 hz.2) (by rfl) N.isinstance (by decide +kernel) (pa_cons (pv 0) (pa_cons (pe_glob (v := .ref C_NoClient) rfl gc_NoClient rfl) pa_nil))) (pa_cons (pe_callB (call_isK L.isc List.mem_cons_self hz.1 hz.2) (by rfl) N.isinstance (by decide +kernel) (pa_cons (pv 0) (pa_cons (pe_glob (v := .ref C_NoFile) rfl gc_NoFile rfl) pa_nil))) (pa_cons (pe_callB (call_isK L.isc List.mem_cons_self hz.1 hz.2) (by rfl) N.isinstance (by decide +kernel) (pa_cons (pv 0) (pa_cons (pe_glob (v := .ref C_NoLease) rfl gc_NoLease rfl) pa_nil))) (pa_cons (pe_callB (call_isK L.isc List.mem_cons_self hz.1 hz.2) (by rfl) N.isinstance (by decide +kernel) (pa_cons (pv 0) (pa_cons (pe_glob (v := .ref C_NoList) rfl gc_NoList rfl) pa_nil))) pa_nil)))))))
 (pss_cons (ps_set (i := 1) sc__law_kinds.nd rfl (.inr rfl) (pe_op op_cat (pv 1) (pe_lst (pa_cons (pe_callB (call_isK L.isc List.mem_cons_self hz.1 hz.2) (by rfl) N.isinstance (by decide +kernel) (pa_cons (pv 0) (pa_cons (pe_glob (v := .ref C_NoMessage) rfl gc_NoMessage rfl) pa_nil))) (pa_cons (pe_callB (call_isK L.isc List.mem_cons_self hz.1 hz.2) (by rfl) N.isinstance (by decide +kernel) (pa_cons (pv 0) (pa_cons (pe_glob (v := .ref C_NoPage) rfl gc_NoPage rfl) pa_nil))) (pa_cons (pe_callB (call_isK L.isc List.mem_cons_self hz.1 hz.2) (by rfl) N.isinstance (by decide +kernel) (pa_cons (pv 0) (pa_cons (pe_glob (v := .ref C_NoRow) rfl gc_NoRow rfl) pa_nil))) (pa_cons (pe_callB (call_isK L.isc List.mem_cons_self hz.1 hz.2) (by rfl) N.isinstance (by decide +kernel) (pa_cons (pv 0) (pa_cons (pe_glob (v := .ref C_NoSetup) rfl gc_NoSetup rfl) pa_nil))) pa_nil)))))))
 (pss_cons (ps_set (i := 1) sc__law_kinds.nd rfl (.inr rfl) (pe_op op_cat (pv 1) (pe_lst (pa_cons (pe_callB (call_isK L.isc List.mem_cons_self hz.1 hz.2) (by rfl) N.isinstance (by decide +kernel) (pa_cons (pv 0) (pa_cons (pe_glob (v := .ref C_NoText) rfl gc_NoText rfl) pa_nil))) (pa_cons (pe_callB (call_isK L.isc List.mem_cons_self hz.1 hz.2) (by rfl) N.isinstance (by decide +kernel) (pa_cons (pv 0) (pa_cons (pe_glob (v := .ref C_NoTicks) rfl gc_NoTicks rfl) pa_nil))) (pa_cons (pe_callB (call_isK L.isc List.mem_cons_self hz.1 hz.2) (by rfl) N.isinstance (by decide +kernel) (pa_cons (pv 0) (pa_cons (pe_glob (v := .ref C_NothingLeft) rfl gc_NothingLeft rfl) pa_nil))) (pa_cons (pe_callB (call_isK L.isc List.mem_cons_self hz.1 hz.2) (by rfl) N.isinstance (by decide +kernel) (pa_cons (pv 0) (pa_cons (pe_glob (v := .ref C_NotWaiting) rfl gc_NotWaiting rfl) pa_nil))) pa_nil)))))))
 (pss_cons (ps_set (i := 1) sc__law_kinds.nd rfl (.inr rfl) (pe_op op_cat (pv 1) (pe_lst (pa_cons (pe_callB (call_isK L.isc List.mem_cons_self hz.1 hz.2) (by rfl) N.isinstance (by decide +kernel) (pa_cons (pv 0) (pa_cons (pe_glob (v := .ref C_NoValue) rfl gc_NoValue rfl) pa_nil))) (pa_cons (pe_callB (call_isK L.isc List.mem_cons_self hz.1 hz.2) (by rfl) N.isinstance (by decide +kernel) (pa_cons (pv 0) (pa_cons (pe_glob (v := .ref C_TooDeep) rfl gc_TooDeep rfl) pa_nil))) (pa_cons (pe_callB (call_isK L.isc List.mem_cons_self hz.1 hz.2) (by rfl) N.isinstance (by decide +kernel) (pa_cons (pv 0) (pa_cons (pe_glob (v := .ref C_TooMany) rfl gc_TooMany rfl) pa_nil))) (pa_cons (pe_callB (call_isK L.isc List.mem_cons_self hz.1 hz.2) (by rfl) N.isinstance (by decide +kernel) (pa_cons (pv 0) (pa_cons (pe_bltn (v := .ty "ValueError") (u := .type "ValueError") rfl N.ValueError (by decide +kernel) rfl) pa_nil))) pa_nil)))))))
 (pss_cons (ps_set (i := 2) sc__law_kinds.nd rfl (.inr rfl) (pe_lst (pa_cons pe_str (pa_cons pe_str (pa_cons pe_str (pa_cons pe_str (pa_cons pe_str (pa_cons pe_str (pa_cons pe_str (pa_cons pe_str (pa_cons pe_str (pa_cons pe_str pa_nil))))))))))))
 (pss_cons (ps_set (i := 2) sc__law_kinds.nd rfl (.inr rfl) (pe_op op_cat (pv 2) (pe_lst (pa_cons pe_str (pa_cons pe_str (pa_cons pe_str (pa_cons pe_str (pa_cons pe_str (pa_cons pe_str (pa_cons pe_str (pa_cons pe_str pa_nil)))))))))))
 (pss_cons (ps_set (i := 2) sc__law_kinds.nd rfl (.inr rfl) (pe_op op_cat (pv 2) (pe_lst (pa_cons pe_str (pa_cons pe_str pa_nil)))))
 (pss_one (ps_ret (pe_join pe_str (pe_lcH (own := [("k", 3)]) (g := gName 3) ⟨(a, oe), hot1, List.mem_cons_self⟩ sc__law_kinds.nd (L2H.pi_range1H (by rfl) N.range (pa_cons pe_int pa_nil)) (blkOk_by (N := ["e", "some", "words", "k"]) (sc := defScope s__law_kinds) (by decide +kernel)) (fun _ _ _ _ _ => pg_name (i := 3) sc__law_kinds.nd rfl (Or.inl rfl)) (fun _ _ _ _ _ => pts_one (pt_val (pe_ix (show IxR _ (rIxL K) from ix_list) (pv 1) (pv 3) (fun _ _ => rfl)))) (fun _ _ _ _ _ => (pe_ix (show IxR _ (rIxL K) from ix_list) (pv 2) (pv 3) (fun _ _ => rfl))))))))))))))), ?_⟩
    refine ⟨_, rfl, _, _, _, rfl, fun _ z => z, i_AskedError, _, rfl, _, _, _, rfl, fun _ z => z, i_ToldError, _, rfl, _, _, _, rfl, fun _ z => z, i_Busy, _, rfl, _, _, _, rfl, fun _ z => z, i_Clean, (by show 4 ≤ sizeLine; decide), fun L1 nL1 => ?_⟩
    have mH1 : Same H (upd H L1 (.lst [.bl false, .bl true, .bl false, .bl false])) := same_upd nL1
    have uH1 : upd H L1 (.lst [.bl false, .bl true, .bl false, .bl false]) L1 = some (.lst [.bl false, .bl true, .bl false, .bl false]) := upd_same
    revert mH1 uH1
    generalize upd H L1 (.lst [.bl false, .bl true, .bl false, .bl false]) = H1
    intro mH1 uH1
    have sH1 := mH1
    refine ⟨_, rfl, _, rfl, _, _, _, rfl, fun _ z => z, i_NoClient, _, rfl, _, _, _, rfl, fun _ z => z, i_NoFile, _, rfl, _, _, _, rfl, fun _ z => z, i_NoLease, _, rfl, _, _, _, rfl, fun _ z => z, i_NoList, (by show 4 ≤ sizeLine; decide), fun R2 nR2 => ?_⟩
    have mH2 : Same H1 (upd H1 R2 (.lst [.bl false, .bl false, .bl false, .bl false])) := same_upd nR2
    have uH2 : upd H1 R2 (.lst [.bl false, .bl false, .bl false, .bl false]) R2 = some (.lst [.bl false, .bl false, .bl false, .bl false]) := upd_same
    revert mH2 uH2
    generalize upd H1 R2 (.lst [.bl false, .bl false, .bl false, .bl false]) = H2
    intro mH2 uH2
    have sH2 := sH1.trans mH2
    refine ⟨L1, R2, _, _, rfl, rfl, mH2 _ _ uH1, uH2, (by show 8 ≤ sizeLine; decide), fun L2 nL2 => ?_⟩
    have mH3 : Same H2 (upd H2 L2 (.lst ([.bl false, .bl true, .bl false, .bl false] ++ [.bl false, .bl false, .bl false, .bl false]))) := same_upd nL2
    have uH3 : upd H2 L2 (.lst ([.bl false, .bl true, .bl false, .bl false] ++ [.bl false, .bl false, .bl false, .bl false])) L2 = some (.lst [.bl false, .bl true, .bl false, .bl false, .bl false, .bl false, .bl false, .bl false]) := upd_same
    revert mH3 uH3
    generalize upd H2 L2 (.lst ([.bl false, .bl true, .bl false, .bl false] ++ [.bl false, .bl false, .bl false, .bl false])) = H3
    intro mH3 uH3
    have sH3 := sH2.trans mH3
    refine ⟨_, rfl, _, rfl, _, _, _, rfl, fun _ z => z, i_NoMessage, _, rfl, _, _, _, rfl, fun _ z => z, i_NoPage, _, rfl, _, _, _, rfl, fun _ z => z, i_NoRow, _, rfl, _, _, _, rfl, fun _ z => z, i_NoSetup, (by show 4 ≤ sizeLine; decide), fun R3 nR3 => ?_⟩
    have mH4 : Same H3 (upd H3 R3 (.lst [.bl false, .bl false, .bl false, .bl true])) := same_upd nR3
    have uH4 : upd H3 R3 (.lst [.bl false, .bl false, .bl false, .bl true]) R3 = some (.lst [.bl false, .bl false, .bl false, .bl true]) := upd_same
    revert mH4 uH4
    generalize upd H3 R3 (.lst [.bl false, .bl false, .bl false, .bl true]) = H4
    intro mH4 uH4
    have sH4 := sH3.trans mH4
    refine ⟨L2, R3, _, _, rfl, rfl, mH4 _ _ uH3, uH4, (by show 12 ≤ sizeLine; decide), fun L3 nL3 => ?_⟩
    have mH5 : Same H4 (upd H4 L3 (.lst ([.bl false, .bl true, .bl false, .bl false, .bl false, .bl false, .bl false, .bl false] ++ [.bl false, .bl false, .bl false, .bl true]))) := same_upd nL3
    have uH5 : upd H4 L3 (.lst ([.bl false, .bl true, .bl false, .bl false, .bl false, .bl false, .bl false, .bl false] ++ [.bl false, .bl false, .bl false, .bl true])) L3 = some (.lst [.bl false, .bl true, .bl false, .bl false, .bl false, .bl false, .bl false, .bl false, .bl false, .bl false, .bl false, .bl true]) := upd_same
    revert mH5 uH5
    generalize upd H4 L3 (.lst ([.bl false, .bl true, .bl false, .bl false, .bl false, .bl false, .bl false, .bl false] ++ [.bl false, .bl false, .bl false, .bl true])) = H5
    intro mH5 uH5
    have sH5 := sH4.trans mH5
    refine ⟨_, rfl, _, rfl, _, _, _, rfl, fun _ z => z, i_NoText, _, rfl, _, _, _, rfl, fun _ z => z, i_NoTicks, _, rfl, _, _, _, rfl, fun _ z => z, i_NothingLeft, _, rfl, _, _, _, rfl, fun _ z => z, i_NotWaiting, (by show 4 ≤ sizeLine; decide), fun R4 nR4 => ?_⟩
    have mH6 : Same H5 (upd H5 R4 (.lst [.bl false, .bl false, .bl false, .bl false])) := same_upd nR4
    have uH6 : upd H5 R4 (.lst [.bl false, .bl false, .bl false, .bl false]) R4 = some (.lst [.bl false, .bl false, .bl false, .bl false]) := upd_same
    revert mH6 uH6
    generalize upd H5 R4 (.lst [.bl false, .bl false, .bl false, .bl false]) = H6
    intro mH6 uH6
    have sH6 := sH5.trans mH6
    refine ⟨L3, R4, _, _, rfl, rfl, mH6 _ _ uH5, uH6, (by show 16 ≤ sizeLine; decide), fun L4 nL4 => ?_⟩
    have mH7 : Same H6 (upd H6 L4 (.lst ([.bl false, .bl true, .bl false, .bl false, .bl false, .bl false, .bl false, .bl false, .bl false, .bl false, .bl false, .bl true] ++ [.bl false, .bl false, .bl false, .bl false]))) := same_upd nL4
    have uH7 : upd H6 L4 (.lst ([.bl false, .bl true, .bl false, .bl false, .bl false, .bl false, .bl false, .bl false, .bl false, .bl false, .bl false, .bl true] ++ [.bl false, .bl false, .bl false, .bl false])) L4 = some (.lst [.bl false, .bl true, .bl false, .bl false, .bl false, .bl false, .bl false, .bl false, .bl false, .bl false, .bl false, .bl true, .bl false, .bl false, .bl false, .bl false]) := upd_same
    revert mH7 uH7
    generalize upd H6 L4 (.lst ([.bl false, .bl true, .bl false, .bl false, .bl false, .bl false, .bl false, .bl false, .bl false, .bl false, .bl false, .bl true] ++ [.bl false, .bl false, .bl false, .bl false])) = H7
    intro mH7 uH7
    have sH7 := sH6.trans mH7
    refine ⟨_, rfl, _, rfl, _, _, _, rfl, fun _ z => z, i_NoValue, _, rfl, _, _, _, rfl, fun _ z => z, i_TooDeep, _, rfl, _, _, _, rfl, fun _ z => z, i_TooMany, _, rfl, _, _, _, rfl, fun _ z => z, L.veq, (by show 4 ≤ sizeLine; decide), fun R5 nR5 => ?_⟩
    have mH8 : Same H7 (upd H7 R5 (.lst [.bl false, .bl false, .bl false, .bl true])) := same_upd nR5
    have uH8 : upd H7 R5 (.lst [.bl false, .bl false, .bl false, .bl true]) R5 = some (.lst [.bl false, .bl false, .bl false, .bl true]) := upd_same
    revert mH8 uH8
    generalize upd H7 R5 (.lst [.bl false, .bl false, .bl false, .bl true]) = H8
    intro mH8 uH8
    have sH8 := sH7.trans mH8
    refine ⟨L4, R5, _, _, rfl, rfl, mH8 _ _ uH7, uH8, (by show 20 ≤ sizeLine; decide), fun L5 nL5 => ?_⟩
    have mH9 : Same H8 (upd H8 L5 (.lst ([.bl false, .bl true, .bl false, .bl false, .bl false, .bl false, .bl false, .bl false, .bl false, .bl false, .bl false, .bl true, .bl false, .bl false, .bl false, .bl false] ++ [.bl false, .bl false, .bl false, .bl true]))) := same_upd nL5
    have uH9 : upd H8 L5 (.lst ([.bl false, .bl true, .bl false, .bl false, .bl false, .bl false, .bl false, .bl false, .bl false, .bl false, .bl false, .bl true, .bl false, .bl false, .bl false, .bl false] ++ [.bl false, .bl false, .bl false, .bl true])) L5 = some (.lst [.bl false, .bl true, .bl false, .bl false, .bl false, .bl false, .bl false, .bl false, .bl false, .bl false, .bl false, .bl true, .bl false, .bl false, .bl false, .bl false, .bl false, .bl false, .bl false, .bl true]) := upd_same
    revert mH9 uH9
    generalize upd H8 L5 (.lst ([.bl false, .bl true, .bl false, .bl false, .bl false, .bl false, .bl false, .bl false, .bl false, .bl false, .bl false, .bl true, .bl false, .bl false, .bl false, .bl false] ++ [.bl false, .bl false, .bl false, .bl true])) = H9
    intro mH9 uH9
    have sH9 := sH8.trans mH9
    refine ⟨(by show 10 ≤ sizeLine; decide), fun L6 nL6 => ?_⟩
    have mH10 : Same H9 (upd H9 L6 (.lst [.str "asked ", .str "told ", .str "Busy", .str "Clean", .str "NoClient", .str "NoFile", .str "NoLease", .str "NoList", .str "NoMessage", .str "NoPage"])) := same_upd nL6
    have uH10 : upd H9 L6 (.lst [.str "asked ", .str "told ", .str "Busy", .str "Clean", .str "NoClient", .str "NoFile", .str "NoLease", .str "NoList", .str "NoMessage", .str "NoPage"]) L6 = some (.lst [.str "asked ", .str "told ", .str "Busy", .str "Clean", .str "NoClient", .str "NoFile", .str "NoLease", .str "NoList", .str "NoMessage", .str "NoPage"]) := upd_same
    revert mH10 uH10
    generalize upd H9 L6 (.lst [.str "asked ", .str "told ", .str "Busy", .str "Clean", .str "NoClient", .str "NoFile", .str "NoLease", .str "NoList", .str "NoMessage", .str "NoPage"]) = H10
    intro mH10 uH10
    have sH10 := sH9.trans mH10
    refine ⟨_, rfl, (by show 8 ≤ sizeLine; decide), fun R7 nR7 => ?_⟩
    have mH11 : Same H10 (upd H10 R7 (.lst [.str "NoRow", .str "NoSetup", .str "NoText", .str "NoTicks", .str "NothingLeft", .str "NotWaiting", .str "NoValue", .str "TooDeep"])) := same_upd nR7
    have uH11 : upd H10 R7 (.lst [.str "NoRow", .str "NoSetup", .str "NoText", .str "NoTicks", .str "NothingLeft", .str "NotWaiting", .str "NoValue", .str "TooDeep"]) R7 = some (.lst [.str "NoRow", .str "NoSetup", .str "NoText", .str "NoTicks", .str "NothingLeft", .str "NotWaiting", .str "NoValue", .str "TooDeep"]) := upd_same
    revert mH11 uH11
    generalize upd H10 R7 (.lst [.str "NoRow", .str "NoSetup", .str "NoText", .str "NoTicks", .str "NothingLeft", .str "NotWaiting", .str "NoValue", .str "TooDeep"]) = H11
    intro mH11 uH11
    have sH11 := sH10.trans mH11
    refine ⟨L6, R7, _, _, rfl, rfl, mH11 _ _ uH10, uH11, (by show 18 ≤ sizeLine; decide), fun L7 nL7 => ?_⟩
    have mH12 : Same H11 (upd H11 L7 (.lst ([.str "asked ", .str "told ", .str "Busy", .str "Clean", .str "NoClient", .str "NoFile", .str "NoLease", .str "NoList", .str "NoMessage", .str "NoPage"] ++ [.str "NoRow", .str "NoSetup", .str "NoText", .str "NoTicks", .str "NothingLeft", .str "NotWaiting", .str "NoValue", .str "TooDeep"]))) := same_upd nL7
    have uH12 : upd H11 L7 (.lst ([.str "asked ", .str "told ", .str "Busy", .str "Clean", .str "NoClient", .str "NoFile", .str "NoLease", .str "NoList", .str "NoMessage", .str "NoPage"] ++ [.str "NoRow", .str "NoSetup", .str "NoText", .str "NoTicks", .str "NothingLeft", .str "NotWaiting", .str "NoValue", .str "TooDeep"])) L7 = some (.lst [.str "asked ", .str "told ", .str "Busy", .str "Clean", .str "NoClient", .str "NoFile", .str "NoLease", .str "NoList", .str "NoMessage", .str "NoPage", .str "NoRow", .str "NoSetup", .str "NoText", .str "NoTicks", .str "NothingLeft", .str "NotWaiting", .str "NoValue", .str "TooDeep"]) := upd_same
    revert mH12 uH12
    generalize upd H11 L7 (.lst ([.str "asked ", .str "told ", .str "Busy", .str "Clean", .str "NoClient", .str "NoFile", .str "NoLease", .str "NoList", .str "NoMessage", .str "NoPage"] ++ [.str "NoRow", .str "NoSetup", .str "NoText", .str "NoTicks", .str "NothingLeft", .str "NotWaiting", .str "NoValue", .str "TooDeep"])) = H12
    intro mH12 uH12
    have sH12 := sH11.trans mH12
    refine ⟨_, rfl, (by show 2 ≤ sizeLine; decide), fun R8 nR8 => ?_⟩
    have mH13 : Same H12 (upd H12 R8 (.lst [.str "TooMany", .str "+"])) := same_upd nR8
    have uH13 : upd H12 R8 (.lst [.str "TooMany", .str "+"]) R8 = some (.lst [.str "TooMany", .str "+"]) := upd_same
    revert mH13 uH13
    generalize upd H12 R8 (.lst [.str "TooMany", .str "+"]) = H13
    intro mH13 uH13
    have sH13 := sH12.trans mH13
    refine ⟨L7, R8, _, _, rfl, rfl, mH13 _ _ uH12, uH13, (by show 20 ≤ sizeLine; decide), fun L8 nL8 => ?_⟩
    have mH14 : Same H13 (upd H13 L8 (.lst ([.str "asked ", .str "told ", .str "Busy", .str "Clean", .str "NoClient", .str "NoFile", .str "NoLease", .str "NoList", .str "NoMessage", .str "NoPage", .str "NoRow", .str "NoSetup", .str "NoText", .str "NoTicks", .str "NothingLeft", .str "NotWaiting", .str "NoValue", .str "TooDeep"] ++ [.str "TooMany", .str "+"]))) := same_upd nL8
    have uH14 : upd H13 L8 (.lst ([.str "asked ", .str "told ", .str "Busy", .str "Clean", .str "NoClient", .str "NoFile", .str "NoLease", .str "NoList", .str "NoMessage", .str "NoPage", .str "NoRow", .str "NoSetup", .str "NoText", .str "NoTicks", .str "NothingLeft", .str "NotWaiting", .str "NoValue", .str "TooDeep"] ++ [.str "TooMany", .str "+"])) L8 = some (.lst [.str "asked ", .str "told ", .str "Busy", .str "Clean", .str "NoClient", .str "NoFile", .str "NoLease", .str "NoList", .str "NoMessage", .str "NoPage", .str "NoRow", .str "NoSetup", .str "NoText", .str "NoTicks", .str "NothingLeft", .str "NotWaiting", .str "NoValue", .str "TooDeep", .str "TooMany", .str "+"]) := upd_same
    revert mH14 uH14
    generalize upd H13 L8 (.lst ([.str "asked ", .str "told ", .str "Busy", .str "Clean", .str "NoClient", .str "NoFile", .str "NoLease", .str "NoList", .str "NoMessage", .str "NoPage", .str "NoRow", .str "NoSetup", .str "NoText", .str "NoTicks", .str "NothingLeft", .str "NotWaiting", .str "NoValue", .str "TooDeep"] ++ [.str "TooMany", .str "+"])) = H14
    intro mH14 uH14
    have sH14 := sH13.trans mH14
    have hs : H14 L5 = some (.lst (kBools.map V.bl)) := (mH14 _ _ (mH13 _ _ (mH12 _ _ (mH11 _ _ (mH10 _ _ uH9)))))
    have hw : H14 L8 = some (.lst kWords) := uH14
    have sm0 := sH14
    refine ⟨⟨_, rfl⟩, 20, rfl, by decide, by decide, fun D1 nD => lc_it walk_range (fun i H4 => Same H14 H4 ∧ H4 D1 = some (.lst ((kPick i).map V.str))) ⟨same_upd nD, upd_same⟩ (fun _ _ _ _ => trivial) ?_ ?_⟩
    · rintro i v H4 H5 hi ⟨s4, hD⟩ ⟨rfl, hv⟩
      subst hv
      have hi20 : i < 20 := hi
      have hb : kBools[i]? = some true ∨ kBools[i]? = some false := kBool_at i hi20
      obtain ⟨bb, hbb⟩ : ∃ bb, kBools[i]? = some bb := hb.elim (fun z => ⟨_, z⟩) fun z => ⟨_, z⟩
      have e1 : atI (kBools.map V.bl) (0 + (i : Int)) = some (.bl bb) := by
        rw [Int.zero_add]
        exact atI_nat (by rw [List.getElem?_map, hbb]; rfl)
      refine ⟨rfl, _, rfl, _, rfl, L5, _, _, .bl bb, rfl, rfl, SqL.of (s4 _ _ hs), e1, ?_⟩
      refine ⟨bb, rfl, ?_⟩
      cases bb with
      | true =>
        refine iteT ?_
        obtain ⟨wd, ew, ep⟩ := kPick_yes i hi20 hbb
        have e2 : atI kWords (0 + (i : Int)) = some (.str wd) := by
          rw [Int.zero_add]
          exact atI_nat ew
        refine ⟨_, rfl, _, rfl, L8, _, _, .str wd, rfl, rfl, SqL.of (s4 _ _ hw), e2, _, hD, ?_, fun b o e => ?_, ?_⟩
        · rw [List.length_map]
          exact small1000 (by have := kPick_len i (by omega); omega)
        · rw [upd_ne (ne_of_none e nD)]
          exact s4 _ _ e
        · rw [upd_same, ep, List.map_append]
          rfl
      | false =>
        refine iteF ⟨s4, ?_⟩
        rw [kPick_no i hi20 hbb]
        exact hD
    · rintro H4 ⟨s4, hD⟩
      have hD' : H4 D1 = some (.lst ((kPick 20).map V.str)) := hD
      refine ⟨Str.ofString "", D1, _, rfl, rfl, .inl (SqL.of hD'), ?_, ?_⟩
      · decide +kernel
      · have ej := q H4 (sm0.trans s4)
        exact ej

/-! ### made -/
theorem suite_when {X : Cx} {cls : Value} {d : Option Addr} {oe : Obj} {D a : Addr} {pn : List (Addr × Obj)} {body : List Stmt} {ts : TS} (zz : cls = .ref D ∧ d = none) (zn : L2N.Zn cls d oe) (zf : ∃ vs, oe.data = .fields vs)
    (h : L2H.Hot1 (X.suite a ((a, oe) :: pn)).A (a, oe) → Zk D oe → PSs (X.suite a ((a, oe) :: pn)) body ts) : PSs (X.suite a ((a, oe) :: pn)) body ts := by
  obtain ⟨rfl, rfl⟩ := zz
  obtain ⟨vs, hv⟩ := zf
  exact h ⟨rfl, vs, hv, zn.2.2 vs hv⟩ ⟨zn.zc, vs, hv⟩
abbrev s_made : Stmt := topS 39
theorem sc_made : FnScope ["files", "clients", "length", "drift", "setup"] ["files", "clients", "length", "drift"] (defScope s_made) := ⟨rfl, rfl, rfl, by decide +kernel, rfl, by decide +kernel, by decide +kernel⟩
def spmade (K : PySem.W.Frag) (D : Addr) : Sp := fun vs H Q E => ∃ (f c l d : V) (df dc dl dd : PyData), vs = [f, c, l, d] ∧ Dp K H f df ∧ Dp K H c dc ∧ Dp K H l dl ∧ Dp K H d dd ∧ Small (.tuple [df, dc, dl, dd]) ∧
  (setupD (.tuple [df, dc, dl, dd]) = true → ∀ p H', Same H H' → H' p = some (.tup [f, c, l, d]) → Q (.ref p) H') ∧ (setupD (.tuple [df, dc, dl, dd]) = false → ∀ H', Same H H' → E (.ref D) none H')
def g_made_2_length_drift {α : Type} (us mv ws : List α) : List α := us ++ (ws.drop 0).take 1 ++ (ws.drop 1).take 1
theorem bd_made_2_length_drift {f : Addr} {fd : FuncData} (F : FunD K "made" "made" (defArgs s_made) (defBody s_made) (defScope s_made) [] ([("length", V.int 20), ("drift", V.int 10)] : List (Str × V)) f fd) :
    ∃ mv : List Value, KBn K fd ["files", "clients", "length", "drift"] 2 ["length", "drift"] (fun us ws => g_made_2_length_drift us mv ws) (fun vs zs => g_made_2_length_drift vs (([] : List (Str × V)).map (·.2)) zs) :=
  F.kbinds0 2 ["length", "drift"] ([] : List (Str × V)) g_made_2_length_drift (by decide) (by decide)
    (fun r1 r2 r3 => ((r1.append (vone 0 r3)).append (vone 1 r3)))
    fun D doc pm an cdv ct us mv ws h1 h2 h3 => match us, mv, ws, h1, h2, h3 with | [u0, u1], [], [w0, w1], _, _, _ => rfl

def g_made_2_drift_length {α : Type} (us mv ws : List α) : List α := us ++ (ws.drop 1).take 1 ++ (ws.drop 0).take 1
theorem bd_made_2_drift_length {f : Addr} {fd : FuncData} (F : FunD K "made" "made" (defArgs s_made) (defBody s_made) (defScope s_made) [] ([("length", V.int 20), ("drift", V.int 10)] : List (Str × V)) f fd) :
    ∃ mv : List Value, KBn K fd ["files", "clients", "length", "drift"] 2 ["drift", "length"] (fun us ws => g_made_2_drift_length us mv ws) (fun vs zs => g_made_2_drift_length vs (([] : List (Str × V)).map (·.2)) zs) :=
  F.kbinds0 2 ["drift", "length"] ([] : List (Str × V)) g_made_2_drift_length (by decide) (by decide)
    (fun r1 r2 r3 => ((r1.append (vone 1 r3)).append (vone 0 r3)))
    fun D doc pm an cdv ct us mv ws h1 h2 h3 => match us, mv, ws, h1, h2, h3 with | [u0, u1], [], [w0, w1], _, _, _ => rfl

def g_made_2_drift {α : Type} (us mv ws : List α) : List α := us ++ (mv.drop 0).take 1 ++ (ws.drop 0).take 1
theorem bd_made_2_drift {f : Addr} {fd : FuncData} (F : FunD K "made" "made" (defArgs s_made) (defBody s_made) (defScope s_made) [] ([("length", V.int 20), ("drift", V.int 10)] : List (Str × V)) f fd) :
    ∃ mv : List Value, KBn K fd ["files", "clients", "length", "drift"] 2 ["drift"] (fun us ws => g_made_2_drift us mv ws) (fun vs zs => g_made_2_drift vs (([("length", V.int 20)] : List (Str × V)).map (·.2)) zs) :=
  F.kbinds0 2 ["drift"] ([("length", V.int 20)] : List (Str × V)) g_made_2_drift (by decide) (by decide)
    (fun r1 r2 r3 => ((r1.append (vone 0 r2)).append (vone 0 r3)))
    fun D doc pm an cdv ct us mv ws h1 h2 h3 => match us, mv, ws, h1, h2, h3 with | [u0, u1], [m0], [w0], _, _, _ => ⟨_, _, _, _, _, _, rfl, rfl, rfl⟩

def g_made_2_length {α : Type} (us mv ws : List α) : List α := us ++ (ws.drop 0).take 1 ++ (mv.drop 0).take 1
theorem bd_made_2_length {f : Addr} {fd : FuncData} (F : FunD K "made" "made" (defArgs s_made) (defBody s_made) (defScope s_made) [] ([("length", V.int 20), ("drift", V.int 10)] : List (Str × V)) f fd) :
    ∃ mv : List Value, KBn K fd ["files", "clients", "length", "drift"] 2 ["length"] (fun us ws => g_made_2_length us mv ws) (fun vs zs => g_made_2_length vs (([("drift", V.int 10)] : List (Str × V)).map (·.2)) zs) :=
  F.kbinds0 2 ["length"] ([("drift", V.int 10)] : List (Str × V)) g_made_2_length (by decide) (by decide)
    (fun r1 r2 r3 => ((r1.append (vone 0 r3)).append (vone 0 r2)))
    fun D doc pm an cdv ct us mv ws h1 h2 h3 => match us, mv, ws, h1, h2, h3 with | [u0, u1], [m0], [w0], _, _, _ => ⟨_, _, _, _, _, _, rfl, rfl, rfl⟩

def g_made_0_drift_clients_length_files {α : Type} (us mv ws : List α) : List α := us ++ (ws.drop 3).take 1 ++ (ws.drop 1).take 1 ++ (ws.drop 2).take 1 ++ (ws.drop 0).take 1
theorem bd_made_0_drift_clients_length_files {f : Addr} {fd : FuncData} (F : FunD K "made" "made" (defArgs s_made) (defBody s_made) (defScope s_made) [] ([("length", V.int 20), ("drift", V.int 10)] : List (Str × V)) f fd) :
    ∃ mv : List Value, KBn K fd ["files", "clients", "length", "drift"] 0 ["drift", "clients", "length", "files"] (fun us ws => g_made_0_drift_clients_length_files us mv ws) (fun vs zs => g_made_0_drift_clients_length_files vs (([] : List (Str × V)).map (·.2)) zs) :=
  F.kbinds0 0 ["drift", "clients", "length", "files"] ([] : List (Str × V)) g_made_0_drift_clients_length_files (by decide) (by decide)
    (fun r1 r2 r3 => ((((r1.append (vone 3 r3)).append (vone 1 r3)).append (vone 2 r3)).append (vone 0 r3)))
    fun D doc pm an cdv ct us mv ws h1 h2 h3 => match us, mv, ws, h1, h2, h3 with | [], [], [w0, w1, w2, w3], _, _, _ => rfl

def g_made_2 {α : Type} (us mv ws : List α) : List α := us ++ (mv.drop 0).take 1 ++ (mv.drop 1).take 1
theorem bd_made_2 {f : Addr} {fd : FuncData} (F : FunD K "made" "made" (defArgs s_made) (defBody s_made) (defScope s_made) [] ([("length", V.int 20), ("drift", V.int 10)] : List (Str × V)) f fd) :
    ∃ mv : List Value, KBn K fd ["files", "clients", "length", "drift"] 2 [] (fun us ws => g_made_2 us mv ws) (fun vs zs => g_made_2 vs (([("length", V.int 20), ("drift", V.int 10)] : List (Str × V)).map (·.2)) zs) :=
  F.kbinds0 2 [] ([("length", V.int 20), ("drift", V.int 10)] : List (Str × V)) g_made_2 (by decide) (by decide)
    (fun r1 r2 r3 => ((r1.append (vone 0 r2)).append (vone 1 r2)))
    fun D doc pm an cdv ct us mv ws h1 h2 h3 => match us, mv, ws, h1, h2, h3 with | [u0, u1], [m0, m1], [], _, _, _ => ⟨_, _, _, _, _, _, rfl, rfl, ⟨_, _, _, _, _, _, rfl, rfl, rfl⟩⟩

theorem ok_made {f : Addr} {fd : FuncData} (F : FunD K "made" "made" (defArgs s_made) (defBody s_made) (defScope s_made) [] ([("length", V.int 20), ("drift", V.int 10)] : List (Str × V)) f fd) (N : Fre K mg) (c_is_setup : C8.Cal P w K mg base 5 "is_setup" (pure1S K setupD) []) {D : Addr} (L : Kl K mg D) : FnOk P w K mg base (L2N.CX P w) 6 f fd ["files", "clients", "length", "drift"] (spmade K D) := by
  refine F.ok sc_made (fun vs H Q E h => ?_) (fun cdv A outer s H vs Q E hr h => ?_)
  · obtain ⟨_, _, _, _, _, _, _, _, rfl, _⟩ := h
    rfl
  · obtain ⟨vf, vc, vl, vd, df, dc, dl, dd, rfl, hf, hc, hl, hd, sm, yes, no⟩ := h
    refine ⟨_, (pss_cons (ps_set (i := 4) sc_made.nd rfl (.inl rfl) (pe_tup (pa_cons (pv 0) (pa_cons (pv 1) (pa_cons (pv 2) (pa_cons (pv 3) pa_nil))))))
 (pss_cons (ps_if (pt_not (pt_val (C8.pe_c c_is_setup hr (by decide) rfl (pa_cons (pv 4) pa_nil))))
 (pss_one (L2N.ps_raise rfl (L2N.takes_of rfl rfl rfl rfl) (L2N.pmk_own PySem.F.excBase_ValueError L.exc L.me L.kp (raises_own L.sub L.typ) rfl)))
 pss_nil)
 (pss_one (ps_ret (pv 4))))), ?_⟩
    refine ⟨_, rfl, _, rfl, _, rfl, _, rfl, four_ok _ _ _ _, fun p np => ?_⟩
    have m1 : Same H (upd H p (.tup [vf, vc, vl, vd])) := same_upd np
    have u1 : upd H p (.tup [vf, vc, vl, vd]) p = some (.tup [vf, vc, vl, vd]) := upd_same
    revert m1 u1
    generalize upd H p (.tup [vf, vc, vl, vd]) = H1
    intro m1 u1
    refine ⟨_, rfl, _, .tuple [df, dc, dl, dd], rfl, .tup (SqT.of u1) (.cons (dp_same m1 _ _ hf) (.cons (dp_same m1 _ _ hc) (.cons (dp_same m1 _ _ hl) (.cons (dp_same m1 _ _ hd) .nil)))), sm, fun H2 m2 => ?_⟩
    refine ⟨_, rfl, ?_⟩
    cases e : setupD (.tuple [df, dc, dl, dd]) with
    | true => exact iteF ⟨_, rfl, yes e _ _ (m1.trans m2) (m2 _ _ u1)⟩
    | false => exact iteT (no e _ (m1.trans m2))
theorem ok_made_2_length_drift {f : Addr} {fd : FuncData} (F : FunD K "made" "made" (defArgs s_made) (defBody s_made) (defScope s_made) [] ([("length", V.int 20), ("drift", V.int 10)] : List (Str × V)) f fd) (gm : mg "made" = some (.ref f)) (N : Fre K mg) (c_is_setup : C8.Cal P w K mg base 5 "is_setup" (pure1S K setupD) []) {D : Addr} (L : Kl K mg D) : CalX P w K mg base 6 "made" (spmade K D) 2 ["length", "drift"] (fun vs zs => g_made_2_length_drift vs (([] : List (Str × V)).map (·.2)) zs) := by
  obtain ⟨m, hb⟩ := bd_made_2_length_drift F
  exact ⟨f, fd, _, _, ok_made F N c_is_setup L, gm, F.kp, hb⟩
theorem ok_made_2_drift_length {f : Addr} {fd : FuncData} (F : FunD K "made" "made" (defArgs s_made) (defBody s_made) (defScope s_made) [] ([("length", V.int 20), ("drift", V.int 10)] : List (Str × V)) f fd) (gm : mg "made" = some (.ref f)) (N : Fre K mg) (c_is_setup : C8.Cal P w K mg base 5 "is_setup" (pure1S K setupD) []) {D : Addr} (L : Kl K mg D) : CalX P w K mg base 6 "made" (spmade K D) 2 ["drift", "length"] (fun vs zs => g_made_2_drift_length vs (([] : List (Str × V)).map (·.2)) zs) := by
  obtain ⟨m, hb⟩ := bd_made_2_drift_length F
  exact ⟨f, fd, _, _, ok_made F N c_is_setup L, gm, F.kp, hb⟩
theorem ok_made_2_drift {f : Addr} {fd : FuncData} (F : FunD K "made" "made" (defArgs s_made) (defBody s_made) (defScope s_made) [] ([("length", V.int 20), ("drift", V.int 10)] : List (Str × V)) f fd) (gm : mg "made" = some (.ref f)) (N : Fre K mg) (c_is_setup : C8.Cal P w K mg base 5 "is_setup" (pure1S K setupD) []) {D : Addr} (L : Kl K mg D) : CalX P w K mg base 6 "made" (spmade K D) 2 ["drift"] (fun vs zs => g_made_2_drift vs (([("length", V.int 20)] : List (Str × V)).map (·.2)) zs) := by
  obtain ⟨m, hb⟩ := bd_made_2_drift F
  exact ⟨f, fd, _, _, ok_made F N c_is_setup L, gm, F.kp, hb⟩
theorem ok_made_2_length {f : Addr} {fd : FuncData} (F : FunD K "made" "made" (defArgs s_made) (defBody s_made) (defScope s_made) [] ([("length", V.int 20), ("drift", V.int 10)] : List (Str × V)) f fd) (gm : mg "made" = some (.ref f)) (N : Fre K mg) (c_is_setup : C8.Cal P w K mg base 5 "is_setup" (pure1S K setupD) []) {D : Addr} (L : Kl K mg D) : CalX P w K mg base 6 "made" (spmade K D) 2 ["length"] (fun vs zs => g_made_2_length vs (([("drift", V.int 10)] : List (Str × V)).map (·.2)) zs) := by
  obtain ⟨m, hb⟩ := bd_made_2_length F
  exact ⟨f, fd, _, _, ok_made F N c_is_setup L, gm, F.kp, hb⟩
theorem ok_made_0_drift_clients_length_files {f : Addr} {fd : FuncData} (F : FunD K "made" "made" (defArgs s_made) (defBody s_made) (defScope s_made) [] ([("length", V.int 20), ("drift", V.int 10)] : List (Str × V)) f fd) (gm : mg "made" = some (.ref f)) (N : Fre K mg) (c_is_setup : C8.Cal P w K mg base 5 "is_setup" (pure1S K setupD) []) {D : Addr} (L : Kl K mg D) : CalX P w K mg base 6 "made" (spmade K D) 0 ["drift", "clients", "length", "files"] (fun vs zs => g_made_0_drift_clients_length_files vs (([] : List (Str × V)).map (·.2)) zs) := by
  obtain ⟨m, hb⟩ := bd_made_0_drift_clients_length_files F
  exact ⟨f, fd, _, _, ok_made F N c_is_setup L, gm, F.kp, hb⟩
theorem ok_made_2 {f : Addr} {fd : FuncData} (F : FunD K "made" "made" (defArgs s_made) (defBody s_made) (defScope s_made) [] ([("length", V.int 20), ("drift", V.int 10)] : List (Str × V)) f fd) (gm : mg "made" = some (.ref f)) (N : Fre K mg) (c_is_setup : C8.Cal P w K mg base 5 "is_setup" (pure1S K setupD) []) {D : Addr} (L : Kl K mg D) : CalX P w K mg base 6 "made" (spmade K D) 2 [] (fun vs zs => g_made_2 vs (([("length", V.int 20), ("drift", V.int 10)] : List (Str × V)).map (·.2)) zs) := by
  obtain ⟨m, hb⟩ := bd_made_2 F
  exact ⟨f, fd, _, _, ok_made F N c_is_setup L, gm, F.kp, hb⟩

/-! ### made, as the law asks for it -/
theorem roomM {k : Nat} {A : Around} {v : Option Value} (hr : Room k A) : L2H.RoomH k (A.mark v) := ⟨hr.dp, hr.un⟩
abbrev s__law_made : Stmt := topS 54
theorem sc__law_made : FnScope ["way", "four", "found", "kind", "e"] ["way", "four"] (defScope s__law_made) := ⟨rfl, rfl, rfl, by decide +kernel, rfl, by decide +kernel, by decide +kernel⟩
def lwV (way : Int) (l : V) : V := if way = 2 ∨ way = 5 then .int 20 else l
def lwD (way : Int) (l : PyData) : PyData := if way = 2 ∨ way = 5 then .int 20 else l
def dwV (way : Int) (d : V) : V := if way = 3 ∨ way = 5 then .int 10 else d
def dwD (way : Int) (d : PyData) : PyData := if way = 3 ∨ way = 5 then .int 10 else d
theorem lw_dp {H : Hp} {way : Int} {v : V} {d : PyData} (h : Dp K H v d) : Dp K H (lwV way v) (lwD way d) := by
  unfold lwV lwD
  split
  · exact .int 20
  · exact h
theorem dw_dp {H : Hp} {way : Int} {v : V} {d : PyData} (h : Dp K H v d) : Dp K H (dwV way v) (dwD way d) := by
  unfold dwV dwD
  split
  · exact .int 10
  · exact h
def sp_law_made (K : PySem.W.Frag) : Sp := fun vs H Q _ => ∃ (way : Int) (L : Addr) (f c l d : V) (df dc dl dd : PyData), vs = [.int way, .ref L] ∧ 0 ≤ way ∧ way ≤ 5 ∧ H L = some (.lst [f, c, l, d]) ∧ Dp K H f df ∧ Dp K H c dc ∧ Dp K H l dl ∧ Dp K H d dd ∧
  Small (.tuple [df, dc, lwD way dl, dwD way dd]) ∧
  (setupD (.tuple [df, dc, lwD way dl, dwD way dd]) = true → ∀ p r H', Same H H' → H' r = some (.tup [f, c, lwV way l, dwV way d]) → H' p = some (.tup [.ref r, .str ""]) → Q (.ref p) H') ∧
  (setupD (.tuple [df, dc, lwD way dl, dwD way dd]) = false → ∀ p H', Same H H' → H' p = some (.tup [.non, .str "told NoSetup+"]) → Q (.ref p) H')
theorem vne {i j : Int} (h : i ≠ j) : ¬ V.int i = V.int j := fun z => h (by cases z; rfl)
theorem ok__law_made {f : Addr} {fd : FuncData} (F : Fun K "_law_made" "_law_made" s__law_made f fd) (gm : mg "_law_made" = some (.ref f)) (N : Fre K mg) {D : Addr} (L : Kl K mg D) (c__law_kinds : CalK P w K mg base (Zk D) 1 "_law_kinds" sp_law_kinds) (c_made_0_drift_clients_length_files : CalX P w K mg base 6 "made" (spmade K D) 0 ["drift", "clients", "length", "files"] (fun vs zs => g_made_0_drift_clients_length_files vs (([] : List (Str × V)).map (·.2)) zs)) (c_made_2 : CalX P w K mg base 6 "made" (spmade K D) 2 [] (fun vs zs => g_made_2 vs (([("length", V.int 20), ("drift", V.int 10)] : List (Str × V)).map (·.2)) zs)) (c_made_2_drift : CalX P w K mg base 6 "made" (spmade K D) 2 ["drift"] (fun vs zs => g_made_2_drift vs (([("length", V.int 20)] : List (Str × V)).map (·.2)) zs)) (c_made_2_drift_length : CalX P w K mg base 6 "made" (spmade K D) 2 ["drift", "length"] (fun vs zs => g_made_2_drift_length vs (([] : List (Str × V)).map (·.2)) zs)) (c_made_2_length : CalX P w K mg base 6 "made" (spmade K D) 2 ["length"] (fun vs zs => g_made_2_length vs (([("drift", V.int 10)] : List (Str × V)).map (·.2)) zs)) (c_made_2_length_drift : CalX P w K mg base 6 "made" (spmade K D) 2 ["length", "drift"] (fun vs zs => g_made_2_length_drift vs (([] : List (Str × V)).map (·.2)) zs)) : C8.Cal P w K mg base 7 "_law_made" (sp_law_made K) [] := by
  obtain ⟨C_LendError, gc_LendError, exL⟩ := L.lend
  refine mkCal F gm sc__law_made (F.binds (ps := ["way", "four"]) fun _ _ _ _ _ _ us hl => match us, hl with | [_, _], _ => rfl) (fun vs H Q E h => ?_) (fun cdv A outer s H vs Q E hr h => ?_)
  · obtain ⟨_, _, _, _, _, _, _, _, _, _, rfl, _⟩ := h
    rfl
  · obtain ⟨way, L4, vf, vc, vl, vd, df, dc, dl, dd, rfl, w0, w5, hL, hf, hc, hl, hd, sm, yes, no⟩ := h
    refine ⟨_, (pss_cons (ps_set (i := 2) sc__law_made.nd rfl (.inl rfl) pe_non)
 (pss_cons (ps_set (i := 3) sc__law_made.nd rfl (.inl rfl) pe_str)
 (pss_cons (L2N.ps_try_as (i := 4) rfl rfl sc__law_made.nd rfl rfl ⟨rfl, by decide, .inl gc_LendError⟩ takesN0 (fun W pn xe tk _ =>
 (pss_one (ps_if (pt_cmpR op_eq (pv 0) pe_int (nomark _))
 (pss_one (ps_set (i := 2) sc__law_made.nd rfl (.inl rfl) (pe_cx c_made_2_length_drift hr (by decide) rfl tk (pa_cons (pe_ix (show IxR _ (rIxL K) from ix_list) (pv 1) pe_int (fun _ _ => rfl)) (pa_cons (pe_ix (show IxR _ (rIxL K) from ix_list) (pv 1) pe_int (fun _ _ => rfl)) pa_nil)) (pk_cons (pe_ix (show IxR _ (rIxL K) from ix_list) (pv 1) pe_int (fun _ _ => rfl)) (pk_cons (pe_ix (show IxR _ (rIxL K) from ix_list) (pv 1) pe_int (fun _ _ => rfl)) pk_nil)))))
 (pss_one (ps_if (pt_cmpR op_eq (pv 0) pe_int (nomark _))
 (pss_one (ps_set (i := 2) sc__law_made.nd rfl (.inl rfl) (pe_cx c_made_2_drift_length hr (by decide) rfl tk (pa_cons (pe_ix (show IxR _ (rIxL K) from ix_list) (pv 1) pe_int (fun _ _ => rfl)) (pa_cons (pe_ix (show IxR _ (rIxL K) from ix_list) (pv 1) pe_int (fun _ _ => rfl)) pa_nil)) (pk_cons (pe_ix (show IxR _ (rIxL K) from ix_list) (pv 1) pe_int (fun _ _ => rfl)) (pk_cons (pe_ix (show IxR _ (rIxL K) from ix_list) (pv 1) pe_int (fun _ _ => rfl)) pk_nil)))))
 (pss_one (ps_if (pt_cmpR op_eq (pv 0) pe_int (nomark _))
 (pss_one (ps_set (i := 2) sc__law_made.nd rfl (.inl rfl) (pe_cx c_made_2_drift hr (by decide) rfl tk (pa_cons (pe_ix (show IxR _ (rIxL K) from ix_list) (pv 1) pe_int (fun _ _ => rfl)) (pa_cons (pe_ix (show IxR _ (rIxL K) from ix_list) (pv 1) pe_int (fun _ _ => rfl)) pa_nil)) (pk_cons (pe_ix (show IxR _ (rIxL K) from ix_list) (pv 1) pe_int (fun _ _ => rfl)) pk_nil))))
 (pss_one (ps_if (pt_cmpR op_eq (pv 0) pe_int (nomark _))
 (pss_one (ps_set (i := 2) sc__law_made.nd rfl (.inl rfl) (pe_cx c_made_2_length hr (by decide) rfl tk (pa_cons (pe_ix (show IxR _ (rIxL K) from ix_list) (pv 1) pe_int (fun _ _ => rfl)) (pa_cons (pe_ix (show IxR _ (rIxL K) from ix_list) (pv 1) pe_int (fun _ _ => rfl)) pa_nil)) (pk_cons (pe_ix (show IxR _ (rIxL K) from ix_list) (pv 1) pe_int (fun _ _ => rfl)) pk_nil))))
 (pss_one (ps_if (pt_cmpR op_eq (pv 0) pe_int (nomark _))
 (pss_one (ps_set (i := 2) sc__law_made.nd rfl (.inl rfl) (pe_cx0 c_made_0_drift_clients_length_files hr (by decide) rfl tk (pk_cons (pe_ix (show IxR _ (rIxL K) from ix_list) (pv 1) pe_int (fun _ _ => rfl)) (pk_cons (pe_ix (show IxR _ (rIxL K) from ix_list) (pv 1) pe_int (fun _ _ => rfl)) (pk_cons (pe_ix (show IxR _ (rIxL K) from ix_list) (pv 1) pe_int (fun _ _ => rfl)) (pk_cons (pe_ix (show IxR _ (rIxL K) from ix_list) (pv 1) pe_int (fun _ _ => rfl)) pk_nil)))))))
 (pss_one (ps_set (i := 2) sc__law_made.nd rfl (.inl rfl) (pe_cx c_made_2 hr (by decide) rfl tk (pa_cons (pe_ix (show IxR _ (rIxL K) from ix_list) (pv 1) pe_int (fun _ _ => rfl)) (pa_cons (pe_ix (show IxR _ (rIxL K) from ix_list) (pv 1) pe_int (fun _ _ => rfl)) pa_nil)) pk_nil))))))))))))))
 (fun a oe cls d pn zn zf => pss_when (c := cls = .ref D ∧ d = none) fun zz => suite_when zz zn zf fun hot1 hz =>
 (pss_one (ps_set (i := 3) sc__law_made.nd rfl (.inl rfl) (pe_cK c__law_kinds (roomM hr) (by decide) hot1 hz List.mem_cons_self rfl (pa_cons (pv 4) pa_nil))))))
 (pss_one (ps_ret (pe_tup (pa_cons (pv 2) (pa_cons (pv 3) pa_nil)))))))), ?_⟩
    have ix0 : SqL K H L4 [vf, vc, vl, vd] := SqL.of hL
    have a0 : atI [vf, vc, vl, vd] 0 = some vf := atI_nat (j := 0) rfl
    have a1 : atI [vf, vc, vl, vd] 1 = some vc := atI_nat (j := 1) rfl
    have a2 : atI [vf, vc, vl, vd] 2 = some vl := atI_nat (j := 2) rfl
    have a3 : atI [vf, vc, vl, vd] 3 = some vd := atI_nat (j := 3) rfl
    have lw := lw_dp (way := way) hl
    have dw := dw_dp (way := way) hd
    have hway : way = 0 ∨ way = 1 ∨ way = 2 ∨ way = 3 ∨ way = 4 ∨ way = 5 := by omega
    rcases hway with rfl | rfl | rfl | rfl | rfl | rfl
    · refine ⟨_, rfl, rfl, _, rfl, iteD' rfl ?_⟩
      exact ⟨_, rfl, L4, _, 0, vf, rfl, rfl, ix0, a0, _, rfl, L4, _, 1, vc, rfl, rfl, ix0, a1, _, rfl, L4, _, 2, vl, rfl, rfl, ix0, a2, _, rfl, L4, _, 3, vd, rfl, rfl, ix0, a3, rfl, rfl, _, _, _, _, df, dc, _, _, rfl, hf, hc, lw, dw, sm, fun e r H1 s1 h1 => ⟨_, rfl, _, rfl, two_ok _ _, fun p np => yes e p r _ (s1.trans (same_upd np)) (same_upd np _ _ h1) upd_same⟩,
        fun e H1 s1 => ⟨true, exL, fun _ a na => ⟨⟨rfl, rfl⟩, _, rfl, rfl, fun H2 s2 => ⟨_, rfl, _, rfl, two_ok _ _, fun p np => no e p _ ((s1.trans s2).trans (same_upd np)) upd_same⟩⟩, fun z => by cases z⟩⟩
    · refine ⟨_, rfl, rfl, _, rfl, iteD (vne (by decide)) ?_⟩
      refine ⟨_, rfl, rfl, _, rfl, iteD' rfl ?_⟩
      exact ⟨_, rfl, L4, _, 0, vf, rfl, rfl, ix0, a0, _, rfl, L4, _, 1, vc, rfl, rfl, ix0, a1, _, rfl, L4, _, 3, vd, rfl, rfl, ix0, a3, _, rfl, L4, _, 2, vl, rfl, rfl, ix0, a2, rfl, rfl, _, _, _, _, df, dc, _, _, rfl, hf, hc, lw, dw, sm, fun e r H1 s1 h1 => ⟨_, rfl, _, rfl, two_ok _ _, fun p np => yes e p r _ (s1.trans (same_upd np)) (same_upd np _ _ h1) upd_same⟩,
        fun e H1 s1 => ⟨true, exL, fun _ a na => ⟨⟨rfl, rfl⟩, _, rfl, rfl, fun H2 s2 => ⟨_, rfl, _, rfl, two_ok _ _, fun p np => no e p _ ((s1.trans s2).trans (same_upd np)) upd_same⟩⟩, fun z => by cases z⟩⟩
    · refine ⟨_, rfl, rfl, _, rfl, iteD (vne (by decide)) ?_⟩
      refine ⟨_, rfl, rfl, _, rfl, iteD (vne (by decide)) ?_⟩
      refine ⟨_, rfl, rfl, _, rfl, iteD' rfl ?_⟩
      exact ⟨_, rfl, L4, _, 0, vf, rfl, rfl, ix0, a0, _, rfl, L4, _, 1, vc, rfl, rfl, ix0, a1, _, rfl, L4, _, 3, vd, rfl, rfl, ix0, a3, rfl, rfl, _, _, _, _, df, dc, _, _, rfl, hf, hc, lw, dw, sm, fun e r H1 s1 h1 => ⟨_, rfl, _, rfl, two_ok _ _, fun p np => yes e p r _ (s1.trans (same_upd np)) (same_upd np _ _ h1) upd_same⟩,
        fun e H1 s1 => ⟨true, exL, fun _ a na => ⟨⟨rfl, rfl⟩, _, rfl, rfl, fun H2 s2 => ⟨_, rfl, _, rfl, two_ok _ _, fun p np => no e p _ ((s1.trans s2).trans (same_upd np)) upd_same⟩⟩, fun z => by cases z⟩⟩
    · refine ⟨_, rfl, rfl, _, rfl, iteD (vne (by decide)) ?_⟩
      refine ⟨_, rfl, rfl, _, rfl, iteD (vne (by decide)) ?_⟩
      refine ⟨_, rfl, rfl, _, rfl, iteD (vne (by decide)) ?_⟩
      refine ⟨_, rfl, rfl, _, rfl, iteD' rfl ?_⟩
      exact ⟨_, rfl, L4, _, 0, vf, rfl, rfl, ix0, a0, _, rfl, L4, _, 1, vc, rfl, rfl, ix0, a1, _, rfl, L4, _, 2, vl, rfl, rfl, ix0, a2, rfl, rfl, _, _, _, _, df, dc, _, _, rfl, hf, hc, lw, dw, sm, fun e r H1 s1 h1 => ⟨_, rfl, _, rfl, two_ok _ _, fun p np => yes e p r _ (s1.trans (same_upd np)) (same_upd np _ _ h1) upd_same⟩,
        fun e H1 s1 => ⟨true, exL, fun _ a na => ⟨⟨rfl, rfl⟩, _, rfl, rfl, fun H2 s2 => ⟨_, rfl, _, rfl, two_ok _ _, fun p np => no e p _ ((s1.trans s2).trans (same_upd np)) upd_same⟩⟩, fun z => by cases z⟩⟩
    · refine ⟨_, rfl, rfl, _, rfl, iteD (vne (by decide)) ?_⟩
      refine ⟨_, rfl, rfl, _, rfl, iteD (vne (by decide)) ?_⟩
      refine ⟨_, rfl, rfl, _, rfl, iteD (vne (by decide)) ?_⟩
      refine ⟨_, rfl, rfl, _, rfl, iteD (vne (by decide)) ?_⟩
      refine ⟨_, rfl, rfl, _, rfl, iteD' rfl ?_⟩
      exact ⟨_, rfl, L4, _, 3, vd, rfl, rfl, ix0, a3, _, rfl, L4, _, 1, vc, rfl, rfl, ix0, a1, _, rfl, L4, _, 2, vl, rfl, rfl, ix0, a2, _, rfl, L4, _, 0, vf, rfl, rfl, ix0, a0, rfl, rfl, _, _, _, _, df, dc, _, _, rfl, hf, hc, lw, dw, sm, fun e r H1 s1 h1 => ⟨_, rfl, _, rfl, two_ok _ _, fun p np => yes e p r _ (s1.trans (same_upd np)) (same_upd np _ _ h1) upd_same⟩,
        fun e H1 s1 => ⟨true, exL, fun _ a na => ⟨⟨rfl, rfl⟩, _, rfl, rfl, fun H2 s2 => ⟨_, rfl, _, rfl, two_ok _ _, fun p np => no e p _ ((s1.trans s2).trans (same_upd np)) upd_same⟩⟩, fun z => by cases z⟩⟩
    · refine ⟨_, rfl, rfl, _, rfl, iteD (vne (by decide)) ?_⟩
      refine ⟨_, rfl, rfl, _, rfl, iteD (vne (by decide)) ?_⟩
      refine ⟨_, rfl, rfl, _, rfl, iteD (vne (by decide)) ?_⟩
      refine ⟨_, rfl, rfl, _, rfl, iteD (vne (by decide)) ?_⟩
      refine ⟨_, rfl, rfl, _, rfl, iteD (vne (by decide)) ?_⟩
      exact ⟨_, rfl, L4, _, 0, vf, rfl, rfl, ix0, a0, _, rfl, L4, _, 1, vc, rfl, rfl, ix0, a1, rfl, rfl, _, _, _, _, df, dc, _, _, rfl, hf, hc, lw, dw, sm, fun e r H1 s1 h1 => ⟨_, rfl, _, rfl, two_ok _ _, fun p np => yes e p r _ (s1.trans (same_upd np)) (same_upd np _ _ h1) upd_same⟩,
        fun e H1 s1 => ⟨true, exL, fun _ a na => ⟨⟨rfl, rfl⟩, _, rfl, rfl, fun H2 s2 => ⟨_, rfl, _, rfl, two_ok _ _, fun p np => no e p _ ((s1.trans s2).trans (same_upd np)) upd_same⟩⟩, fun z => by cases z⟩⟩
theorem kit_ref {D C : Addr} {b : Bool} (me : PySem.W.subIn K (.ref D) (.ref D) = some true) (h : PySem.W.hasDictIn K C = true) (t : PySem.W.typeIn K (.ref C) = some (.type "type")) (s : PySem.W.subIn K (.ref D) (.ref C) = some b) : PySem.W.kitOne K (.ref D) (.ref C) = some b := by
  unfold PySem.W.kitOne
  by_cases e : D = C
  · subst e
    rw [me] at s
    rw [if_pos (beq_self_eq_true _)]
    exact s
  · rw [if_neg fun z => e (Value.ref.inj (beq_iff_eq.mp z))]
    obtain ⟨cd, hc, _⟩ := PySem.W.any_some h
    have e1 : ((PySem.W.clsIn K C).isSome && PySem.W.typeIn K (.ref C) == some (.type "type")) = true := by rw [hc, t]; rfl
    show (if ((PySem.W.clsIn K C).isSome && PySem.W.typeIn K (.ref C) == some (.type "type")) = true then PySem.W.subIn K (.ref D) (.ref C) else none) = some b
    rw [if_pos e1]
    exact s
theorem kit_VE {D : Addr} (s : PySem.W.subIn K (.ref D) (.type "ValueError") = some true) : PySem.W.kitOne K (.ref D) (.type "ValueError") = some true := by
  unfold PySem.W.kitOne
  rw [if_neg (by intro z; cases (beq_iff_eq.mp z))]
  show (if PySem.W.kitMeta "ValueError" = true then PySem.W.subIn K (.ref D) (.type "ValueError") else none) = some true
  rw [if_pos (by decide +kernel)]
  exact s

/-! ### what is a setup can be compared -/
def Lay (n : Nat) (d : PyData) : Prop := d.canLay0 = true ∧ d.depth ≤ n
theorem Lay.mono {m n : Nat} {d : PyData} (h : Lay m d) (e : m ≤ n) : Lay n d := ⟨h.1, Nat.le_trans h.2 e⟩
theorem lay_all {n : Nat} : ∀ {ds : List PyData}, (∀ d ∈ ds, Lay n d) → PyData.canLayAll0 ds = true ∧ PyData.depthAll ds ≤ n
  | [], _ => ⟨by rw [PyData.canLayAll0], by rw [PyData.depthAll]; exact Nat.zero_le _⟩
  | d :: ds, h => by
    obtain ⟨a, b⟩ := h d (List.mem_cons_self ..)
    obtain ⟨c, e⟩ := lay_all fun x hx => h x (List.mem_cons_of_mem _ hx)
    refine ⟨by rw [PyData.canLayAll0, a, c]; rfl, ?_⟩
    rw [PyData.depthAll]
    omega
theorem lay_tup {n : Nat} {ds : List PyData} (h : ∀ d ∈ ds, Lay n d) : Lay (n + 1) (.tuple ds) := by
  obtain ⟨a, b⟩ := lay_all h
  refine ⟨by rw [PyData.canLay0]; exact a, ?_⟩
  rw [PyData.depth]
  omega
theorem lay_name {d : PyData} (h : nameD d = true) : Lay 0 d := by
  cases d with
  | str x =>
    rw [nameD_str, Bool.and_eq_true] at h
    refine ⟨?_, by rw [PyData.depth]; exact Nat.le_refl _⟩
    rw [PyData.canLay0]
    show (x.cps.all fun c => decide (c < 0x110000)) = true
    rw [Array.all_eq_true_iff_forall_mem]
    intro c hc
    have h2 : signs x = true := h.2
    unfold signs at h2
    rw [List.all_eq_true] at h2
    have := of_decide_eq_true (h2 c (by simpa using hc))
    have lt : ∀ c ∈ letters.cps.toList, c < 1114112 := by decide +kernel
    exact decide_eq_true (lt c this)
  | _ => cases h
theorem lay_in {lo hi : Int} {d : PyData} (h : withinD lo hi d = true) : Lay 0 d := by
  cases d with
  | int i => exact ⟨by rw [PyData.canLay0], by rw [PyData.depth]; exact Nat.le_refl _⟩
  | _ => cases h
theorem lay_file {d : PyData} (h : fileD d = true) : Lay 1 d := by
  cases d with
  | tuple ds =>
    match ds, h with
    | [n, p], h =>
      have h' : (nameD n && withinD 1 4 p) = true := h
      rw [Bool.and_eq_true] at h'
      refine lay_tup fun x hx => ?_
      simp only [List.mem_cons, List.not_mem_nil, or_false] at hx
      rcases hx with rfl | rfl
      · exact lay_name h'.1
      · exact lay_in h'.2
  | _ => cases h
theorem lay_client {d : PyData} (h : clientD d = true) : Lay 1 d := by
  cases d with
  | tuple ds =>
    match ds, h with
    | [n, r, a], h =>
      have h' : ((nameD n && notServer n) && (withinD 50 200 r && withinD 0 99 a)) = true := h
      rw [Bool.and_eq_true, Bool.and_eq_true, Bool.and_eq_true] at h'
      refine lay_tup fun x hx => ?_
      simp only [List.mem_cons, List.not_mem_nil, or_false] at hx
      rcases hx with rfl | rfl | rfl
      · exact lay_name h'.1.1
      · exact lay_in h'.2.1
      · exact lay_in h'.2.2
  | _ => cases h
theorem lay_rows {lo hi : Int} {f : PyData → Bool} {d : PyData} (hf : ∀ {x}, f x = true → Lay 1 x) (ht : tupD lo hi d = true) (h : (itemsD d).all f = true) : Lay 2 d := by
  obtain ⟨ds, rfl, _⟩ := tupD_yes ht
  exact lay_tup fun x hx => hf (List.all_eq_true.mp h x hx)
theorem lay_setup {d : PyData} (h : setupD d = true) : Lay 3 d := by
  cases d with
  | tuple ds =>
    match ds, h with
    | [f, c, l, e], h =>
      have h' : ((filesD f && clientsD c) && (withinD 2 1000 l && withinD 0 50 e)) = true := h
      rw [Bool.and_eq_true, Bool.and_eq_true, Bool.and_eq_true] at h'
      obtain ⟨⟨h1, h2⟩, h3, h4⟩ := h'
      unfold filesD at h1
      unfold clientsD at h2
      rw [Bool.and_eq_true, Bool.and_eq_true] at h1 h2
      refine lay_tup fun x hx => ?_
      simp only [List.mem_cons, List.not_mem_nil, or_false] at hx
      rcases hx with rfl | rfl | rfl | rfl
      · exact lay_rows lay_file h1.1.1 h1.1.2
      · exact lay_rows lay_client h2.1.1 h2.1.2
      · exact (lay_in h3).mono (by decide)
      · exact (lay_in h4).mono (by decide)
  | _ => cases h
theorem hu64 {A : Around} {k : Nat} (hr : Room k A) : A.units + 64 < cLine := by have := hr.un; omega

/-! ### the four parts of a drawn setup, as data -/
theorem log_small {i : Int} (h0 : 0 ≤ i) (h1 : i ≤ 1000) : i.natAbs.log2 ≤ 10 := by
  by_cases h : i.natAbs = 0
  · rw [h]; exact Nat.zero_le _
  · have := (Nat.log2_lt (k := 10) h).mpr (by show i.natAbs < 1024; omega)
    omega
theorem file_data {H : Hp} {b : Addr} {x : V} (h : FileAt H x) (G : Bag H b) : ∃ d, Dp K (cut H b) x d ∧ siz d ≤ 30 ∧ dep d ≤ 1 ∧ bit d ≤ 20 := by
  obtain ⟨t, n, k, rfl, ht, hn, k0, k1⟩ := h
  have := log_small k0 k1
  have := hn.2
  refine ⟨.tuple [.str n, .int k], .tup (SqT.of (by rw [cut_ne (G.ne_tup ht)]; exact ht)) (.cons (.str n) (.cons (.int k) .nil)), ?_, ?_, ?_⟩
  · show 1 + (n.length + 1 + (k.natAbs.log2 + 1 + 0)) ≤ 30
    omega
  · exact Nat.le_refl _
  · show max 0 (max k.natAbs.log2 0) ≤ 20
    omega
theorem client_data {H : Hp} {b : Addr} {x : V} (h : ClientAt H x) (G : Bag H b) : ∃ d, Dp K (cut H b) x d ∧ siz d ≤ 50 ∧ dep d ≤ 1 ∧ bit d ≤ 20 := by
  obtain ⟨t, n, r, a, rfl, ht, hn, r0, r1, a0, a1⟩ := h
  have := log_small r0 r1
  have := log_small a0 a1
  have := hn.2
  refine ⟨.tuple [.str n, .int r, .int a], .tup (SqT.of (by rw [cut_ne (G.ne_tup ht)]; exact ht)) (.cons (.str n) (.cons (.int r) (.cons (.int a) .nil))), ?_, ?_, ?_⟩
  · show 1 + (n.length + 1 + (r.natAbs.log2 + 1 + (a.natAbs.log2 + 1 + 0))) ≤ 50
    omega
  · exact Nat.le_refl _
  · show max 0 (max r.natAbs.log2 (max a.natAbs.log2 0)) ≤ 20
    omega
theorem rows_data {H : Hp} {m : Nat} : ∀ {xs : List V}, (∀ x ∈ xs, ∃ d, Dp K H x d ∧ siz d ≤ m ∧ dep d ≤ 1 ∧ bit d ≤ 20) → ∃ ds, DpAll K H xs ds ∧ siz.sizL ds ≤ m * xs.length ∧ dep.depL ds ≤ 1 ∧ bit.bitL ds ≤ 20
  | [], _ => ⟨[], .nil, Nat.le_refl _, Nat.zero_le _, Nat.zero_le _⟩
  | x :: xs, h => by
    obtain ⟨d, h1, h2, h3, h4⟩ := h x (List.mem_cons_self ..)
    obtain ⟨ds, g1, g2, g3, g4⟩ := rows_data fun y hy => h y (List.mem_cons_of_mem _ hy)
    refine ⟨d :: ds, .cons h1 g1, ?_, ?_, ?_⟩
    · show siz d + siz.sizL ds ≤ m * (xs.length + 1)
      rw [Nat.mul_succ]
      omega
    · show max (dep d) (dep.depL ds) ≤ 1
      omega
    · show max (bit d) (bit.bitL ds) ≤ 20
      omega
theorem small_of {d : PyData} (h : siz d ≤ 1000000) : Small d := by
  unfold Small
  omega
theorem four_parts {H : Hp} {b pf pc : Addr} {xf xc : List V} {l d : Int} (G : Bag H b) (hf : H pf = some (.tup xf)) (hc : H pc = some (.tup xc)) (af : ∀ x ∈ xf, FileAt H x) (ac : ∀ x ∈ xc, ClientAt H x)
    (lf : xf.length ≤ 3) (lc : xc.length ≤ 5) (l0 : 0 ≤ l) (l1 : l ≤ 1000) (d0 : 0 ≤ d) (d1 : d ≤ 50) : ∃ df dc, Dp K (cut H b) (.ref pf) df ∧ Dp K (cut H b) (.ref pc) dc ∧ (∀ e ∈ [df, dc, PyData.int l, .int d], siz e ≤ 400 ∧ dep e ≤ 3 ∧ bit e ≤ 20) := by
  obtain ⟨df, f1, f2, f3, f4⟩ := rows_data (K := K) (m := 30) fun x hx => file_data (af x hx) G
  obtain ⟨dc, c1, c2, c3, c4⟩ := rows_data (K := K) (m := 50) fun x hx => client_data (ac x hx) G
  have tu : ∀ {q : Addr} {xs : List V}, H q = some (.tup xs) → cut H b q = some (.tup xs) := fun e => by rw [cut_ne (G.ne_tup e)]; exact e
  have := log_small l0 l1
  have := log_small d0 (by omega)
  refine ⟨.tuple df, .tuple dc, .tup (SqT.of (tu hf)) f1, .tup (SqT.of (tu hc)) c1, fun e he => ?_⟩
  have g1 : 30 * xf.length ≤ 90 := by omega
  have g2 : 50 * xc.length ≤ 250 := by omega
  simp only [List.mem_cons, List.not_mem_nil, or_false] at he
  rcases he with rfl | rfl | rfl | rfl
  · refine ⟨?_, ?_, ?_⟩
    · show 1 + siz.sizL df ≤ 400
      omega
    · show 1 + dep.depL df ≤ 3
      omega
    · exact f4
  · refine ⟨?_, ?_, ?_⟩
    · show 1 + siz.sizL dc ≤ 400
      omega
    · show 1 + dep.depL dc ≤ 3
      omega
    · exact c4
  · refine ⟨?_, Nat.zero_le _, ?_⟩
    · show l.natAbs.log2 + 1 ≤ 400
      omega
    · show l.natAbs.log2 ≤ 20
      omega
  · refine ⟨?_, Nat.zero_le _, ?_⟩
    · show d.natAbs.log2 + 1 ≤ 400
      omega
    · show d.natAbs.log2 ≤ 20
      omega
theorem small4 {df dc dl dd : PyData} {way : Int} (h : ∀ e ∈ [df, dc, dl, dd], siz e ≤ 2000) : Small (.tuple [df, dc, lwD way dl, dwD way dd]) := by
  have h1 := h df (by simp)
  have h2 := h dc (by simp)
  have h3 : siz (lwD way dl) ≤ 2000 := by
    unfold lwD
    split
    · decide +kernel
    · exact h dl (by simp)
  have h4 : siz (dwD way dd) ≤ 2000 := by
    unfold dwD
    split
    · decide +kernel
    · exact h dd (by simp)
  unfold Small
  show 1 + (siz df + (siz dc + (siz (lwD way dl) + (siz (dwD way dd) + 0)))) ≤ 5000000
  omega
theorem iteN0 {b : Bool} {A B : Prop} (h : b = false) (x : B) : if b = true then A else B := by
  rw [if_neg (by rw [h]; exact Bool.false_ne_true)]
  exact x
theorem ne_self {d : PyData} {n : Nat} (h : Lay n d) : (!PyData.eqv d d) = false := by rw [SeqAt.eqv_refl d h.1]; rfl
theorem shp {d : PyData} {n : Nat} (h : Lay n d) (e : n ≤ 64) : SeqAt.shaped d = true := by
  unfold SeqAt.shaped
  rw [h.1, decide_eq_true (Nat.le_trans h.2 e)]
  rfl
theorem lay_due {d : PyData} (h : setupD d = true) : Lay 4 (.tuple [d, .str ""]) := lay_tup fun x hx => by
  simp only [List.mem_cons, List.not_mem_nil, or_false] at hx
  rcases hx with rfl | rfl
  · exact lay_setup h
  · exact ⟨by decide +kernel, Nat.zero_le _⟩
theorem lay_no : Lay 1 (.tuple [.none, .str "told NoSetup+"]) := ⟨by decide +kernel, by decide +kernel⟩

abbrev s_law : Stmt := topS 55
theorem sc_law : FnScope ["script", "k", "bag", "spoil", "at", "four", "way", "due"] ["script"] (defScope s_law) := ⟨rfl, rfl, rfl, by decide +kernel, rfl, by decide +kernel, by decide +kernel⟩
def splaw (K : PySem.W.Frag) : Sp := fun vs H Q _ => ∃ (a : Addr) (ns : List Int), vs = [.ref a] ∧ SqL K H a (ns.map V.int) ∧ ns.length ≤ 63 ∧ ∀ H', Q (.bl true) H'
theorem ok_law {f : Addr} {fd : FuncData} (F : Fun K "law" "law" s_law f fd) (N : Fre K mg) (c__law_bag : C8.Cal P w K mg base 1 "_law_bag" (sp_law_bag K) []) (c__law_is_setup : C8.Cal P w K mg base 3 "_law_is_setup" (pure1S K setupD) []) (c__law_made : C8.Cal P w K mg base 7 "_law_made" (sp_law_made K) []) (c__law_setup : C8.Cal P w K mg base 4 "_law_setup" sp_law_setup []) (c__law_spoilt : C8.Cal P w K mg base 22 "_law_spoilt" (sp_law_spoilt K) []) (c__law_take : C8.Cal P w K mg base 1 "_law_take" sp_law_take []) : FnOk P w K mg base CX0 23 f fd ["script"] (splaw K) := by
  refine F.ok sc_law (fun vs H Q E h => ?_) (fun cdv A outer s H vs Q E hr h => ?_)
  · obtain ⟨a, ns, rfl, _⟩ := h
    rfl
  · obtain ⟨a, ns, rfl, hS, hlen, q⟩ := h
    obtain ⟨_, g_LENGTH⟩ := N.c_LENGTH
    obtain ⟨_, g_DRIFT⟩ := N.c_DRIFT
    obtain ⟨_, g_MOST⟩ := N.c_MOST
    refine ⟨_, (pss_cons (ps_if (pt_cmpR (op_neD (hu64 hr)) (pe_tup (pa_cons (pe_glob (v := .int 20) rfl g_LENGTH ⟨_, rfl⟩) (pa_cons (pe_glob (v := .int 10) rfl g_DRIFT ⟨_, rfl⟩) (pa_cons (pe_glob (v := .int 300) rfl g_MOST ⟨_, rfl⟩) pa_nil)))) (pe_tup (pa_cons pe_int (pa_cons pe_int (pa_cons pe_int pa_nil)))) (nomark _))
 (pss_one (ps_ret pe_bl))
 pss_nil)
 (pss_cons (ps_for PassesOwn.never rfl (pi_range1 (by rfl) N.range (pa_cons (pe_op op_add pe_int (pe_callB (call_min2 rfl) (by rfl) N.min (by decide +kernel) (pa_cons (pe_callB call_len_seq (by rfl) N.len (by decide +kernel) (pa_cons (pv 0) pa_nil)) (pa_cons pe_int pa_nil)))) pa_nil)) (pg_name (i := 1) sc_law.nd rfl (.inl rfl))
 (pss_cons (ps_set (i := 2) sc_law.nd rfl (.inl rfl) (C8.pe_c c__law_bag hr (by decide) rfl (pa_cons (pv 0) (pa_cons (pv 1) pa_nil))))
 (pss_cons (ps_set (i := 3) sc_law.nd rfl (.inl rfl) (C8.pe_c c__law_take hr (by decide) rfl (pa_cons (pv 2) (pa_cons pe_int pa_nil))))
 (pss_cons (ps_set (i := 4) sc_law.nd rfl (.inl rfl) (C8.pe_c c__law_take hr (by decide) rfl (pa_cons (pv 2) (pa_cons pe_int pa_nil))))
 (pss_cons (ps_set (i := 5) sc_law.nd rfl (.inl rfl) (pe_callTy call_list_of (by rfl) N.list (by decide +kernel) (pa_cons (C8.pe_c c__law_setup hr (by decide) rfl (pa_cons (pv 2) (pa_cons pe_int pa_nil))) pa_nil)))
 (pss_cons (ps_if (pt_cmpR op_eq (pv 3) pe_int (nomark _))
 (pss_one (ps_asg (C8.pe_c c__law_spoilt hr (by decide) rfl (pa_cons (pv 2) (pa_cons (pe_ix ix_list (pv 5) (pv 4) (fun _ _ => rfl)) pa_nil))) (pg_sub (pv 5) (pv 4) set_list)))
 pss_nil)
 (pss_one (ps_for PassesOwn.never rfl (pi_range1 (by rfl) N.range (pa_cons pe_int pa_nil)) (pg_name (i := 6) sc_law.nd rfl (.inl rfl))
 (pss_cons (ps_set (i := 7) sc_law.nd rfl (.inl rfl) (pe_tup (pa_cons (pe_ix ix_list (pv 5) pe_int (fun _ _ => rfl)) (pa_cons (pe_ix ix_list (pv 5) pe_int (fun _ _ => rfl)) (pa_cons (pe_ifExp (pt_cmpR op_in_seq (pv 6) (pe_lst (pa_cons pe_int (pa_cons pe_int (pa_cons pe_int (pa_cons pe_int pa_nil))))) (by with_unfolding_all rfl)) (pe_ix ix_list (pv 5) pe_int (fun _ _ => rfl)) pe_int) (pa_cons (pe_ifExp (pt_cmpR op_in_seq (pv 6) (pe_lst (pa_cons pe_int (pa_cons pe_int (pa_cons pe_int (pa_cons pe_int pa_nil))))) (by with_unfolding_all rfl)) (pe_ix ix_list (pv 5) pe_int (fun _ _ => rfl)) pe_int) pa_nil))))))
 (pss_one (ps_if (pt_val (C8.pe_c c__law_is_setup hr (by decide) rfl (pa_cons (pv 7) pa_nil)))
 (pss_one (ps_if (PW.pt (pw_or (pt_cmpR (op_neD (hu64 hr)) (C8.pe_c c__law_made hr (by decide) rfl (pa_cons (pv 6) (pa_cons (pv 5) pa_nil))) (pe_tup (pa_cons (pv 7) (pa_cons pe_str pa_nil))) (nomark _)) (pw_or1 (pt_not (pt_val (C8.pe_c c__law_is_setup hr (by decide) rfl (pa_cons (pe_ix ix_tup (C8.pe_c c__law_made hr (by decide) rfl (pa_cons (pv 6) (pa_cons (pv 5) pa_nil))) pe_int (fun _ _ => rfl)) pa_nil)))))))
 (pss_one (ps_ret pe_bl))
 pss_nil))
 (pss_one (ps_if (pt_cmpR (op_neD (hu64 hr)) (C8.pe_c c__law_made hr (by decide) rfl (pa_cons (pv 6) (pa_cons (pv 5) pa_nil))) (pe_tup (pa_cons pe_non (pa_cons pe_str pa_nil))) (nomark _))
 (pss_one (ps_ret pe_bl))
 pss_nil)))))))))))))
 (pss_one (ps_ret pe_bl)))), ?_⟩
    refine ⟨three_ok _ _ _, fun p1 n1 => ⟨three_ok _ _ _, fun p2 n2 => ?_⟩⟩
    have m1 : Same H (upd H p1 (.tup [.int 20, .int 10, .int 300])) := same_upd n1
    have m2 := same_upd (o := .tup [.int 20, .int 10, .int 300]) n2
    refine ⟨.tuple [.int 20, .int 10, .int 300], .tuple [.int 20, .int 10, .int 300], .tup (SqT.of (m2 _ _ upd_same)) (.cons (.int _) (.cons (.int _) (.cons (.int _) .nil))), .tup (SqT.of upd_same) (.cons (.int _) (.cons (.int _) (.cons (.int _) .nil))), by decide +kernel, by decide +kernel, _, rfl, iteN0 (by decide +kernel) ?_⟩
    have m0 := m1.trans m2
    revert m0
    generalize upd (upd H p1 (.tup [.int 20, .int 10, .int 300])) p2 (.tup [.int 20, .int 10, .int 300]) = H0
    intro m0
    refine ⟨_, rfl, a, _, rfl, .inl (m0.seq hS), _, 20, rfl, 1, _, rfl, rfl, ?_⟩
    have hm : 0 ≤ (if (20 : Int) < ((ns.map V.int).length : Nat) then (20 : Int) else ((ns.map V.int).length : Nat)) ∧ (if (20 : Int) < ((ns.map V.int).length : Nat) then (20 : Int) else ((ns.map V.int).length : Nat)) ≤ 20 := by
      split <;> omega
    generalize (if (20 : Int) < ((ns.map V.int).length : Nat) then (20 : Int) else ((ns.map V.int).length : Nat)) = mn at hm ⊢
    refine ⟨1 + mn, rfl, by omega, by omega, for_range (fun _ σ H1 => ∃ y1 y2 y3 y4 y5 y6 y7, σ = [some (.ref a), y1, y2, y3, y4, y5, y6, y7] ∧ Same H H1) ⟨none, none, none, none, none, none, none, rfl, m0⟩ ?_ (fun σ H1 _ => q H1)⟩
    rintro i σ H1 hi ⟨y1, y2, y3, y4, y5, y6, y7, rfl, sm1⟩
    -- bag
    refine ⟨_, rfl, _, rfl, a, ns, _, rfl, sm1.seq hS, by omega, by omega, fun b H2 nb sm2 G2 => ?_⟩
    have nb0 : H b = none := sm1.free nb
    have s2 : Same H H2 := sm1.trans sm2
    refine ⟨_, rfl, b, 3, rfl, G2, by decide, by decide, fun c3 H3 c30 c31 B3 G3 => ?_⟩
    have s3 := same_but s2 nb0 B3
    refine ⟨_, rfl, b, 4, rfl, G3, by decide, by decide, fun c4 H4 c40 c41 B4 G4 => ?_⟩
    have s4 := same_but s3 nb0 B4
    -- four
    refine ⟨_, rfl, b, 1, rfl, G4, .inr rfl, fun p H5 np hSA B5 G5 => ?_⟩
    have s5 := same_but s4 nb0 B5
    obtain ⟨pf, pc, xf, xc, l, d, hp, hpf, hpc, af, ac, lf, lc, l0, l1, d0, d1⟩ := hSA.ex
    refine ⟨p, _, rfl, .inr (SqT.of hp), fun L nL => ?_⟩
    obtain ⟨df0, dc0, hf0, hc0, sz0⟩ := four_parts (K := K) G5 hpf hpc af ac lf (by omega) l0 l1 d0 d1
    have m6 : Same H5 (upd H5 L (.lst [.ref pf, .ref pc, .int l, .int d])) := same_upd nL
    have u6 : upd H5 L (.lst [.ref pf, .ref pc, .int l, .int d]) L = some (.lst [.ref pf, .ref pc, .int l, .int d]) := upd_same
    have G6 := G5.new (o := .lst [.ref pf, .ref pc, .int l, .int d]) nL
    have nLb : L ≠ b := G5.ne nL
    revert m6 u6 G6
    generalize upd H5 L (.lst [.ref pf, .ref pc, .int l, .int d]) = H6
    intro m6 u6 G6
    have s6 := s5.trans m6
    have b6 : But b H5 H6 := fun c o _ e => m6 _ _ e
    refine ⟨_, rfl, rfl, _, rfl, ite2 (fun _ => ?_) (fun _ => ?_)⟩
    · -- one of them spoilt
      obtain ⟨v0, d0', e0, hv0, z0⟩ : ∃ v0 d0', atI [.ref pf, .ref pc, .int l, .int d] c4 = some v0 ∧ Dp K (cut H5 b) v0 d0' ∧ (siz d0' ≤ 400 ∧ dep d0' ≤ 3 ∧ bit d0' ≤ 20) := by
        have hc4 : c4 = 0 ∨ c4 = 1 ∨ c4 = 2 ∨ c4 = 3 := by omega
        rcases hc4 with rfl | rfl | rfl | rfl
        · exact ⟨_, _, atI_nat (j := 0) rfl, hf0, sz0 _ (by simp)⟩
        · exact ⟨_, _, atI_nat (j := 1) rfl, hc0, sz0 _ (by simp)⟩
        · exact ⟨_, _, atI_nat (j := 2) rfl, .int l, sz0 _ (by simp)⟩
        · exact ⟨_, _, atI_nat (j := 3) rfl, .int d, sz0 _ (by simp)⟩
      obtain ⟨z1, z2, z3⟩ := z0
      refine ⟨_, rfl, _, rfl, _, rfl, L, _, _, v0, rfl, rfl, SqL.of u6, e0, b, v0, d0', cut H5 b, rfl, G6, cut_but b6, hv0, by omega, by omega, by omega, fun v1 d1' H7 hv1 k1 k2 k3 B7 G7 => ?_⟩
      have u7 : H7 L = some (.lst [.ref pf, .ref pc, .int l, .int d]) := B7 _ _ nLb u6
      obtain ⟨j4, hj4, hj4'⟩ : ∃ j4 : Nat, ixN [V.ref pf, .ref pc, .int l, .int d].length c4 = some j4 ∧ j4 < 4 := by
        have hc4 : c4 = 0 ∨ c4 = 1 ∨ c4 = 2 ∨ c4 = 3 := by omega
        rcases hc4 with rfl | rfl | rfl | rfl
        · exact ⟨0, (by show ixN 4 0 = some 0; decide), by decide⟩
        · exact ⟨1, (by show ixN 4 1 = some 1; decide), by decide⟩
        · exact ⟨2, (by show ixN 4 2 = some 2; decide), by decide⟩
        · exact ⟨3, (by show ixN 4 3 = some 3; decide), by decide⟩
      refine ⟨_, rfl, _, rfl, L, _, _, j4, rfl, rfl, u7, hj4, ?_⟩
      have k56 : ∀ {H8 : Hp}, (∀ c o, c ≠ L → H7 c = some o → H8 c = some o) → Same (cut H5 b) H8 := fun hh c o e => by
        have cb : c ≠ b := fun z => by rw [z] at e; unfold cut at e; rw [if_pos rfl] at e; cases e
        have e5 : H5 c = some o := by rw [cut_ne cb] at e; exact e
        exact hh c o (ne_of_none e5 nL) (B7 _ _ cb (m6 _ _ e5))
      have kv : ∀ {H8 : Hp}, (∀ c o, c ≠ L → H7 c = some o → H8 c = some o) → Same (grow (cut H5 b) H6 H7 b) H8 := fun hh c o e => by
        rcases grow_cases e with z | ⟨_, zn, z⟩
        · exact k56 hh c o z
        · have cL : c ≠ L := fun y => by rw [y, u6] at zn; cases zn
          exact hh c o cL (cut_same _ _ z)
      obtain ⟨vf, vc, vl, vd, df, dc, dl, dd, ev, hq, zz⟩ : ∃ vf vc vl vd df dc dl dd, [V.ref pf, .ref pc, .int l, .int d].set j4 v1 = [vf, vc, vl, vd] ∧ (∀ {H8 : Hp}, (∀ c o, c ≠ L → H7 c = some o → H8 c = some o) → Dp K H8 vf df ∧ Dp K H8 vc dc ∧ Dp K H8 vl dl ∧ Dp K H8 vd dd) ∧ (∀ e ∈ [df, dc, dl, dd], siz e ≤ 2000) := by
        have w1 := sz0 df0 (by simp)
        have w2 := sz0 dc0 (by simp)
        have w3 := sz0 (.int l) (by simp)
        have w4 := sz0 (.int d) (by simp)
        have hj : j4 = 0 ∨ j4 = 1 ∨ j4 = 2 ∨ j4 = 3 := by omega
        rcases hj with rfl | rfl | rfl | rfl
        · refine ⟨v1, .ref pc, .int l, .int d, d1', dc0, .int l, .int d, rfl, fun hh => ⟨dp_same (kv hh) _ _ hv1, dp_same (k56 hh) _ _ hc0, .int l, .int d⟩, fun e he => ?_⟩
          simp only [List.mem_cons, List.not_mem_nil, or_false] at he
          rcases he with rfl | rfl | rfl | rfl <;> omega
        · refine ⟨.ref pf, v1, .int l, .int d, df0, d1', .int l, .int d, rfl, fun hh => ⟨dp_same (k56 hh) _ _ hf0, dp_same (kv hh) _ _ hv1, .int l, .int d⟩, fun e he => ?_⟩
          simp only [List.mem_cons, List.not_mem_nil, or_false] at he
          rcases he with rfl | rfl | rfl | rfl <;> omega
        · refine ⟨.ref pf, .ref pc, v1, .int d, df0, dc0, d1', .int d, rfl, fun hh => ⟨dp_same (k56 hh) _ _ hf0, dp_same (k56 hh) _ _ hc0, dp_same (kv hh) _ _ hv1, .int d⟩, fun e he => ?_⟩
          simp only [List.mem_cons, List.not_mem_nil, or_false] at he
          rcases he with rfl | rfl | rfl | rfl <;> omega
        · refine ⟨.ref pf, .ref pc, .int l, v1, df0, dc0, .int l, d1', rfl, fun hh => ⟨dp_same (k56 hh) _ _ hf0, dp_same (k56 hh) _ _ hc0, .int l, dp_same (kv hh) _ _ hv1⟩, fun e he => ?_⟩
          simp only [List.mem_cons, List.not_mem_nil, or_false] at he
          rcases he with rfl | rfl | rfl | rfl <;> omega
      rw [ev]
      have hh8 : ∀ c o, c ≠ L → H7 c = some o → upd H7 L (.lst [vf, vc, vl, vd]) c = some o := fun c o ne e => by rw [upd_ne ne]; exact e
      obtain ⟨hf, hc, hl, hd⟩ := hq hh8
      have hL : upd H7 L (.lst [vf, vc, vl, vd]) L = some (.lst [vf, vc, vl, vd]) := upd_same
      have s8 : Same H (upd H7 L (.lst [vf, vc, vl, vd])) := fun c o e => hh8 c o (ne_of_none e (s5.free nL)) ((same_but s6 nb0 B7) c o e)
      revert hf hc hl hd hL s8
      generalize upd H7 L (.lst [vf, vc, vl, vd]) = H8
      intro hf hc hl hd hL s8
      refine ⟨6, rfl, by decide, by decide, for_range (fun j σ H9 => ∃ z6 z7, σ = [some (.ref a), some (.int (0 + (i : Int))), some (.ref b), some (.int c3), some (.int c4), some (.ref L), z6, z7] ∧ Same H8 H9) ⟨_, _, rfl, Same.refl _⟩ ?_ (fun σ H9 h9 => ?_)⟩
      · have a0 : atI [vf, vc, vl, vd] 0 = some vf := atI_nat (j := 0) rfl
        have a1 : atI [vf, vc, vl, vd] 1 = some vc := atI_nat (j := 1) rfl
        have a2 : atI [vf, vc, vl, vd] 2 = some vl := atI_nat (j := 2) rfl
        have a3 : atI [vf, vc, vl, vd] 3 = some vd := atI_nat (j := 3) rfl
        rintro j σ H9 hj ⟨z6, z7, rfl, s9⟩
        have hj6 : j = 0 ∨ j = 1 ∨ j = 2 ∨ j = 3 ∨ j = 4 ∨ j = 5 := by
          have : j < 6 := hj
          omega
        rcases hj6 with rfl | rfl | rfl | rfl | rfl | rfl
        · refine ⟨_, rfl, L, _, 0, vf, rfl, rfl, SqL.of (s9 _ _ hL), a0, _, rfl, L, _, 1, vc, rfl, rfl, SqL.of (s9 _ _ hL), a1, ?_⟩
          refine ⟨_, rfl, four_ok _ _ _ _, fun q1 nq1 => ⟨q1, _, rfl, .inl (SqL.of upd_same), rfl, rfl, _, rfl, ?_⟩⟩
          have g1 := same_upd (o := .lst [.int 0, .int 1, .int 3, .int 4]) nq1
          revert g1
          generalize upd H9 q1 (.lst [.int 0, .int 1, .int 3, .int 4]) = H10
          intro g1
          have s10 := s9.trans g1
          refine iteT ⟨_, rfl, L, _, 2, vl, rfl, rfl, SqL.of (s10 _ _ hL), a2, ?_⟩
          refine ⟨_, rfl, four_ok _ _ _ _, fun q2 nq2 => ⟨q2, _, rfl, .inl (SqL.of upd_same), rfl, rfl, _, rfl, ?_⟩⟩
          have g2 := same_upd (o := .lst [.int 0, .int 1, .int 2, .int 4]) nq2
          revert g2
          generalize upd H10 q2 (.lst [.int 0, .int 1, .int 2, .int 4]) = H11
          intro g2
          have s11 := s10.trans g2
          refine iteT ⟨_, rfl, L, _, 3, vd, rfl, rfl, SqL.of (s11 _ _ hL), a3, ?_⟩
          refine ⟨four_ok _ _ _ _, fun pd npd => ?_⟩
          have g3 := same_upd (o := .tup [vf, vc, vl, vd]) npd
          have u12 : upd H11 pd (.tup [vf, vc, vl, vd]) pd = some (.tup [vf, vc, lwV 0 vl, dwV 0 vd]) := upd_same
          revert g3 u12
          generalize upd H11 pd (.tup [vf, vc, vl, vd]) = H12
          intro g3 u12
          have s12 := s11.trans g3
          have lw := lw_dp (way := 0) hl
          have dw := dw_dp (way := 0) hd
          have sm4 := small4 (way := 0) zz
          have all : ∀ {H' : Hp}, Same H8 H' → DpAll K H' [vf, vc, lwV 0 vl, dwV 0 vd] [df, dc, lwD 0 dl, dwD 0 dd] := fun sm => .cons (dp_same sm _ _ hf) (.cons (dp_same sm _ _ hc) (.cons (dp_same sm _ _ lw) (.cons (dp_same sm _ _ dw) .nil)))
          refine ⟨_, rfl, _, .tuple [df, dc, lwD 0 dl, dwD 0 dd], rfl, .tup (SqT.of u12) (all s12), sm4, fun H13 g4 => ⟨_, rfl, ?_⟩⟩
          have s13 := s12.trans g4
          cases e : setupD (.tuple [df, dc, lwD 0 dl, dwD 0 dd]) with
          | true =>
            refine iteT ?_
            refine ⟨_, rfl, _, rfl, 0, L, vf, vc, vl, vd, df, dc, dl, dd, rfl, by decide, by decide, s13 _ _ hL, dp_same s13 _ _ hf, dp_same s13 _ _ hc, dp_same s13 _ _ hl, dp_same s13 _ _ hd, sm4, fun _ p r H14 g5 hr hp => ?_, fun e' => (by rw [e] at e'; cases e')⟩
            have s14 := s13.trans g5
            refine ⟨_, rfl, two_ok _ _, fun p3 np3 => ?_⟩
            have g6 := same_upd (o := .tup [.ref pd, .str ""]) np3
            have u15 : upd H14 p3 (.tup [.ref pd, .str ""]) p3 = some (.tup [.ref pd, .str ""]) := upd_same
            revert g6 u15
            generalize upd H14 p3 (.tup [.ref pd, .str ""]) = H15
            intro g6 u15
            have s15 := s14.trans g6
            have u12' := g6 _ _ (g5 _ _ (g4 _ _ u12))
            refine ⟨.tuple [.tuple [df, dc, lwD 0 dl, dwD 0 dd], .str ""], .tuple [.tuple [df, dc, lwD 0 dl, dwD 0 dd], .str ""], .tup (SqT.of (g6 _ _ hp)) (.cons (.tup (SqT.of (g6 _ _ hr)) (all s15)) (.cons (.str _) .nil)), .tup (SqT.of u15) (.cons (.tup (SqT.of u12') (all s15)) (.cons (.str _) .nil)), shp (lay_due e) (by decide), shp (lay_due e) (by decide), _, rfl, iteN0 (ne_self (lay_due e)) ?_⟩
            refine ⟨_, rfl, _, rfl, 0, L, vf, vc, vl, vd, df, dc, dl, dd, rfl, by decide, by decide, s15 _ _ hL, dp_same s15 _ _ hf, dp_same s15 _ _ hc, dp_same s15 _ _ hl, dp_same s15 _ _ hd, sm4, fun _ p' r' H16 g7 hr' hp' => ?_, fun e' => (by rw [e] at e'; cases e')⟩
            have s16 := s15.trans g7
            refine ⟨p', _, 0, .ref r', rfl, rfl, SqT.of hp', atI_nat (j := 0) rfl, _, .tuple [df, dc, lwD 0 dl, dwD 0 dd], rfl, .tup (SqT.of hr') (all s16), sm4, fun H17 g8 => ⟨_, rfl, ?_⟩⟩
            rw [e]
            exact iteF ⟨_, _, rfl, s16.trans g8⟩
          | false =>
            refine iteF ?_
            refine ⟨_, rfl, _, rfl, 0, L, vf, vc, vl, vd, df, dc, dl, dd, rfl, by decide, by decide, s13 _ _ hL, dp_same s13 _ _ hf, dp_same s13 _ _ hc, dp_same s13 _ _ hl, dp_same s13 _ _ hd, sm4, fun e' => (by rw [e] at e'; cases e'), fun _ p H14 g5 hp => ?_⟩
            have s14 := s13.trans g5
            refine ⟨two_ok _ _, fun p3 np3 => ?_⟩
            have g6 := same_upd (o := .tup [.non, .str "told NoSetup+"]) np3
            refine ⟨.tuple [.none, .str "told NoSetup+"], .tuple [.none, .str "told NoSetup+"], .tup (SqT.of (g6 _ _ hp)) (.cons .non (.cons (.str _) .nil)), .tup (SqT.of upd_same) (.cons .non (.cons (.str _) .nil)), shp lay_no (by decide), shp lay_no (by decide), _, rfl, iteN0 (ne_self lay_no) ?_⟩
            exact ⟨_, _, rfl, s14.trans g6⟩

        · refine ⟨_, rfl, L, _, 0, vf, rfl, rfl, SqL.of (s9 _ _ hL), a0, _, rfl, L, _, 1, vc, rfl, rfl, SqL.of (s9 _ _ hL), a1, ?_⟩
          refine ⟨_, rfl, four_ok _ _ _ _, fun q1 nq1 => ⟨q1, _, rfl, .inl (SqL.of upd_same), rfl, rfl, _, rfl, ?_⟩⟩
          have g1 := same_upd (o := .lst [.int 0, .int 1, .int 3, .int 4]) nq1
          revert g1
          generalize upd H9 q1 (.lst [.int 0, .int 1, .int 3, .int 4]) = H10
          intro g1
          have s10 := s9.trans g1
          refine iteT ⟨_, rfl, L, _, 2, vl, rfl, rfl, SqL.of (s10 _ _ hL), a2, ?_⟩
          refine ⟨_, rfl, four_ok _ _ _ _, fun q2 nq2 => ⟨q2, _, rfl, .inl (SqL.of upd_same), rfl, rfl, _, rfl, ?_⟩⟩
          have g2 := same_upd (o := .lst [.int 0, .int 1, .int 2, .int 4]) nq2
          revert g2
          generalize upd H10 q2 (.lst [.int 0, .int 1, .int 2, .int 4]) = H11
          intro g2
          have s11 := s10.trans g2
          refine iteT ⟨_, rfl, L, _, 3, vd, rfl, rfl, SqL.of (s11 _ _ hL), a3, ?_⟩
          refine ⟨four_ok _ _ _ _, fun pd npd => ?_⟩
          have g3 := same_upd (o := .tup [vf, vc, vl, vd]) npd
          have u12 : upd H11 pd (.tup [vf, vc, vl, vd]) pd = some (.tup [vf, vc, lwV 1 vl, dwV 1 vd]) := upd_same
          revert g3 u12
          generalize upd H11 pd (.tup [vf, vc, vl, vd]) = H12
          intro g3 u12
          have s12 := s11.trans g3
          have lw := lw_dp (way := 1) hl
          have dw := dw_dp (way := 1) hd
          have sm4 := small4 (way := 1) zz
          have all : ∀ {H' : Hp}, Same H8 H' → DpAll K H' [vf, vc, lwV 1 vl, dwV 1 vd] [df, dc, lwD 1 dl, dwD 1 dd] := fun sm => .cons (dp_same sm _ _ hf) (.cons (dp_same sm _ _ hc) (.cons (dp_same sm _ _ lw) (.cons (dp_same sm _ _ dw) .nil)))
          refine ⟨_, rfl, _, .tuple [df, dc, lwD 1 dl, dwD 1 dd], rfl, .tup (SqT.of u12) (all s12), sm4, fun H13 g4 => ⟨_, rfl, ?_⟩⟩
          have s13 := s12.trans g4
          cases e : setupD (.tuple [df, dc, lwD 1 dl, dwD 1 dd]) with
          | true =>
            refine iteT ?_
            refine ⟨_, rfl, _, rfl, 1, L, vf, vc, vl, vd, df, dc, dl, dd, rfl, by decide, by decide, s13 _ _ hL, dp_same s13 _ _ hf, dp_same s13 _ _ hc, dp_same s13 _ _ hl, dp_same s13 _ _ hd, sm4, fun _ p r H14 g5 hr hp => ?_, fun e' => (by rw [e] at e'; cases e')⟩
            have s14 := s13.trans g5
            refine ⟨_, rfl, two_ok _ _, fun p3 np3 => ?_⟩
            have g6 := same_upd (o := .tup [.ref pd, .str ""]) np3
            have u15 : upd H14 p3 (.tup [.ref pd, .str ""]) p3 = some (.tup [.ref pd, .str ""]) := upd_same
            revert g6 u15
            generalize upd H14 p3 (.tup [.ref pd, .str ""]) = H15
            intro g6 u15
            have s15 := s14.trans g6
            have u12' := g6 _ _ (g5 _ _ (g4 _ _ u12))
            refine ⟨.tuple [.tuple [df, dc, lwD 1 dl, dwD 1 dd], .str ""], .tuple [.tuple [df, dc, lwD 1 dl, dwD 1 dd], .str ""], .tup (SqT.of (g6 _ _ hp)) (.cons (.tup (SqT.of (g6 _ _ hr)) (all s15)) (.cons (.str _) .nil)), .tup (SqT.of u15) (.cons (.tup (SqT.of u12') (all s15)) (.cons (.str _) .nil)), shp (lay_due e) (by decide), shp (lay_due e) (by decide), _, rfl, iteN0 (ne_self (lay_due e)) ?_⟩
            refine ⟨_, rfl, _, rfl, 1, L, vf, vc, vl, vd, df, dc, dl, dd, rfl, by decide, by decide, s15 _ _ hL, dp_same s15 _ _ hf, dp_same s15 _ _ hc, dp_same s15 _ _ hl, dp_same s15 _ _ hd, sm4, fun _ p' r' H16 g7 hr' hp' => ?_, fun e' => (by rw [e] at e'; cases e')⟩
            have s16 := s15.trans g7
            refine ⟨p', _, 0, .ref r', rfl, rfl, SqT.of hp', atI_nat (j := 0) rfl, _, .tuple [df, dc, lwD 1 dl, dwD 1 dd], rfl, .tup (SqT.of hr') (all s16), sm4, fun H17 g8 => ⟨_, rfl, ?_⟩⟩
            rw [e]
            exact iteF ⟨_, _, rfl, s16.trans g8⟩
          | false =>
            refine iteF ?_
            refine ⟨_, rfl, _, rfl, 1, L, vf, vc, vl, vd, df, dc, dl, dd, rfl, by decide, by decide, s13 _ _ hL, dp_same s13 _ _ hf, dp_same s13 _ _ hc, dp_same s13 _ _ hl, dp_same s13 _ _ hd, sm4, fun e' => (by rw [e] at e'; cases e'), fun _ p H14 g5 hp => ?_⟩
            have s14 := s13.trans g5
            refine ⟨two_ok _ _, fun p3 np3 => ?_⟩
            have g6 := same_upd (o := .tup [.non, .str "told NoSetup+"]) np3
            refine ⟨.tuple [.none, .str "told NoSetup+"], .tuple [.none, .str "told NoSetup+"], .tup (SqT.of (g6 _ _ hp)) (.cons .non (.cons (.str _) .nil)), .tup (SqT.of upd_same) (.cons .non (.cons (.str _) .nil)), shp lay_no (by decide), shp lay_no (by decide), _, rfl, iteN0 (ne_self lay_no) ?_⟩
            exact ⟨_, _, rfl, s14.trans g6⟩

        · refine ⟨_, rfl, L, _, 0, vf, rfl, rfl, SqL.of (s9 _ _ hL), a0, _, rfl, L, _, 1, vc, rfl, rfl, SqL.of (s9 _ _ hL), a1, ?_⟩
          refine ⟨_, rfl, four_ok _ _ _ _, fun q1 nq1 => ⟨q1, _, rfl, .inl (SqL.of upd_same), rfl, rfl, _, rfl, ?_⟩⟩
          have g1 := same_upd (o := .lst [.int 0, .int 1, .int 3, .int 4]) nq1
          revert g1
          generalize upd H9 q1 (.lst [.int 0, .int 1, .int 3, .int 4]) = H10
          intro g1
          have s10 := s9.trans g1
          refine iteF ?_
          refine ⟨_, rfl, four_ok _ _ _ _, fun q2 nq2 => ⟨q2, _, rfl, .inl (SqL.of upd_same), rfl, rfl, _, rfl, ?_⟩⟩
          have g2 := same_upd (o := .lst [.int 0, .int 1, .int 2, .int 4]) nq2
          revert g2
          generalize upd H10 q2 (.lst [.int 0, .int 1, .int 2, .int 4]) = H11
          intro g2
          have s11 := s10.trans g2
          refine iteT ⟨_, rfl, L, _, 3, vd, rfl, rfl, SqL.of (s11 _ _ hL), a3, ?_⟩
          refine ⟨four_ok _ _ _ _, fun pd npd => ?_⟩
          have g3 := same_upd (o := .tup [vf, vc, .int 20, vd]) npd
          have u12 : upd H11 pd (.tup [vf, vc, .int 20, vd]) pd = some (.tup [vf, vc, lwV 2 vl, dwV 2 vd]) := upd_same
          revert g3 u12
          generalize upd H11 pd (.tup [vf, vc, .int 20, vd]) = H12
          intro g3 u12
          have s12 := s11.trans g3
          have lw := lw_dp (way := 2) hl
          have dw := dw_dp (way := 2) hd
          have sm4 := small4 (way := 2) zz
          have all : ∀ {H' : Hp}, Same H8 H' → DpAll K H' [vf, vc, lwV 2 vl, dwV 2 vd] [df, dc, lwD 2 dl, dwD 2 dd] := fun sm => .cons (dp_same sm _ _ hf) (.cons (dp_same sm _ _ hc) (.cons (dp_same sm _ _ lw) (.cons (dp_same sm _ _ dw) .nil)))
          refine ⟨_, rfl, _, .tuple [df, dc, lwD 2 dl, dwD 2 dd], rfl, .tup (SqT.of u12) (all s12), sm4, fun H13 g4 => ⟨_, rfl, ?_⟩⟩
          have s13 := s12.trans g4
          cases e : setupD (.tuple [df, dc, lwD 2 dl, dwD 2 dd]) with
          | true =>
            refine iteT ?_
            refine ⟨_, rfl, _, rfl, 2, L, vf, vc, vl, vd, df, dc, dl, dd, rfl, by decide, by decide, s13 _ _ hL, dp_same s13 _ _ hf, dp_same s13 _ _ hc, dp_same s13 _ _ hl, dp_same s13 _ _ hd, sm4, fun _ p r H14 g5 hr hp => ?_, fun e' => (by rw [e] at e'; cases e')⟩
            have s14 := s13.trans g5
            refine ⟨_, rfl, two_ok _ _, fun p3 np3 => ?_⟩
            have g6 := same_upd (o := .tup [.ref pd, .str ""]) np3
            have u15 : upd H14 p3 (.tup [.ref pd, .str ""]) p3 = some (.tup [.ref pd, .str ""]) := upd_same
            revert g6 u15
            generalize upd H14 p3 (.tup [.ref pd, .str ""]) = H15
            intro g6 u15
            have s15 := s14.trans g6
            have u12' := g6 _ _ (g5 _ _ (g4 _ _ u12))
            refine ⟨.tuple [.tuple [df, dc, lwD 2 dl, dwD 2 dd], .str ""], .tuple [.tuple [df, dc, lwD 2 dl, dwD 2 dd], .str ""], .tup (SqT.of (g6 _ _ hp)) (.cons (.tup (SqT.of (g6 _ _ hr)) (all s15)) (.cons (.str _) .nil)), .tup (SqT.of u15) (.cons (.tup (SqT.of u12') (all s15)) (.cons (.str _) .nil)), shp (lay_due e) (by decide), shp (lay_due e) (by decide), _, rfl, iteN0 (ne_self (lay_due e)) ?_⟩
            refine ⟨_, rfl, _, rfl, 2, L, vf, vc, vl, vd, df, dc, dl, dd, rfl, by decide, by decide, s15 _ _ hL, dp_same s15 _ _ hf, dp_same s15 _ _ hc, dp_same s15 _ _ hl, dp_same s15 _ _ hd, sm4, fun _ p' r' H16 g7 hr' hp' => ?_, fun e' => (by rw [e] at e'; cases e')⟩
            have s16 := s15.trans g7
            refine ⟨p', _, 0, .ref r', rfl, rfl, SqT.of hp', atI_nat (j := 0) rfl, _, .tuple [df, dc, lwD 2 dl, dwD 2 dd], rfl, .tup (SqT.of hr') (all s16), sm4, fun H17 g8 => ⟨_, rfl, ?_⟩⟩
            rw [e]
            exact iteF ⟨_, _, rfl, s16.trans g8⟩
          | false =>
            refine iteF ?_
            refine ⟨_, rfl, _, rfl, 2, L, vf, vc, vl, vd, df, dc, dl, dd, rfl, by decide, by decide, s13 _ _ hL, dp_same s13 _ _ hf, dp_same s13 _ _ hc, dp_same s13 _ _ hl, dp_same s13 _ _ hd, sm4, fun e' => (by rw [e] at e'; cases e'), fun _ p H14 g5 hp => ?_⟩
            have s14 := s13.trans g5
            refine ⟨two_ok _ _, fun p3 np3 => ?_⟩
            have g6 := same_upd (o := .tup [.non, .str "told NoSetup+"]) np3
            refine ⟨.tuple [.none, .str "told NoSetup+"], .tuple [.none, .str "told NoSetup+"], .tup (SqT.of (g6 _ _ hp)) (.cons .non (.cons (.str _) .nil)), .tup (SqT.of upd_same) (.cons .non (.cons (.str _) .nil)), shp lay_no (by decide), shp lay_no (by decide), _, rfl, iteN0 (ne_self lay_no) ?_⟩
            exact ⟨_, _, rfl, s14.trans g6⟩

        · refine ⟨_, rfl, L, _, 0, vf, rfl, rfl, SqL.of (s9 _ _ hL), a0, _, rfl, L, _, 1, vc, rfl, rfl, SqL.of (s9 _ _ hL), a1, ?_⟩
          refine ⟨_, rfl, four_ok _ _ _ _, fun q1 nq1 => ⟨q1, _, rfl, .inl (SqL.of upd_same), rfl, rfl, _, rfl, ?_⟩⟩
          have g1 := same_upd (o := .lst [.int 0, .int 1, .int 3, .int 4]) nq1
          revert g1
          generalize upd H9 q1 (.lst [.int 0, .int 1, .int 3, .int 4]) = H10
          intro g1
          have s10 := s9.trans g1
          refine iteT ⟨_, rfl, L, _, 2, vl, rfl, rfl, SqL.of (s10 _ _ hL), a2, ?_⟩
          refine ⟨_, rfl, four_ok _ _ _ _, fun q2 nq2 => ⟨q2, _, rfl, .inl (SqL.of upd_same), rfl, rfl, _, rfl, ?_⟩⟩
          have g2 := same_upd (o := .lst [.int 0, .int 1, .int 2, .int 4]) nq2
          revert g2
          generalize upd H10 q2 (.lst [.int 0, .int 1, .int 2, .int 4]) = H11
          intro g2
          have s11 := s10.trans g2
          refine iteF ?_
          refine ⟨four_ok _ _ _ _, fun pd npd => ?_⟩
          have g3 := same_upd (o := .tup [vf, vc, vl, .int 10]) npd
          have u12 : upd H11 pd (.tup [vf, vc, vl, .int 10]) pd = some (.tup [vf, vc, lwV 3 vl, dwV 3 vd]) := upd_same
          revert g3 u12
          generalize upd H11 pd (.tup [vf, vc, vl, .int 10]) = H12
          intro g3 u12
          have s12 := s11.trans g3
          have lw := lw_dp (way := 3) hl
          have dw := dw_dp (way := 3) hd
          have sm4 := small4 (way := 3) zz
          have all : ∀ {H' : Hp}, Same H8 H' → DpAll K H' [vf, vc, lwV 3 vl, dwV 3 vd] [df, dc, lwD 3 dl, dwD 3 dd] := fun sm => .cons (dp_same sm _ _ hf) (.cons (dp_same sm _ _ hc) (.cons (dp_same sm _ _ lw) (.cons (dp_same sm _ _ dw) .nil)))
          refine ⟨_, rfl, _, .tuple [df, dc, lwD 3 dl, dwD 3 dd], rfl, .tup (SqT.of u12) (all s12), sm4, fun H13 g4 => ⟨_, rfl, ?_⟩⟩
          have s13 := s12.trans g4
          cases e : setupD (.tuple [df, dc, lwD 3 dl, dwD 3 dd]) with
          | true =>
            refine iteT ?_
            refine ⟨_, rfl, _, rfl, 3, L, vf, vc, vl, vd, df, dc, dl, dd, rfl, by decide, by decide, s13 _ _ hL, dp_same s13 _ _ hf, dp_same s13 _ _ hc, dp_same s13 _ _ hl, dp_same s13 _ _ hd, sm4, fun _ p r H14 g5 hr hp => ?_, fun e' => (by rw [e] at e'; cases e')⟩
            have s14 := s13.trans g5
            refine ⟨_, rfl, two_ok _ _, fun p3 np3 => ?_⟩
            have g6 := same_upd (o := .tup [.ref pd, .str ""]) np3
            have u15 : upd H14 p3 (.tup [.ref pd, .str ""]) p3 = some (.tup [.ref pd, .str ""]) := upd_same
            revert g6 u15
            generalize upd H14 p3 (.tup [.ref pd, .str ""]) = H15
            intro g6 u15
            have s15 := s14.trans g6
            have u12' := g6 _ _ (g5 _ _ (g4 _ _ u12))
            refine ⟨.tuple [.tuple [df, dc, lwD 3 dl, dwD 3 dd], .str ""], .tuple [.tuple [df, dc, lwD 3 dl, dwD 3 dd], .str ""], .tup (SqT.of (g6 _ _ hp)) (.cons (.tup (SqT.of (g6 _ _ hr)) (all s15)) (.cons (.str _) .nil)), .tup (SqT.of u15) (.cons (.tup (SqT.of u12') (all s15)) (.cons (.str _) .nil)), shp (lay_due e) (by decide), shp (lay_due e) (by decide), _, rfl, iteN0 (ne_self (lay_due e)) ?_⟩
            refine ⟨_, rfl, _, rfl, 3, L, vf, vc, vl, vd, df, dc, dl, dd, rfl, by decide, by decide, s15 _ _ hL, dp_same s15 _ _ hf, dp_same s15 _ _ hc, dp_same s15 _ _ hl, dp_same s15 _ _ hd, sm4, fun _ p' r' H16 g7 hr' hp' => ?_, fun e' => (by rw [e] at e'; cases e')⟩
            have s16 := s15.trans g7
            refine ⟨p', _, 0, .ref r', rfl, rfl, SqT.of hp', atI_nat (j := 0) rfl, _, .tuple [df, dc, lwD 3 dl, dwD 3 dd], rfl, .tup (SqT.of hr') (all s16), sm4, fun H17 g8 => ⟨_, rfl, ?_⟩⟩
            rw [e]
            exact iteF ⟨_, _, rfl, s16.trans g8⟩
          | false =>
            refine iteF ?_
            refine ⟨_, rfl, _, rfl, 3, L, vf, vc, vl, vd, df, dc, dl, dd, rfl, by decide, by decide, s13 _ _ hL, dp_same s13 _ _ hf, dp_same s13 _ _ hc, dp_same s13 _ _ hl, dp_same s13 _ _ hd, sm4, fun e' => (by rw [e] at e'; cases e'), fun _ p H14 g5 hp => ?_⟩
            have s14 := s13.trans g5
            refine ⟨two_ok _ _, fun p3 np3 => ?_⟩
            have g6 := same_upd (o := .tup [.non, .str "told NoSetup+"]) np3
            refine ⟨.tuple [.none, .str "told NoSetup+"], .tuple [.none, .str "told NoSetup+"], .tup (SqT.of (g6 _ _ hp)) (.cons .non (.cons (.str _) .nil)), .tup (SqT.of upd_same) (.cons .non (.cons (.str _) .nil)), shp lay_no (by decide), shp lay_no (by decide), _, rfl, iteN0 (ne_self lay_no) ?_⟩
            exact ⟨_, _, rfl, s14.trans g6⟩

        · refine ⟨_, rfl, L, _, 0, vf, rfl, rfl, SqL.of (s9 _ _ hL), a0, _, rfl, L, _, 1, vc, rfl, rfl, SqL.of (s9 _ _ hL), a1, ?_⟩
          refine ⟨_, rfl, four_ok _ _ _ _, fun q1 nq1 => ⟨q1, _, rfl, .inl (SqL.of upd_same), rfl, rfl, _, rfl, ?_⟩⟩
          have g1 := same_upd (o := .lst [.int 0, .int 1, .int 3, .int 4]) nq1
          revert g1
          generalize upd H9 q1 (.lst [.int 0, .int 1, .int 3, .int 4]) = H10
          intro g1
          have s10 := s9.trans g1
          refine iteT ⟨_, rfl, L, _, 2, vl, rfl, rfl, SqL.of (s10 _ _ hL), a2, ?_⟩
          refine ⟨_, rfl, four_ok _ _ _ _, fun q2 nq2 => ⟨q2, _, rfl, .inl (SqL.of upd_same), rfl, rfl, _, rfl, ?_⟩⟩
          have g2 := same_upd (o := .lst [.int 0, .int 1, .int 2, .int 4]) nq2
          revert g2
          generalize upd H10 q2 (.lst [.int 0, .int 1, .int 2, .int 4]) = H11
          intro g2
          have s11 := s10.trans g2
          refine iteT ⟨_, rfl, L, _, 3, vd, rfl, rfl, SqL.of (s11 _ _ hL), a3, ?_⟩
          refine ⟨four_ok _ _ _ _, fun pd npd => ?_⟩
          have g3 := same_upd (o := .tup [vf, vc, vl, vd]) npd
          have u12 : upd H11 pd (.tup [vf, vc, vl, vd]) pd = some (.tup [vf, vc, lwV 4 vl, dwV 4 vd]) := upd_same
          revert g3 u12
          generalize upd H11 pd (.tup [vf, vc, vl, vd]) = H12
          intro g3 u12
          have s12 := s11.trans g3
          have lw := lw_dp (way := 4) hl
          have dw := dw_dp (way := 4) hd
          have sm4 := small4 (way := 4) zz
          have all : ∀ {H' : Hp}, Same H8 H' → DpAll K H' [vf, vc, lwV 4 vl, dwV 4 vd] [df, dc, lwD 4 dl, dwD 4 dd] := fun sm => .cons (dp_same sm _ _ hf) (.cons (dp_same sm _ _ hc) (.cons (dp_same sm _ _ lw) (.cons (dp_same sm _ _ dw) .nil)))
          refine ⟨_, rfl, _, .tuple [df, dc, lwD 4 dl, dwD 4 dd], rfl, .tup (SqT.of u12) (all s12), sm4, fun H13 g4 => ⟨_, rfl, ?_⟩⟩
          have s13 := s12.trans g4
          cases e : setupD (.tuple [df, dc, lwD 4 dl, dwD 4 dd]) with
          | true =>
            refine iteT ?_
            refine ⟨_, rfl, _, rfl, 4, L, vf, vc, vl, vd, df, dc, dl, dd, rfl, by decide, by decide, s13 _ _ hL, dp_same s13 _ _ hf, dp_same s13 _ _ hc, dp_same s13 _ _ hl, dp_same s13 _ _ hd, sm4, fun _ p r H14 g5 hr hp => ?_, fun e' => (by rw [e] at e'; cases e')⟩
            have s14 := s13.trans g5
            refine ⟨_, rfl, two_ok _ _, fun p3 np3 => ?_⟩
            have g6 := same_upd (o := .tup [.ref pd, .str ""]) np3
            have u15 : upd H14 p3 (.tup [.ref pd, .str ""]) p3 = some (.tup [.ref pd, .str ""]) := upd_same
            revert g6 u15
            generalize upd H14 p3 (.tup [.ref pd, .str ""]) = H15
            intro g6 u15
            have s15 := s14.trans g6
            have u12' := g6 _ _ (g5 _ _ (g4 _ _ u12))
            refine ⟨.tuple [.tuple [df, dc, lwD 4 dl, dwD 4 dd], .str ""], .tuple [.tuple [df, dc, lwD 4 dl, dwD 4 dd], .str ""], .tup (SqT.of (g6 _ _ hp)) (.cons (.tup (SqT.of (g6 _ _ hr)) (all s15)) (.cons (.str _) .nil)), .tup (SqT.of u15) (.cons (.tup (SqT.of u12') (all s15)) (.cons (.str _) .nil)), shp (lay_due e) (by decide), shp (lay_due e) (by decide), _, rfl, iteN0 (ne_self (lay_due e)) ?_⟩
            refine ⟨_, rfl, _, rfl, 4, L, vf, vc, vl, vd, df, dc, dl, dd, rfl, by decide, by decide, s15 _ _ hL, dp_same s15 _ _ hf, dp_same s15 _ _ hc, dp_same s15 _ _ hl, dp_same s15 _ _ hd, sm4, fun _ p' r' H16 g7 hr' hp' => ?_, fun e' => (by rw [e] at e'; cases e')⟩
            have s16 := s15.trans g7
            refine ⟨p', _, 0, .ref r', rfl, rfl, SqT.of hp', atI_nat (j := 0) rfl, _, .tuple [df, dc, lwD 4 dl, dwD 4 dd], rfl, .tup (SqT.of hr') (all s16), sm4, fun H17 g8 => ⟨_, rfl, ?_⟩⟩
            rw [e]
            exact iteF ⟨_, _, rfl, s16.trans g8⟩
          | false =>
            refine iteF ?_
            refine ⟨_, rfl, _, rfl, 4, L, vf, vc, vl, vd, df, dc, dl, dd, rfl, by decide, by decide, s13 _ _ hL, dp_same s13 _ _ hf, dp_same s13 _ _ hc, dp_same s13 _ _ hl, dp_same s13 _ _ hd, sm4, fun e' => (by rw [e] at e'; cases e'), fun _ p H14 g5 hp => ?_⟩
            have s14 := s13.trans g5
            refine ⟨two_ok _ _, fun p3 np3 => ?_⟩
            have g6 := same_upd (o := .tup [.non, .str "told NoSetup+"]) np3
            refine ⟨.tuple [.none, .str "told NoSetup+"], .tuple [.none, .str "told NoSetup+"], .tup (SqT.of (g6 _ _ hp)) (.cons .non (.cons (.str _) .nil)), .tup (SqT.of upd_same) (.cons .non (.cons (.str _) .nil)), shp lay_no (by decide), shp lay_no (by decide), _, rfl, iteN0 (ne_self lay_no) ?_⟩
            exact ⟨_, _, rfl, s14.trans g6⟩

        · refine ⟨_, rfl, L, _, 0, vf, rfl, rfl, SqL.of (s9 _ _ hL), a0, _, rfl, L, _, 1, vc, rfl, rfl, SqL.of (s9 _ _ hL), a1, ?_⟩
          refine ⟨_, rfl, four_ok _ _ _ _, fun q1 nq1 => ⟨q1, _, rfl, .inl (SqL.of upd_same), rfl, rfl, _, rfl, ?_⟩⟩
          have g1 := same_upd (o := .lst [.int 0, .int 1, .int 3, .int 4]) nq1
          revert g1
          generalize upd H9 q1 (.lst [.int 0, .int 1, .int 3, .int 4]) = H10
          intro g1
          have s10 := s9.trans g1
          refine iteF ?_
          refine ⟨_, rfl, four_ok _ _ _ _, fun q2 nq2 => ⟨q2, _, rfl, .inl (SqL.of upd_same), rfl, rfl, _, rfl, ?_⟩⟩
          have g2 := same_upd (o := .lst [.int 0, .int 1, .int 2, .int 4]) nq2
          revert g2
          generalize upd H10 q2 (.lst [.int 0, .int 1, .int 2, .int 4]) = H11
          intro g2
          have s11 := s10.trans g2
          refine iteF ?_
          refine ⟨four_ok _ _ _ _, fun pd npd => ?_⟩
          have g3 := same_upd (o := .tup [vf, vc, .int 20, .int 10]) npd
          have u12 : upd H11 pd (.tup [vf, vc, .int 20, .int 10]) pd = some (.tup [vf, vc, lwV 5 vl, dwV 5 vd]) := upd_same
          revert g3 u12
          generalize upd H11 pd (.tup [vf, vc, .int 20, .int 10]) = H12
          intro g3 u12
          have s12 := s11.trans g3
          have lw := lw_dp (way := 5) hl
          have dw := dw_dp (way := 5) hd
          have sm4 := small4 (way := 5) zz
          have all : ∀ {H' : Hp}, Same H8 H' → DpAll K H' [vf, vc, lwV 5 vl, dwV 5 vd] [df, dc, lwD 5 dl, dwD 5 dd] := fun sm => .cons (dp_same sm _ _ hf) (.cons (dp_same sm _ _ hc) (.cons (dp_same sm _ _ lw) (.cons (dp_same sm _ _ dw) .nil)))
          refine ⟨_, rfl, _, .tuple [df, dc, lwD 5 dl, dwD 5 dd], rfl, .tup (SqT.of u12) (all s12), sm4, fun H13 g4 => ⟨_, rfl, ?_⟩⟩
          have s13 := s12.trans g4
          cases e : setupD (.tuple [df, dc, lwD 5 dl, dwD 5 dd]) with
          | true =>
            refine iteT ?_
            refine ⟨_, rfl, _, rfl, 5, L, vf, vc, vl, vd, df, dc, dl, dd, rfl, by decide, by decide, s13 _ _ hL, dp_same s13 _ _ hf, dp_same s13 _ _ hc, dp_same s13 _ _ hl, dp_same s13 _ _ hd, sm4, fun _ p r H14 g5 hr hp => ?_, fun e' => (by rw [e] at e'; cases e')⟩
            have s14 := s13.trans g5
            refine ⟨_, rfl, two_ok _ _, fun p3 np3 => ?_⟩
            have g6 := same_upd (o := .tup [.ref pd, .str ""]) np3
            have u15 : upd H14 p3 (.tup [.ref pd, .str ""]) p3 = some (.tup [.ref pd, .str ""]) := upd_same
            revert g6 u15
            generalize upd H14 p3 (.tup [.ref pd, .str ""]) = H15
            intro g6 u15
            have s15 := s14.trans g6
            have u12' := g6 _ _ (g5 _ _ (g4 _ _ u12))
            refine ⟨.tuple [.tuple [df, dc, lwD 5 dl, dwD 5 dd], .str ""], .tuple [.tuple [df, dc, lwD 5 dl, dwD 5 dd], .str ""], .tup (SqT.of (g6 _ _ hp)) (.cons (.tup (SqT.of (g6 _ _ hr)) (all s15)) (.cons (.str _) .nil)), .tup (SqT.of u15) (.cons (.tup (SqT.of u12') (all s15)) (.cons (.str _) .nil)), shp (lay_due e) (by decide), shp (lay_due e) (by decide), _, rfl, iteN0 (ne_self (lay_due e)) ?_⟩
            refine ⟨_, rfl, _, rfl, 5, L, vf, vc, vl, vd, df, dc, dl, dd, rfl, by decide, by decide, s15 _ _ hL, dp_same s15 _ _ hf, dp_same s15 _ _ hc, dp_same s15 _ _ hl, dp_same s15 _ _ hd, sm4, fun _ p' r' H16 g7 hr' hp' => ?_, fun e' => (by rw [e] at e'; cases e')⟩
            have s16 := s15.trans g7
            refine ⟨p', _, 0, .ref r', rfl, rfl, SqT.of hp', atI_nat (j := 0) rfl, _, .tuple [df, dc, lwD 5 dl, dwD 5 dd], rfl, .tup (SqT.of hr') (all s16), sm4, fun H17 g8 => ⟨_, rfl, ?_⟩⟩
            rw [e]
            exact iteF ⟨_, _, rfl, s16.trans g8⟩
          | false =>
            refine iteF ?_
            refine ⟨_, rfl, _, rfl, 5, L, vf, vc, vl, vd, df, dc, dl, dd, rfl, by decide, by decide, s13 _ _ hL, dp_same s13 _ _ hf, dp_same s13 _ _ hc, dp_same s13 _ _ hl, dp_same s13 _ _ hd, sm4, fun e' => (by rw [e] at e'; cases e'), fun _ p H14 g5 hp => ?_⟩
            have s14 := s13.trans g5
            refine ⟨two_ok _ _, fun p3 np3 => ?_⟩
            have g6 := same_upd (o := .tup [.non, .str "told NoSetup+"]) np3
            refine ⟨.tuple [.none, .str "told NoSetup+"], .tuple [.none, .str "told NoSetup+"], .tup (SqT.of (g6 _ _ hp)) (.cons .non (.cons (.str _) .nil)), .tup (SqT.of upd_same) (.cons .non (.cons (.str _) .nil)), shp lay_no (by decide), shp lay_no (by decide), _, rfl, iteN0 (ne_self lay_no) ?_⟩
            exact ⟨_, _, rfl, s14.trans g6⟩
      · obtain ⟨z6, z7, rfl, s9⟩ := h9
        exact ⟨_, _, _, _, _, _, _, rfl, s8.trans s9⟩
    · have hf : Dp K H6 (.ref pf) df0 := dp_same (cut_same.trans m6) _ _ hf0
      have hc : Dp K H6 (.ref pc) dc0 := dp_same (cut_same.trans m6) _ _ hc0
      have hl : Dp K H6 (.int l) (.int l) := .int l
      have hd : Dp K H6 (.int d) (.int d) := .int d
      have zz : ∀ e ∈ [df0, dc0, PyData.int l, .int d], siz e ≤ 2000 := fun e he => Nat.le_trans (sz0 e he).1 (by decide)
      have s8 := s6
      have hL := u6
      revert hf hc hl hd hL s8 zz
      generalize V.ref pf = vf
      generalize V.ref pc = vc
      generalize V.int l = vl
      generalize V.int d = vd
      generalize PyData.int l = dl
      generalize PyData.int d = dd
      generalize df0 = df
      generalize dc0 = dc
      generalize H6 = H8
      intro hf hc hl hd zz s8 hL
      refine ⟨6, rfl, by decide, by decide, for_range (fun j σ H9 => ∃ z6 z7, σ = [some (.ref a), some (.int (0 + (i : Int))), some (.ref b), some (.int c3), some (.int c4), some (.ref L), z6, z7] ∧ Same H8 H9) ⟨_, _, rfl, Same.refl _⟩ ?_ (fun σ H9 h9 => ?_)⟩
      · have a0 : atI [vf, vc, vl, vd] 0 = some vf := atI_nat (j := 0) rfl
        have a1 : atI [vf, vc, vl, vd] 1 = some vc := atI_nat (j := 1) rfl
        have a2 : atI [vf, vc, vl, vd] 2 = some vl := atI_nat (j := 2) rfl
        have a3 : atI [vf, vc, vl, vd] 3 = some vd := atI_nat (j := 3) rfl
        rintro j σ H9 hj ⟨z6, z7, rfl, s9⟩
        have hj6 : j = 0 ∨ j = 1 ∨ j = 2 ∨ j = 3 ∨ j = 4 ∨ j = 5 := by
          have : j < 6 := hj
          omega
        rcases hj6 with rfl | rfl | rfl | rfl | rfl | rfl
        · refine ⟨_, rfl, L, _, 0, vf, rfl, rfl, SqL.of (s9 _ _ hL), a0, _, rfl, L, _, 1, vc, rfl, rfl, SqL.of (s9 _ _ hL), a1, ?_⟩
          refine ⟨_, rfl, four_ok _ _ _ _, fun q1 nq1 => ⟨q1, _, rfl, .inl (SqL.of upd_same), rfl, rfl, _, rfl, ?_⟩⟩
          have g1 := same_upd (o := .lst [.int 0, .int 1, .int 3, .int 4]) nq1
          revert g1
          generalize upd H9 q1 (.lst [.int 0, .int 1, .int 3, .int 4]) = H10
          intro g1
          have s10 := s9.trans g1
          refine iteT ⟨_, rfl, L, _, 2, vl, rfl, rfl, SqL.of (s10 _ _ hL), a2, ?_⟩
          refine ⟨_, rfl, four_ok _ _ _ _, fun q2 nq2 => ⟨q2, _, rfl, .inl (SqL.of upd_same), rfl, rfl, _, rfl, ?_⟩⟩
          have g2 := same_upd (o := .lst [.int 0, .int 1, .int 2, .int 4]) nq2
          revert g2
          generalize upd H10 q2 (.lst [.int 0, .int 1, .int 2, .int 4]) = H11
          intro g2
          have s11 := s10.trans g2
          refine iteT ⟨_, rfl, L, _, 3, vd, rfl, rfl, SqL.of (s11 _ _ hL), a3, ?_⟩
          refine ⟨four_ok _ _ _ _, fun pd npd => ?_⟩
          have g3 := same_upd (o := .tup [vf, vc, vl, vd]) npd
          have u12 : upd H11 pd (.tup [vf, vc, vl, vd]) pd = some (.tup [vf, vc, lwV 0 vl, dwV 0 vd]) := upd_same
          revert g3 u12
          generalize upd H11 pd (.tup [vf, vc, vl, vd]) = H12
          intro g3 u12
          have s12 := s11.trans g3
          have lw := lw_dp (way := 0) hl
          have dw := dw_dp (way := 0) hd
          have sm4 := small4 (way := 0) zz
          have all : ∀ {H' : Hp}, Same H8 H' → DpAll K H' [vf, vc, lwV 0 vl, dwV 0 vd] [df, dc, lwD 0 dl, dwD 0 dd] := fun sm => .cons (dp_same sm _ _ hf) (.cons (dp_same sm _ _ hc) (.cons (dp_same sm _ _ lw) (.cons (dp_same sm _ _ dw) .nil)))
          refine ⟨_, rfl, _, .tuple [df, dc, lwD 0 dl, dwD 0 dd], rfl, .tup (SqT.of u12) (all s12), sm4, fun H13 g4 => ⟨_, rfl, ?_⟩⟩
          have s13 := s12.trans g4
          cases e : setupD (.tuple [df, dc, lwD 0 dl, dwD 0 dd]) with
          | true =>
            refine iteT ?_
            refine ⟨_, rfl, _, rfl, 0, L, vf, vc, vl, vd, df, dc, dl, dd, rfl, by decide, by decide, s13 _ _ hL, dp_same s13 _ _ hf, dp_same s13 _ _ hc, dp_same s13 _ _ hl, dp_same s13 _ _ hd, sm4, fun _ p r H14 g5 hr hp => ?_, fun e' => (by rw [e] at e'; cases e')⟩
            have s14 := s13.trans g5
            refine ⟨_, rfl, two_ok _ _, fun p3 np3 => ?_⟩
            have g6 := same_upd (o := .tup [.ref pd, .str ""]) np3
            have u15 : upd H14 p3 (.tup [.ref pd, .str ""]) p3 = some (.tup [.ref pd, .str ""]) := upd_same
            revert g6 u15
            generalize upd H14 p3 (.tup [.ref pd, .str ""]) = H15
            intro g6 u15
            have s15 := s14.trans g6
            have u12' := g6 _ _ (g5 _ _ (g4 _ _ u12))
            refine ⟨.tuple [.tuple [df, dc, lwD 0 dl, dwD 0 dd], .str ""], .tuple [.tuple [df, dc, lwD 0 dl, dwD 0 dd], .str ""], .tup (SqT.of (g6 _ _ hp)) (.cons (.tup (SqT.of (g6 _ _ hr)) (all s15)) (.cons (.str _) .nil)), .tup (SqT.of u15) (.cons (.tup (SqT.of u12') (all s15)) (.cons (.str _) .nil)), shp (lay_due e) (by decide), shp (lay_due e) (by decide), _, rfl, iteN0 (ne_self (lay_due e)) ?_⟩
            refine ⟨_, rfl, _, rfl, 0, L, vf, vc, vl, vd, df, dc, dl, dd, rfl, by decide, by decide, s15 _ _ hL, dp_same s15 _ _ hf, dp_same s15 _ _ hc, dp_same s15 _ _ hl, dp_same s15 _ _ hd, sm4, fun _ p' r' H16 g7 hr' hp' => ?_, fun e' => (by rw [e] at e'; cases e')⟩
            have s16 := s15.trans g7
            refine ⟨p', _, 0, .ref r', rfl, rfl, SqT.of hp', atI_nat (j := 0) rfl, _, .tuple [df, dc, lwD 0 dl, dwD 0 dd], rfl, .tup (SqT.of hr') (all s16), sm4, fun H17 g8 => ⟨_, rfl, ?_⟩⟩
            rw [e]
            exact iteF ⟨_, _, rfl, s16.trans g8⟩
          | false =>
            refine iteF ?_
            refine ⟨_, rfl, _, rfl, 0, L, vf, vc, vl, vd, df, dc, dl, dd, rfl, by decide, by decide, s13 _ _ hL, dp_same s13 _ _ hf, dp_same s13 _ _ hc, dp_same s13 _ _ hl, dp_same s13 _ _ hd, sm4, fun e' => (by rw [e] at e'; cases e'), fun _ p H14 g5 hp => ?_⟩
            have s14 := s13.trans g5
            refine ⟨two_ok _ _, fun p3 np3 => ?_⟩
            have g6 := same_upd (o := .tup [.non, .str "told NoSetup+"]) np3
            refine ⟨.tuple [.none, .str "told NoSetup+"], .tuple [.none, .str "told NoSetup+"], .tup (SqT.of (g6 _ _ hp)) (.cons .non (.cons (.str _) .nil)), .tup (SqT.of upd_same) (.cons .non (.cons (.str _) .nil)), shp lay_no (by decide), shp lay_no (by decide), _, rfl, iteN0 (ne_self lay_no) ?_⟩
            exact ⟨_, _, rfl, s14.trans g6⟩

        · refine ⟨_, rfl, L, _, 0, vf, rfl, rfl, SqL.of (s9 _ _ hL), a0, _, rfl, L, _, 1, vc, rfl, rfl, SqL.of (s9 _ _ hL), a1, ?_⟩
          refine ⟨_, rfl, four_ok _ _ _ _, fun q1 nq1 => ⟨q1, _, rfl, .inl (SqL.of upd_same), rfl, rfl, _, rfl, ?_⟩⟩
          have g1 := same_upd (o := .lst [.int 0, .int 1, .int 3, .int 4]) nq1
          revert g1
          generalize upd H9 q1 (.lst [.int 0, .int 1, .int 3, .int 4]) = H10
          intro g1
          have s10 := s9.trans g1
          refine iteT ⟨_, rfl, L, _, 2, vl, rfl, rfl, SqL.of (s10 _ _ hL), a2, ?_⟩
          refine ⟨_, rfl, four_ok _ _ _ _, fun q2 nq2 => ⟨q2, _, rfl, .inl (SqL.of upd_same), rfl, rfl, _, rfl, ?_⟩⟩
          have g2 := same_upd (o := .lst [.int 0, .int 1, .int 2, .int 4]) nq2
          revert g2
          generalize upd H10 q2 (.lst [.int 0, .int 1, .int 2, .int 4]) = H11
          intro g2
          have s11 := s10.trans g2
          refine iteT ⟨_, rfl, L, _, 3, vd, rfl, rfl, SqL.of (s11 _ _ hL), a3, ?_⟩
          refine ⟨four_ok _ _ _ _, fun pd npd => ?_⟩
          have g3 := same_upd (o := .tup [vf, vc, vl, vd]) npd
          have u12 : upd H11 pd (.tup [vf, vc, vl, vd]) pd = some (.tup [vf, vc, lwV 1 vl, dwV 1 vd]) := upd_same
          revert g3 u12
          generalize upd H11 pd (.tup [vf, vc, vl, vd]) = H12
          intro g3 u12
          have s12 := s11.trans g3
          have lw := lw_dp (way := 1) hl
          have dw := dw_dp (way := 1) hd
          have sm4 := small4 (way := 1) zz
          have all : ∀ {H' : Hp}, Same H8 H' → DpAll K H' [vf, vc, lwV 1 vl, dwV 1 vd] [df, dc, lwD 1 dl, dwD 1 dd] := fun sm => .cons (dp_same sm _ _ hf) (.cons (dp_same sm _ _ hc) (.cons (dp_same sm _ _ lw) (.cons (dp_same sm _ _ dw) .nil)))
          refine ⟨_, rfl, _, .tuple [df, dc, lwD 1 dl, dwD 1 dd], rfl, .tup (SqT.of u12) (all s12), sm4, fun H13 g4 => ⟨_, rfl, ?_⟩⟩
          have s13 := s12.trans g4
          cases e : setupD (.tuple [df, dc, lwD 1 dl, dwD 1 dd]) with
          | true =>
            refine iteT ?_
            refine ⟨_, rfl, _, rfl, 1, L, vf, vc, vl, vd, df, dc, dl, dd, rfl, by decide, by decide, s13 _ _ hL, dp_same s13 _ _ hf, dp_same s13 _ _ hc, dp_same s13 _ _ hl, dp_same s13 _ _ hd, sm4, fun _ p r H14 g5 hr hp => ?_, fun e' => (by rw [e] at e'; cases e')⟩
            have s14 := s13.trans g5
            refine ⟨_, rfl, two_ok _ _, fun p3 np3 => ?_⟩
            have g6 := same_upd (o := .tup [.ref pd, .str ""]) np3
            have u15 : upd H14 p3 (.tup [.ref pd, .str ""]) p3 = some (.tup [.ref pd, .str ""]) := upd_same
            revert g6 u15
            generalize upd H14 p3 (.tup [.ref pd, .str ""]) = H15
            intro g6 u15
            have s15 := s14.trans g6
            have u12' := g6 _ _ (g5 _ _ (g4 _ _ u12))
            refine ⟨.tuple [.tuple [df, dc, lwD 1 dl, dwD 1 dd], .str ""], .tuple [.tuple [df, dc, lwD 1 dl, dwD 1 dd], .str ""], .tup (SqT.of (g6 _ _ hp)) (.cons (.tup (SqT.of (g6 _ _ hr)) (all s15)) (.cons (.str _) .nil)), .tup (SqT.of u15) (.cons (.tup (SqT.of u12') (all s15)) (.cons (.str _) .nil)), shp (lay_due e) (by decide), shp (lay_due e) (by decide), _, rfl, iteN0 (ne_self (lay_due e)) ?_⟩
            refine ⟨_, rfl, _, rfl, 1, L, vf, vc, vl, vd, df, dc, dl, dd, rfl, by decide, by decide, s15 _ _ hL, dp_same s15 _ _ hf, dp_same s15 _ _ hc, dp_same s15 _ _ hl, dp_same s15 _ _ hd, sm4, fun _ p' r' H16 g7 hr' hp' => ?_, fun e' => (by rw [e] at e'; cases e')⟩
            have s16 := s15.trans g7
            refine ⟨p', _, 0, .ref r', rfl, rfl, SqT.of hp', atI_nat (j := 0) rfl, _, .tuple [df, dc, lwD 1 dl, dwD 1 dd], rfl, .tup (SqT.of hr') (all s16), sm4, fun H17 g8 => ⟨_, rfl, ?_⟩⟩
            rw [e]
            exact iteF ⟨_, _, rfl, s16.trans g8⟩
          | false =>
            refine iteF ?_
            refine ⟨_, rfl, _, rfl, 1, L, vf, vc, vl, vd, df, dc, dl, dd, rfl, by decide, by decide, s13 _ _ hL, dp_same s13 _ _ hf, dp_same s13 _ _ hc, dp_same s13 _ _ hl, dp_same s13 _ _ hd, sm4, fun e' => (by rw [e] at e'; cases e'), fun _ p H14 g5 hp => ?_⟩
            have s14 := s13.trans g5
            refine ⟨two_ok _ _, fun p3 np3 => ?_⟩
            have g6 := same_upd (o := .tup [.non, .str "told NoSetup+"]) np3
            refine ⟨.tuple [.none, .str "told NoSetup+"], .tuple [.none, .str "told NoSetup+"], .tup (SqT.of (g6 _ _ hp)) (.cons .non (.cons (.str _) .nil)), .tup (SqT.of upd_same) (.cons .non (.cons (.str _) .nil)), shp lay_no (by decide), shp lay_no (by decide), _, rfl, iteN0 (ne_self lay_no) ?_⟩
            exact ⟨_, _, rfl, s14.trans g6⟩

        · refine ⟨_, rfl, L, _, 0, vf, rfl, rfl, SqL.of (s9 _ _ hL), a0, _, rfl, L, _, 1, vc, rfl, rfl, SqL.of (s9 _ _ hL), a1, ?_⟩
          refine ⟨_, rfl, four_ok _ _ _ _, fun q1 nq1 => ⟨q1, _, rfl, .inl (SqL.of upd_same), rfl, rfl, _, rfl, ?_⟩⟩
          have g1 := same_upd (o := .lst [.int 0, .int 1, .int 3, .int 4]) nq1
          revert g1
          generalize upd H9 q1 (.lst [.int 0, .int 1, .int 3, .int 4]) = H10
          intro g1
          have s10 := s9.trans g1
          refine iteF ?_
          refine ⟨_, rfl, four_ok _ _ _ _, fun q2 nq2 => ⟨q2, _, rfl, .inl (SqL.of upd_same), rfl, rfl, _, rfl, ?_⟩⟩
          have g2 := same_upd (o := .lst [.int 0, .int 1, .int 2, .int 4]) nq2
          revert g2
          generalize upd H10 q2 (.lst [.int 0, .int 1, .int 2, .int 4]) = H11
          intro g2
          have s11 := s10.trans g2
          refine iteT ⟨_, rfl, L, _, 3, vd, rfl, rfl, SqL.of (s11 _ _ hL), a3, ?_⟩
          refine ⟨four_ok _ _ _ _, fun pd npd => ?_⟩
          have g3 := same_upd (o := .tup [vf, vc, .int 20, vd]) npd
          have u12 : upd H11 pd (.tup [vf, vc, .int 20, vd]) pd = some (.tup [vf, vc, lwV 2 vl, dwV 2 vd]) := upd_same
          revert g3 u12
          generalize upd H11 pd (.tup [vf, vc, .int 20, vd]) = H12
          intro g3 u12
          have s12 := s11.trans g3
          have lw := lw_dp (way := 2) hl
          have dw := dw_dp (way := 2) hd
          have sm4 := small4 (way := 2) zz
          have all : ∀ {H' : Hp}, Same H8 H' → DpAll K H' [vf, vc, lwV 2 vl, dwV 2 vd] [df, dc, lwD 2 dl, dwD 2 dd] := fun sm => .cons (dp_same sm _ _ hf) (.cons (dp_same sm _ _ hc) (.cons (dp_same sm _ _ lw) (.cons (dp_same sm _ _ dw) .nil)))
          refine ⟨_, rfl, _, .tuple [df, dc, lwD 2 dl, dwD 2 dd], rfl, .tup (SqT.of u12) (all s12), sm4, fun H13 g4 => ⟨_, rfl, ?_⟩⟩
          have s13 := s12.trans g4
          cases e : setupD (.tuple [df, dc, lwD 2 dl, dwD 2 dd]) with
          | true =>
            refine iteT ?_
            refine ⟨_, rfl, _, rfl, 2, L, vf, vc, vl, vd, df, dc, dl, dd, rfl, by decide, by decide, s13 _ _ hL, dp_same s13 _ _ hf, dp_same s13 _ _ hc, dp_same s13 _ _ hl, dp_same s13 _ _ hd, sm4, fun _ p r H14 g5 hr hp => ?_, fun e' => (by rw [e] at e'; cases e')⟩
            have s14 := s13.trans g5
            refine ⟨_, rfl, two_ok _ _, fun p3 np3 => ?_⟩
            have g6 := same_upd (o := .tup [.ref pd, .str ""]) np3
            have u15 : upd H14 p3 (.tup [.ref pd, .str ""]) p3 = some (.tup [.ref pd, .str ""]) := upd_same
            revert g6 u15
            generalize upd H14 p3 (.tup [.ref pd, .str ""]) = H15
            intro g6 u15
            have s15 := s14.trans g6
            have u12' := g6 _ _ (g5 _ _ (g4 _ _ u12))
            refine ⟨.tuple [.tuple [df, dc, lwD 2 dl, dwD 2 dd], .str ""], .tuple [.tuple [df, dc, lwD 2 dl, dwD 2 dd], .str ""], .tup (SqT.of (g6 _ _ hp)) (.cons (.tup (SqT.of (g6 _ _ hr)) (all s15)) (.cons (.str _) .nil)), .tup (SqT.of u15) (.cons (.tup (SqT.of u12') (all s15)) (.cons (.str _) .nil)), shp (lay_due e) (by decide), shp (lay_due e) (by decide), _, rfl, iteN0 (ne_self (lay_due e)) ?_⟩
            refine ⟨_, rfl, _, rfl, 2, L, vf, vc, vl, vd, df, dc, dl, dd, rfl, by decide, by decide, s15 _ _ hL, dp_same s15 _ _ hf, dp_same s15 _ _ hc, dp_same s15 _ _ hl, dp_same s15 _ _ hd, sm4, fun _ p' r' H16 g7 hr' hp' => ?_, fun e' => (by rw [e] at e'; cases e')⟩
            have s16 := s15.trans g7
            refine ⟨p', _, 0, .ref r', rfl, rfl, SqT.of hp', atI_nat (j := 0) rfl, _, .tuple [df, dc, lwD 2 dl, dwD 2 dd], rfl, .tup (SqT.of hr') (all s16), sm4, fun H17 g8 => ⟨_, rfl, ?_⟩⟩
            rw [e]
            exact iteF ⟨_, _, rfl, s16.trans g8⟩
          | false =>
            refine iteF ?_
            refine ⟨_, rfl, _, rfl, 2, L, vf, vc, vl, vd, df, dc, dl, dd, rfl, by decide, by decide, s13 _ _ hL, dp_same s13 _ _ hf, dp_same s13 _ _ hc, dp_same s13 _ _ hl, dp_same s13 _ _ hd, sm4, fun e' => (by rw [e] at e'; cases e'), fun _ p H14 g5 hp => ?_⟩
            have s14 := s13.trans g5
            refine ⟨two_ok _ _, fun p3 np3 => ?_⟩
            have g6 := same_upd (o := .tup [.non, .str "told NoSetup+"]) np3
            refine ⟨.tuple [.none, .str "told NoSetup+"], .tuple [.none, .str "told NoSetup+"], .tup (SqT.of (g6 _ _ hp)) (.cons .non (.cons (.str _) .nil)), .tup (SqT.of upd_same) (.cons .non (.cons (.str _) .nil)), shp lay_no (by decide), shp lay_no (by decide), _, rfl, iteN0 (ne_self lay_no) ?_⟩
            exact ⟨_, _, rfl, s14.trans g6⟩

        · refine ⟨_, rfl, L, _, 0, vf, rfl, rfl, SqL.of (s9 _ _ hL), a0, _, rfl, L, _, 1, vc, rfl, rfl, SqL.of (s9 _ _ hL), a1, ?_⟩
          refine ⟨_, rfl, four_ok _ _ _ _, fun q1 nq1 => ⟨q1, _, rfl, .inl (SqL.of upd_same), rfl, rfl, _, rfl, ?_⟩⟩
          have g1 := same_upd (o := .lst [.int 0, .int 1, .int 3, .int 4]) nq1
          revert g1
          generalize upd H9 q1 (.lst [.int 0, .int 1, .int 3, .int 4]) = H10
          intro g1
          have s10 := s9.trans g1
          refine iteT ⟨_, rfl, L, _, 2, vl, rfl, rfl, SqL.of (s10 _ _ hL), a2, ?_⟩
          refine ⟨_, rfl, four_ok _ _ _ _, fun q2 nq2 => ⟨q2, _, rfl, .inl (SqL.of upd_same), rfl, rfl, _, rfl, ?_⟩⟩
          have g2 := same_upd (o := .lst [.int 0, .int 1, .int 2, .int 4]) nq2
          revert g2
          generalize upd H10 q2 (.lst [.int 0, .int 1, .int 2, .int 4]) = H11
          intro g2
          have s11 := s10.trans g2
          refine iteF ?_
          refine ⟨four_ok _ _ _ _, fun pd npd => ?_⟩
          have g3 := same_upd (o := .tup [vf, vc, vl, .int 10]) npd
          have u12 : upd H11 pd (.tup [vf, vc, vl, .int 10]) pd = some (.tup [vf, vc, lwV 3 vl, dwV 3 vd]) := upd_same
          revert g3 u12
          generalize upd H11 pd (.tup [vf, vc, vl, .int 10]) = H12
          intro g3 u12
          have s12 := s11.trans g3
          have lw := lw_dp (way := 3) hl
          have dw := dw_dp (way := 3) hd
          have sm4 := small4 (way := 3) zz
          have all : ∀ {H' : Hp}, Same H8 H' → DpAll K H' [vf, vc, lwV 3 vl, dwV 3 vd] [df, dc, lwD 3 dl, dwD 3 dd] := fun sm => .cons (dp_same sm _ _ hf) (.cons (dp_same sm _ _ hc) (.cons (dp_same sm _ _ lw) (.cons (dp_same sm _ _ dw) .nil)))
          refine ⟨_, rfl, _, .tuple [df, dc, lwD 3 dl, dwD 3 dd], rfl, .tup (SqT.of u12) (all s12), sm4, fun H13 g4 => ⟨_, rfl, ?_⟩⟩
          have s13 := s12.trans g4
          cases e : setupD (.tuple [df, dc, lwD 3 dl, dwD 3 dd]) with
          | true =>
            refine iteT ?_
            refine ⟨_, rfl, _, rfl, 3, L, vf, vc, vl, vd, df, dc, dl, dd, rfl, by decide, by decide, s13 _ _ hL, dp_same s13 _ _ hf, dp_same s13 _ _ hc, dp_same s13 _ _ hl, dp_same s13 _ _ hd, sm4, fun _ p r H14 g5 hr hp => ?_, fun e' => (by rw [e] at e'; cases e')⟩
            have s14 := s13.trans g5
            refine ⟨_, rfl, two_ok _ _, fun p3 np3 => ?_⟩
            have g6 := same_upd (o := .tup [.ref pd, .str ""]) np3
            have u15 : upd H14 p3 (.tup [.ref pd, .str ""]) p3 = some (.tup [.ref pd, .str ""]) := upd_same
            revert g6 u15
            generalize upd H14 p3 (.tup [.ref pd, .str ""]) = H15
            intro g6 u15
            have s15 := s14.trans g6
            have u12' := g6 _ _ (g5 _ _ (g4 _ _ u12))
            refine ⟨.tuple [.tuple [df, dc, lwD 3 dl, dwD 3 dd], .str ""], .tuple [.tuple [df, dc, lwD 3 dl, dwD 3 dd], .str ""], .tup (SqT.of (g6 _ _ hp)) (.cons (.tup (SqT.of (g6 _ _ hr)) (all s15)) (.cons (.str _) .nil)), .tup (SqT.of u15) (.cons (.tup (SqT.of u12') (all s15)) (.cons (.str _) .nil)), shp (lay_due e) (by decide), shp (lay_due e) (by decide), _, rfl, iteN0 (ne_self (lay_due e)) ?_⟩
            refine ⟨_, rfl, _, rfl, 3, L, vf, vc, vl, vd, df, dc, dl, dd, rfl, by decide, by decide, s15 _ _ hL, dp_same s15 _ _ hf, dp_same s15 _ _ hc, dp_same s15 _ _ hl, dp_same s15 _ _ hd, sm4, fun _ p' r' H16 g7 hr' hp' => ?_, fun e' => (by rw [e] at e'; cases e')⟩
            have s16 := s15.trans g7
            refine ⟨p', _, 0, .ref r', rfl, rfl, SqT.of hp', atI_nat (j := 0) rfl, _, .tuple [df, dc, lwD 3 dl, dwD 3 dd], rfl, .tup (SqT.of hr') (all s16), sm4, fun H17 g8 => ⟨_, rfl, ?_⟩⟩
            rw [e]
            exact iteF ⟨_, _, rfl, s16.trans g8⟩
          | false =>
            refine iteF ?_
            refine ⟨_, rfl, _, rfl, 3, L, vf, vc, vl, vd, df, dc, dl, dd, rfl, by decide, by decide, s13 _ _ hL, dp_same s13 _ _ hf, dp_same s13 _ _ hc, dp_same s13 _ _ hl, dp_same s13 _ _ hd, sm4, fun e' => (by rw [e] at e'; cases e'), fun _ p H14 g5 hp => ?_⟩
            have s14 := s13.trans g5
            refine ⟨two_ok _ _, fun p3 np3 => ?_⟩
            have g6 := same_upd (o := .tup [.non, .str "told NoSetup+"]) np3
            refine ⟨.tuple [.none, .str "told NoSetup+"], .tuple [.none, .str "told NoSetup+"], .tup (SqT.of (g6 _ _ hp)) (.cons .non (.cons (.str _) .nil)), .tup (SqT.of upd_same) (.cons .non (.cons (.str _) .nil)), shp lay_no (by decide), shp lay_no (by decide), _, rfl, iteN0 (ne_self lay_no) ?_⟩
            exact ⟨_, _, rfl, s14.trans g6⟩

        · refine ⟨_, rfl, L, _, 0, vf, rfl, rfl, SqL.of (s9 _ _ hL), a0, _, rfl, L, _, 1, vc, rfl, rfl, SqL.of (s9 _ _ hL), a1, ?_⟩
          refine ⟨_, rfl, four_ok _ _ _ _, fun q1 nq1 => ⟨q1, _, rfl, .inl (SqL.of upd_same), rfl, rfl, _, rfl, ?_⟩⟩
          have g1 := same_upd (o := .lst [.int 0, .int 1, .int 3, .int 4]) nq1
          revert g1
          generalize upd H9 q1 (.lst [.int 0, .int 1, .int 3, .int 4]) = H10
          intro g1
          have s10 := s9.trans g1
          refine iteT ⟨_, rfl, L, _, 2, vl, rfl, rfl, SqL.of (s10 _ _ hL), a2, ?_⟩
          refine ⟨_, rfl, four_ok _ _ _ _, fun q2 nq2 => ⟨q2, _, rfl, .inl (SqL.of upd_same), rfl, rfl, _, rfl, ?_⟩⟩
          have g2 := same_upd (o := .lst [.int 0, .int 1, .int 2, .int 4]) nq2
          revert g2
          generalize upd H10 q2 (.lst [.int 0, .int 1, .int 2, .int 4]) = H11
          intro g2
          have s11 := s10.trans g2
          refine iteT ⟨_, rfl, L, _, 3, vd, rfl, rfl, SqL.of (s11 _ _ hL), a3, ?_⟩
          refine ⟨four_ok _ _ _ _, fun pd npd => ?_⟩
          have g3 := same_upd (o := .tup [vf, vc, vl, vd]) npd
          have u12 : upd H11 pd (.tup [vf, vc, vl, vd]) pd = some (.tup [vf, vc, lwV 4 vl, dwV 4 vd]) := upd_same
          revert g3 u12
          generalize upd H11 pd (.tup [vf, vc, vl, vd]) = H12
          intro g3 u12
          have s12 := s11.trans g3
          have lw := lw_dp (way := 4) hl
          have dw := dw_dp (way := 4) hd
          have sm4 := small4 (way := 4) zz
          have all : ∀ {H' : Hp}, Same H8 H' → DpAll K H' [vf, vc, lwV 4 vl, dwV 4 vd] [df, dc, lwD 4 dl, dwD 4 dd] := fun sm => .cons (dp_same sm _ _ hf) (.cons (dp_same sm _ _ hc) (.cons (dp_same sm _ _ lw) (.cons (dp_same sm _ _ dw) .nil)))
          refine ⟨_, rfl, _, .tuple [df, dc, lwD 4 dl, dwD 4 dd], rfl, .tup (SqT.of u12) (all s12), sm4, fun H13 g4 => ⟨_, rfl, ?_⟩⟩
          have s13 := s12.trans g4
          cases e : setupD (.tuple [df, dc, lwD 4 dl, dwD 4 dd]) with
          | true =>
            refine iteT ?_
            refine ⟨_, rfl, _, rfl, 4, L, vf, vc, vl, vd, df, dc, dl, dd, rfl, by decide, by decide, s13 _ _ hL, dp_same s13 _ _ hf, dp_same s13 _ _ hc, dp_same s13 _ _ hl, dp_same s13 _ _ hd, sm4, fun _ p r H14 g5 hr hp => ?_, fun e' => (by rw [e] at e'; cases e')⟩
            have s14 := s13.trans g5
            refine ⟨_, rfl, two_ok _ _, fun p3 np3 => ?_⟩
            have g6 := same_upd (o := .tup [.ref pd, .str ""]) np3
            have u15 : upd H14 p3 (.tup [.ref pd, .str ""]) p3 = some (.tup [.ref pd, .str ""]) := upd_same
            revert g6 u15
            generalize upd H14 p3 (.tup [.ref pd, .str ""]) = H15
            intro g6 u15
            have s15 := s14.trans g6
            have u12' := g6 _ _ (g5 _ _ (g4 _ _ u12))
            refine ⟨.tuple [.tuple [df, dc, lwD 4 dl, dwD 4 dd], .str ""], .tuple [.tuple [df, dc, lwD 4 dl, dwD 4 dd], .str ""], .tup (SqT.of (g6 _ _ hp)) (.cons (.tup (SqT.of (g6 _ _ hr)) (all s15)) (.cons (.str _) .nil)), .tup (SqT.of u15) (.cons (.tup (SqT.of u12') (all s15)) (.cons (.str _) .nil)), shp (lay_due e) (by decide), shp (lay_due e) (by decide), _, rfl, iteN0 (ne_self (lay_due e)) ?_⟩
            refine ⟨_, rfl, _, rfl, 4, L, vf, vc, vl, vd, df, dc, dl, dd, rfl, by decide, by decide, s15 _ _ hL, dp_same s15 _ _ hf, dp_same s15 _ _ hc, dp_same s15 _ _ hl, dp_same s15 _ _ hd, sm4, fun _ p' r' H16 g7 hr' hp' => ?_, fun e' => (by rw [e] at e'; cases e')⟩
            have s16 := s15.trans g7
            refine ⟨p', _, 0, .ref r', rfl, rfl, SqT.of hp', atI_nat (j := 0) rfl, _, .tuple [df, dc, lwD 4 dl, dwD 4 dd], rfl, .tup (SqT.of hr') (all s16), sm4, fun H17 g8 => ⟨_, rfl, ?_⟩⟩
            rw [e]
            exact iteF ⟨_, _, rfl, s16.trans g8⟩
          | false =>
            refine iteF ?_
            refine ⟨_, rfl, _, rfl, 4, L, vf, vc, vl, vd, df, dc, dl, dd, rfl, by decide, by decide, s13 _ _ hL, dp_same s13 _ _ hf, dp_same s13 _ _ hc, dp_same s13 _ _ hl, dp_same s13 _ _ hd, sm4, fun e' => (by rw [e] at e'; cases e'), fun _ p H14 g5 hp => ?_⟩
            have s14 := s13.trans g5
            refine ⟨two_ok _ _, fun p3 np3 => ?_⟩
            have g6 := same_upd (o := .tup [.non, .str "told NoSetup+"]) np3
            refine ⟨.tuple [.none, .str "told NoSetup+"], .tuple [.none, .str "told NoSetup+"], .tup (SqT.of (g6 _ _ hp)) (.cons .non (.cons (.str _) .nil)), .tup (SqT.of upd_same) (.cons .non (.cons (.str _) .nil)), shp lay_no (by decide), shp lay_no (by decide), _, rfl, iteN0 (ne_self lay_no) ?_⟩
            exact ⟨_, _, rfl, s14.trans g6⟩

        · refine ⟨_, rfl, L, _, 0, vf, rfl, rfl, SqL.of (s9 _ _ hL), a0, _, rfl, L, _, 1, vc, rfl, rfl, SqL.of (s9 _ _ hL), a1, ?_⟩
          refine ⟨_, rfl, four_ok _ _ _ _, fun q1 nq1 => ⟨q1, _, rfl, .inl (SqL.of upd_same), rfl, rfl, _, rfl, ?_⟩⟩
          have g1 := same_upd (o := .lst [.int 0, .int 1, .int 3, .int 4]) nq1
          revert g1
          generalize upd H9 q1 (.lst [.int 0, .int 1, .int 3, .int 4]) = H10
          intro g1
          have s10 := s9.trans g1
          refine iteF ?_
          refine ⟨_, rfl, four_ok _ _ _ _, fun q2 nq2 => ⟨q2, _, rfl, .inl (SqL.of upd_same), rfl, rfl, _, rfl, ?_⟩⟩
          have g2 := same_upd (o := .lst [.int 0, .int 1, .int 2, .int 4]) nq2
          revert g2
          generalize upd H10 q2 (.lst [.int 0, .int 1, .int 2, .int 4]) = H11
          intro g2
          have s11 := s10.trans g2
          refine iteF ?_
          refine ⟨four_ok _ _ _ _, fun pd npd => ?_⟩
          have g3 := same_upd (o := .tup [vf, vc, .int 20, .int 10]) npd
          have u12 : upd H11 pd (.tup [vf, vc, .int 20, .int 10]) pd = some (.tup [vf, vc, lwV 5 vl, dwV 5 vd]) := upd_same
          revert g3 u12
          generalize upd H11 pd (.tup [vf, vc, .int 20, .int 10]) = H12
          intro g3 u12
          have s12 := s11.trans g3
          have lw := lw_dp (way := 5) hl
          have dw := dw_dp (way := 5) hd
          have sm4 := small4 (way := 5) zz
          have all : ∀ {H' : Hp}, Same H8 H' → DpAll K H' [vf, vc, lwV 5 vl, dwV 5 vd] [df, dc, lwD 5 dl, dwD 5 dd] := fun sm => .cons (dp_same sm _ _ hf) (.cons (dp_same sm _ _ hc) (.cons (dp_same sm _ _ lw) (.cons (dp_same sm _ _ dw) .nil)))
          refine ⟨_, rfl, _, .tuple [df, dc, lwD 5 dl, dwD 5 dd], rfl, .tup (SqT.of u12) (all s12), sm4, fun H13 g4 => ⟨_, rfl, ?_⟩⟩
          have s13 := s12.trans g4
          cases e : setupD (.tuple [df, dc, lwD 5 dl, dwD 5 dd]) with
          | true =>
            refine iteT ?_
            refine ⟨_, rfl, _, rfl, 5, L, vf, vc, vl, vd, df, dc, dl, dd, rfl, by decide, by decide, s13 _ _ hL, dp_same s13 _ _ hf, dp_same s13 _ _ hc, dp_same s13 _ _ hl, dp_same s13 _ _ hd, sm4, fun _ p r H14 g5 hr hp => ?_, fun e' => (by rw [e] at e'; cases e')⟩
            have s14 := s13.trans g5
            refine ⟨_, rfl, two_ok _ _, fun p3 np3 => ?_⟩
            have g6 := same_upd (o := .tup [.ref pd, .str ""]) np3
            have u15 : upd H14 p3 (.tup [.ref pd, .str ""]) p3 = some (.tup [.ref pd, .str ""]) := upd_same
            revert g6 u15
            generalize upd H14 p3 (.tup [.ref pd, .str ""]) = H15
            intro g6 u15
            have s15 := s14.trans g6
            have u12' := g6 _ _ (g5 _ _ (g4 _ _ u12))
            refine ⟨.tuple [.tuple [df, dc, lwD 5 dl, dwD 5 dd], .str ""], .tuple [.tuple [df, dc, lwD 5 dl, dwD 5 dd], .str ""], .tup (SqT.of (g6 _ _ hp)) (.cons (.tup (SqT.of (g6 _ _ hr)) (all s15)) (.cons (.str _) .nil)), .tup (SqT.of u15) (.cons (.tup (SqT.of u12') (all s15)) (.cons (.str _) .nil)), shp (lay_due e) (by decide), shp (lay_due e) (by decide), _, rfl, iteN0 (ne_self (lay_due e)) ?_⟩
            refine ⟨_, rfl, _, rfl, 5, L, vf, vc, vl, vd, df, dc, dl, dd, rfl, by decide, by decide, s15 _ _ hL, dp_same s15 _ _ hf, dp_same s15 _ _ hc, dp_same s15 _ _ hl, dp_same s15 _ _ hd, sm4, fun _ p' r' H16 g7 hr' hp' => ?_, fun e' => (by rw [e] at e'; cases e')⟩
            have s16 := s15.trans g7
            refine ⟨p', _, 0, .ref r', rfl, rfl, SqT.of hp', atI_nat (j := 0) rfl, _, .tuple [df, dc, lwD 5 dl, dwD 5 dd], rfl, .tup (SqT.of hr') (all s16), sm4, fun H17 g8 => ⟨_, rfl, ?_⟩⟩
            rw [e]
            exact iteF ⟨_, _, rfl, s16.trans g8⟩
          | false =>
            refine iteF ?_
            refine ⟨_, rfl, _, rfl, 5, L, vf, vc, vl, vd, df, dc, dl, dd, rfl, by decide, by decide, s13 _ _ hL, dp_same s13 _ _ hf, dp_same s13 _ _ hc, dp_same s13 _ _ hl, dp_same s13 _ _ hd, sm4, fun e' => (by rw [e] at e'; cases e'), fun _ p H14 g5 hp => ?_⟩
            have s14 := s13.trans g5
            refine ⟨two_ok _ _, fun p3 np3 => ?_⟩
            have g6 := same_upd (o := .tup [.non, .str "told NoSetup+"]) np3
            refine ⟨.tuple [.none, .str "told NoSetup+"], .tuple [.none, .str "told NoSetup+"], .tup (SqT.of (g6 _ _ hp)) (.cons .non (.cons (.str _) .nil)), .tup (SqT.of upd_same) (.cons .non (.cons (.str _) .nil)), shp lay_no (by decide), shp lay_no (by decide), _, rfl, iteN0 (ne_self lay_no) ?_⟩
            exact ⟨_, _, rfl, s14.trans g6⟩
      · obtain ⟨z6, z7, rfl, s9⟩ := h9
        exact ⟨_, _, _, _, _, _, _, rfl, s8.trans s9⟩

end
theorem all_mk {l : PySem.W.OpenLaw} {w : World} {K : PySem.W.Frag} {h : Heap} {mg : Str → Option Value} {fa f0 f1 f2 f3 f4 f5 f6 f7 f8 f9 f10 f11 f12 f13 f14 f15 f16 f17 f18 f19 f20 f21 f22 f23 f24 f25 : Addr} (X : K.In h) (G : h.Ns mainGlobals mg) (hfa : mg "law" = some (.ref fa))
    {od0 an0 : Option Addr} {sl0 : Array (Option Value)} {oc0 kV0 dc0 pm0 cd0 ct0 : Value} {od1 an1 : Option Addr} {sl1 : Array (Option Value)} {oc1 kV1 dc1 pm1 cd1 ct1 : Value} {od2 an2 : Option Addr} {sl2 : Array (Option Value)} {oc2 kV2 dc2 pm2 cd2 ct2 : Value} {od3 an3 : Option Addr} {sl3 : Array (Option Value)} {oc3 kV3 dc3 pm3 cd3 ct3 : Value} {od4 an4 : Option Addr} {sl4 : Array (Option Value)} {oc4 kV4 dc4 pm4 cd4 ct4 : Value} {od5 an5 : Option Addr} {sl5 : Array (Option Value)} {oc5 kV5 dc5 pm5 cd5 ct5 : Value} {od6 an6 : Option Addr} {sl6 : Array (Option Value)} {oc6 kV6 dc6 pm6 cd6 ct6 : Value} {od7 an7 : Option Addr} {sl7 : Array (Option Value)} {oc7 kV7 dc7 pm7 cd7 ct7 : Value} {od8 an8 : Option Addr} {sl8 : Array (Option Value)} {oc8 kV8 dc8 pm8 cd8 ct8 : Value} {od9 an9 : Option Addr} {sl9 : Array (Option Value)} {oc9 kV9 dc9 pm9 cd9 ct9 : Value} {od10 an10 : Option Addr} {sl10 : Array (Option Value)} {oc10  dc10 pm10 cd10 ct10 : Value} {D10 : Addr} {t10_length t10_drift : Tok} {od11 an11 : Option Addr} {sl11 : Array (Option Value)} {oc11 kV11 dc11 pm11 cd11 ct11 : Value} {od12 an12 : Option Addr} {sl12 : Array (Option Value)} {oc12 kV12 dc12 pm12 cd12 ct12 : Value} {od13 an13 : Option Addr} {sl13 : Array (Option Value)} {oc13 kV13 dc13 pm13 cd13 ct13 : Value} {od14 an14 : Option Addr} {sl14 : Array (Option Value)} {oc14 kV14 dc14 pm14 cd14 ct14 : Value} {od15 an15 : Option Addr} {sl15 : Array (Option Value)} {oc15 kV15 dc15 pm15 cd15 ct15 : Value} {od16 an16 : Option Addr} {sl16 : Array (Option Value)} {oc16 kV16 dc16 pm16 cd16 ct16 : Value} {od17 an17 : Option Addr} {sl17 : Array (Option Value)} {oc17 kV17 dc17 pm17 cd17 ct17 : Value} {od18 an18 : Option Addr} {sl18 : Array (Option Value)} {oc18 kV18 dc18 pm18 cd18 ct18 : Value} {od19 an19 : Option Addr} {sl19 : Array (Option Value)} {oc19 kV19 dc19 pm19 cd19 ct19 : Value} {od20 an20 : Option Addr} {sl20 : Array (Option Value)} {oc20 kV20 dc20 pm20 cd20 ct20 : Value} {od21 an21 : Option Addr} {sl21 : Array (Option Value)} {oc21 kV21 dc21 pm21 cd21 ct21 : Value} {od22 an22 : Option Addr} {sl22 : Array (Option Value)} {oc22 kV22 dc22 pm22 cd22 ct22 : Value} {od23 an23 : Option Addr} {sl23 : Array (Option Value)} {oc23 kV23 dc23 pm23 cd23 ct23 : Value} {od24 an24 : Option Addr} {sl24 : Array (Option Value)} {oc24 kV24 dc24 pm24 cd24 ct24 : Value} {od25 an25 : Option Addr} {sl25 : Array (Option Value)} {oc25 kV25 dc25 pm25 cd25 ct25 : Value} {tc_LETTERS : Tok} {tc_LONGEST_NAME : Tok} {tc_LENGTH : Tok} {tc_DRIFT : Tok} {tc_MOST : Tok} {tc_SERVER : Tok} {cl_ToldError : Addr} {cl_AskedError : Addr} {cl_NoSetup : Addr} {cl_NoText : Addr} {cl_NoRow : Addr} {cl_TooMany : Addr} {cl_NoClient : Addr} {cl_NoFile : Addr} {cl_NoPage : Addr} {cl_NoValue : Addr} {cl_NoTicks : Addr} {cl_NoMessage : Addr} {cl_Busy : Addr} {cl_NotWaiting : Addr} {cl_NoLease : Addr} {cl_Clean : Addr} {cl_NothingLeft : Addr} {cl_NoList : Addr} {cl_TooDeep : Addr} {cl_LendError : Addr}
    (a0 : PySem.W.nsIn K mainGlobals "is_whole" = some (some (.ref f0)))
    (l0 : K.lookup f0 = some ⟨oc0, od0, .func (PySem.W.fnOf "is_whole" "is_whole" (defArgs s_is_whole) (defBody s_is_whole) (defScope s_is_whole) .none kV0 dc0 pm0 an0 cd0 ct0), sl0⟩)
    (c0 : PySem.W.codeIn K cd0 "is_whole" = true) (k0 : PySem.W.keepIn K (.ref f0) = true)
    (a1 : PySem.W.nsIn K mainGlobals "is_within" = some (some (.ref f1)))
    (l1 : K.lookup f1 = some ⟨oc1, od1, .func (PySem.W.fnOf "is_within" "is_within" (defArgs s_is_within) (defBody s_is_within) (defScope s_is_within) .none kV1 dc1 pm1 an1 cd1 ct1), sl1⟩)
    (c1 : PySem.W.codeIn K cd1 "is_within" = true) (k1 : PySem.W.keepIn K (.ref f1) = true)
    (a2 : PySem.W.nsIn K mainGlobals "is_name" = some (some (.ref f2)))
    (l2 : K.lookup f2 = some ⟨oc2, od2, .func (PySem.W.fnOf "is_name" "is_name" (defArgs s_is_name) (defBody s_is_name) (defScope s_is_name) .none kV2 dc2 pm2 an2 cd2 ct2), sl2⟩)
    (c2 : PySem.W.codeIn K cd2 "is_name" = true) (k2 : PySem.W.keepIn K (.ref f2) = true)
    (a3 : PySem.W.nsIn K mainGlobals "is_tuple" = some (some (.ref f3)))
    (l3 : K.lookup f3 = some ⟨oc3, od3, .func (PySem.W.fnOf "is_tuple" "is_tuple" (defArgs s_is_tuple) (defBody s_is_tuple) (defScope s_is_tuple) .none kV3 dc3 pm3 an3 cd3 ct3), sl3⟩)
    (c3 : PySem.W.codeIn K cd3 "is_tuple" = true) (k3 : PySem.W.keepIn K (.ref f3) = true)
    (a4 : PySem.W.nsIn K mainGlobals "is_rising" = some (some (.ref f4)))
    (l4 : K.lookup f4 = some ⟨oc4, od4, .func (PySem.W.fnOf "is_rising" "is_rising" (defArgs s_is_rising) (defBody s_is_rising) (defScope s_is_rising) .none kV4 dc4 pm4 an4 cd4 ct4), sl4⟩)
    (c4 : PySem.W.codeIn K cd4 "is_rising" = true) (k4 : PySem.W.keepIn K (.ref f4) = true)
    (a5 : PySem.W.nsIn K mainGlobals "is_file" = some (some (.ref f5)))
    (l5 : K.lookup f5 = some ⟨oc5, od5, .func (PySem.W.fnOf "is_file" "is_file" (defArgs s_is_file) (defBody s_is_file) (defScope s_is_file) .none kV5 dc5 pm5 an5 cd5 ct5), sl5⟩)
    (c5 : PySem.W.codeIn K cd5 "is_file" = true) (k5 : PySem.W.keepIn K (.ref f5) = true)
    (a6 : PySem.W.nsIn K mainGlobals "is_client" = some (some (.ref f6)))
    (l6 : K.lookup f6 = some ⟨oc6, od6, .func (PySem.W.fnOf "is_client" "is_client" (defArgs s_is_client) (defBody s_is_client) (defScope s_is_client) .none kV6 dc6 pm6 an6 cd6 ct6), sl6⟩)
    (c6 : PySem.W.codeIn K cd6 "is_client" = true) (k6 : PySem.W.keepIn K (.ref f6) = true)
    (a7 : PySem.W.nsIn K mainGlobals "are_files" = some (some (.ref f7)))
    (l7 : K.lookup f7 = some ⟨oc7, od7, .func (PySem.W.fnOf "are_files" "are_files" (defArgs s_are_files) (defBody s_are_files) (defScope s_are_files) .none kV7 dc7 pm7 an7 cd7 ct7), sl7⟩)
    (c7 : PySem.W.codeIn K cd7 "are_files" = true) (k7 : PySem.W.keepIn K (.ref f7) = true)
    (a8 : PySem.W.nsIn K mainGlobals "are_clients" = some (some (.ref f8)))
    (l8 : K.lookup f8 = some ⟨oc8, od8, .func (PySem.W.fnOf "are_clients" "are_clients" (defArgs s_are_clients) (defBody s_are_clients) (defScope s_are_clients) .none kV8 dc8 pm8 an8 cd8 ct8), sl8⟩)
    (c8 : PySem.W.codeIn K cd8 "are_clients" = true) (k8 : PySem.W.keepIn K (.ref f8) = true)
    (a9 : PySem.W.nsIn K mainGlobals "is_setup" = some (some (.ref f9)))
    (l9 : K.lookup f9 = some ⟨oc9, od9, .func (PySem.W.fnOf "is_setup" "is_setup" (defArgs s_is_setup) (defBody s_is_setup) (defScope s_is_setup) .none kV9 dc9 pm9 an9 cd9 ct9), sl9⟩)
    (c9 : PySem.W.codeIn K cd9 "is_setup" = true) (k9 : PySem.W.keepIn K (.ref f9) = true)
    (a10 : PySem.W.nsIn K mainGlobals "made" = some (some (.ref f10)))
    (l10 : K.lookup f10 = some ⟨oc10, od10, .func (PySem.W.fnOf "made" "made" (defArgs s_made) (defBody s_made) (defScope s_made) .none (.ref D10) dc10 pm10 an10 cd10 ct10), sl10⟩)
    (c10 : PySem.W.codeIn K cd10 "made" = true) (k10 : PySem.W.keepIn K (.ref f10) = true)
    (n10_length : PySem.W.nsIn K D10 "length" = some (some (.int 20 t10_length)))
    (n10_drift : PySem.W.nsIn K D10 "drift" = some (some (.int 10 t10_drift)))
    (a11 : PySem.W.nsIn K mainGlobals "_law_bag" = some (some (.ref f11)))
    (l11 : K.lookup f11 = some ⟨oc11, od11, .func (PySem.W.fnOf "_law_bag" "_law_bag" (defArgs s__law_bag) (defBody s__law_bag) (defScope s__law_bag) .none kV11 dc11 pm11 an11 cd11 ct11), sl11⟩)
    (c11 : PySem.W.codeIn K cd11 "_law_bag" = true) (k11 : PySem.W.keepIn K (.ref f11) = true)
    (a12 : PySem.W.nsIn K mainGlobals "_law_take" = some (some (.ref f12)))
    (l12 : K.lookup f12 = some ⟨oc12, od12, .func (PySem.W.fnOf "_law_take" "_law_take" (defArgs s__law_take) (defBody s__law_take) (defScope s__law_take) .none kV12 dc12 pm12 an12 cd12 ct12), sl12⟩)
    (c12 : PySem.W.codeIn K cd12 "_law_take" = true) (k12 : PySem.W.keepIn K (.ref f12) = true)
    (a13 : PySem.W.nsIn K mainGlobals "_law_kinds" = some (some (.ref f13)))
    (l13 : K.lookup f13 = some ⟨oc13, od13, .func (PySem.W.fnOf "_law_kinds" "_law_kinds" (defArgs s__law_kinds) (defBody s__law_kinds) (defScope s__law_kinds) .none kV13 dc13 pm13 an13 cd13 ct13), sl13⟩)
    (c13 : PySem.W.codeIn K cd13 "_law_kinds" = true) (k13 : PySem.W.keepIn K (.ref f13) = true)
    (a14 : PySem.W.nsIn K mainGlobals "_law_within" = some (some (.ref f14)))
    (l14 : K.lookup f14 = some ⟨oc14, od14, .func (PySem.W.fnOf "_law_within" "_law_within" (defArgs s__law_within) (defBody s__law_within) (defScope s__law_within) .none kV14 dc14 pm14 an14 cd14 ct14), sl14⟩)
    (c14 : PySem.W.codeIn K cd14 "_law_within" = true) (k14 : PySem.W.keepIn K (.ref f14) = true)
    (a15 : PySem.W.nsIn K mainGlobals "_law_is_name" = some (some (.ref f15)))
    (l15 : K.lookup f15 = some ⟨oc15, od15, .func (PySem.W.fnOf "_law_is_name" "_law_is_name" (defArgs s__law_is_name) (defBody s__law_is_name) (defScope s__law_is_name) .none kV15 dc15 pm15 an15 cd15 ct15), sl15⟩)
    (c15 : PySem.W.codeIn K cd15 "_law_is_name" = true) (k15 : PySem.W.keepIn K (.ref f15) = true)
    (a16 : PySem.W.nsIn K mainGlobals "_law_name" = some (some (.ref f16)))
    (l16 : K.lookup f16 = some ⟨oc16, od16, .func (PySem.W.fnOf "_law_name" "_law_name" (defArgs s__law_name) (defBody s__law_name) (defScope s__law_name) .none kV16 dc16 pm16 an16 cd16 ct16), sl16⟩)
    (c16 : PySem.W.codeIn K cd16 "_law_name" = true) (k16 : PySem.W.keepIn K (.ref f16) = true)
    (a17 : PySem.W.nsIn K mainGlobals "_law_names" = some (some (.ref f17)))
    (l17 : K.lookup f17 = some ⟨oc17, od17, .func (PySem.W.fnOf "_law_names" "_law_names" (defArgs s__law_names) (defBody s__law_names) (defScope s__law_names) .none kV17 dc17 pm17 an17 cd17 ct17), sl17⟩)
    (c17 : PySem.W.codeIn K cd17 "_law_names" = true) (k17 : PySem.W.keepIn K (.ref f17) = true)
    (a18 : PySem.W.nsIn K mainGlobals "_law_setup" = some (some (.ref f18)))
    (l18 : K.lookup f18 = some ⟨oc18, od18, .func (PySem.W.fnOf "_law_setup" "_law_setup" (defArgs s__law_setup) (defBody s__law_setup) (defScope s__law_setup) .none kV18 dc18 pm18 an18 cd18 ct18), sl18⟩)
    (c18 : PySem.W.codeIn K cd18 "_law_setup" = true) (k18 : PySem.W.keepIn K (.ref f18) = true)
    (a19 : PySem.W.nsIn K mainGlobals "_law_odd" = some (some (.ref f19)))
    (l19 : K.lookup f19 = some ⟨oc19, od19, .func (PySem.W.fnOf "_law_odd" "_law_odd" (defArgs s__law_odd) (defBody s__law_odd) (defScope s__law_odd) .none kV19 dc19 pm19 an19 cd19 ct19), sl19⟩)
    (c19 : PySem.W.codeIn K cd19 "_law_odd" = true) (k19 : PySem.W.keepIn K (.ref f19) = true)
    (a20 : PySem.W.nsIn K mainGlobals "_law_spoilt" = some (some (.ref f20)))
    (l20 : K.lookup f20 = some ⟨oc20, od20, .func (PySem.W.fnOf "_law_spoilt" "_law_spoilt" (defArgs s__law_spoilt) (defBody s__law_spoilt) (defScope s__law_spoilt) .none kV20 dc20 pm20 an20 cd20 ct20), sl20⟩)
    (c20 : PySem.W.codeIn K cd20 "_law_spoilt" = true) (k20 : PySem.W.keepIn K (.ref f20) = true)
    (a21 : PySem.W.nsIn K mainGlobals "_law_are_rows" = some (some (.ref f21)))
    (l21 : K.lookup f21 = some ⟨oc21, od21, .func (PySem.W.fnOf "_law_are_rows" "_law_are_rows" (defArgs s__law_are_rows) (defBody s__law_are_rows) (defScope s__law_are_rows) .none kV21 dc21 pm21 an21 cd21 ct21), sl21⟩)
    (c21 : PySem.W.codeIn K cd21 "_law_are_rows" = true) (k21 : PySem.W.keepIn K (.ref f21) = true)
    (a22 : PySem.W.nsIn K mainGlobals "_law_is_setup" = some (some (.ref f22)))
    (l22 : K.lookup f22 = some ⟨oc22, od22, .func (PySem.W.fnOf "_law_is_setup" "_law_is_setup" (defArgs s__law_is_setup) (defBody s__law_is_setup) (defScope s__law_is_setup) .none kV22 dc22 pm22 an22 cd22 ct22), sl22⟩)
    (c22 : PySem.W.codeIn K cd22 "_law_is_setup" = true) (k22 : PySem.W.keepIn K (.ref f22) = true)
    (a23 : PySem.W.nsIn K mainGlobals "_law_terms" = some (some (.ref f23)))
    (l23 : K.lookup f23 = some ⟨oc23, od23, .func (PySem.W.fnOf "_law_terms" "_law_terms" (defArgs s__law_terms) (defBody s__law_terms) (defScope s__law_terms) .none kV23 dc23 pm23 an23 cd23 ct23), sl23⟩)
    (c23 : PySem.W.codeIn K cd23 "_law_terms" = true) (k23 : PySem.W.keepIn K (.ref f23) = true)
    (a24 : PySem.W.nsIn K mainGlobals "_law_made" = some (some (.ref f24)))
    (l24 : K.lookup f24 = some ⟨oc24, od24, .func (PySem.W.fnOf "_law_made" "_law_made" (defArgs s__law_made) (defBody s__law_made) (defScope s__law_made) .none kV24 dc24 pm24 an24 cd24 ct24), sl24⟩)
    (c24 : PySem.W.codeIn K cd24 "_law_made" = true) (k24 : PySem.W.keepIn K (.ref f24) = true)
    (a25 : PySem.W.nsIn K mainGlobals "law" = some (some (.ref f25)))
    (l25 : K.lookup f25 = some ⟨oc25, od25, .func (PySem.W.fnOf "law" "law" (defArgs s_law) (defBody s_law) (defScope s_law) .none kV25 dc25 pm25 an25 cd25 ct25), sl25⟩)
    (c25 : PySem.W.codeIn K cd25 "law" = true) (k25 : PySem.W.keepIn K (.ref f25) = true)
    (g_LETTERS : PySem.W.nsIn K mainGlobals "LETTERS" = some (some (.str "abcdefghijklmnopqrstuvwxyz" tc_LETTERS)))
    (g_LONGEST_NAME : PySem.W.nsIn K mainGlobals "LONGEST_NAME" = some (some (.int 8 tc_LONGEST_NAME)))
    (g_LENGTH : PySem.W.nsIn K mainGlobals "LENGTH" = some (some (.int 20 tc_LENGTH)))
    (g_DRIFT : PySem.W.nsIn K mainGlobals "DRIFT" = some (some (.int 10 tc_DRIFT)))
    (g_MOST : PySem.W.nsIn K mainGlobals "MOST" = some (some (.int 300 tc_MOST)))
    (g_SERVER : PySem.W.nsIn K mainGlobals "SERVER" = some (some (.str "server" tc_SERVER)))
    (z_ValueError : PySem.W.nsIn K mainGlobals "ValueError" = some none)
    (z_abs : PySem.W.nsIn K mainGlobals "abs" = some none)
    (z_all : PySem.W.nsIn K mainGlobals "all" = some none)
    (z_bool : PySem.W.nsIn K mainGlobals "bool" = some none)
    (z_int : PySem.W.nsIn K mainGlobals "int" = some none)
    (z_isinstance : PySem.W.nsIn K mainGlobals "isinstance" = some none)
    (z_len : PySem.W.nsIn K mainGlobals "len" = some none)
    (z_list : PySem.W.nsIn K mainGlobals "list" = some none)
    (z_min : PySem.W.nsIn K mainGlobals "min" = some none)
    (z_range : PySem.W.nsIn K mainGlobals "range" = some none)
    (z_sorted : PySem.W.nsIn K mainGlobals "sorted" = some none)
    (z_str : PySem.W.nsIn K mainGlobals "str" = some none)
    (z_tuple : PySem.W.nsIn K mainGlobals "tuple" = some none)
    (b_ToldError : PySem.W.nsIn K mainGlobals "ToldError" = some (some (.ref cl_ToldError)))
    (b_AskedError : PySem.W.nsIn K mainGlobals "AskedError" = some (some (.ref cl_AskedError)))
    (b_NoSetup : PySem.W.nsIn K mainGlobals "NoSetup" = some (some (.ref cl_NoSetup)))
    (b_NoText : PySem.W.nsIn K mainGlobals "NoText" = some (some (.ref cl_NoText)))
    (b_NoRow : PySem.W.nsIn K mainGlobals "NoRow" = some (some (.ref cl_NoRow)))
    (b_TooMany : PySem.W.nsIn K mainGlobals "TooMany" = some (some (.ref cl_TooMany)))
    (b_NoClient : PySem.W.nsIn K mainGlobals "NoClient" = some (some (.ref cl_NoClient)))
    (b_NoFile : PySem.W.nsIn K mainGlobals "NoFile" = some (some (.ref cl_NoFile)))
    (b_NoPage : PySem.W.nsIn K mainGlobals "NoPage" = some (some (.ref cl_NoPage)))
    (b_NoValue : PySem.W.nsIn K mainGlobals "NoValue" = some (some (.ref cl_NoValue)))
    (b_NoTicks : PySem.W.nsIn K mainGlobals "NoTicks" = some (some (.ref cl_NoTicks)))
    (b_NoMessage : PySem.W.nsIn K mainGlobals "NoMessage" = some (some (.ref cl_NoMessage)))
    (b_Busy : PySem.W.nsIn K mainGlobals "Busy" = some (some (.ref cl_Busy)))
    (b_NotWaiting : PySem.W.nsIn K mainGlobals "NotWaiting" = some (some (.ref cl_NotWaiting)))
    (b_NoLease : PySem.W.nsIn K mainGlobals "NoLease" = some (some (.ref cl_NoLease)))
    (b_Clean : PySem.W.nsIn K mainGlobals "Clean" = some (some (.ref cl_Clean)))
    (b_NothingLeft : PySem.W.nsIn K mainGlobals "NothingLeft" = some (some (.ref cl_NothingLeft)))
    (b_NoList : PySem.W.nsIn K mainGlobals "NoList" = some (some (.ref cl_NoList)))
    (b_TooDeep : PySem.W.nsIn K mainGlobals "TooDeep" = some (some (.ref cl_TooDeep)))
    (b_LendError : PySem.W.nsIn K mainGlobals "LendError" = some (some (.ref cl_LendError)))
    (x_me : PySem.W.subIn K (.ref cl_NoSetup) (.ref cl_NoSetup) = some true)
    (s_ToldError : PySem.W.subIn K (.ref cl_NoSetup) (.ref cl_ToldError) = some true)
    (h_ToldError : PySem.W.hasDictIn K cl_ToldError = true)
    (t_ToldError : PySem.W.typeIn K (.ref cl_ToldError) = some (.type "type"))
    (s_AskedError : PySem.W.subIn K (.ref cl_NoSetup) (.ref cl_AskedError) = some false)
    (h_AskedError : PySem.W.hasDictIn K cl_AskedError = true)
    (t_AskedError : PySem.W.typeIn K (.ref cl_AskedError) = some (.type "type"))
    (s_NoSetup : PySem.W.subIn K (.ref cl_NoSetup) (.ref cl_NoSetup) = some true)
    (h_NoSetup : PySem.W.hasDictIn K cl_NoSetup = true)
    (t_NoSetup : PySem.W.typeIn K (.ref cl_NoSetup) = some (.type "type"))
    (s_NoText : PySem.W.subIn K (.ref cl_NoSetup) (.ref cl_NoText) = some false)
    (h_NoText : PySem.W.hasDictIn K cl_NoText = true)
    (t_NoText : PySem.W.typeIn K (.ref cl_NoText) = some (.type "type"))
    (s_NoRow : PySem.W.subIn K (.ref cl_NoSetup) (.ref cl_NoRow) = some false)
    (h_NoRow : PySem.W.hasDictIn K cl_NoRow = true)
    (t_NoRow : PySem.W.typeIn K (.ref cl_NoRow) = some (.type "type"))
    (s_TooMany : PySem.W.subIn K (.ref cl_NoSetup) (.ref cl_TooMany) = some false)
    (h_TooMany : PySem.W.hasDictIn K cl_TooMany = true)
    (t_TooMany : PySem.W.typeIn K (.ref cl_TooMany) = some (.type "type"))
    (s_NoClient : PySem.W.subIn K (.ref cl_NoSetup) (.ref cl_NoClient) = some false)
    (h_NoClient : PySem.W.hasDictIn K cl_NoClient = true)
    (t_NoClient : PySem.W.typeIn K (.ref cl_NoClient) = some (.type "type"))
    (s_NoFile : PySem.W.subIn K (.ref cl_NoSetup) (.ref cl_NoFile) = some false)
    (h_NoFile : PySem.W.hasDictIn K cl_NoFile = true)
    (t_NoFile : PySem.W.typeIn K (.ref cl_NoFile) = some (.type "type"))
    (s_NoPage : PySem.W.subIn K (.ref cl_NoSetup) (.ref cl_NoPage) = some false)
    (h_NoPage : PySem.W.hasDictIn K cl_NoPage = true)
    (t_NoPage : PySem.W.typeIn K (.ref cl_NoPage) = some (.type "type"))
    (s_NoValue : PySem.W.subIn K (.ref cl_NoSetup) (.ref cl_NoValue) = some false)
    (h_NoValue : PySem.W.hasDictIn K cl_NoValue = true)
    (t_NoValue : PySem.W.typeIn K (.ref cl_NoValue) = some (.type "type"))
    (s_NoTicks : PySem.W.subIn K (.ref cl_NoSetup) (.ref cl_NoTicks) = some false)
    (h_NoTicks : PySem.W.hasDictIn K cl_NoTicks = true)
    (t_NoTicks : PySem.W.typeIn K (.ref cl_NoTicks) = some (.type "type"))
    (s_NoMessage : PySem.W.subIn K (.ref cl_NoSetup) (.ref cl_NoMessage) = some false)
    (h_NoMessage : PySem.W.hasDictIn K cl_NoMessage = true)
    (t_NoMessage : PySem.W.typeIn K (.ref cl_NoMessage) = some (.type "type"))
    (s_Busy : PySem.W.subIn K (.ref cl_NoSetup) (.ref cl_Busy) = some false)
    (h_Busy : PySem.W.hasDictIn K cl_Busy = true)
    (t_Busy : PySem.W.typeIn K (.ref cl_Busy) = some (.type "type"))
    (s_NotWaiting : PySem.W.subIn K (.ref cl_NoSetup) (.ref cl_NotWaiting) = some false)
    (h_NotWaiting : PySem.W.hasDictIn K cl_NotWaiting = true)
    (t_NotWaiting : PySem.W.typeIn K (.ref cl_NotWaiting) = some (.type "type"))
    (s_NoLease : PySem.W.subIn K (.ref cl_NoSetup) (.ref cl_NoLease) = some false)
    (h_NoLease : PySem.W.hasDictIn K cl_NoLease = true)
    (t_NoLease : PySem.W.typeIn K (.ref cl_NoLease) = some (.type "type"))
    (s_Clean : PySem.W.subIn K (.ref cl_NoSetup) (.ref cl_Clean) = some false)
    (h_Clean : PySem.W.hasDictIn K cl_Clean = true)
    (t_Clean : PySem.W.typeIn K (.ref cl_Clean) = some (.type "type"))
    (s_NothingLeft : PySem.W.subIn K (.ref cl_NoSetup) (.ref cl_NothingLeft) = some false)
    (h_NothingLeft : PySem.W.hasDictIn K cl_NothingLeft = true)
    (t_NothingLeft : PySem.W.typeIn K (.ref cl_NothingLeft) = some (.type "type"))
    (s_NoList : PySem.W.subIn K (.ref cl_NoSetup) (.ref cl_NoList) = some false)
    (h_NoList : PySem.W.hasDictIn K cl_NoList = true)
    (t_NoList : PySem.W.typeIn K (.ref cl_NoList) = some (.type "type"))
    (s_TooDeep : PySem.W.subIn K (.ref cl_NoSetup) (.ref cl_TooDeep) = some false)
    (h_TooDeep : PySem.W.hasDictIn K cl_TooDeep = true)
    (t_TooDeep : PySem.W.typeIn K (.ref cl_TooDeep) = some (.type "type"))
    (s_LendError : PySem.W.subIn K (.ref cl_NoSetup) (.ref cl_LendError) = some true)
    (h_LendError : PySem.W.hasDictIn K cl_LendError = true)
    (t_LendError : PySem.W.typeIn K (.ref cl_LendError) = some (.type "type"))
    (x_be : PySem.W.subIn K (.ref cl_LendError) (.type "BaseException") = some true)
    (x_veq : PySem.W.subIn K (.ref cl_NoSetup) (.type "ValueError") = some true)
    (x_hg : PySem.W.findIn K (.ref cl_NoSetup) "__getattribute__" = some (some (.builtin "BaseException.__getattribute__")))
    (x_hk : PySem.W.findIn K (.ref cl_NoSetup) "__getattr__" = some none)
    (x_hs : PySem.W.subIn K (.ref cl_NoSetup) (.type "BaseException") = some true)
    (x_hd : PySem.W.hasDictIn K cl_NoSetup = true)
    (x_ha : PySem.W.findIn K (.ref cl_NoSetup) "__class__" = some (some (.builtin "object.__class__")))
    (x_hn : PySem.W.specialIn K (.builtin "object.__class__") "__get__" = some (some (.builtin "getset_descriptor.__get__")))
    (x_ht : PySem.W.takesIn K (.builtin "object.__class__") = some true)
    (x_hm : PySem.W.mroIn K cl_NoSetup (.type "object") = some true)
    (x_kp : PySem.W.keepIn K (.ref cl_NoSetup) = true)
    (x_ec : PySem.W.excIn K cl_NoSetup [.type "ValueError", .type "Exception", .type "BaseException", .type "object"] "ValueError.__new__" = true)
    (x_ty : PySem.W.typeIn K (.ref cl_NoSetup) = some (.type "type")) :
    ∃ fd : FuncData, (∀ (s : Shared) (v : Value), BindsTo s fd ⟨[v], []⟩ [("script", v)]) ∧ ∀ base : Heap, K.In base → base.Ns mainGlobals mg → FnOk l.prog w K mg base CX0 23 fa fd ["script"] (splaw K) := by
  have L : Kl K mg cl_NoSetup := ⟨⟨_, PySem.W.mg_of X G b_ToldError, kit_ref x_me h_ToldError t_ToldError s_ToldError⟩, ⟨_, PySem.W.mg_of X G b_AskedError, kit_ref x_me h_AskedError t_AskedError s_AskedError⟩, ⟨_, PySem.W.mg_of X G b_NoSetup, kit_ref x_me h_NoSetup t_NoSetup s_NoSetup⟩, ⟨_, PySem.W.mg_of X G b_NoText, kit_ref x_me h_NoText t_NoText s_NoText⟩, ⟨_, PySem.W.mg_of X G b_NoRow, kit_ref x_me h_NoRow t_NoRow s_NoRow⟩, ⟨_, PySem.W.mg_of X G b_TooMany, kit_ref x_me h_TooMany t_TooMany s_TooMany⟩, ⟨_, PySem.W.mg_of X G b_NoClient, kit_ref x_me h_NoClient t_NoClient s_NoClient⟩, ⟨_, PySem.W.mg_of X G b_NoFile, kit_ref x_me h_NoFile t_NoFile s_NoFile⟩, ⟨_, PySem.W.mg_of X G b_NoPage, kit_ref x_me h_NoPage t_NoPage s_NoPage⟩, ⟨_, PySem.W.mg_of X G b_NoValue, kit_ref x_me h_NoValue t_NoValue s_NoValue⟩, ⟨_, PySem.W.mg_of X G b_NoTicks, kit_ref x_me h_NoTicks t_NoTicks s_NoTicks⟩, ⟨_, PySem.W.mg_of X G b_NoMessage, kit_ref x_me h_NoMessage t_NoMessage s_NoMessage⟩, ⟨_, PySem.W.mg_of X G b_Busy, kit_ref x_me h_Busy t_Busy s_Busy⟩, ⟨_, PySem.W.mg_of X G b_NotWaiting, kit_ref x_me h_NotWaiting t_NotWaiting s_NotWaiting⟩, ⟨_, PySem.W.mg_of X G b_NoLease, kit_ref x_me h_NoLease t_NoLease s_NoLease⟩, ⟨_, PySem.W.mg_of X G b_Clean, kit_ref x_me h_Clean t_Clean s_Clean⟩, ⟨_, PySem.W.mg_of X G b_NothingLeft, kit_ref x_me h_NothingLeft t_NothingLeft s_NothingLeft⟩, ⟨_, PySem.W.mg_of X G b_NoList, kit_ref x_me h_NoList t_NoList s_NoList⟩, ⟨_, PySem.W.mg_of X G b_TooDeep, kit_ref x_me h_TooDeep t_TooDeep s_TooDeep⟩, kit_VE x_veq, ⟨x_hg, x_hk, x_hs, x_hd, x_ha, x_hn, x_ht, x_hm⟩, ⟨_, PySem.W.mg_of X G b_LendError, PySem.W.exm_ref x_be h_LendError t_LendError s_LendError⟩, PySem.W.mg_of X G b_NoSetup, x_kp, x_ec, x_hs, x_ty⟩
  have N : Fre K mg := ⟨PySem.W.mg_none_of X G z_ValueError, PySem.W.mg_none_of X G z_abs, PySem.W.mg_none_of X G z_all, PySem.W.mg_none_of X G z_bool, PySem.W.mg_none_of X G z_int, PySem.W.mg_none_of X G z_isinstance, PySem.W.mg_none_of X G z_len, PySem.W.mg_none_of X G z_list, PySem.W.mg_none_of X G z_min, PySem.W.mg_none_of X G z_range, PySem.W.mg_none_of X G z_sorted, PySem.W.mg_none_of X G z_str, PySem.W.mg_none_of X G z_tuple, ⟨_, PySem.W.mg_of X G g_LETTERS⟩, ⟨_, PySem.W.mg_of X G g_LONGEST_NAME⟩, ⟨_, PySem.W.mg_of X G g_LENGTH⟩, ⟨_, PySem.W.mg_of X G g_DRIFT⟩, ⟨_, PySem.W.mg_of X G g_MOST⟩, ⟨_, PySem.W.mg_of X G g_SERVER⟩⟩
  have e := hfa.symm.trans (PySem.W.mg_of X G a25)
  cases e
  have F0 := fun_mk (st := s_is_whole) l0 c0 k0
  have F1 := fun_mk (st := s_is_within) l1 c1 k1
  have F2 := fun_mk (st := s_is_name) l2 c2 k2
  have F3 := fun_mk (st := s_is_tuple) l3 c3 k3
  have F4 := fun_mk (st := s_is_rising) l4 c4 k4
  have F5 := fun_mk (st := s_is_file) l5 c5 k5
  have F6 := fun_mk (st := s_is_client) l6 c6 k6
  have F7 := fun_mk (st := s_are_files) l7 c7 k7
  have F8 := fun_mk (st := s_are_clients) l8 c8 k8
  have F9 := fun_mk (st := s_is_setup) l9 c9 k9
  have F10 : FunD K "made" "made" (defArgs s_made) (defBody s_made) (defScope s_made) [] [("length", V.int 20), ("drift", V.int 10)] f10 _ := ⟨⟨_, _, _, _, _, _, _, _, _, _, rfl, l10, c10, .inl ⟨rfl, rfl⟩, .inr ⟨D10, rfl, fun q hq => by
    simp only [List.mem_cons, List.not_mem_nil, or_false] at hq
    rcases hq with rfl | rfl
    · exact ⟨_, n10_length, _, rfl⟩
    · exact ⟨_, n10_drift, _, rfl⟩⟩⟩, k10⟩
  have F11 := fun_mk (st := s__law_bag) l11 c11 k11
  have F12 := fun_mk (st := s__law_take) l12 c12 k12
  have F13 := fun_mk (st := s__law_kinds) l13 c13 k13
  have F14 := fun_mk (st := s__law_within) l14 c14 k14
  have F15 := fun_mk (st := s__law_is_name) l15 c15 k15
  have F16 := fun_mk (st := s__law_name) l16 c16 k16
  have F17 := fun_mk (st := s__law_names) l17 c17 k17
  have F18 := fun_mk (st := s__law_setup) l18 c18 k18
  have F19 := fun_mk (st := s__law_odd) l19 c19 k19
  have F20 := fun_mk (st := s__law_spoilt) l20 c20 k20
  have F21 := fun_mk (st := s__law_are_rows) l21 c21 k21
  have F22 := fun_mk (st := s__law_is_setup) l22 c22 k22
  have F23 := fun_mk (st := s__law_terms) l23 c23 k23
  have F24 := fun_mk (st := s__law_made) l24 c24 k24
  have F25 := fun_mk (st := s_law) l25 c25 k25
  refine ⟨PySem.W.fnOf "law" "law" (defArgs s_law) (defBody s_law) (defScope s_law) .none kV25 dc25 pm25 an25 cd25 ct25, fun s v => .of_eq rfl, fun base _ _ => ?_⟩
  have c_is_whole := ok_is_whole (base := base) (P := l.prog) (w := w) F0 (PySem.W.mg_of X G a0) N
  have c_is_within := ok_is_within (base := base) (P := l.prog) (w := w) F1 (PySem.W.mg_of X G a1) N c_is_whole
  have c_is_name := ok_is_name (base := base) (P := l.prog) (w := w) F2 (PySem.W.mg_of X G a2) N
  have c_is_tuple := ok_is_tuple (base := base) (P := l.prog) (w := w) F3 (PySem.W.mg_of X G a3) N
  have c_is_rising := ok_is_rising (base := base) (P := l.prog) (w := w) F4 (PySem.W.mg_of X G a4) N
  have c_is_file := ok_is_file (base := base) (P := l.prog) (w := w) F5 (PySem.W.mg_of X G a5) N c_is_name c_is_tuple c_is_within
  have c_is_client := ok_is_client (base := base) (P := l.prog) (w := w) F6 (PySem.W.mg_of X G a6) N c_is_name c_is_tuple c_is_within
  have c_are_files := ok_are_files (base := base) (P := l.prog) (w := w) F7 (PySem.W.mg_of X G a7) N c_is_file c_is_rising c_is_tuple
  have c_are_clients := ok_are_clients (base := base) (P := l.prog) (w := w) F8 (PySem.W.mg_of X G a8) N c_is_client c_is_rising c_is_tuple
  have c_is_setup := ok_is_setup (base := base) (P := l.prog) (w := w) F9 (PySem.W.mg_of X G a9) N c_are_clients c_are_files c_is_tuple c_is_within
  have c_made_2_length_drift := ok_made_2_length_drift (base := base) (P := l.prog) (w := w) F10 (PySem.W.mg_of X G a10) N c_is_setup L
  have c_made_2_drift_length := ok_made_2_drift_length (base := base) (P := l.prog) (w := w) F10 (PySem.W.mg_of X G a10) N c_is_setup L
  have c_made_2_drift := ok_made_2_drift (base := base) (P := l.prog) (w := w) F10 (PySem.W.mg_of X G a10) N c_is_setup L
  have c_made_2_length := ok_made_2_length (base := base) (P := l.prog) (w := w) F10 (PySem.W.mg_of X G a10) N c_is_setup L
  have c_made_0_drift_clients_length_files := ok_made_0_drift_clients_length_files (base := base) (P := l.prog) (w := w) F10 (PySem.W.mg_of X G a10) N c_is_setup L
  have c_made_2 := ok_made_2 (base := base) (P := l.prog) (w := w) F10 (PySem.W.mg_of X G a10) N c_is_setup L
  have c__law_bag := ok__law_bag (base := base) (P := l.prog) (w := w) F11 (PySem.W.mg_of X G a11) N
  have c__law_take := ok__law_take (base := base) (P := l.prog) (w := w) F12 (PySem.W.mg_of X G a12) N
  have c__law_kinds := ok__law_kinds (base := base) (P := l.prog) (w := w) F13 (PySem.W.mg_of X G a13) N L
  have c__law_within := ok__law_within (base := base) (P := l.prog) (w := w) F14 (PySem.W.mg_of X G a14) N
  have c__law_is_name := ok__law_is_name (base := base) (P := l.prog) (w := w) F15 (PySem.W.mg_of X G a15) N
  have c__law_name := ok__law_name (base := base) (P := l.prog) (w := w) F16 (PySem.W.mg_of X G a16) N c__law_take
  have c__law_names := ok__law_names (base := base) (P := l.prog) (w := w) F17 (PySem.W.mg_of X G a17) N c__law_name
  have c__law_terms := ok__law_terms (base := base) (P := l.prog) (w := w) F23 (PySem.W.mg_of X G a23) N c__law_take
  have c__law_setup := ok__law_setup (base := base) (P := l.prog) (w := w) F18 (PySem.W.mg_of X G a18) N c__law_names c__law_take c__law_terms
  have c__law_odd := ok__law_odd (base := base) (P := l.prog) (w := w) F19 (PySem.W.mg_of X G a19) N c__law_take
  have c__law_spoilt := ok__law_spoilt (base := base) (P := l.prog) (w := w) F20 (PySem.W.mg_of X G a20) N c__law_odd c__law_take
  have c__law_are_rows := ok__law_are_rows (base := base) (P := l.prog) (w := w) F21 (PySem.W.mg_of X G a21) N c__law_is_name
  have c__law_is_setup := ok__law_is_setup (base := base) (P := l.prog) (w := w) F22 (PySem.W.mg_of X G a22) N c__law_are_rows c__law_within
  have c__law_made := ok__law_made (base := base) (P := l.prog) (w := w) F24 (PySem.W.mg_of X G a24) N L c__law_kinds c_made_0_drift_clients_length_files c_made_2 c_made_2_drift c_made_2_drift_length c_made_2_length c_made_2_length_drift
  exact ok_law (base := base) (P := l.prog) (w := w) F25 N c__law_bag c__law_is_setup c__law_made c__law_setup c__law_spoilt c__law_take
end My
open PySem PySem.W PyProof.Rows
set_option maxRecDepth 100000 in
set_option maxHeartbeats 0 in
theorem PySem.Challenge.cw_pagelend_k02_setups_made_holds : PySem.Challenge.rw_pagelend_k02_setups_made.Holds := by
  w_on; o_law; k_head; (case hw => w_witness2)
  k_fill
  refine L2.walk_of (l := PySem.Challenge.rw_pagelend_k02_setups_made) (n := 63) (k := 23) (x := "script") (CX := fun _ => L2.CX0) (sp := fun w => My.splaw _) rfl (by decide) rfl ⟨rfl, by decide, by decide⟩ (fun w h Y => PySem.W.kIn_of Y) ?F (fun _ _ a ns hl _ hS => ⟨a, ns, rfl, hS, hl, fun _ => rfl⟩) (fun _ _ _ _ _ h => h)
  case F =>
    intro w mg fa h KX G hmg
    refine' My.all_mk KX G hmg ?a0 ?l0 ?c0 ?k0 ?a1 ?l1 ?c1 ?k1 ?a2 ?l2 ?c2 ?k2 ?a3 ?l3 ?c3 ?k3 ?a4 ?l4 ?c4 ?k4 ?a5 ?l5 ?c5 ?k5 ?a6 ?l6 ?c6 ?k6 ?a7 ?l7 ?c7 ?k7 ?a8 ?l8 ?c8 ?k8 ?a9 ?l9 ?c9 ?k9 ?a10 ?l10 ?c10 ?k10 ?n10_length ?n10_drift ?a11 ?l11 ?c11 ?k11 ?a12 ?l12 ?c12 ?k12 ?a13 ?l13 ?c13 ?k13 ?a14 ?l14 ?c14 ?k14 ?a15 ?l15 ?c15 ?k15 ?a16 ?l16 ?c16 ?k16 ?a17 ?l17 ?c17 ?k17 ?a18 ?l18 ?c18 ?k18 ?a19 ?l19 ?c19 ?k19 ?a20 ?l20 ?c20 ?k20 ?a21 ?l21 ?c21 ?k21 ?a22 ?l22 ?c22 ?k22 ?a23 ?l23 ?c23 ?k23 ?a24 ?l24 ?c24 ?k24 ?a25 ?l25 ?c25 ?k25 ?g_LETTERS ?g_LONGEST_NAME ?g_LENGTH ?g_DRIFT ?g_MOST ?g_SERVER ?z_ValueError ?z_abs ?z_all ?z_bool ?z_int ?z_isinstance ?z_len ?z_list ?z_min ?z_range ?z_sorted ?z_str ?z_tuple ?b_ToldError ?b_AskedError ?b_NoSetup ?b_NoText ?b_NoRow ?b_TooMany ?b_NoClient ?b_NoFile ?b_NoPage ?b_NoValue ?b_NoTicks ?b_NoMessage ?b_Busy ?b_NotWaiting ?b_NoLease ?b_Clean ?b_NothingLeft ?b_NoList ?b_TooDeep ?b_LendError ?x_me ?s_ToldError ?h_ToldError ?t_ToldError ?s_AskedError ?h_AskedError ?t_AskedError ?s_NoSetup ?h_NoSetup ?t_NoSetup ?s_NoText ?h_NoText ?t_NoText ?s_NoRow ?h_NoRow ?t_NoRow ?s_TooMany ?h_TooMany ?t_TooMany ?s_NoClient ?h_NoClient ?t_NoClient ?s_NoFile ?h_NoFile ?t_NoFile ?s_NoPage ?h_NoPage ?t_NoPage ?s_NoValue ?h_NoValue ?t_NoValue ?s_NoTicks ?h_NoTicks ?t_NoTicks ?s_NoMessage ?h_NoMessage ?t_NoMessage ?s_Busy ?h_Busy ?t_Busy ?s_NotWaiting ?h_NotWaiting ?t_NotWaiting ?s_NoLease ?h_NoLease ?t_NoLease ?s_Clean ?h_Clean ?t_Clean ?s_NothingLeft ?h_NothingLeft ?t_NothingLeft ?s_NoList ?h_NoList ?t_NoList ?s_TooDeep ?h_TooDeep ?t_TooDeep ?s_LendError ?h_LendError ?t_LendError ?x_be ?x_veq ?x_hg ?x_hk ?x_hs ?x_hd ?x_ha ?x_hn ?x_ht ?x_hm ?x_kp ?x_ec ?x_ty
    (case a0 => k_is); (case l0 => k_is); (case c0 => k_is); (case k0 => k_is); (case a1 => k_is); (case l1 => k_is); (case c1 => k_is); (case k1 => k_is); (case a2 => k_is); (case l2 => k_is); (case c2 => k_is); (case k2 => k_is); (case a3 => k_is); (case l3 => k_is); (case c3 => k_is); (case k3 => k_is); (case a4 => k_is); (case l4 => k_is); (case c4 => k_is); (case k4 => k_is); (case a5 => k_is); (case l5 => k_is); (case c5 => k_is); (case k5 => k_is); (case a6 => k_is); (case l6 => k_is); (case c6 => k_is); (case k6 => k_is); (case a7 => k_is); (case l7 => k_is); (case c7 => k_is); (case k7 => k_is); (case a8 => k_is); (case l8 => k_is); (case c8 => k_is); (case k8 => k_is); (case a9 => k_is); (case l9 => k_is); (case c9 => k_is); (case k9 => k_is); (case a10 => k_is); (case l10 => k_is); (case c10 => k_is); (case k10 => k_is); (case n10_length => k_is); (case n10_drift => k_is); (case a11 => k_is); (case l11 => k_is); (case c11 => k_is); (case k11 => k_is); (case a12 => k_is); (case l12 => k_is); (case c12 => k_is); (case k12 => k_is); (case a13 => k_is); (case l13 => k_is); (case c13 => k_is); (case k13 => k_is); (case a14 => k_is); (case l14 => k_is); (case c14 => k_is); (case k14 => k_is); (case a15 => k_is); (case l15 => k_is); (case c15 => k_is); (case k15 => k_is); (case a16 => k_is); (case l16 => k_is); (case c16 => k_is); (case k16 => k_is); (case a17 => k_is); (case l17 => k_is); (case c17 => k_is); (case k17 => k_is); (case a18 => k_is); (case l18 => k_is); (case c18 => k_is); (case k18 => k_is); (case a19 => k_is); (case l19 => k_is); (case c19 => k_is); (case k19 => k_is); (case a20 => k_is); (case l20 => k_is); (case c20 => k_is); (case k20 => k_is); (case a21 => k_is); (case l21 => k_is); (case c21 => k_is); (case k21 => k_is); (case a22 => k_is); (case l22 => k_is); (case c22 => k_is); (case k22 => k_is); (case a23 => k_is); (case l23 => k_is); (case c23 => k_is); (case k23 => k_is); (case a24 => k_is); (case l24 => k_is); (case c24 => k_is); (case k24 => k_is); (case a25 => k_is); (case l25 => k_is); (case c25 => k_is); (case k25 => k_is); (case g_LETTERS => k_is); (case g_LONGEST_NAME => k_is); (case g_LENGTH => k_is); (case g_DRIFT => k_is); (case g_MOST => k_is); (case g_SERVER => k_is); (case z_ValueError => k_is); (case z_abs => k_is); (case z_all => k_is); (case z_bool => k_is); (case z_int => k_is); (case z_isinstance => k_is); (case z_len => k_is); (case z_list => k_is); (case z_min => k_is); (case z_range => k_is); (case z_sorted => k_is); (case z_str => k_is); (case z_tuple => k_is); (case b_ToldError => k_is); (case b_AskedError => k_is); (case b_NoSetup => k_is); (case b_NoText => k_is); (case b_NoRow => k_is); (case b_TooMany => k_is); (case b_NoClient => k_is); (case b_NoFile => k_is); (case b_NoPage => k_is); (case b_NoValue => k_is); (case b_NoTicks => k_is); (case b_NoMessage => k_is); (case b_Busy => k_is); (case b_NotWaiting => k_is); (case b_NoLease => k_is); (case b_Clean => k_is); (case b_NothingLeft => k_is); (case b_NoList => k_is); (case b_TooDeep => k_is); (case b_LendError => k_is); (case x_me => k_is); (case s_ToldError => k_is); (case h_ToldError => k_is); (case t_ToldError => k_is); (case s_AskedError => k_is); (case h_AskedError => k_is); (case t_AskedError => k_is); (case s_NoSetup => k_is); (case h_NoSetup => k_is); (case t_NoSetup => k_is); (case s_NoText => k_is); (case h_NoText => k_is); (case t_NoText => k_is); (case s_NoRow => k_is); (case h_NoRow => k_is); (case t_NoRow => k_is); (case s_TooMany => k_is); (case h_TooMany => k_is); (case t_TooMany => k_is); (case s_NoClient => k_is); (case h_NoClient => k_is); (case t_NoClient => k_is); (case s_NoFile => k_is); (case h_NoFile => k_is); (case t_NoFile => k_is); (case s_NoPage => k_is); (case h_NoPage => k_is); (case t_NoPage => k_is); (case s_NoValue => k_is); (case h_NoValue => k_is); (case t_NoValue => k_is); (case s_NoTicks => k_is); (case h_NoTicks => k_is); (case t_NoTicks => k_is); (case s_NoMessage => k_is); (case h_NoMessage => k_is); (case t_NoMessage => k_is); (case s_Busy => k_is); (case h_Busy => k_is); (case t_Busy => k_is); (case s_NotWaiting => k_is); (case h_NotWaiting => k_is); (case t_NotWaiting => k_is); (case s_NoLease => k_is); (case h_NoLease => k_is); (case t_NoLease => k_is); (case s_Clean => k_is); (case h_Clean => k_is); (case t_Clean => k_is); (case s_NothingLeft => k_is); (case h_NothingLeft => k_is); (case t_NothingLeft => k_is); (case s_NoList => k_is); (case h_NoList => k_is); (case t_NoList => k_is); (case s_TooDeep => k_is); (case h_TooDeep => k_is); (case t_TooDeep => k_is); (case s_LendError => k_is); (case h_LendError => k_is); (case t_LendError => k_is); (case x_be => k_is); (case x_veq => k_is); (case x_hg => k_is); (case x_hk => k_is); (case x_hs => k_is); (case x_hd => k_is); (case x_ha => k_is); (case x_hn => k_is); (case x_ht => k_is); (case x_hm => k_is); (case x_kp => k_is); (case x_ec => k_exc); (case x_ty => k_is)

