
import PyProof.Rows.All
import Wide.All
import OpenK.AllK
import Wide.FinOn
import PySem.Challenge.RW_pagelend_k05_the_first_unsafe_lease
import HandS.ForMost
import HandS.Wide
import HandS.Defaults
import HandS.MakeKwOnly
import HandS.IsInst
import HandS.Codes
import HandS.Walk
import HandS.TupAny
import HandS.More
import HandS.Sort
import HandS.Conv
import HandS.HotCalls
import HandS.ExcIs
import KE.KSortTupAny
set_option Elab.async false
set_option linter.all false
set_option maxRecDepth 100000
set_option maxHeartbeats 1000000
namespace My
open PySem PySem.Spec PyProof.Rows L2
def topS (i : Nat) : Stmt := PySem.Challenge.pw_pagelend_k05_the_first_unsafe_lease.main.body.getD i (.Pass ⟨0, 0, 0, 0⟩)
structure Fre (K : PySem.W.Frag) (mg : Str → Option Value) : Prop where
  abs : mg "abs" = none
  bool : mg "bool" = none
  int : mg "int" = none
  isinstance : mg "isinstance" = none
  len : mg "len" = none
  max : mg "max" = none
  min : mg "min" = none
  range : mg "range" = none
  zip : mg "zip" = none
  c_TURN : ∃ t, mg "TURN" = some (.int 100 t)
/-! ### calls with keywords, a def kept as its promise -/
structure CalN (P : Program) (w : World) (K : PySem.W.Frag) (mg : Str → Option Value) (base : Heap) (k : Nat) (x : Str) (sp : Sp) (n : Nat) (ks : List Str) (gV : List V → List V → List V) : Prop where
  ex : ∃ (f : Addr) (fd : FuncData) (ps : List Str) (g : List Value → List Value → List Value), FnOk P w K mg base CX0 k f fd ps sp ∧ mg x = some (.ref f) ∧ PySem.W.keepIn K (.ref f) = true ∧ KBn K fd ps n ks g gV
section
variable {X : Cx} {k j n : Nat} {x : Str} {sp : Sp} {ks : List Str} {gV : List V → List V → List V} {p pos : Pos} {e : Expr} {es : List Expr} {kws : List Keyword} {t tk : TA}
theorem pe_cn (c : CalN X.prog X.w X.K X.mg X.base k x sp n ks gV) (hr : Room j X.A) (hk : k ≤ j) (hg : Gl X x) (ha : PA X (e :: es) t) (hkw : PK X kws tk)
    (hall : (backToKw pos (keywordEach kws X.env)).all (·.1.isSome) = true := by rfl) (hks : (backToKw pos (keywordEach kws X.env)).filterMap (·.1) = ks := by rfl)
    (hdb : (x == ("__debug__" : Str)) = false := by decide) (he : starEach (e :: es) X.env = (false, eval e X.env) :: starEach es X.env := by rfl)
    (hpl : ((backTo pos (starEach (e :: es) X.env)).any (·.1) || (backToKw pos (keywordEach kws X.env)).any (·.1.isNone)) = false := by rfl) :
    PE X (.Call (.Name x p) (e :: es) kws pos) (tCallN n ks.length sp gV E0 t tk) := by
  obtain ⟨f, fd, ps, g, F, hm, kp, b⟩ := c.ex
  exact pe_callN F (hr.mono hk) hg hm kp b pass0 ha hkw hall hks hdb he hpl
theorem pe_cn0 (c : CalN X.prog X.w X.K X.mg X.base k x sp 0 ks gV) (hr : Room j X.A) (hk : k ≤ j) (hg : Gl X x) (hkw : PK X kws tk)
    (hall : (backToKw pos (keywordEach kws X.env)).all (·.1.isSome) = true := by rfl) (hks : (backToKw pos (keywordEach kws X.env)).filterMap (·.1) = ks := by rfl)
    (hdb : (x == ("__debug__" : Str)) = false := by decide)
    (hpl : ((backTo pos (starEach [] X.env)).any (·.1) || (backToKw pos (keywordEach kws X.env)).any (·.1.isNone)) = false := by rfl) :
    PE X (.Call (.Name x p) [] kws pos) (tCallN 0 ks.length sp gV E0 tNil tk) := by
  obtain ⟨f, fd, ps, g, F, hm, kp, b⟩ := c.ex
  refine ⟨fun pins s σ H Q I h => ?_⟩
  refine wpAny_Call_Name_kw (ld_glob I hg hm ?_ hdb)
  refine PySem.W.callWith_KW0 (h₀ := X.base) I.ok.mod.kin kp hall ?_ hpl
  refine thn (hkw.run pos pins s σ H _ I h) fun ws s2 ⟨zs, H2, I2, rz, l1, l2, q2⟩ => ⟨I2.kIn, ?_⟩
  rw [hks]
  exact run_fnN (us := []) (vs := []) F (hr.mono hk) b pass0 I2 .nil rz rfl l2 q2
end
section
variable {P : Program} {w : World} {K : PySem.W.Frag} {mg : Str → Option Value} {base : Heap}
theorem mkCal {x : Str} {st : Stmt} {f : Addr} {fd : FuncData} {N ps : List Str} {k : Nat} {sp : Sp} (F : Fun K x x st f fd) (gm : mg x = some (.ref f)) (S : FnScope N ps (defScope st)) (b : Binds K fd ps []) (len : ∀ vs H Q E, sp vs H Q E → vs.length = ps.length)
    (hbody : ∀ (cdv : Value) (A : Around) (outer : List Env) (s : Shared) (H : Hp) (vs : List V) (Q : VK) (E : XK), Room k (A.deeper (envOfC x (defScope st) s.heap.objs.size f cdv)) → sp vs H Q E →
      ∃ t, PSs (cxOf CX0 P w K mg base N x (defScope st) f cdv A outer s H E).nox (defBody st) t ∧ t { nx := fun _ H' => Q .non H', rt := Q } (start N vs) H) : C8.Cal P w K mg base (k + 1) x sp [] :=
  ⟨f, fd, ps, [], F.ok S len hbody, gm, F.kp, b, .nil⟩
end
/-! ### heaps -/
def But (b : Addr) (H H' : Hp) : Prop := ∀ a o, a ≠ b → H a = some o → H' a = some o
theorem But.trans {b : Addr} {H H1 H2 : Hp} (h : But b H H1) (g : But b H1 H2) : But b H H2 := fun a o n e => g a o n (h a o n e)
theorem But.refl (b : Addr) (H : Hp) : But b H H := fun _ _ _ e => e
theorem But.put {b : Addr} {H : Hp} {o : HO} : But b H (L2.upd H b o) := fun a _ n e => by rw [upd_ne n]; exact e
theorem But.new {b p : Addr} {H : Hp} {o : HO} (h : H p = none) : But b H (L2.upd H p o) := fun a _ n e => by rw [upd_ne (ne_of_none e h)]; exact e
theorem same_upd {H : Hp} {p : Addr} {o : HO} (h : H p = none) : Same H (upd H p o) := fun b x e => by
  rw [upd_ne (ne_of_none e h)]
  exact e
def Bag (H : Hp) (b : Addr) : Prop := ∃ x y : Int, H b = some (.lst [.int x, .int y]) ∧ 0 ≤ x ∧ 0 ≤ y ∧ y < 2147483647
theorem Bag.new {H : Hp} {b p : Addr} {o : HO} (g : Bag H b) (h : H p = none) : Bag (L2.upd H p o) b := by
  obtain ⟨x, y, e, r⟩ := g
  exact ⟨x, y, by rw [upd_ne (ne_of_none e h)]; exact e, r⟩
theorem Bag.ne {H : Hp} {b p : Addr} (g : Bag H b) (h : H p = none) : p ≠ b := by
  obtain ⟨x, y, e, r⟩ := g
  exact (ne_of_none e h).symm
theorem Bag.ne_tup {H : Hp} {b p : Addr} {xs : List V} (g : Bag H b) (h : H p = some (.tup xs)) : p ≠ b := by
  obtain ⟨x, y, e, r⟩ := g
  exact ne_of h e (by intro z; cases z)
theorem seqBut {K : PySem.W.Frag} {H H' : Hp} {a b : Addr} {xs : List V} (e : But b H H') (n : a ≠ b) (h : SqL K H a xs) : SqL K H' a xs := by
  rcases h with (h | ⟨o, h⟩) | h
  · exact .inl (.inl (e _ _ n h))
  · exact .inl (.inr ⟨o, e _ _ n h⟩)
  · exact .inr h
theorem dT {a : Bool} {b : Bool} (h : a = b) : decide (V.bl a = V.bl b) = true := by rw [h]; exact decide_eq_true rfl
theorem two_ok (a b : V) : [a, b].length ≤ sizeLine := by show 2 ≤ sizeLine; decide
theorem three_ok (a b c : V) : [a, b, c].length ≤ sizeLine := by show 3 ≤ sizeLine; decide
theorem four_ok (a b c d : V) : [a, b, c, d].length ≤ sizeLine := by show 4 ≤ sizeLine; decide
theorem free_of {b p : Addr} {H H' : Hp} (g : But b H H') (hB : Bag H b) (hB' : Bag H' b) (np : H' p = none) : H p = none := by
  cases e : H p with
  | none => rfl
  | some o =>
    have z := g p o (hB'.ne np) e
    rw [np] at z
    cases z
theorem same_but {b : Addr} {H0 H1 H2 : Hp} (sm : Same H0 H1) (nb : H0 b = none) (g : But b H1 H2) : Same H0 H2 := fun c o e => g c o (ne_of_none e nb) (sm c o e)
theorem iteD {p A B : Prop} [Decidable p] (h : ¬ p) (b : B) : if decide p = true then A else B := by
  rw [if_neg (by rw [decide_eq_false h]; exact Bool.false_ne_true)]
  exact b
theorem iteD' {p A B : Prop} [Decidable p] (h : p) (b : A) : if decide p = true then A else B := by
  rw [if_pos (decide_eq_true h)]
  exact b
theorem vone {vs : List V} {us : List Value} (i : Nat) (r : Vals vs us) : Vals ((vs.drop i).take 1) ((us.drop i).take 1) := by
  exact (r.drop i).take 1
section
variable {P : Program} {w : World} {K : PySem.W.Frag} {mg : Str → Option Value} {base : Heap}

/-! ### _law_take: any draw below many -/
abbrev s__law_take : Stmt := topS 11
theorem sc__law_take : FnScope ["bag", "many", "found"] ["bag", "many"] (defScope s__law_take) := ⟨rfl, rfl, rfl, by decide +kernel, rfl, by decide +kernel, by decide +kernel⟩
def sp_law_take : Sp := fun vs H Q _ => ∃ (b : Addr) (m : Int), vs = [.ref b, .int m] ∧ Bag H b ∧ 0 < m ∧ m < 2 ^ 200 ∧ ∀ r H', 0 ≤ r → r < m → But b H H' → Bag H' b → Q (.int r) H'
theorem ok__law_take {f : Addr} {fd : FuncData} (F : Fun K "_law_take" "_law_take" s__law_take f fd) (gm : mg "_law_take" = some (.ref f)) (N : Fre K mg)  : C8.Cal P w K mg base 1 "_law_take" sp_law_take [] := by
  refine mkCal F gm sc__law_take (F.binds (ps := ["bag", "many"]) fun _ _ _ _ _ _ us hl => match us, hl with | [_, _], _ => rfl) (fun vs H Q E h => ?_) (fun cdv A outer s H vs Q E hr h => ?_)
  · obtain ⟨b, m, rfl, _⟩ := h
    rfl
  · obtain ⟨b, m, rfl, ⟨x, y, hb, hx, hy, hy2⟩, hm, hm2, q⟩ := h
    refine ⟨_, (pss_cons (ps_if (pt_cmpR op_gt (pe_ix ix_list (pv 0) pe_int (fun _ _ => rfl)) pe_int (nomark _))
 (pss_cons (ps_set (i := 2) sc__law_take.nd rfl (.inl rfl) (pe_op op_mod (pe_ix ix_list (pv 0) pe_int (fun _ _ => rfl)) (pv 1)))
 (pss_cons (ps_asg (pe_op op_fdivW (pe_ix ix_list (pv 0) pe_int (fun _ _ => rfl)) (pv 1)) (pg_sub (pv 0) pe_int set_list))
 (pss_one (ps_ret (pv 2)))))
 pss_nil)
 (pss_cons (ps_asg (pe_op op_mod (pe_op op_mul (pe_ix ix_list (pv 0) pe_int (fun _ _ => rfl)) pe_int) pe_int) (pg_sub (pv 0) pe_int set_list))
 (pss_one (ps_ret (pe_op op_mod (pe_op op_fdiv (pe_op op_mod (pe_op op_mul (pe_ix ix_list (pv 0) pe_int (fun _ _ => rfl)) (pe_ix ix_list (pv 0) pe_int (fun _ _ => rfl))) pe_int) pe_int) (pv 1)))))), ?_⟩
    refine ⟨_, rfl, b, _, 0, .int x, rfl, rfl, SqL.of hb, atI_nat (j := 0) rfl, x, 0, rfl, rfl, _, rfl, ite2 (fun e => ?_) (fun e => ?_)⟩
    · have hx0 : 0 < x := of_decide_eq_true e
      refine ⟨_, rfl, b, _, 0, .int x, rfl, rfl, SqL.of hb, atI_nat (j := 0) rfl, _, rfl, x, m, rfl, rfl, hm, ?_⟩
      refine ⟨_, rfl, b, _, 0, .int x, rfl, rfl, SqL.of hb, atI_nat (j := 0) rfl, _, rfl, x, m, rfl, rfl, wide_div (b := 200) hm (by omega) (by decide) (by decide), _, rfl, b, _, 0, 0, rfl, rfl, hb, rfl, ?_⟩
      refine ⟨_, rfl, q _ _ (Int.emod_nonneg _ (by omega)) (Int.emod_lt_of_pos _ hm) But.put ⟨x / m, y, upd_same, Int.ediv_nonneg hx (by omega), hy, hy2⟩⟩
    · refine ⟨_, rfl, b, _, 1, .int y, rfl, rfl, SqL.of hb, atI_nat (j := 1) rfl, y, 48271, rfl, rfl, .inr ⟨by decide, by decide⟩, _, 2147483647, rfl, rfl, (by show (0 : Int) < 2147483647; decide), _, rfl, b, _, 1, 1, rfl, rfl, hb, rfl, ?_⟩
      have hb2 : (upd H b (.lst ([V.int x, V.int y].set 1 (.int (y * 48271 % 2147483647))))) b = some (.lst [.int x, .int (y * 48271 % 2147483647)]) := upd_same
      have hz1 : 0 ≤ y * 48271 % 2147483647 := Int.emod_nonneg _ (by decide)
      have hz2 : y * 48271 % 2147483647 < 2147483647 := Int.emod_lt_of_pos _ (by decide)
      refine ⟨_, rfl, b, _, 1, _, rfl, rfl, SqL.of hb2, atI_nat (j := 1) rfl, _, rfl, b, _, 1, _, rfl, rfl, SqL.of hb2, atI_nat (j := 1) rfl, _, _, rfl, rfl, .inl ⟨by omega, by omega⟩, _, 2147483629, rfl, rfl, (by show (0 : Int) < 2147483629; decide), _, 64, rfl, rfl, ⟨by decide, by decide⟩, _, rfl, _, m, rfl, rfl, hm, ?_⟩
      exact q _ _ (Int.emod_nonneg _ (by omega)) (Int.emod_lt_of_pos _ hm) But.put ⟨x, _, hb2, hx, hz1, hz2⟩
/-! ### _law_bag -/
abbrev s__law_bag : Stmt := topS 10
theorem sc__law_bag : FnScope ["script", "k", "cell"] ["script", "k"] (defScope s__law_bag) := ⟨rfl, rfl, rfl, by decide +kernel, rfl, by decide +kernel, by decide +kernel⟩
def sp_law_bag (K : PySem.W.Frag) : Sp := fun vs H Q _ => ∃ (a : Addr) (ns : List Int) (k : Int), vs = [.ref a, .int k] ∧ SqL K H a (ns.map V.int) ∧ 0 ≤ k ∧ k < 100 ∧ ∀ p H', H p = none → Same H H' → Bag H' p → Q (.ref p) H'
theorem bag_pos (c k : Int) (n : Int) : 0 ≤ 1 + (c + k) % 2147483646 ∧ 1 + (c + k) % 2147483646 < 2147483647 := by
  have h1 : 0 ≤ (c + k) % 2147483646 := Int.emod_nonneg _ (by decide)
  have h2 : (c + k) % 2147483646 < 2147483646 := Int.emod_lt_of_pos _ (by decide)
  omega
theorem ok__law_bag {f : Addr} {fd : FuncData} (F : Fun K "_law_bag" "_law_bag" s__law_bag f fd) (gm : mg "_law_bag" = some (.ref f)) (N : Fre K mg)  : C8.Cal P w K mg base 1 "_law_bag" (sp_law_bag K) [] := by
  refine mkCal F gm sc__law_bag (F.binds (ps := ["script", "k"]) fun _ _ _ _ _ _ us hl => match us, hl with | [_, _], _ => rfl) (fun vs H Q E h => ?_) (fun cdv A outer s H vs Q E hr h => ?_)
  · obtain ⟨a, ns, k, rfl, _⟩ := h
    rfl
  · obtain ⟨a, ns, k, rfl, hS, hk, hk2, q⟩ := h
    refine ⟨_, (pss_cons (ps_set (i := 2) sc__law_bag.nd rfl (.inl rfl) pe_int)
 (pss_cons (ps_if (pt_cmpR op_lt (pv 1) (pe_callB call_len_seq (by rfl) N.len (by decide +kernel) (pa_cons (pv 0) pa_nil)) (nomark _))
 (pss_one (ps_set (i := 2) sc__law_bag.nd rfl (.inl rfl) (pe_callB call_abs (by rfl) N.abs (by decide +kernel) (pa_cons (pe_ix ix_list (pv 0) (pv 1) (fun _ _ => rfl)) pa_nil))))
 pss_nil)
 (pss_cons (ps_if (pt_cmpR op_lt (pv 2) (pe_op op_pow pe_int pe_int) (nomark _))
 (pss_one (ps_ret (pe_lst (pa_cons pe_int (pa_cons (pe_op op_add pe_int (pe_op op_mod (pe_op op_add (pe_op op_mul (pv 2) pe_int) (pe_op op_mul pe_int (pv 1))) pe_int)) pa_nil)))))
 pss_nil)
 (pss_one (ps_ret (pe_lst (pa_cons (pv 2) (pa_cons (pe_op op_add pe_int (pe_op op_mod (pe_op op_add (pv 2) (pv 1)) pe_int)) pa_nil)))))))), ?_⟩
    refine ⟨_, rfl, _, rfl, a, _, rfl, .inl hS, k, _, rfl, rfl, _, rfl, ite2 (fun e => ?_) (fun e => ?_)⟩
    · have hlt : k.toNat < ns.length := by
        have e1 := of_decide_eq_true e
        rw [List.length_map] at e1
        omega
      have g1 : (ns.map V.int)[k.toNat]? = some (.int ns[k.toNat]) := by
        rw [List.getElem?_map, List.getElem?_eq_getElem hlt]
        rfl
      generalize ns[k.toNat] = c at g1
      have g2 : atI (ns.map V.int) k = some (.int c) := by
        have e2 : ((k.toNat : Nat) : Int) = k := by omega
        rw [← e2]
        exact atI_nat g1
      refine ⟨_, rfl, _, rfl, a, _, k, _, rfl, rfl, hS, g2, c, rfl, ?_⟩
      have hc : 0 ≤ (if c < 0 then -c else c) := by split <;> omega
      generalize (if c < 0 then -c else c) = d at hc
      refine ⟨_, rfl, 10, 18, rfl, rfl, ⟨by decide, by decide, by decide⟩, d, _, rfl, rfl, _, rfl, ite2 (fun e2 => ?_) (fun e2 => ?_)⟩
      · refine ⟨_, rfl, d, 7919, rfl, rfl, .inr ⟨by decide, by decide⟩, _, rfl, 104729, k, rfl, rfl, .inl ⟨by decide, by decide⟩, _, _, rfl, rfl, _, _, rfl, rfl, (by show (0 : Int) < 2147483646; decide), 1, _, rfl, rfl, two_ok _ _, fun p np => ?_⟩
        exact q p _ np (same_upd np) ⟨0, _, upd_same, by decide, bag_pos _ _ 0⟩
      · refine ⟨_, rfl, _, rfl, _, rfl, d, k, rfl, rfl, _, _, rfl, rfl, (by show (0 : Int) < 2147483646; decide), 1, _, rfl, rfl, two_ok _ _, fun p np => ?_⟩
        exact q p _ np (same_upd np) ⟨d, _, upd_same, hc, bag_pos _ _ 0⟩
    · refine ⟨_, rfl, 10, 18, rfl, rfl, ⟨by decide, by decide, by decide⟩, 0, _, rfl, rfl, _, rfl, ite2 (fun e2 => ?_) (fun e2 => ?_)⟩
      · refine ⟨_, rfl, 0, 7919, rfl, rfl, .inr ⟨by decide, by decide⟩, _, rfl, 104729, k, rfl, rfl, .inl ⟨by decide, by decide⟩, _, _, rfl, rfl, _, _, rfl, rfl, (by show (0 : Int) < 2147483646; decide), 1, _, rfl, rfl, two_ok _ _, fun p np => ?_⟩
        exact q p _ np (same_upd np) ⟨0, _, upd_same, by decide, bag_pos _ _ 0⟩
      · refine ⟨_, rfl, _, rfl, _, rfl, 0, k, rfl, rfl, _, _, rfl, rfl, (by show (0 : Int) < 2147483646; decide), 1, _, rfl, rfl, two_ok _ _, fun p np => ?_⟩
        exact q p _ np (same_upd np) ⟨0, _, upd_same, by decide, bag_pos _ _ 0⟩

/-! ### the mathematics of clocks -/
def shw (r h t : Int) : Int := (t * r + h) / 100
def spn (l d : Int) : Int := l * (100 - d) / 100
def lst (r h a l d : Int) : Int := (100 * (shw r h a + spn l d) - 1 - h) / r
theorem lst_ge {r h a l d : Int} (hr : 0 < r) (hs : 1 ≤ spn l d) : a ≤ lst r h a l d := by
  refine Int.le_ediv_of_mul_le hr ?_
  unfold shw
  generalize a * r = q
  generalize spn l d = m at hs
  omega
theorem lst_used {r h a l d : Int} (hr : 0 < r) : shw r h (lst r h a l d) - shw r h a < spn l d := by
  have h1 : lst r h a l d * r ≤ 100 * (shw r h a + spn l d) - 1 - h := Int.ediv_mul_le _ (by omega)
  generalize lst r h a l d = t at h1
  unfold shw at *
  generalize t * r = q at *
  generalize (a * r + h) / 100 = u at *
  generalize spn l d = m at *
  omega
theorem lst_next {r h a l d : Int} (hr : 0 < r) : spn l d ≤ shw r h (lst r h a l d + 1) - shw r h a := by
  have h1 : 100 * (shw r h a + spn l d) - 1 - h < (lst r h a l d + 1) * r := Int.lt_ediv_add_one_mul_self _ hr
  generalize lst r h a l d + 1 = t at *
  unfold shw at *
  generalize t * r = q at *
  generalize (a * r + h) / 100 = u at *
  generalize spn l d = m at *
  omega
theorem spn_pos {l d : Int} (h1 : 2 ≤ l) (h2 : 0 ≤ d) (h3 : d ≤ 50) : 1 ≤ spn l d := by
  unfold spn
  refine Int.le_ediv_of_mul_le (by decide) ?_
  have : 2 * 50 ≤ l * (100 - d) := Int.mul_le_mul h1 (by omega) (by omega) (by omega)
  omega
theorem small {i : Int} (h1 : -100000 ≤ i) (h2 : i ≤ 100000) : -(2 ^ 64) < i ∧ i < 2 ^ 64 := by omega

/-! ### shown, span -/
abbrev s_shown : Stmt := topS 4
theorem sc_shown : FnScope ["clock", "time", "rate", "ahead"] ["clock", "time"] (defScope s_shown) := ⟨rfl, rfl, rfl, by decide +kernel, rfl, by decide +kernel, by decide +kernel⟩
def spshown (K : PySem.W.Frag) : Sp := fun vs H Q _ => ∃ (c : Addr) (r h t : Int), vs = [.ref c, .int t] ∧ SqT K H c [.int r, .int h] ∧ 0 ≤ r ∧ r ≤ 200 ∧ Q (.int (shw r h t)) H
theorem ok_shown {f : Addr} {fd : FuncData} (F : Fun K "shown" "shown" s_shown f fd) (gm : mg "shown" = some (.ref f)) (N : Fre K mg)  : C8.Cal P w K mg base 1 "shown" (spshown K) [] := by
  refine mkCal F gm sc_shown (F.binds (ps := ["clock", "time"]) fun _ _ _ _ _ _ us hl => match us, hl with | [_, _], _ => rfl) (fun vs H Q E h => ?_) (fun cdv A outer s H vs Q E hr h => ?_)
  · obtain ⟨c, r, h, t, rfl, _⟩ := h
    rfl
  · obtain ⟨c, r, h, t, rfl, hT, h0, h1, q⟩ := h
    refine ⟨_, (pss_cons (ps_asg (pv 0) (pg_tup rfl (pgs_cons (pg_name (i := 2) sc_shown.nd rfl (.inl rfl)) (pgs_cons (pg_name (i := 3) sc_shown.nd rfl (.inl rfl)) pgs_nil))))
 (pss_one (ps_ret (pe_op op_fdiv (pe_op op_add (pe_op op_mul (pv 1) (pv 2)) (pv 3)) pe_int)))), ?_⟩
    refine ⟨_, rfl, c, _, rfl, hT, rfl, .int r, _, rfl, .int h, _, rfl, rfl, ?_⟩
    exact ⟨_, rfl, _, rfl, t, r, rfl, rfl, .inr (small (by omega) (by omega)), _, rfl, _, h, rfl, rfl, _, 100, rfl, rfl, ⟨by decide, by decide⟩, q⟩
abbrev s_span : Stmt := topS 5
theorem sc_span : FnScope ["length", "drift"] ["length", "drift"] (defScope s_span) := ⟨rfl, rfl, rfl, by decide +kernel, rfl, by decide +kernel, by decide +kernel⟩
def spspan : Sp := fun vs H Q _ => ∃ (l d : Int), vs = [.int l, .int d] ∧ 0 ≤ l ∧ l ≤ 1000 ∧ Q (.int (spn l d)) H
theorem ok_span {f : Addr} {fd : FuncData} (F : Fun K "span" "span" s_span f fd) (gm : mg "span" = some (.ref f)) (N : Fre K mg)  : C8.Cal P w K mg base 1 "span" spspan [] := by
  refine mkCal F gm sc_span (F.binds (ps := ["length", "drift"]) fun _ _ _ _ _ _ us hl => match us, hl with | [_, _], _ => rfl) (fun vs H Q E h => ?_) (fun cdv A outer s H vs Q E hr h => ?_)
  · obtain ⟨l, d, rfl, _⟩ := h
    rfl
  · obtain ⟨l, d, rfl, h0, h1, q⟩ := h
    refine ⟨_, (pss_one (ps_ret (pe_op op_fdiv (pe_op op_mul (pv 0) (pe_op op_sub pe_int (pv 1))) pe_int))), ?_⟩
    exact ⟨_, rfl, _, rfl, 100, d, rfl, rfl, l, _, rfl, rfl, .inl (small (by omega) (by omega)), _, 100, rfl, rfl, ⟨by decide, by decide⟩, q⟩

/-! ### is_used -/
abbrev s_is_used : Stmt := topS 6
theorem sc_is_used : FnScope ["clock", "asked", "time", "length", "drift"] ["clock", "asked", "time", "length", "drift"] (defScope s_is_used) := ⟨rfl, rfl, rfl, by decide +kernel, rfl, by decide +kernel, by decide +kernel⟩
def usd (r h a t l d : Int) : Bool := decide (a ≤ t) && decide (shw r h t - shw r h a < spn l d)
def spis_used (K : PySem.W.Frag) : Sp := fun vs H Q _ => ∃ (c : Addr) (r h a t l d : Int), vs = [.ref c, .int a, .int t, .int l, .int d] ∧ SqT K H c [.int r, .int h] ∧ 0 ≤ r ∧ r ≤ 200 ∧ 0 ≤ l ∧ l ≤ 1000 ∧ Q (.bl (usd r h a t l d)) H
theorem ok_is_used {f : Addr} {fd : FuncData} (F : FunD K "is_used" "is_used" (defArgs s_is_used) (defBody s_is_used) (defScope s_is_used) [] ([("length", V.int 20), ("drift", V.int 10)] : List (Str × V)) f fd) (N : Fre K mg) (c_shown : C8.Cal P w K mg base 1 "shown" (spshown K) []) (c_span : C8.Cal P w K mg base 1 "span" spspan []) : FnOk P w K mg base CX0 2 f fd ["clock", "asked", "time", "length", "drift"] (spis_used K) := by
  refine F.ok sc_is_used (fun vs H Q E h => ?_) (fun cdv A outer s H vs Q E hr h => ?_)
  · obtain ⟨c, r, h, a, t, l, d, rfl, _⟩ := h
    rfl
  · obtain ⟨c, r, h, a, t, l, d, rfl, hT, h0, h1, h2, h3, q⟩ := h
    refine ⟨_, PSs.nox (pss_cons (ps_if (pt_cmpR op_lt (pv 2) (pv 1) (nomark _))
 (pss_one (ps_ret pe_bl))
 pss_nil)
 (pss_one (ps_ret (pe_cmpR op_lt (pe_op op_sub (C8.pe_c c_shown hr (by decide) rfl (pa_cons (pv 0) (pa_cons (pv 2) pa_nil))) (C8.pe_c c_shown hr (by decide) rfl (pa_cons (pv 0) (pa_cons (pv 1) pa_nil)))) (C8.pe_c c_span hr (by decide) rfl (pa_cons (pv 3) (pa_cons (pv 4) pa_nil))) (nomark _))))), ?_⟩
    refine ⟨_, rfl, _, rfl, t, a, rfl, rfl, _, rfl, ite2 (fun e => ?_) (fun e => ?_)⟩
    · have e1 : t < a := of_decide_eq_true e
      have e2 : usd r h a t l d = false := by unfold usd; rw [decide_eq_false (by omega)]; rfl
      rw [e2] at q
      exact q
    · have e1 : ¬ t < a := fun z => e (decide_eq_true z)
      have e2 : usd r h a t l d = decide (shw r h t - shw r h a < spn l d) := by unfold usd; rw [decide_eq_true (show a ≤ t by omega)]; rfl
      rw [e2] at q
      exact ⟨_, rfl, _, rfl, c, r, h, t, rfl, hT, h0, h1, _, rfl, _, rfl, c, r, h, a, rfl, hT, h0, h1, _, _, rfl, rfl, _, rfl, _, rfl, l, d, rfl, h2, h3, _, _, rfl, rfl, q⟩
def g_is_used_3_length_drift {α : Type} (us mv ws : List α) : List α := us ++ (ws.drop 0).take 1 ++ (ws.drop 1).take 1
theorem bd_is_used_3_length_drift {f : Addr} {fd : FuncData} (F : FunD K "is_used" "is_used" (defArgs s_is_used) (defBody s_is_used) (defScope s_is_used) [] ([("length", V.int 20), ("drift", V.int 10)] : List (Str × V)) f fd) :
    ∃ mv : List Value, KBn K fd ["clock", "asked", "time", "length", "drift"] 3 ["length", "drift"] (fun us ws => g_is_used_3_length_drift us mv ws) (fun vs zs => g_is_used_3_length_drift vs (([] : List (Str × V)).map (·.2)) zs) :=
  F.kbinds0 3 ["length", "drift"] ([] : List (Str × V)) g_is_used_3_length_drift (by decide) (by decide)
    (fun r1 r2 r3 => ((r1.append (vone 0 r3)).append (vone 1 r3)))
    fun D doc pm an cdv ct us mv ws h1 h2 h3 => match us, mv, ws, h1, h2, h3 with | [u0, u1, u2], [], [w0, w1], _, _, _ => rfl

theorem ok_is_used_3_length_drift {f : Addr} {fd : FuncData} (F : FunD K "is_used" "is_used" (defArgs s_is_used) (defBody s_is_used) (defScope s_is_used) [] ([("length", V.int 20), ("drift", V.int 10)] : List (Str × V)) f fd) (gm : mg "is_used" = some (.ref f)) (N : Fre K mg) (c_shown : C8.Cal P w K mg base 1 "shown" (spshown K) []) (c_span : C8.Cal P w K mg base 1 "span" spspan []) : CalN P w K mg base 2 "is_used" (spis_used K) 3 ["length", "drift"] (fun vs zs => g_is_used_3_length_drift vs (([] : List (Str × V)).map (·.2)) zs) := by
  obtain ⟨m, hb⟩ := bd_is_used_3_length_drift F
  exact ⟨f, fd, _, _, ok_is_used F N c_shown c_span, gm, F.kp, hb⟩

/-! ### what the law draws -/
abbrev s__law_terms : Stmt := topS 13
theorem sc__law_terms : FnScope ["bag", "most", "slack"] ["bag"] (defScope s__law_terms) := ⟨rfl, rfl, rfl, by decide +kernel, rfl, by decide +kernel, by decide +kernel⟩
def sp_law_terms : Sp := fun vs H Q _ => ∃ b : Addr, vs = [.ref b] ∧ Bag H b ∧ ∀ l d p H', 2 ≤ l → l ≤ 1000 → 0 ≤ d → d ≤ 50 → H p = none → But b H H' → Bag H' b → H' p = some (.tup [.int l, .int d]) → Q (.ref p) H'
theorem pick3 {x y z i : Int} (h0 : 0 ≤ i) (h1 : i < 3) : ∃ m, atI [V.int x, V.int y, V.int z] i = some (.int m) ∧ (m = x ∨ m = y ∨ m = z) := by
  have : i = 0 ∨ i = 1 ∨ i = 2 := by omega
  rcases this with rfl | rfl | rfl
  · exact ⟨x, atI_nat (j := 0) rfl, .inl rfl⟩
  · exact ⟨y, atI_nat (j := 1) rfl, .inr (.inl rfl)⟩
  · exact ⟨z, atI_nat (j := 2) rfl, .inr (.inr rfl)⟩
theorem pick6 {x y z u v w i : Int} (h0 : 0 ≤ i) (h1 : i < 6) : ∃ m, atI [V.int x, V.int y, V.int z, V.int u, V.int v, V.int w] i = some (.int m) ∧ (m = x ∨ m = y ∨ m = z ∨ m = u ∨ m = v ∨ m = w) := by
  have : i = 0 ∨ i = 1 ∨ i = 2 ∨ i = 3 ∨ i = 4 ∨ i = 5 := by omega
  rcases this with rfl | rfl | rfl | rfl | rfl | rfl
  · exact ⟨x, atI_nat (j := 0) rfl, by omega⟩
  · exact ⟨y, atI_nat (j := 1) rfl, by omega⟩
  · exact ⟨z, atI_nat (j := 2) rfl, by omega⟩
  · exact ⟨u, atI_nat (j := 3) rfl, by omega⟩
  · exact ⟨v, atI_nat (j := 4) rfl, by omega⟩
  · exact ⟨w, atI_nat (j := 5) rfl, by omega⟩
theorem six_ok (a b c d e f : V) : [a, b, c, d, e, f].length ≤ sizeLine := by show 6 ≤ sizeLine; decide
theorem ok__law_terms {f : Addr} {fd : FuncData} (F : Fun K "_law_terms" "_law_terms" s__law_terms f fd) (gm : mg "_law_terms" = some (.ref f)) (N : Fre K mg) (c__law_take : C8.Cal P w K mg base 1 "_law_take" sp_law_take []) : C8.Cal P w K mg base 2 "_law_terms" sp_law_terms [] := by
  refine mkCal F gm sc__law_terms (F.binds (ps := ["bag"]) fun _ _ _ _ _ _ us hl => match us, hl with | [_], _ => rfl) (fun vs H Q E h => ?_) (fun cdv A outer s H vs Q E hr h => ?_)
  · obtain ⟨b, rfl, _⟩ := h
    rfl
  · obtain ⟨b, rfl, hB, q⟩ := h
    refine ⟨_, (pss_cons (ps_set (i := 1) sc__law_terms.nd rfl (.inl rfl) (pe_ix ix_list (pe_lst (pa_cons pe_int (pa_cons pe_int (pa_cons pe_int pa_nil)))) (C8.pe_c c__law_take hr (by decide) rfl (pa_cons (pv 0) (pa_cons pe_int pa_nil))) (fun _ _ => rfl)))
 (pss_cons (ps_set (i := 2) sc__law_terms.nd rfl (.inl rfl) (pe_ix ix_list (pe_lst (pa_cons pe_int (pa_cons pe_int (pa_cons pe_int (pa_cons pe_int (pa_cons pe_int (pa_cons pe_int pa_nil))))))) (C8.pe_c c__law_take hr (by decide) rfl (pa_cons (pv 0) (pa_cons pe_int pa_nil))) (fun _ _ => rfl)))
 (pss_cons (ps_if (pt_cmpR op_eq (pv 2) pe_int (nomark _))
 (pss_one (ps_set (i := 2) sc__law_terms.nd rfl (.inl rfl) (C8.pe_c c__law_take hr (by decide) rfl (pa_cons (pv 0) (pa_cons pe_int pa_nil)))))
 pss_nil)
 (pss_one (ps_ret (pe_tup (pa_cons (pe_op op_add pe_int (C8.pe_c c__law_take hr (by decide) rfl (pa_cons (pv 0) (pa_cons (pv 1) pa_nil)))) (pa_cons (pv 2) pa_nil)))))))), ?_⟩
    -- most
    refine ⟨three_ok _ _ _, fun L nL => ?_⟩
    refine ⟨_, rfl, b, 3, rfl, hB.new nL, by decide, by decide, fun i H1 i0 i1 B1 G1 => ?_⟩
    obtain ⟨m, e1, hm⟩ := pick3 (x := 9) (y := 60) (z := 999) i0 i1
    have hL : H1 L = some (.lst [.int 9, .int 60, .int 999]) := B1 _ _ (hB.ne nL) upd_same
    refine ⟨L, _, i, .int m, rfl, rfl, SqL.of hL, e1, ?_⟩
    have s1 : Same H H1 ∨ True := .inr trivial
    have bH1 : But b H H1 := (But.new nL).trans B1
    -- slack
    refine ⟨six_ok _ _ _ _ _ _, fun L2 nL2 => ?_⟩
    refine ⟨_, rfl, b, 6, rfl, G1.new nL2, by decide, by decide, fun j H2 j0 j1 B2 G2 => ?_⟩
    obtain ⟨s, e2, hs⟩ := pick6 (x := 0) (y := 1) (z := 49) (u := 50) (v := 10) (w := 51) j0 j1
    have hL2 : H2 L2 = some (.lst [.int 0, .int 1, .int 49, .int 50, .int 10, .int 51]) := B2 _ _ (G1.ne nL2) upd_same
    refine ⟨L2, _, j, .int s, rfl, rfl, SqL.of hL2, e2, ?_⟩
    have bH2 : But b H H2 := bH1.trans ((But.new nL2).trans B2)
    -- if slack == 51
    refine ⟨_, rfl, rfl, _, rfl, ite2 (fun e => ?_) (fun e => ?_)⟩
    · refine ⟨_, rfl, b, 51, rfl, G2, by decide, by decide, fun d H3 d0 d1 B3 G3 => ?_⟩
      refine ⟨_, rfl, _, rfl, b, m, rfl, G3, by omega, by omega, fun l H4 l0 l1 B4 G4 => ?_⟩
      refine ⟨2, l, rfl, rfl, _, rfl, two_ok _ _, fun p np => ?_⟩
      have bH4 : But b H H4 := bH2.trans (B3.trans B4)
      refine q (2 + l) d p _ (by omega) (by omega) (by omega) (by omega) ?_ (bH4.trans (But.new np)) (G4.new np) upd_same
      exact free_of bH4 hB G4 np
    · have hs2 : s ≠ 51 := fun z => e (by rw [z]; exact decide_eq_true rfl)
      refine ⟨_, rfl, _, rfl, b, m, rfl, G2, by omega, by omega, fun l H4 l0 l1 B4 G4 => ?_⟩
      refine ⟨2, l, rfl, rfl, _, rfl, two_ok _ _, fun p np => ?_⟩
      have bH4 : But b H H4 := bH2.trans B4
      refine q (2 + l) s p _ (by omega) (by omega) (by omega) (by omega) ?_ (bH4.trans (But.new np)) (G4.new np) upd_same
      exact free_of bH4 hB G4 np

abbrev s__law_late : Stmt := topS 12
theorem sc__law_late : FnScope ["c", "a", "t"] ["c", "a", "t"] (defScope s__law_late) := ⟨rfl, rfl, rfl, by decide +kernel, rfl, by decide +kernel, by decide +kernel⟩
def sp_law_late (K : PySem.W.Frag) : Sp := fun vs H Q _ => ∃ (c : Addr) (r h a t : Int), vs = [.ref c, .int a, .int t] ∧ SqT K H c [.int r, .int h] ∧ 0 ≤ r ∧ r ≤ 200 ∧ Q (.int (shw r h t - shw r h a)) H
theorem ok__law_late {f : Addr} {fd : FuncData} (F : Fun K "_law_late" "_law_late" s__law_late f fd) (gm : mg "_law_late" = some (.ref f)) (N : Fre K mg)  : C8.Cal P w K mg base 1 "_law_late" (sp_law_late K) [] := by
  refine mkCal F gm sc__law_late (F.binds (ps := ["c", "a", "t"]) fun _ _ _ _ _ _ us hl => match us, hl with | [_, _, _], _ => rfl) (fun vs H Q E h => ?_) (fun cdv A outer s H vs Q E hr h => ?_)
  · obtain ⟨c, r, h, a, t, rfl, _⟩ := h
    rfl
  · obtain ⟨c, r, h, a, t, rfl, hT, h0, h1, q⟩ := h
    refine ⟨_, (pss_one (ps_ret (pe_op op_sub (pe_op op_fdiv (pe_op op_add (pe_op op_mul (pv 2) (pe_ix ix_tup (pv 0) pe_int (fun _ _ => rfl))) (pe_ix ix_tup (pv 0) pe_int (fun _ _ => rfl))) pe_int) (pe_op op_fdiv (pe_op op_add (pe_op op_mul (pv 1) (pe_ix ix_tup (pv 0) pe_int (fun _ _ => rfl))) (pe_ix ix_tup (pv 0) pe_int (fun _ _ => rfl))) pe_int)))), ?_⟩
    refine ⟨_, rfl, _, rfl, c, _, 0, .int r, rfl, rfl, hT, atI_nat (j := 0) rfl, t, r, rfl, rfl, .inr (small (by omega) (by omega)), _, rfl, c, _, 1, .int h, rfl, rfl, hT, atI_nat (j := 1) rfl, _, h, rfl, rfl, _, 100, rfl, rfl, ⟨by decide, by decide⟩, ?_⟩
    exact ⟨_, rfl, _, rfl, c, _, 0, .int r, rfl, rfl, hT, atI_nat (j := 0) rfl, a, r, rfl, rfl, .inr (small (by omega) (by omega)), _, rfl, c, _, 1, .int h, rfl, rfl, hT, atI_nat (j := 1) rfl, _, h, rfl, rfl, _, 100, rfl, rfl, ⟨by decide, by decide⟩, _, _, rfl, rfl, q⟩

abbrev s__law_rate : Stmt := topS 14
theorem sc__law_rate : FnScope ["bag", "slack", "way"] ["bag", "slack"] (defScope s__law_rate) := ⟨rfl, rfl, rfl, by decide +kernel, rfl, by decide +kernel, by decide +kernel⟩
def sp_law_rate : Sp := fun vs H Q _ => ∃ (b : Addr) (s : Int), vs = [.ref b, .int s] ∧ Bag H b ∧ 0 ≤ s ∧ s ≤ 50 ∧ ∀ r H', 50 ≤ r → r ≤ 200 → But b H H' → Bag H' b → Q (.int r) H'
theorem ok__law_rate {f : Addr} {fd : FuncData} (F : Fun K "_law_rate" "_law_rate" s__law_rate f fd) (gm : mg "_law_rate" = some (.ref f)) (N : Fre K mg) (c__law_take : C8.Cal P w K mg base 1 "_law_take" sp_law_take []) : C8.Cal P w K mg base 2 "_law_rate" sp_law_rate [] := by
  refine mkCal F gm sc__law_rate (F.binds (ps := ["bag", "slack"]) fun _ _ _ _ _ _ us hl => match us, hl with | [_, _], _ => rfl) (fun vs H Q E h => ?_) (fun cdv A outer s H vs Q E hr h => ?_)
  · obtain ⟨b, s, rfl, _⟩ := h
    rfl
  · obtain ⟨b, s, rfl, hB, s0, s1, q⟩ := h
    refine ⟨_, (pss_cons (ps_set (i := 2) sc__law_rate.nd rfl (.inl rfl) (C8.pe_c c__law_take hr (by decide) rfl (pa_cons (pv 0) (pa_cons pe_int pa_nil))))
 (pss_cons (ps_if (pt_cmpR op_eq (pv 2) pe_int (nomark _))
 (pss_one (ps_ret (pe_callB (call_max2 rfl) (by rfl) N.max (by decide +kernel) (pa_cons pe_int (pa_cons (pe_op op_sub (pe_op op_sub (pe_op op_sub pe_int (pv 1)) pe_int) (C8.pe_c c__law_take hr (by decide) rfl (pa_cons (pv 0) (pa_cons pe_int pa_nil)))) pa_nil)))))
 pss_nil)
 (pss_one (ps_ret (pe_ifExp (pt_cmpR op_eq (pv 2) pe_int (nomark _)) (pe_op op_add pe_int (C8.pe_c c__law_take hr (by decide) rfl (pa_cons (pv 0) (pa_cons pe_int pa_nil)))) (pe_op op_sub pe_int (pv 1))))))), ?_⟩
    refine ⟨_, rfl, b, 3, rfl, hB, by decide, by decide, fun w H1 w0 w1 B1 G1 => ?_⟩
    refine ⟨_, rfl, rfl, _, rfl, ite2 (fun e => ?_) (fun e => ?_)⟩
    · refine ⟨_, rfl, 100, s, rfl, rfl, _, 1, rfl, rfl, _, rfl, b, 4, rfl, G1, by decide, by decide, fun x H2 x0 x1 B2 G2 => ?_⟩
      refine ⟨_, x, rfl, rfl, 50, _, rfl, q _ _ ?_ ?_ (B1.trans B2) G2⟩
      · split <;> omega
      · split <;> omega
    · refine ⟨_, rfl, rfl, _, rfl, ite2 (fun e => ?_) (fun e => ?_)⟩
      · refine ⟨_, rfl, b, 151, rfl, G1, by decide, by decide, fun x H2 x0 x1 B2 G2 => ?_⟩
        exact ⟨50, x, rfl, rfl, q _ _ (by omega) (by omega) (B1.trans B2) G2⟩
      · exact ⟨_, rfl, 100, s, rfl, rfl, q _ _ (by omega) (by omega) B1 G1⟩

/-! ### first_unsafe, is_safe -/
/-- used at its time and the length -/
def usL (r h l d : Int) (k : Nat) : Bool := usd r h k (k + l) l d
def fv (u : Nat → Bool) : V := match (List.range 100).find? u with
  | some k => .int (k : Nat)
  | none => .non
theorem fv_none {u : Nat → Bool} (h : ∀ j, j < 100 → u j = false) : fv u = .non := by
  have e : (List.range 100).find? u = none := by
    rw [List.find?_eq_none]
    intro x hx
    rw [h x (List.mem_range.mp hx)]
    exact Bool.false_ne_true
  unfold fv
  rw [e]
theorem fv_some {u : Nat → Bool} {k : Nat} (hk : k < 100) (h : ∀ j, j < k → u j = false) (e : u k = true) : fv u = .int (k : Nat) := by
  have e : (List.range 100).find? u = some k := by
    rw [List.find?_range_eq_some]
    exact ⟨e, List.mem_range.mpr hk, fun j hj => by rw [h j hj]; rfl⟩
  unfold fv
  rw [e]
theorem fv_cases (u : Nat → Bool) : (fv u = .non ∧ ∀ j, j < 100 → u j = false) ∨ ∃ k : Nat, k < 100 ∧ fv u = .int (k : Nat) ∧ u k = true ∧ ∀ j, j < k → u j = false := by
  cases e : (List.range 100).find? u with
  | none =>
    refine .inl ⟨by unfold fv; rw [e], fun j hj => ?_⟩
    have := List.find?_eq_none.mp e j (List.mem_range.mpr hj)
    simpa using this
  | some k =>
    have e2 := List.find?_range_eq_some.mp e
    refine .inr ⟨k, List.mem_range.mp e2.2.1, by unfold fv; rw [e], e2.1, fun j hj => ?_⟩
    have := e2.2.2 j hj
    simpa using this
abbrev s_first_unsafe : Stmt := topS 7
theorem sc_first_unsafe : FnScope ["clock", "length", "drift", "asked"] ["clock", "length", "drift"] (defScope s_first_unsafe) := ⟨rfl, rfl, rfl, by decide +kernel, rfl, by decide +kernel, by decide +kernel⟩
def spfirst_unsafe (K : PySem.W.Frag) : Sp := fun vs H Q _ => ∃ (c : Addr) (r h l d : Int), vs = [.ref c, .int l, .int d] ∧ SqT K H c [.int r, .int h] ∧ 0 ≤ r ∧ r ≤ 200 ∧ 0 ≤ l ∧ l ≤ 1000 ∧ Q (fv (usL r h l d)) H
theorem ok_first_unsafe {f : Addr} {fd : FuncData} (F : FunD K "first_unsafe" "first_unsafe" (defArgs s_first_unsafe) (defBody s_first_unsafe) (defScope s_first_unsafe) [] ([("length", V.int 20), ("drift", V.int 10)] : List (Str × V)) f fd) (N : Fre K mg) (c_is_used_3_length_drift : CalN P w K mg base 2 "is_used" (spis_used K) 3 ["length", "drift"] (fun vs zs => g_is_used_3_length_drift vs (([] : List (Str × V)).map (·.2)) zs)) : FnOk P w K mg base CX0 3 f fd ["clock", "length", "drift"] (spfirst_unsafe K) := by
  refine F.ok sc_first_unsafe (fun vs H Q E h => ?_) (fun cdv A outer s H vs Q E hr h => ?_)
  · obtain ⟨c, r, h, l, d, rfl, _⟩ := h
    rfl
  · obtain ⟨c, r, h, l, d, rfl, hT, h0, h1, h2, h3, q⟩ := h
    obtain ⟨_, g_TURN⟩ := N.c_TURN
    refine ⟨_, PSs.nox (pss_cons (ps_for PassesOwn.never rfl (pi_range1 (by rfl) N.range (pa_cons (pe_glob (v := .int 100) rfl g_TURN ⟨_, rfl⟩) pa_nil)) (pg_name (i := 3) sc_first_unsafe.nd rfl (.inl rfl))
 (pss_one (ps_if (pt_val (pe_cn c_is_used_3_length_drift hr (by decide) rfl (pa_cons (pv 0) (pa_cons (pv 3) (pa_cons (pe_op op_add (pv 3) (pv 1)) pa_nil))) (pk_cons (pv 1) (pk_cons (pv 2) pk_nil))))
 (pss_one (ps_ret (pv 3)))
 pss_nil)))
 (pss_one (ps_ret pe_non))), ?_⟩
    refine ⟨100, rfl, by decide, by decide, for_range (fun i σ H1 => ∃ y, σ = [some (.ref c), some (.int l), some (.int d), y] ∧ H1 = H ∧ ∀ j : Nat, j < i → usL r h l d j = false) ⟨none, rfl, rfl, fun j hj => absurd hj (Nat.not_lt_zero j)⟩ ?_ ?_⟩
    · rintro i σ H1 hi ⟨y, rfl, rfl, hj⟩
      have hi2 : i < 100 := hi
      have e0 : (0 : Int) + (i : Int) = i := by omega
      rw [e0]
      refine ⟨_, rfl, _, rfl, _, rfl, _, rfl, i, l, rfl, rfl, _, rfl, _, rfl, rfl, rfl, c, r, h, i, i + l, l, d, rfl, hT, h0, h1, h2, h3, _, rfl, ite2 (fun e => ?_) (fun e => ?_)⟩
      · rw [fv_some hi2 hj e] at q
        exact ⟨_, rfl, q⟩
      · refine ⟨_, rfl, rfl, fun j hj2 => ?_⟩
        by_cases hij : j = i
        · subst hij
          exact Bool.eq_false_iff.mpr e
        · exact hj j (by omega)
    · rintro σ H1 ⟨y, rfl, rfl, hj⟩
      rw [fv_none (fun j hj2 => hj j hj2)] at q
      exact q
def g_first_unsafe_1_length_drift {α : Type} (us mv ws : List α) : List α := us ++ (ws.drop 0).take 1 ++ (ws.drop 1).take 1
theorem bd_first_unsafe_1_length_drift {f : Addr} {fd : FuncData} (F : FunD K "first_unsafe" "first_unsafe" (defArgs s_first_unsafe) (defBody s_first_unsafe) (defScope s_first_unsafe) [] ([("length", V.int 20), ("drift", V.int 10)] : List (Str × V)) f fd) :
    ∃ mv : List Value, KBn K fd ["clock", "length", "drift"] 1 ["length", "drift"] (fun us ws => g_first_unsafe_1_length_drift us mv ws) (fun vs zs => g_first_unsafe_1_length_drift vs (([] : List (Str × V)).map (·.2)) zs) :=
  F.kbinds0 1 ["length", "drift"] ([] : List (Str × V)) g_first_unsafe_1_length_drift (by decide) (by decide)
    (fun r1 r2 r3 => ((r1.append (vone 0 r3)).append (vone 1 r3)))
    fun D doc pm an cdv ct us mv ws h1 h2 h3 => match us, mv, ws, h1, h2, h3 with | [u0], [], [w0, w1], _, _, _ => rfl

theorem bd_first_unsafe_1 {f : Addr} {fd : FuncData} (F : FunD K "first_unsafe" "first_unsafe" (defArgs s_first_unsafe) (defBody s_first_unsafe) (defScope s_first_unsafe) [] ([("length", V.int 20), ("drift", V.int 10)] : List (Str × V)) f fd) : ∃ ds, Vals (([("length", V.int 20), ("drift", V.int 10)] : List (Str × V)).map (·.2)) ds ∧ Binds K fd ["clock", "length", "drift"] ds :=
  F.binds0 1 (by decide) rfl fun D doc pm an cdv ct us ks h1 h2 => match us, ks, h1, h2 with | [u0], [m0, m1], _, _ => ⟨_, _, _, _, _, _, rfl, rfl, ⟨_, _, _, _, _, _, rfl, rfl, rfl⟩⟩

def g_first_unsafe_1_drift {α : Type} (us mv ws : List α) : List α := us ++ (mv.drop 0).take 1 ++ (ws.drop 0).take 1
theorem bd_first_unsafe_1_drift {f : Addr} {fd : FuncData} (F : FunD K "first_unsafe" "first_unsafe" (defArgs s_first_unsafe) (defBody s_first_unsafe) (defScope s_first_unsafe) [] ([("length", V.int 20), ("drift", V.int 10)] : List (Str × V)) f fd) :
    ∃ mv : List Value, KBn K fd ["clock", "length", "drift"] 1 ["drift"] (fun us ws => g_first_unsafe_1_drift us mv ws) (fun vs zs => g_first_unsafe_1_drift vs (([("length", V.int 20)] : List (Str × V)).map (·.2)) zs) :=
  F.kbinds0 1 ["drift"] ([("length", V.int 20)] : List (Str × V)) g_first_unsafe_1_drift (by decide) (by decide)
    (fun r1 r2 r3 => ((r1.append (vone 0 r2)).append (vone 0 r3)))
    fun D doc pm an cdv ct us mv ws h1 h2 h3 => match us, mv, ws, h1, h2, h3 with | [u0], [m0], [w0], _, _, _ => ⟨_, _, _, _, _, _, rfl, rfl, rfl⟩

def g_first_unsafe_0_length_clock {α : Type} (us mv ws : List α) : List α := us ++ (ws.drop 1).take 1 ++ (ws.drop 0).take 1 ++ (mv.drop 0).take 1
theorem bd_first_unsafe_0_length_clock {f : Addr} {fd : FuncData} (F : FunD K "first_unsafe" "first_unsafe" (defArgs s_first_unsafe) (defBody s_first_unsafe) (defScope s_first_unsafe) [] ([("length", V.int 20), ("drift", V.int 10)] : List (Str × V)) f fd) :
    ∃ mv : List Value, KBn K fd ["clock", "length", "drift"] 0 ["length", "clock"] (fun us ws => g_first_unsafe_0_length_clock us mv ws) (fun vs zs => g_first_unsafe_0_length_clock vs (([("drift", V.int 10)] : List (Str × V)).map (·.2)) zs) :=
  F.kbinds0 0 ["length", "clock"] ([("drift", V.int 10)] : List (Str × V)) g_first_unsafe_0_length_clock (by decide) (by decide)
    (fun r1 r2 r3 => (((r1.append (vone 1 r3)).append (vone 0 r3)).append (vone 0 r2)))
    fun D doc pm an cdv ct us mv ws h1 h2 h3 => match us, mv, ws, h1, h2, h3 with | [], [m0], [w0, w1], _, _, _ => ⟨_, _, _, _, _, _, rfl, rfl, rfl⟩

theorem ok_first_unsafe_1_length_drift {f : Addr} {fd : FuncData} (F : FunD K "first_unsafe" "first_unsafe" (defArgs s_first_unsafe) (defBody s_first_unsafe) (defScope s_first_unsafe) [] ([("length", V.int 20), ("drift", V.int 10)] : List (Str × V)) f fd) (gm : mg "first_unsafe" = some (.ref f)) (N : Fre K mg) (c_is_used_3_length_drift : CalN P w K mg base 2 "is_used" (spis_used K) 3 ["length", "drift"] (fun vs zs => g_is_used_3_length_drift vs (([] : List (Str × V)).map (·.2)) zs)) : CalN P w K mg base 3 "first_unsafe" (spfirst_unsafe K) 1 ["length", "drift"] (fun vs zs => g_first_unsafe_1_length_drift vs (([] : List (Str × V)).map (·.2)) zs) := by
  obtain ⟨m, hb⟩ := bd_first_unsafe_1_length_drift F
  exact ⟨f, fd, _, _, ok_first_unsafe F N c_is_used_3_length_drift, gm, F.kp, hb⟩
theorem ok_first_unsafe_1 {f : Addr} {fd : FuncData} (F : FunD K "first_unsafe" "first_unsafe" (defArgs s_first_unsafe) (defBody s_first_unsafe) (defScope s_first_unsafe) [] ([("length", V.int 20), ("drift", V.int 10)] : List (Str × V)) f fd) (gm : mg "first_unsafe" = some (.ref f)) (N : Fre K mg) (c_is_used_3_length_drift : CalN P w K mg base 2 "is_used" (spis_used K) 3 ["length", "drift"] (fun vs zs => g_is_used_3_length_drift vs (([] : List (Str × V)).map (·.2)) zs)) : C8.Cal P w K mg base 3 "first_unsafe" (spfirst_unsafe K) (([("length", V.int 20), ("drift", V.int 10)] : List (Str × V)).map (·.2)) := by
  obtain ⟨ds, hd, hb⟩ := bd_first_unsafe_1 F
  exact ⟨f, fd, _, ds, ok_first_unsafe F N c_is_used_3_length_drift, gm, F.kp, hb, hd⟩
theorem ok_first_unsafe_1_drift {f : Addr} {fd : FuncData} (F : FunD K "first_unsafe" "first_unsafe" (defArgs s_first_unsafe) (defBody s_first_unsafe) (defScope s_first_unsafe) [] ([("length", V.int 20), ("drift", V.int 10)] : List (Str × V)) f fd) (gm : mg "first_unsafe" = some (.ref f)) (N : Fre K mg) (c_is_used_3_length_drift : CalN P w K mg base 2 "is_used" (spis_used K) 3 ["length", "drift"] (fun vs zs => g_is_used_3_length_drift vs (([] : List (Str × V)).map (·.2)) zs)) : CalN P w K mg base 3 "first_unsafe" (spfirst_unsafe K) 1 ["drift"] (fun vs zs => g_first_unsafe_1_drift vs (([("length", V.int 20)] : List (Str × V)).map (·.2)) zs) := by
  obtain ⟨m, hb⟩ := bd_first_unsafe_1_drift F
  exact ⟨f, fd, _, _, ok_first_unsafe F N c_is_used_3_length_drift, gm, F.kp, hb⟩
theorem ok_first_unsafe_0_length_clock {f : Addr} {fd : FuncData} (F : FunD K "first_unsafe" "first_unsafe" (defArgs s_first_unsafe) (defBody s_first_unsafe) (defScope s_first_unsafe) [] ([("length", V.int 20), ("drift", V.int 10)] : List (Str × V)) f fd) (gm : mg "first_unsafe" = some (.ref f)) (N : Fre K mg) (c_is_used_3_length_drift : CalN P w K mg base 2 "is_used" (spis_used K) 3 ["length", "drift"] (fun vs zs => g_is_used_3_length_drift vs (([] : List (Str × V)).map (·.2)) zs)) : CalN P w K mg base 3 "first_unsafe" (spfirst_unsafe K) 0 ["length", "clock"] (fun vs zs => g_first_unsafe_0_length_clock vs (([("drift", V.int 10)] : List (Str × V)).map (·.2)) zs) := by
  obtain ⟨m, hb⟩ := bd_first_unsafe_0_length_clock F
  exact ⟨f, fd, _, _, ok_first_unsafe F N c_is_used_3_length_drift, gm, F.kp, hb⟩
abbrev s_is_safe : Stmt := topS 8
theorem sc_is_safe : FnScope ["clock", "length", "drift"] ["clock", "length", "drift"] (defScope s_is_safe) := ⟨rfl, rfl, rfl, by decide +kernel, rfl, by decide +kernel, by decide +kernel⟩
def spis_safe (K : PySem.W.Frag) : Sp := fun vs H Q _ => ∃ (c : Addr) (r h l d : Int), vs = [.ref c, .int l, .int d] ∧ SqT K H c [.int r, .int h] ∧ 0 ≤ r ∧ r ≤ 200 ∧ 0 ≤ l ∧ l ≤ 1000 ∧ Q (.bl (decide (fv (usL r h l d) = .non))) H
theorem ok_is_safe {f : Addr} {fd : FuncData} (F : FunD K "is_safe" "is_safe" (defArgs s_is_safe) (defBody s_is_safe) (defScope s_is_safe) [] ([("length", V.int 20), ("drift", V.int 10)] : List (Str × V)) f fd) (N : Fre K mg) (c_first_unsafe_1_length_drift : CalN P w K mg base 3 "first_unsafe" (spfirst_unsafe K) 1 ["length", "drift"] (fun vs zs => g_first_unsafe_1_length_drift vs (([] : List (Str × V)).map (·.2)) zs)) : FnOk P w K mg base CX0 4 f fd ["clock", "length", "drift"] (spis_safe K) := by
  refine F.ok sc_is_safe (fun vs H Q E h => ?_) (fun cdv A outer s H vs Q E hr h => ?_)
  · obtain ⟨c, r, h, l, d, rfl, _⟩ := h
    rfl
  · obtain ⟨c, r, h, l, d, rfl, hT, h0, h1, h2, h3, q⟩ := h
    refine ⟨_, PSs.nox (pss_one (ps_ret (pe_cmpR op_isN (pe_cn c_first_unsafe_1_length_drift hr (by decide) rfl (pa_cons (pv 0) pa_nil) (pk_cons (pv 1) (pk_cons (pv 2) pk_nil))) pe_non (nomark _)))), ?_⟩
    exact ⟨_, rfl, _, rfl, _, rfl, rfl, rfl, c, r, h, l, d, rfl, hT, h0, h1, h2, h3, rfl, q⟩
def g_is_safe_1_drift_length {α : Type} (us mv ws : List α) : List α := us ++ (ws.drop 1).take 1 ++ (ws.drop 0).take 1
theorem bd_is_safe_1_drift_length {f : Addr} {fd : FuncData} (F : FunD K "is_safe" "is_safe" (defArgs s_is_safe) (defBody s_is_safe) (defScope s_is_safe) [] ([("length", V.int 20), ("drift", V.int 10)] : List (Str × V)) f fd) :
    ∃ mv : List Value, KBn K fd ["clock", "length", "drift"] 1 ["drift", "length"] (fun us ws => g_is_safe_1_drift_length us mv ws) (fun vs zs => g_is_safe_1_drift_length vs (([] : List (Str × V)).map (·.2)) zs) :=
  F.kbinds0 1 ["drift", "length"] ([] : List (Str × V)) g_is_safe_1_drift_length (by decide) (by decide)
    (fun r1 r2 r3 => ((r1.append (vone 1 r3)).append (vone 0 r3)))
    fun D doc pm an cdv ct us mv ws h1 h2 h3 => match us, mv, ws, h1, h2, h3 with | [u0], [], [w0, w1], _, _, _ => rfl

theorem bd_is_safe_1 {f : Addr} {fd : FuncData} (F : FunD K "is_safe" "is_safe" (defArgs s_is_safe) (defBody s_is_safe) (defScope s_is_safe) [] ([("length", V.int 20), ("drift", V.int 10)] : List (Str × V)) f fd) : ∃ ds, Vals (([("length", V.int 20), ("drift", V.int 10)] : List (Str × V)).map (·.2)) ds ∧ Binds K fd ["clock", "length", "drift"] ds :=
  F.binds0 1 (by decide) rfl fun D doc pm an cdv ct us ks h1 h2 => match us, ks, h1, h2 with | [u0], [m0, m1], _, _ => ⟨_, _, _, _, _, _, rfl, rfl, ⟨_, _, _, _, _, _, rfl, rfl, rfl⟩⟩

def g_is_safe_1_drift {α : Type} (us mv ws : List α) : List α := us ++ (mv.drop 0).take 1 ++ (ws.drop 0).take 1
theorem bd_is_safe_1_drift {f : Addr} {fd : FuncData} (F : FunD K "is_safe" "is_safe" (defArgs s_is_safe) (defBody s_is_safe) (defScope s_is_safe) [] ([("length", V.int 20), ("drift", V.int 10)] : List (Str × V)) f fd) :
    ∃ mv : List Value, KBn K fd ["clock", "length", "drift"] 1 ["drift"] (fun us ws => g_is_safe_1_drift us mv ws) (fun vs zs => g_is_safe_1_drift vs (([("length", V.int 20)] : List (Str × V)).map (·.2)) zs) :=
  F.kbinds0 1 ["drift"] ([("length", V.int 20)] : List (Str × V)) g_is_safe_1_drift (by decide) (by decide)
    (fun r1 r2 r3 => ((r1.append (vone 0 r2)).append (vone 0 r3)))
    fun D doc pm an cdv ct us mv ws h1 h2 h3 => match us, mv, ws, h1, h2, h3 with | [u0], [m0], [w0], _, _, _ => ⟨_, _, _, _, _, _, rfl, rfl, rfl⟩

def g_is_safe_0_clock_length {α : Type} (us mv ws : List α) : List α := us ++ (ws.drop 0).take 1 ++ (ws.drop 1).take 1 ++ (mv.drop 0).take 1
theorem bd_is_safe_0_clock_length {f : Addr} {fd : FuncData} (F : FunD K "is_safe" "is_safe" (defArgs s_is_safe) (defBody s_is_safe) (defScope s_is_safe) [] ([("length", V.int 20), ("drift", V.int 10)] : List (Str × V)) f fd) :
    ∃ mv : List Value, KBn K fd ["clock", "length", "drift"] 0 ["clock", "length"] (fun us ws => g_is_safe_0_clock_length us mv ws) (fun vs zs => g_is_safe_0_clock_length vs (([("drift", V.int 10)] : List (Str × V)).map (·.2)) zs) :=
  F.kbinds0 0 ["clock", "length"] ([("drift", V.int 10)] : List (Str × V)) g_is_safe_0_clock_length (by decide) (by decide)
    (fun r1 r2 r3 => (((r1.append (vone 0 r3)).append (vone 1 r3)).append (vone 0 r2)))
    fun D doc pm an cdv ct us mv ws h1 h2 h3 => match us, mv, ws, h1, h2, h3 with | [], [m0], [w0, w1], _, _, _ => ⟨_, _, _, _, _, _, rfl, rfl, rfl⟩

theorem ok_is_safe_1_drift_length {f : Addr} {fd : FuncData} (F : FunD K "is_safe" "is_safe" (defArgs s_is_safe) (defBody s_is_safe) (defScope s_is_safe) [] ([("length", V.int 20), ("drift", V.int 10)] : List (Str × V)) f fd) (gm : mg "is_safe" = some (.ref f)) (N : Fre K mg) (c_first_unsafe_1_length_drift : CalN P w K mg base 3 "first_unsafe" (spfirst_unsafe K) 1 ["length", "drift"] (fun vs zs => g_first_unsafe_1_length_drift vs (([] : List (Str × V)).map (·.2)) zs)) : CalN P w K mg base 4 "is_safe" (spis_safe K) 1 ["drift", "length"] (fun vs zs => g_is_safe_1_drift_length vs (([] : List (Str × V)).map (·.2)) zs) := by
  obtain ⟨m, hb⟩ := bd_is_safe_1_drift_length F
  exact ⟨f, fd, _, _, ok_is_safe F N c_first_unsafe_1_length_drift, gm, F.kp, hb⟩
theorem ok_is_safe_1 {f : Addr} {fd : FuncData} (F : FunD K "is_safe" "is_safe" (defArgs s_is_safe) (defBody s_is_safe) (defScope s_is_safe) [] ([("length", V.int 20), ("drift", V.int 10)] : List (Str × V)) f fd) (gm : mg "is_safe" = some (.ref f)) (N : Fre K mg) (c_first_unsafe_1_length_drift : CalN P w K mg base 3 "first_unsafe" (spfirst_unsafe K) 1 ["length", "drift"] (fun vs zs => g_first_unsafe_1_length_drift vs (([] : List (Str × V)).map (·.2)) zs)) : C8.Cal P w K mg base 4 "is_safe" (spis_safe K) (([("length", V.int 20), ("drift", V.int 10)] : List (Str × V)).map (·.2)) := by
  obtain ⟨ds, hd, hb⟩ := bd_is_safe_1 F
  exact ⟨f, fd, _, ds, ok_is_safe F N c_first_unsafe_1_length_drift, gm, F.kp, hb, hd⟩
theorem ok_is_safe_1_drift {f : Addr} {fd : FuncData} (F : FunD K "is_safe" "is_safe" (defArgs s_is_safe) (defBody s_is_safe) (defScope s_is_safe) [] ([("length", V.int 20), ("drift", V.int 10)] : List (Str × V)) f fd) (gm : mg "is_safe" = some (.ref f)) (N : Fre K mg) (c_first_unsafe_1_length_drift : CalN P w K mg base 3 "first_unsafe" (spfirst_unsafe K) 1 ["length", "drift"] (fun vs zs => g_first_unsafe_1_length_drift vs (([] : List (Str × V)).map (·.2)) zs)) : CalN P w K mg base 4 "is_safe" (spis_safe K) 1 ["drift"] (fun vs zs => g_is_safe_1_drift vs (([("length", V.int 20)] : List (Str × V)).map (·.2)) zs) := by
  obtain ⟨m, hb⟩ := bd_is_safe_1_drift F
  exact ⟨f, fd, _, _, ok_is_safe F N c_first_unsafe_1_length_drift, gm, F.kp, hb⟩
theorem ok_is_safe_0_clock_length {f : Addr} {fd : FuncData} (F : FunD K "is_safe" "is_safe" (defArgs s_is_safe) (defBody s_is_safe) (defScope s_is_safe) [] ([("length", V.int 20), ("drift", V.int 10)] : List (Str × V)) f fd) (gm : mg "is_safe" = some (.ref f)) (N : Fre K mg) (c_first_unsafe_1_length_drift : CalN P w K mg base 3 "first_unsafe" (spfirst_unsafe K) 1 ["length", "drift"] (fun vs zs => g_first_unsafe_1_length_drift vs (([] : List (Str × V)).map (·.2)) zs)) : CalN P w K mg base 4 "is_safe" (spis_safe K) 0 ["clock", "length"] (fun vs zs => g_is_safe_0_clock_length vs (([("drift", V.int 10)] : List (Str × V)).map (·.2)) zs) := by
  obtain ⟨m, hb⟩ := bd_is_safe_0_clock_length F
  exact ⟨f, fd, _, _, ok_is_safe F N c_first_unsafe_1_length_drift, gm, F.kp, hb⟩

abbrev s__law_unsafe : Stmt := topS 15
theorem sc__law_unsafe : FnScope ["clo1", "len1", "dri1", "asked"] ["clo1", "len1", "dri1"] (defScope s__law_unsafe) := ⟨rfl, rfl, rfl, by decide +kernel, rfl, by decide +kernel, by decide +kernel⟩
def sp_law_unsafe (K : PySem.W.Frag) : Sp := fun vs H Q _ => ∃ (c : Addr) (r h l d : Int), vs = [.ref c, .int l, .int d] ∧ SqT K H c [.int r, .int h] ∧ 0 ≤ r ∧ r ≤ 200 ∧ 0 ≤ l ∧ l ≤ 1000 ∧ Q (fv (usL r h l d)) H
theorem usL_eq {r h l d : Int} {i : Nat} (h2 : 0 ≤ l) : usL r h l d i = decide (shw r h (i + l) - shw r h i < spn l d) := by
  unfold usL usd
  rw [decide_eq_true (show (i : Int) ≤ i + l by omega)]
  rfl
theorem ok__law_unsafe {f : Addr} {fd : FuncData} (F : Fun K "_law_unsafe" "_law_unsafe" s__law_unsafe f fd) (gm : mg "_law_unsafe" = some (.ref f)) (N : Fre K mg) (c__law_late : C8.Cal P w K mg base 1 "_law_late" (sp_law_late K) []) : C8.Cal P w K mg base 2 "_law_unsafe" (sp_law_unsafe K) [] := by
  refine mkCal F gm sc__law_unsafe (F.binds (ps := ["clo1", "len1", "dri1"]) fun _ _ _ _ _ _ us hl => match us, hl with | [_, _, _], _ => rfl) (fun vs H Q E h => ?_) (fun cdv A outer s H vs Q E hr h => ?_)
  · obtain ⟨c, r, h, l, d, rfl, _⟩ := h
    rfl
  · obtain ⟨c, r, h, l, d, rfl, hT, h0, h1, h2, h3, q⟩ := h
    refine ⟨_, (pss_cons (ps_for PassesOwn.never rfl (pi_range1 (by rfl) N.range (pa_cons pe_int pa_nil)) (pg_name (i := 3) sc__law_unsafe.nd rfl (.inl rfl))
 (pss_one (ps_if (pt_cmpR op_lt (C8.pe_c c__law_late hr (by decide) rfl (pa_cons (pv 0) (pa_cons (pv 3) (pa_cons (pe_op op_add (pv 3) (pv 1)) pa_nil)))) (pe_op op_fdiv (pe_op op_mul (pv 1) (pe_op op_sub pe_int (pv 2))) pe_int) (nomark _))
 (pss_one (ps_ret (pv 3)))
 pss_nil)))
 (pss_one (ps_ret pe_non))), ?_⟩
    refine ⟨100, rfl, by decide, by decide, for_range (fun i σ H1 => ∃ y, σ = [some (.ref c), some (.int l), some (.int d), y] ∧ H1 = H ∧ ∀ j : Nat, j < i → usL r h l d j = false) ⟨none, rfl, rfl, fun j hj => absurd hj (Nat.not_lt_zero j)⟩ ?_ ?_⟩
    · rintro i σ H1 hi ⟨y, rfl, rfl, hj⟩
      have hi2 : i < 100 := hi
      have e0 : (0 : Int) + (i : Int) = i := by omega
      rw [e0]
      refine ⟨_, rfl, _, rfl, _, rfl, _, rfl, i, l, rfl, rfl, c, r, h, i, _, rfl, hT, h0, h1, _, rfl, _, rfl, 100, d, rfl, rfl, l, _, rfl, rfl, .inl (small (by omega) (by omega)), _, 100, rfl, rfl, ⟨by decide, by decide⟩, _, _, rfl, rfl, _, rfl, ite2 (fun e => ?_) (fun e => ?_)⟩
      · rw [fv_some hi2 hj ((usL_eq h2).trans e)] at q
        exact ⟨_, rfl, q⟩
      · refine ⟨_, rfl, rfl, fun j hj2 => ?_⟩
        by_cases hij : j = i
        · subst hij
          rw [usL_eq h2]
          exact Bool.eq_false_iff.mpr e
        · exact hj j (by omega)
    · rintro σ H1 ⟨y, rfl, rfl, hj⟩
      rw [fv_none (fun j hj2 => hj j hj2)] at q
      exact q

/-! ### the law -/
abbrev s_law : Stmt := topS 16
theorem sc_law : FnScope ["script", "k", "bag", "len1", "dri1", "rate", "clo1", "rows", "dues", "row", "due"] ["script"] (defScope s_law) := ⟨rfl, rfl, rfl, by decide +kernel, rfl, by decide +kernel, by decide +kernel⟩
def splaw (K : PySem.W.Frag) : Sp := fun vs H Q _ => ∃ (a : Addr) (ns : List Int), vs = [.ref a] ∧ SqL K H a (ns.map V.int) ∧ ns.length ≤ 63 ∧ ∀ H', Q (.bl true) H'
/-- a row of the law's list: what is told, and whether it is safe -/
def Row (H : Hp) (u : Nat → Bool) (t : Addr) : Prop := H t = some (.tup [fv u, .bl (decide (fv u = .non))])
theorem Row.same {H H' : Hp} {u : Nat → Bool} {t : Addr} (h : Row H u t) (s : Same H H') : Row H' u t := s _ _ h
theorem Row.but {H H' : Hp} {u : Nat → Bool} {t L : Addr} {xs : List V} (h : Row H u t) (hL : H L = some (.lst xs)) (s : But L H H') : Row H' u t := s _ _ (ne_of h hL (by intro z; cases z)) h
theorem scal_fv (u : Nat → Bool) : scal (fv u) (fv u) = true := by
  rcases fv_cases u with ⟨e, _⟩ | ⟨k, _, e, _⟩ <;> rw [e] <;> rfl
theorem ok_law {f : Addr} {fd : FuncData} (F : Fun K "law" "law" s_law f fd) (N : Fre K mg) (c__law_bag : C8.Cal P w K mg base 1 "_law_bag" (sp_law_bag K) []) (c__law_rate : C8.Cal P w K mg base 2 "_law_rate" sp_law_rate []) (c__law_take : C8.Cal P w K mg base 1 "_law_take" sp_law_take []) (c__law_terms : C8.Cal P w K mg base 2 "_law_terms" sp_law_terms []) (c__law_unsafe : C8.Cal P w K mg base 2 "_law_unsafe" (sp_law_unsafe K) []) (c_first_unsafe_0_length_clock : CalN P w K mg base 3 "first_unsafe" (spfirst_unsafe K) 0 ["length", "clock"] (fun vs zs => g_first_unsafe_0_length_clock vs (([("drift", V.int 10)] : List (Str × V)).map (·.2)) zs)) (c_first_unsafe_1 : C8.Cal P w K mg base 3 "first_unsafe" (spfirst_unsafe K) (([("length", V.int 20), ("drift", V.int 10)] : List (Str × V)).map (·.2))) (c_first_unsafe_1_drift : CalN P w K mg base 3 "first_unsafe" (spfirst_unsafe K) 1 ["drift"] (fun vs zs => g_first_unsafe_1_drift vs (([("length", V.int 20)] : List (Str × V)).map (·.2)) zs)) (c_first_unsafe_1_length_drift : CalN P w K mg base 3 "first_unsafe" (spfirst_unsafe K) 1 ["length", "drift"] (fun vs zs => g_first_unsafe_1_length_drift vs (([] : List (Str × V)).map (·.2)) zs)) (c_is_safe_0_clock_length : CalN P w K mg base 4 "is_safe" (spis_safe K) 0 ["clock", "length"] (fun vs zs => g_is_safe_0_clock_length vs (([("drift", V.int 10)] : List (Str × V)).map (·.2)) zs)) (c_is_safe_1 : C8.Cal P w K mg base 4 "is_safe" (spis_safe K) (([("length", V.int 20), ("drift", V.int 10)] : List (Str × V)).map (·.2))) (c_is_safe_1_drift : CalN P w K mg base 4 "is_safe" (spis_safe K) 1 ["drift"] (fun vs zs => g_is_safe_1_drift vs (([("length", V.int 20)] : List (Str × V)).map (·.2)) zs)) (c_is_safe_1_drift_length : CalN P w K mg base 4 "is_safe" (spis_safe K) 1 ["drift", "length"] (fun vs zs => g_is_safe_1_drift_length vs (([] : List (Str × V)).map (·.2)) zs)) : FnOk P w K mg base CX0 5 f fd ["script"] (splaw K) := by
  refine F.ok sc_law (fun vs H Q E h => ?_) (fun cdv A outer s H vs Q E hr h => ?_)
  · obtain ⟨a, ns, rfl, _⟩ := h
    rfl
  · obtain ⟨a, ns, rfl, hS, hlen, q⟩ := h
    refine ⟨_, (pss_cons (ps_for PassesOwn.never rfl (pi_range1 (by rfl) N.range (pa_cons (pe_op op_add pe_int (pe_callB (call_min2 rfl) (by rfl) N.min (by decide +kernel) (pa_cons (pe_callB call_len_seq (by rfl) N.len (by decide +kernel) (pa_cons (pv 0) pa_nil)) (pa_cons pe_int pa_nil)))) pa_nil)) (pg_name (i := 1) sc_law.nd rfl (.inl rfl))
 (pss_cons (ps_set (i := 2) sc_law.nd rfl (.inl rfl) (C8.pe_c c__law_bag hr (by decide) rfl (pa_cons (pv 0) (pa_cons (pv 1) pa_nil))))
 (pss_cons (ps_asg (C8.pe_c c__law_terms hr (by decide) rfl (pa_cons (pv 2) pa_nil)) (pg_tup rfl (pgs_cons (pg_name (i := 3) sc_law.nd rfl (.inl rfl)) (pgs_cons (pg_name (i := 4) sc_law.nd rfl (.inl rfl)) pgs_nil))))
 (pss_cons (ps_set (i := 5) sc_law.nd rfl (.inl rfl) (C8.pe_c c__law_rate hr (by decide) rfl (pa_cons (pv 2) (pa_cons (pv 4) pa_nil))))
 (pss_cons (ps_set (i := 6) sc_law.nd rfl (.inl rfl) (pe_tup (pa_cons (pv 5) (pa_cons (C8.pe_c c__law_take hr (by decide) rfl (pa_cons (pv 2) (pa_cons pe_int pa_nil))) pa_nil))))
 (pss_cons (ps_set (i := 7) sc_law.nd rfl (.inl rfl) (pe_lst (pa_cons (pe_tup (pa_cons (pe_cn c_first_unsafe_1_length_drift hr (by decide) rfl (pa_cons (pv 6) pa_nil) (pk_cons (pv 3) (pk_cons (pv 4) pk_nil))) (pa_cons (pe_cn c_is_safe_1_drift_length hr (by decide) rfl (pa_cons (pv 6) pa_nil) (pk_cons (pv 4) (pk_cons (pv 3) pk_nil))) pa_nil))) pa_nil)))
 (pss_cons (ps_expr (pe_bm PySem.F.plainAttrs_list PySem.F.slot_list_append PySem.F.type_list_append mt_append (pv 7) (pa_cons (pe_tup (pa_cons (C8.pe_c c_first_unsafe_1 hr (by decide) rfl (pa_cons (pv 6) pa_nil)) (pa_cons (C8.pe_c c_is_safe_1 hr (by decide) rfl (pa_cons (pv 6) pa_nil)) pa_nil))) pa_nil)))
 (pss_cons (ps_expr (pe_bm PySem.F.plainAttrs_list PySem.F.slot_list_append PySem.F.type_list_append mt_append (pv 7) (pa_cons (pe_tup (pa_cons (pe_cn c_first_unsafe_1_drift hr (by decide) rfl (pa_cons (pv 6) pa_nil) (pk_cons (pv 4) pk_nil)) (pa_cons (pe_cn c_is_safe_1_drift hr (by decide) rfl (pa_cons (pv 6) pa_nil) (pk_cons (pv 4) pk_nil)) pa_nil))) pa_nil)))
 (pss_cons (ps_expr (pe_bm PySem.F.plainAttrs_list PySem.F.slot_list_append PySem.F.type_list_append mt_append (pv 7) (pa_cons (pe_tup (pa_cons (pe_cn0 c_first_unsafe_0_length_clock hr (by decide) rfl (pk_cons (pv 3) (pk_cons (pv 6) pk_nil))) (pa_cons (pe_cn0 c_is_safe_0_clock_length hr (by decide) rfl (pk_cons (pv 6) (pk_cons (pv 3) pk_nil))) pa_nil))) pa_nil)))
 (pss_cons (ps_set (i := 8) sc_law.nd rfl (.inl rfl) (pe_lst (pa_cons (C8.pe_c c__law_unsafe hr (by decide) rfl (pa_cons (pv 6) (pa_cons (pv 3) (pa_cons (pv 4) pa_nil)))) (pa_cons (C8.pe_c c__law_unsafe hr (by decide) rfl (pa_cons (pv 6) (pa_cons pe_int (pa_cons pe_int pa_nil)))) pa_nil))))
 (pss_cons (ps_set (i := 8) sc_law.nd rfl (.inl rfl) (pe_op op_cat (pv 8) (pe_lst (pa_cons (C8.pe_c c__law_unsafe hr (by decide) rfl (pa_cons (pv 6) (pa_cons pe_int (pa_cons (pv 4) pa_nil)))) (pa_cons (C8.pe_c c__law_unsafe hr (by decide) rfl (pa_cons (pv 6) (pa_cons (pv 3) (pa_cons pe_int pa_nil)))) pa_nil)))))
 (pss_one (ps_for PassesOwn.never rfl (pi_zip (by rfl) N.zip (pa_cons (pv 7) (pa_cons (pv 8) pa_nil))) (pg_tup rfl (pgs_cons (pg_name (i := 9) sc_law.nd rfl (.inl rfl)) (pgs_cons (pg_name (i := 10) sc_law.nd rfl (.inl rfl)) pgs_nil)))
 (pss_cons (ps_if (PW.pt (pw_or (pt_cmpR op_ne (pe_ix ix_tup (pv 9) pe_int (fun _ _ => rfl)) (pv 10) (nomark _)) (pw_or (pt_val (pe_callB call_isi (by rfl) N.isinstance (by decide +kernel) (pa_cons (pe_ix ix_tup (pv 9) pe_int (fun _ _ => rfl)) (pa_cons (pe_bltn (v := .ty "bool") (u := .type "bool") rfl N.bool (by decide +kernel) rfl) pa_nil)))) (pw_or (pt_not (pt_val (pe_callB call_isi (by rfl) N.isinstance (by decide +kernel) (pa_cons (pe_ix ix_tup (pv 9) pe_int (fun _ _ => rfl)) (pa_cons (pe_bltn (v := .ty "bool") (u := .type "bool") rfl N.bool (by decide +kernel) rfl) pa_nil))))) (pw_or1 (pt_cmpR op_ne (pe_ix ix_tup (pv 9) pe_int (fun _ _ => rfl)) (pe_cmpR op_isN (pv 10) pe_non (nomark _)) (nomark _)))))))
 (pss_one (ps_ret pe_bl))
 pss_nil)
 (pss_one (ps_if (PW.pt (pw_and (pt_cmpR op_notN (pv 10) pe_non (nomark _)) (pw_and1 (pt_not (pt_val (pe_callB call_isi (by rfl) N.isinstance (by decide +kernel) (pa_cons (pe_ix ix_tup (pv 9) pe_int (fun _ _ => rfl)) (pa_cons (pe_bltn (v := .ty "int") (u := .type "int") rfl N.int (by decide +kernel) rfl) pa_nil))))))))
 (pss_one (ps_ret pe_bl))
 pss_nil))))))))))))))))
 (pss_one (ps_ret pe_bl))), ?_⟩
    refine ⟨_, rfl, a, _, rfl, .inl hS, _, 12, rfl, 1, _, rfl, rfl, ?_⟩
    have hm : 0 ≤ (if (12 : Int) < ((ns.map V.int).length : Nat) then (12 : Int) else ((ns.map V.int).length : Nat)) ∧ (if (12 : Int) < ((ns.map V.int).length : Nat) then (12 : Int) else ((ns.map V.int).length : Nat)) ≤ 12 := by
      split <;> omega
    generalize (if (12 : Int) < ((ns.map V.int).length : Nat) then (12 : Int) else ((ns.map V.int).length : Nat)) = mn at hm ⊢
    refine ⟨1 + mn, rfl, by omega, by omega, for_range (fun _ σ H1 => ∃ y1 y2 y3 y4 y5 y6 y7 y8 y9 y10, σ = [some (.ref a), y1, y2, y3, y4, y5, y6, y7, y8, y9, y10] ∧ Same H H1) ⟨none, none, none, none, none, none, none, none, none, none, rfl, Same.refl H⟩ ?_ (fun σ H1 _ => q H1)⟩
    rintro i σ H1 hi ⟨y1, y2, y3, y4, y5, y6, y7, y8, y9, y10, rfl, sm1⟩
    -- bag
    refine ⟨_, rfl, _, rfl, a, ns, _, rfl, sm1.seq hS, by omega, by omega, fun b H2 nb sm2 G2 => ?_⟩
    have nb0 : H b = none := sm1.free nb
    have s2 : Same H H2 := sm1.trans sm2
    -- length and drift
    refine ⟨_, rfl, b, rfl, G2, fun l d p H3 l0 l1 d0 d1 np B3 G3 hp => ⟨p, _, rfl, SqT.of hp, rfl, .int l, _, rfl, .int d, _, rfl, rfl, ?_⟩⟩
    have s3 := same_but s2 nb0 B3
    -- the rate, the clock
    refine ⟨_, rfl, _, rfl, b, d, rfl, G3, by omega, by omega, fun r H4 r0 r1 B4 G4 => ?_⟩
    have s4 := same_but s3 nb0 B4
    refine ⟨_, rfl, _, rfl, b, 100, rfl, G4, by decide, by decide, fun h H5 h0 h1 B5 G5 => ⟨two_ok _ _, fun c nc => ?_⟩⟩
    have s5 := same_but s4 nb0 B5
    have s6 : Same H (upd H5 c (.tup [.int r, .int h])) := s5.trans (same_upd nc)
    have hc : upd H5 c (.tup [.int r, .int h]) c = some (.tup [.int r, .int h]) := upd_same
    revert s6 hc
    generalize upd H5 c (.tup [.int r, .int h]) = H6
    intro s6 hc
    -- rows
    refine ⟨_, rfl, _, rfl, _, rfl, rfl, rfl, c, r, h, l, d, rfl, SqT.of hc, by omega, by omega, by omega, by omega, ?_⟩
    refine ⟨_, rfl, _, rfl, _, rfl, rfl, rfl, c, r, h, l, d, rfl, SqT.of hc, by omega, by omega, by omega, by omega, two_ok _ _, fun t1 n1 => ⟨(by show 1 ≤ sizeLine; decide), fun L nL => ?_⟩⟩
    have m7 := (same_upd (o := .tup [fv (usL r h l d), V.bl (decide (fv (usL r h l d) = .non))]) n1).trans (same_upd (o := .lst [V.ref t1]) nL)
    have s7 := s6.trans m7
    have nL0 : H L = none := s6.free ((same_upd n1).free nL)
    have hc7 := m7 _ _ hc
    have w1 : Row (upd (upd H6 t1 (.tup [fv (usL r h l d), V.bl (decide (fv (usL r h l d) = .non))])) L (.lst [V.ref t1])) (usL r h l d) t1 := same_upd nL _ _ upd_same
    have hL7 : upd (upd H6 t1 (.tup [fv (usL r h l d), V.bl (decide (fv (usL r h l d) = .non))])) L (.lst [V.ref t1]) L = some (.lst [V.ref t1]) := upd_same
    clear m7
    revert s7 hc7 w1 hL7
    generalize upd (upd H6 t1 (.tup [fv (usL r h l d), V.bl (decide (fv (usL r h l d) = .non))])) L (.lst [V.ref t1]) = H7
    intro s7 hc7 w1 hL7
    have cL : c ≠ L := ne_of hc7 hL7 (by intro z; cases z)
    -- append
    refine ⟨_, rfl, .inl ⟨rfl, _, SqL.of hL7⟩, _, rfl, c, r, h, 20, 10, rfl, SqT.of hc7, by omega, by omega, by omega, by omega, _, rfl, c, r, h, 20, 10, rfl, SqT.of hc7, by omega, by omega, by omega, by omega, two_ok _ _, fun t2 n2 => ?_⟩
    refine ⟨L, _, _, rfl, rfl, same_upd n2 _ _ hL7, small1000 (by show 1 ≤ 1000; decide), ?_⟩
    have b8 : But L H7 (upd (upd H7 t2 (.tup [fv (usL r h 20 10), V.bl (decide (fv (usL r h 20 10) = .non))])) L (.lst ([V.ref t1] ++ [V.ref t2]))) := (But.new n2).trans But.put
    have s8 := same_but s7 nL0 b8
    have hc8 := b8 _ _ cL hc7
    have w18 := w1.but hL7 b8
    have w28 : Row (upd (upd H7 t2 (.tup [fv (usL r h 20 10), V.bl (decide (fv (usL r h 20 10) = .non))])) L (.lst ([V.ref t1] ++ [V.ref t2]))) (usL r h 20 10) t2 := But.put _ _ (ne_of_none hL7 n2).symm upd_same
    have hL8 : upd (upd H7 t2 (.tup [fv (usL r h 20 10), V.bl (decide (fv (usL r h 20 10) = .non))])) L (.lst ([V.ref t1] ++ [V.ref t2])) L = some (.lst [V.ref t1, V.ref t2]) := upd_same
    clear b8
    revert s8 hc8 w18 w28 hL8
    generalize upd (upd H7 t2 (.tup [fv (usL r h 20 10), V.bl (decide (fv (usL r h 20 10) = .non))])) L (.lst ([V.ref t1] ++ [V.ref t2])) = H8
    intro s8 hc8 w18 w28 hL8
    -- append
    refine ⟨_, rfl, .inl ⟨rfl, _, SqL.of hL8⟩, _, rfl, _, rfl, rfl, rfl, c, r, h, 20, d, rfl, SqT.of hc8, by omega, by omega, by omega, by omega, _, rfl, _, rfl, rfl, rfl, c, r, h, 20, d, rfl, SqT.of hc8, by omega, by omega, by omega, by omega, two_ok _ _, fun t3 n3 => ?_⟩
    refine ⟨L, _, _, rfl, rfl, same_upd n3 _ _ hL8, small1000 (by show 2 ≤ 1000; decide), ?_⟩
    have b9 : But L H8 (upd (upd H8 t3 (.tup [fv (usL r h 20 d), V.bl (decide (fv (usL r h 20 d) = .non))])) L (.lst ([V.ref t1, V.ref t2] ++ [V.ref t3]))) := (But.new n3).trans But.put
    have s9 := same_but s8 nL0 b9
    have hc9 := b9 _ _ cL hc8
    have w19 := w18.but hL8 b9
    have w29 := w28.but hL8 b9
    have w39 : Row (upd (upd H8 t3 (.tup [fv (usL r h 20 d), V.bl (decide (fv (usL r h 20 d) = .non))])) L (.lst ([V.ref t1, V.ref t2] ++ [V.ref t3]))) (usL r h 20 d) t3 := But.put _ _ (ne_of_none hL8 n3).symm upd_same
    have hL9 : upd (upd H8 t3 (.tup [fv (usL r h 20 d), V.bl (decide (fv (usL r h 20 d) = .non))])) L (.lst ([V.ref t1, V.ref t2] ++ [V.ref t3])) L = some (.lst [V.ref t1, V.ref t2, V.ref t3]) := upd_same
    clear b9
    revert s9 hc9 w19 w29 w39 hL9
    generalize upd (upd H8 t3 (.tup [fv (usL r h 20 d), V.bl (decide (fv (usL r h 20 d) = .non))])) L (.lst ([V.ref t1, V.ref t2] ++ [V.ref t3])) = H9
    intro s9 hc9 w19 w29 w39 hL9
    -- append
    refine ⟨_, rfl, .inl ⟨rfl, _, SqL.of hL9⟩, _, rfl, _, rfl, rfl, rfl, c, r, h, l, 10, rfl, SqT.of hc9, by omega, by omega, by omega, by omega, _, rfl, _, rfl, rfl, rfl, c, r, h, l, 10, rfl, SqT.of hc9, by omega, by omega, by omega, by omega, two_ok _ _, fun t4 n4 => ?_⟩
    refine ⟨L, _, _, rfl, rfl, same_upd n4 _ _ hL9, small1000 (by show 3 ≤ 1000; decide), ?_⟩
    have b10 : But L H9 (upd (upd H9 t4 (.tup [fv (usL r h l 10), V.bl (decide (fv (usL r h l 10) = .non))])) L (.lst ([V.ref t1, V.ref t2, V.ref t3] ++ [V.ref t4]))) := (But.new n4).trans But.put
    have s10 := same_but s9 nL0 b10
    have hc10 := b10 _ _ cL hc9
    have w110 := w19.but hL9 b10
    have w210 := w29.but hL9 b10
    have w310 := w39.but hL9 b10
    have w410 : Row (upd (upd H9 t4 (.tup [fv (usL r h l 10), V.bl (decide (fv (usL r h l 10) = .non))])) L (.lst ([V.ref t1, V.ref t2, V.ref t3] ++ [V.ref t4]))) (usL r h l 10) t4 := But.put _ _ (ne_of_none hL9 n4).symm upd_same
    have hL10 : upd (upd H9 t4 (.tup [fv (usL r h l 10), V.bl (decide (fv (usL r h l 10) = .non))])) L (.lst ([V.ref t1, V.ref t2, V.ref t3] ++ [V.ref t4])) L = some (.lst [V.ref t1, V.ref t2, V.ref t3, V.ref t4]) := upd_same
    clear b10
    revert s10 hc10 w110 w210 w310 w410 hL10
    generalize upd (upd H9 t4 (.tup [fv (usL r h l 10), V.bl (decide (fv (usL r h l 10) = .non))])) L (.lst ([V.ref t1, V.ref t2, V.ref t3] ++ [V.ref t4])) = H10
    intro s10 hc10 w110 w210 w310 w410 hL10
    -- dues
    refine ⟨_, rfl, _, rfl, _, rfl, c, r, h, l, d, rfl, SqT.of hc10, by omega, by omega, by omega, by omega, _, rfl, c, r, h, 20, 10, rfl, SqT.of hc10, by omega, by omega, by omega, by omega, two_ok _ _, fun D1 nD1 => ?_⟩
    have m11 := same_upd (o := .lst [fv (usL r h l d), fv (usL r h 20 10)]) nD1
    have hc11 := m11 _ _ hc10
    refine ⟨_, rfl, _, rfl, _, rfl, c, r, h, 20, d, rfl, SqT.of hc11, by omega, by omega, by omega, by omega, _, rfl, _, rfl, c, r, h, l, 10, rfl, SqT.of hc11, by omega, by omega, by omega, by omega, two_ok _ _, fun D2 nD2 => ?_⟩
    have m12 := m11.trans (same_upd (o := .lst [fv (usL r h 20 d), fv (usL r h l 10)]) nD2)
    refine ⟨D1, D2, _, _, rfl, rfl, same_upd nD2 _ _ upd_same, upd_same, (by show 4 ≤ sizeLine; decide), fun D nD => ?_⟩
    have m13 := m12.trans (same_upd (o := .lst ([fv (usL r h l d), fv (usL r h 20 10)] ++ [fv (usL r h 20 d), fv (usL r h l 10)])) nD)
    have s13 := s10.trans m13
    have w113 := w110.same m13
    have w213 := w210.same m13
    have w313 := w310.same m13
    have w413 := w410.same m13
    have hL13 := m13 _ _ hL10
    have hD13 : upd (upd (upd H10 D1 (.lst [fv (usL r h l d), fv (usL r h 20 10)])) D2 (.lst [fv (usL r h 20 d), fv (usL r h l 10)])) D (.lst ([fv (usL r h l d), fv (usL r h 20 10)] ++ [fv (usL r h 20 d), fv (usL r h l 10)])) D = some (.lst [fv (usL r h l d), fv (usL r h 20 10), fv (usL r h 20 d), fv (usL r h l 10)]) := upd_same
    clear m11 m12 m13 hc11
    revert s13 w113 w213 w313 w413 hL13 hD13
    generalize upd (upd (upd H10 D1 (.lst [fv (usL r h l d), fv (usL r h 20 10)])) D2 (.lst [fv (usL r h 20 d), fv (usL r h l 10)])) D (.lst ([fv (usL r h l d), fv (usL r h 20 10)] ++ [fv (usL r h 20 d), fv (usL r h l 10)])) = H13
    intro s13 w113 w213 w313 w413 hL13 hD13
    have key : ∀ j : Nat, j < 4 → ∃ (t : Addr) (u : Nat → Bool), [V.ref t1, V.ref t2, V.ref t3, V.ref t4][j]? = some (.ref t) ∧ [fv (usL r h l d), fv (usL r h 20 10), fv (usL r h 20 d), fv (usL r h l 10)][j]? = some (fv u) ∧ Row H13 u t := by
      intro j hj
      have : j = 0 ∨ j = 1 ∨ j = 2 ∨ j = 3 := by omega
      rcases this with rfl | rfl | rfl | rfl
      · exact ⟨t1, _, rfl, rfl, w113⟩
      · exact ⟨t2, _, rfl, rfl, w213⟩
      · exact ⟨t3, _, rfl, rfl, w313⟩
      · exact ⟨t4, _, rfl, rfl, w413⟩
    -- zip(rows, dues)
    refine ⟨_, rfl, _, rfl, L, D, _, _, rfl, SqL.of hL13, SqL.of hD13, ?_⟩
    refine ⟨fun j m σ H3 => ∃ y9 y10, σ = [some (.ref a), some (.int (0 + (i : Int))), some (.ref b), some (.int l), some (.int d), some (.int r), some (.ref c), some (.ref L), some (.ref D), y9, y10] ∧ j + m = 4 ∧ Same H13 H3,
      ⟨4, _, _, rfl, rfl, Same.refl _⟩, fun j m σ H3 hW => ?_⟩
    obtain ⟨y9, y10, rfl, em, sm⟩ := hW
    have hA : SqL K H3 L _ := sm.seq (SqL.of hL13)
    have hC : SqL K H3 D _ := sm.seq (SqL.of hD13)
    by_cases hj : j < 4
    · obtain ⟨t, u, g1, g2, wr⟩ := key j hj
      refine .inr ⟨⟨_, _, _, _, hA, hC, g1, g2⟩, fun σ' H' => ∃ y9 y10, σ' = [some (.ref a), some (.int (0 + (i : Int))), some (.ref b), some (.int l), some (.int d), some (.int r), some (.ref c), some (.ref L), some (.ref D), y9, y10] ∧ Same H13 H', fun σ' H' hN => ?_, fun x H' hy => ?_⟩
      · obtain ⟨z9, z10, e, sm'⟩ := hN
        exact ⟨m - 1, by omega, z9, z10, e, by omega, sm'⟩
      · obtain ⟨T, x1, x2, rfl, nT, rfl, f1, f2⟩ := hy
        have ex1 : x1 = .ref t := Option.some.inj ((f1 _ hA).symm.trans g1)
        have ex2 : x2 = fv u := Option.some.inj ((f2 _ hC).symm.trans g2)
        subst ex1 ex2
        have smT : Same H13 (upd H3 T (.tup [.ref t, fv u])) := sm.trans (same_upd nT)
        refine ⟨T, _, rfl, SqT.of upd_same, rfl, _, _, rfl, _, _, rfl, rfl, ?_⟩
        have ht := smT _ _ wr
        revert ht smT
        generalize upd H3 T (.tup [.ref t, fv u]) = H4
        intro smT ht
        -- row[0] != due
        refine ⟨_, rfl, t, _, 0, _, rfl, rfl, SqT.of ht, atI_nat (j := 0) rfl, _, rfl, scal_fv u, _, rfl, iteNS rfl ?_⟩
        rcases fv_cases u with ⟨e, _⟩ | ⟨k, _, e, _⟩
        · rw [e] at ht ⊢
          refine ⟨_, rfl, t, _, 0, _, rfl, rfl, SqT.of ht, atI_nat (j := 0) rfl, _, _, _, _, false, rfl, .ty _, .base .non, kit_ty (by decide +kernel), _, rfl, iteF ?_⟩
          refine ⟨_, rfl, t, _, 1, _, rfl, rfl, SqT.of ht, atI_nat (j := 1) rfl, _, _, _, _, true, rfl, .ty _, .base (.bl _), kit_ty (by decide +kernel), _, rfl, iteF ?_⟩
          refine ⟨_, rfl, t, _, 1, _, rfl, rfl, SqT.of ht, atI_nat (j := 1) rfl, _, rfl, rfl, rfl, _, rfl, iteNS rfl ?_⟩
          refine ⟨_, rfl, rfl, _, rfl, iteF ?_⟩
          exact ⟨_, _, rfl, smT⟩
        · rw [e] at ht ⊢
          refine ⟨_, rfl, t, _, 0, _, rfl, rfl, SqT.of ht, atI_nat (j := 0) rfl, _, _, _, _, false, rfl, .ty _, .base (.int _), kit_ty (by decide +kernel), _, rfl, iteF ?_⟩
          refine ⟨_, rfl, t, _, 1, _, rfl, rfl, SqT.of ht, atI_nat (j := 1) rfl, _, _, _, _, true, rfl, .ty _, .base (.bl _), kit_ty (by decide +kernel), _, rfl, iteF ?_⟩
          refine ⟨_, rfl, t, _, 1, _, rfl, rfl, SqT.of ht, atI_nat (j := 1) rfl, _, rfl, rfl, rfl, _, rfl, iteNS rfl ?_⟩
          refine ⟨_, rfl, rfl, _, rfl, iteT ?_⟩
          refine ⟨_, rfl, t, _, 0, _, rfl, rfl, SqT.of ht, atI_nat (j := 0) rfl, _, _, _, _, true, rfl, .ty _, .base (.int _), kit_ty (by decide +kernel), _, rfl, iteF ?_⟩
          exact ⟨_, _, rfl, smT⟩
    · refine .inl ⟨⟨_, _, hA, hC, .inr (by show 4 ≤ j; omega)⟩, ?_⟩
      exact ⟨_, _, _, _, _, _, _, _, _, _, rfl, s13.trans sm⟩

end
theorem all_mk {l : PySem.W.OpenLaw} {w : World} {K : PySem.W.Frag} {h : Heap} {mg : Str → Option Value} {fa f0 f1 f2 f3 f4 f5 f6 f7 f8 f9 f10 f11 : Addr} (X : K.In h) (G : h.Ns mainGlobals mg) (hfa : mg "law" = some (.ref fa))
    {od0 an0 : Option Addr} {sl0 : Array (Option Value)} {oc0 kV0 dc0 pm0 cd0 ct0 : Value} {od1 an1 : Option Addr} {sl1 : Array (Option Value)} {oc1 kV1 dc1 pm1 cd1 ct1 : Value} {od2 an2 : Option Addr} {sl2 : Array (Option Value)} {oc2  dc2 pm2 cd2 ct2 : Value} {D2 : Addr} {t2_length t2_drift : Tok} {od3 an3 : Option Addr} {sl3 : Array (Option Value)} {oc3  dc3 pm3 cd3 ct3 : Value} {D3 : Addr} {t3_length t3_drift : Tok} {od4 an4 : Option Addr} {sl4 : Array (Option Value)} {oc4  dc4 pm4 cd4 ct4 : Value} {D4 : Addr} {t4_length t4_drift : Tok} {od5 an5 : Option Addr} {sl5 : Array (Option Value)} {oc5 kV5 dc5 pm5 cd5 ct5 : Value} {od6 an6 : Option Addr} {sl6 : Array (Option Value)} {oc6 kV6 dc6 pm6 cd6 ct6 : Value} {od7 an7 : Option Addr} {sl7 : Array (Option Value)} {oc7 kV7 dc7 pm7 cd7 ct7 : Value} {od8 an8 : Option Addr} {sl8 : Array (Option Value)} {oc8 kV8 dc8 pm8 cd8 ct8 : Value} {od9 an9 : Option Addr} {sl9 : Array (Option Value)} {oc9 kV9 dc9 pm9 cd9 ct9 : Value} {od10 an10 : Option Addr} {sl10 : Array (Option Value)} {oc10 kV10 dc10 pm10 cd10 ct10 : Value} {od11 an11 : Option Addr} {sl11 : Array (Option Value)} {oc11 kV11 dc11 pm11 cd11 ct11 : Value} {tc_TURN : Tok}
    (a0 : PySem.W.nsIn K mainGlobals "shown" = some (some (.ref f0)))
    (l0 : K.lookup f0 = some ⟨oc0, od0, .func (PySem.W.fnOf "shown" "shown" (defArgs s_shown) (defBody s_shown) (defScope s_shown) .none kV0 dc0 pm0 an0 cd0 ct0), sl0⟩)
    (c0 : PySem.W.codeIn K cd0 "shown" = true) (k0 : PySem.W.keepIn K (.ref f0) = true)
    (a1 : PySem.W.nsIn K mainGlobals "span" = some (some (.ref f1)))
    (l1 : K.lookup f1 = some ⟨oc1, od1, .func (PySem.W.fnOf "span" "span" (defArgs s_span) (defBody s_span) (defScope s_span) .none kV1 dc1 pm1 an1 cd1 ct1), sl1⟩)
    (c1 : PySem.W.codeIn K cd1 "span" = true) (k1 : PySem.W.keepIn K (.ref f1) = true)
    (a2 : PySem.W.nsIn K mainGlobals "is_used" = some (some (.ref f2)))
    (l2 : K.lookup f2 = some ⟨oc2, od2, .func (PySem.W.fnOf "is_used" "is_used" (defArgs s_is_used) (defBody s_is_used) (defScope s_is_used) .none (.ref D2) dc2 pm2 an2 cd2 ct2), sl2⟩)
    (c2 : PySem.W.codeIn K cd2 "is_used" = true) (k2 : PySem.W.keepIn K (.ref f2) = true)
    (n2_length : PySem.W.nsIn K D2 "length" = some (some (.int 20 t2_length)))
    (n2_drift : PySem.W.nsIn K D2 "drift" = some (some (.int 10 t2_drift)))
    (a3 : PySem.W.nsIn K mainGlobals "first_unsafe" = some (some (.ref f3)))
    (l3 : K.lookup f3 = some ⟨oc3, od3, .func (PySem.W.fnOf "first_unsafe" "first_unsafe" (defArgs s_first_unsafe) (defBody s_first_unsafe) (defScope s_first_unsafe) .none (.ref D3) dc3 pm3 an3 cd3 ct3), sl3⟩)
    (c3 : PySem.W.codeIn K cd3 "first_unsafe" = true) (k3 : PySem.W.keepIn K (.ref f3) = true)
    (n3_length : PySem.W.nsIn K D3 "length" = some (some (.int 20 t3_length)))
    (n3_drift : PySem.W.nsIn K D3 "drift" = some (some (.int 10 t3_drift)))
    (a4 : PySem.W.nsIn K mainGlobals "is_safe" = some (some (.ref f4)))
    (l4 : K.lookup f4 = some ⟨oc4, od4, .func (PySem.W.fnOf "is_safe" "is_safe" (defArgs s_is_safe) (defBody s_is_safe) (defScope s_is_safe) .none (.ref D4) dc4 pm4 an4 cd4 ct4), sl4⟩)
    (c4 : PySem.W.codeIn K cd4 "is_safe" = true) (k4 : PySem.W.keepIn K (.ref f4) = true)
    (n4_length : PySem.W.nsIn K D4 "length" = some (some (.int 20 t4_length)))
    (n4_drift : PySem.W.nsIn K D4 "drift" = some (some (.int 10 t4_drift)))
    (a5 : PySem.W.nsIn K mainGlobals "_law_bag" = some (some (.ref f5)))
    (l5 : K.lookup f5 = some ⟨oc5, od5, .func (PySem.W.fnOf "_law_bag" "_law_bag" (defArgs s__law_bag) (defBody s__law_bag) (defScope s__law_bag) .none kV5 dc5 pm5 an5 cd5 ct5), sl5⟩)
    (c5 : PySem.W.codeIn K cd5 "_law_bag" = true) (k5 : PySem.W.keepIn K (.ref f5) = true)
    (a6 : PySem.W.nsIn K mainGlobals "_law_take" = some (some (.ref f6)))
    (l6 : K.lookup f6 = some ⟨oc6, od6, .func (PySem.W.fnOf "_law_take" "_law_take" (defArgs s__law_take) (defBody s__law_take) (defScope s__law_take) .none kV6 dc6 pm6 an6 cd6 ct6), sl6⟩)
    (c6 : PySem.W.codeIn K cd6 "_law_take" = true) (k6 : PySem.W.keepIn K (.ref f6) = true)
    (a7 : PySem.W.nsIn K mainGlobals "_law_late" = some (some (.ref f7)))
    (l7 : K.lookup f7 = some ⟨oc7, od7, .func (PySem.W.fnOf "_law_late" "_law_late" (defArgs s__law_late) (defBody s__law_late) (defScope s__law_late) .none kV7 dc7 pm7 an7 cd7 ct7), sl7⟩)
    (c7 : PySem.W.codeIn K cd7 "_law_late" = true) (k7 : PySem.W.keepIn K (.ref f7) = true)
    (a8 : PySem.W.nsIn K mainGlobals "_law_terms" = some (some (.ref f8)))
    (l8 : K.lookup f8 = some ⟨oc8, od8, .func (PySem.W.fnOf "_law_terms" "_law_terms" (defArgs s__law_terms) (defBody s__law_terms) (defScope s__law_terms) .none kV8 dc8 pm8 an8 cd8 ct8), sl8⟩)
    (c8 : PySem.W.codeIn K cd8 "_law_terms" = true) (k8 : PySem.W.keepIn K (.ref f8) = true)
    (a9 : PySem.W.nsIn K mainGlobals "_law_rate" = some (some (.ref f9)))
    (l9 : K.lookup f9 = some ⟨oc9, od9, .func (PySem.W.fnOf "_law_rate" "_law_rate" (defArgs s__law_rate) (defBody s__law_rate) (defScope s__law_rate) .none kV9 dc9 pm9 an9 cd9 ct9), sl9⟩)
    (c9 : PySem.W.codeIn K cd9 "_law_rate" = true) (k9 : PySem.W.keepIn K (.ref f9) = true)
    (a10 : PySem.W.nsIn K mainGlobals "_law_unsafe" = some (some (.ref f10)))
    (l10 : K.lookup f10 = some ⟨oc10, od10, .func (PySem.W.fnOf "_law_unsafe" "_law_unsafe" (defArgs s__law_unsafe) (defBody s__law_unsafe) (defScope s__law_unsafe) .none kV10 dc10 pm10 an10 cd10 ct10), sl10⟩)
    (c10 : PySem.W.codeIn K cd10 "_law_unsafe" = true) (k10 : PySem.W.keepIn K (.ref f10) = true)
    (a11 : PySem.W.nsIn K mainGlobals "law" = some (some (.ref f11)))
    (l11 : K.lookup f11 = some ⟨oc11, od11, .func (PySem.W.fnOf "law" "law" (defArgs s_law) (defBody s_law) (defScope s_law) .none kV11 dc11 pm11 an11 cd11 ct11), sl11⟩)
    (c11 : PySem.W.codeIn K cd11 "law" = true) (k11 : PySem.W.keepIn K (.ref f11) = true)
    (g_TURN : PySem.W.nsIn K mainGlobals "TURN" = some (some (.int 100 tc_TURN)))
    (z_abs : PySem.W.nsIn K mainGlobals "abs" = some none)
    (z_bool : PySem.W.nsIn K mainGlobals "bool" = some none)
    (z_int : PySem.W.nsIn K mainGlobals "int" = some none)
    (z_isinstance : PySem.W.nsIn K mainGlobals "isinstance" = some none)
    (z_len : PySem.W.nsIn K mainGlobals "len" = some none)
    (z_max : PySem.W.nsIn K mainGlobals "max" = some none)
    (z_min : PySem.W.nsIn K mainGlobals "min" = some none)
    (z_range : PySem.W.nsIn K mainGlobals "range" = some none)
    (z_zip : PySem.W.nsIn K mainGlobals "zip" = some none) :
    ∃ fd : FuncData, (∀ (s : Shared) (v : Value), BindsTo s fd ⟨[v], []⟩ [("script", v)]) ∧ ∀ base : Heap, K.In base → base.Ns mainGlobals mg → FnOk l.prog w K mg base CX0 5 fa fd ["script"] (splaw K) := by
  have N : Fre K mg := ⟨PySem.W.mg_none_of X G z_abs, PySem.W.mg_none_of X G z_bool, PySem.W.mg_none_of X G z_int, PySem.W.mg_none_of X G z_isinstance, PySem.W.mg_none_of X G z_len, PySem.W.mg_none_of X G z_max, PySem.W.mg_none_of X G z_min, PySem.W.mg_none_of X G z_range, PySem.W.mg_none_of X G z_zip, ⟨_, PySem.W.mg_of X G g_TURN⟩⟩
  have e := hfa.symm.trans (PySem.W.mg_of X G a11)
  cases e
  have F0 := fun_mk (st := s_shown) l0 c0 k0
  have F1 := fun_mk (st := s_span) l1 c1 k1
  have F2 : FunD K "is_used" "is_used" (defArgs s_is_used) (defBody s_is_used) (defScope s_is_used) [] [("length", V.int 20), ("drift", V.int 10)] f2 _ := ⟨⟨_, _, _, _, _, _, _, _, _, _, rfl, l2, c2, .inl ⟨rfl, rfl⟩, .inr ⟨D2, rfl, fun q hq => by
    simp only [List.mem_cons, List.not_mem_nil, or_false] at hq
    rcases hq with rfl | rfl
    · exact ⟨_, n2_length, _, rfl⟩
    · exact ⟨_, n2_drift, _, rfl⟩⟩⟩, k2⟩
  have F3 : FunD K "first_unsafe" "first_unsafe" (defArgs s_first_unsafe) (defBody s_first_unsafe) (defScope s_first_unsafe) [] [("length", V.int 20), ("drift", V.int 10)] f3 _ := ⟨⟨_, _, _, _, _, _, _, _, _, _, rfl, l3, c3, .inl ⟨rfl, rfl⟩, .inr ⟨D3, rfl, fun q hq => by
    simp only [List.mem_cons, List.not_mem_nil, or_false] at hq
    rcases hq with rfl | rfl
    · exact ⟨_, n3_length, _, rfl⟩
    · exact ⟨_, n3_drift, _, rfl⟩⟩⟩, k3⟩
  have F4 : FunD K "is_safe" "is_safe" (defArgs s_is_safe) (defBody s_is_safe) (defScope s_is_safe) [] [("length", V.int 20), ("drift", V.int 10)] f4 _ := ⟨⟨_, _, _, _, _, _, _, _, _, _, rfl, l4, c4, .inl ⟨rfl, rfl⟩, .inr ⟨D4, rfl, fun q hq => by
    simp only [List.mem_cons, List.not_mem_nil, or_false] at hq
    rcases hq with rfl | rfl
    · exact ⟨_, n4_length, _, rfl⟩
    · exact ⟨_, n4_drift, _, rfl⟩⟩⟩, k4⟩
  have F5 := fun_mk (st := s__law_bag) l5 c5 k5
  have F6 := fun_mk (st := s__law_take) l6 c6 k6
  have F7 := fun_mk (st := s__law_late) l7 c7 k7
  have F8 := fun_mk (st := s__law_terms) l8 c8 k8
  have F9 := fun_mk (st := s__law_rate) l9 c9 k9
  have F10 := fun_mk (st := s__law_unsafe) l10 c10 k10
  have F11 := fun_mk (st := s_law) l11 c11 k11
  refine ⟨PySem.W.fnOf "law" "law" (defArgs s_law) (defBody s_law) (defScope s_law) .none kV11 dc11 pm11 an11 cd11 ct11, fun s v => .of_eq rfl, fun base _ _ => ?_⟩
  have c_shown := ok_shown (base := base) (P := l.prog) (w := w) F0 (PySem.W.mg_of X G a0) N
  have c_span := ok_span (base := base) (P := l.prog) (w := w) F1 (PySem.W.mg_of X G a1) N
  have c_is_used_3_length_drift := ok_is_used_3_length_drift (base := base) (P := l.prog) (w := w) F2 (PySem.W.mg_of X G a2) N c_shown c_span
  have c_first_unsafe_1_length_drift := ok_first_unsafe_1_length_drift (base := base) (P := l.prog) (w := w) F3 (PySem.W.mg_of X G a3) N c_is_used_3_length_drift
  have c_first_unsafe_1 := ok_first_unsafe_1 (base := base) (P := l.prog) (w := w) F3 (PySem.W.mg_of X G a3) N c_is_used_3_length_drift
  have c_first_unsafe_1_drift := ok_first_unsafe_1_drift (base := base) (P := l.prog) (w := w) F3 (PySem.W.mg_of X G a3) N c_is_used_3_length_drift
  have c_first_unsafe_0_length_clock := ok_first_unsafe_0_length_clock (base := base) (P := l.prog) (w := w) F3 (PySem.W.mg_of X G a3) N c_is_used_3_length_drift
  have c_is_safe_1_drift_length := ok_is_safe_1_drift_length (base := base) (P := l.prog) (w := w) F4 (PySem.W.mg_of X G a4) N c_first_unsafe_1_length_drift
  have c_is_safe_1 := ok_is_safe_1 (base := base) (P := l.prog) (w := w) F4 (PySem.W.mg_of X G a4) N c_first_unsafe_1_length_drift
  have c_is_safe_1_drift := ok_is_safe_1_drift (base := base) (P := l.prog) (w := w) F4 (PySem.W.mg_of X G a4) N c_first_unsafe_1_length_drift
  have c_is_safe_0_clock_length := ok_is_safe_0_clock_length (base := base) (P := l.prog) (w := w) F4 (PySem.W.mg_of X G a4) N c_first_unsafe_1_length_drift
  have c__law_bag := ok__law_bag (base := base) (P := l.prog) (w := w) F5 (PySem.W.mg_of X G a5) N
  have c__law_take := ok__law_take (base := base) (P := l.prog) (w := w) F6 (PySem.W.mg_of X G a6) N
  have c__law_late := ok__law_late (base := base) (P := l.prog) (w := w) F7 (PySem.W.mg_of X G a7) N
  have c__law_terms := ok__law_terms (base := base) (P := l.prog) (w := w) F8 (PySem.W.mg_of X G a8) N c__law_take
  have c__law_rate := ok__law_rate (base := base) (P := l.prog) (w := w) F9 (PySem.W.mg_of X G a9) N c__law_take
  have c__law_unsafe := ok__law_unsafe (base := base) (P := l.prog) (w := w) F10 (PySem.W.mg_of X G a10) N c__law_late
  exact ok_law (base := base) (P := l.prog) (w := w) F11 N c__law_bag c__law_rate c__law_take c__law_terms c__law_unsafe c_first_unsafe_0_length_clock c_first_unsafe_1 c_first_unsafe_1_drift c_first_unsafe_1_length_drift c_is_safe_0_clock_length c_is_safe_1 c_is_safe_1_drift c_is_safe_1_drift_length
end My
open PySem PySem.W PyProof.Rows
set_option maxRecDepth 100000 in
set_option maxHeartbeats 0 in
theorem PySem.Challenge.cw_pagelend_k05_the_first_unsafe_lease_holds : PySem.Challenge.rw_pagelend_k05_the_first_unsafe_lease.Holds := by
  w_on; o_law; k_head; (case hw => w_witness2)
  k_fill
  refine L2.walk_of (l := PySem.Challenge.rw_pagelend_k05_the_first_unsafe_lease) (n := 63) (k := 5) (x := "script") (CX := fun _ => L2.CX0) (sp := fun w => My.splaw _) rfl (by decide) rfl ⟨rfl, by decide, by decide⟩ (fun w h Y => PySem.W.kIn_of Y) ?F (fun _ _ a ns hl _ hS => ⟨a, ns, rfl, hS, hl, fun _ => rfl⟩) (fun _ _ _ _ _ h => h)
  case F =>
    intro w mg fa h KX G hmg
    refine' My.all_mk KX G hmg ?a0 ?l0 ?c0 ?k0 ?a1 ?l1 ?c1 ?k1 ?a2 ?l2 ?c2 ?k2 ?n2_length ?n2_drift ?a3 ?l3 ?c3 ?k3 ?n3_length ?n3_drift ?a4 ?l4 ?c4 ?k4 ?n4_length ?n4_drift ?a5 ?l5 ?c5 ?k5 ?a6 ?l6 ?c6 ?k6 ?a7 ?l7 ?c7 ?k7 ?a8 ?l8 ?c8 ?k8 ?a9 ?l9 ?c9 ?k9 ?a10 ?l10 ?c10 ?k10 ?a11 ?l11 ?c11 ?k11 ?g_TURN ?z_abs ?z_bool ?z_int ?z_isinstance ?z_len ?z_max ?z_min ?z_range ?z_zip
    (case a0 => k_is); (case l0 => k_is); (case c0 => k_is); (case k0 => k_is); (case a1 => k_is); (case l1 => k_is); (case c1 => k_is); (case k1 => k_is); (case a2 => k_is); (case l2 => k_is); (case c2 => k_is); (case k2 => k_is); (case n2_length => k_is); (case n2_drift => k_is); (case a3 => k_is); (case l3 => k_is); (case c3 => k_is); (case k3 => k_is); (case n3_length => k_is); (case n3_drift => k_is); (case a4 => k_is); (case l4 => k_is); (case c4 => k_is); (case k4 => k_is); (case n4_length => k_is); (case n4_drift => k_is); (case a5 => k_is); (case l5 => k_is); (case c5 => k_is); (case k5 => k_is); (case a6 => k_is); (case l6 => k_is); (case c6 => k_is); (case k6 => k_is); (case a7 => k_is); (case l7 => k_is); (case c7 => k_is); (case k7 => k_is); (case a8 => k_is); (case l8 => k_is); (case c8 => k_is); (case k8 => k_is); (case a9 => k_is); (case l9 => k_is); (case c9 => k_is); (case k9 => k_is); (case a10 => k_is); (case l10 => k_is); (case c10 => k_is); (case k10 => k_is); (case a11 => k_is); (case l11 => k_is); (case c11 => k_is); (case k11 => k_is); (case g_TURN => k_is); (case z_abs => k_is); (case z_bool => k_is); (case z_int => k_is); (case z_isinstance => k_is); (case z_len => k_is); (case z_max => k_is); (case z_min => k_is); (case z_range => k_is); (case z_zip => k_is)

