
import PyProof.Rows.All
import Wide.All
import OpenK.AllK
import Wide.FinOn
import PySem.Challenge.RW_pagelend_k03_clocks_and_use
import HandS.ForMost
import HandS.Wide
import HandS.Defaults
import HandS.MakeKwOnly
import HandS.IsInst
import HandS.Codes
import HandS.Walk
import HandS.TupAny
import HandS.More
import HandS.Sort
import HandS.Conv
import HandS.HotCalls
import HandS.ExcIs
import KE.KSortTupAny
set_option Elab.async false
set_option linter.all false
set_option maxRecDepth 100000
set_option maxHeartbeats 1000000
namespace My
open PySem PySem.Spec PyProof.Rows L2
def topS (i : Nat) : Stmt := PySem.Challenge.pw_pagelend_k03_clocks_and_use.main.body.getD i (.Pass ⟨0, 0, 0, 0⟩)
structure Fre (K : PySem.W.Frag) (mg : Str → Option Value) : Prop where
  abs : mg "abs" = none
  bool : mg "bool" = none
  int : mg "int" = none
  isinstance : mg "isinstance" = none
  len : mg "len" = none
  max : mg "max" = none
  min : mg "min" = none
  range : mg "range" = none
/-! ### calls with keywords, a def kept as its promise -/
structure CalN (P : Program) (w : World) (K : PySem.W.Frag) (mg : Str → Option Value) (base : Heap) (k : Nat) (x : Str) (sp : Sp) (n : Nat) (ks : List Str) (gV : List V → List V → List V) : Prop where
  ex : ∃ (f : Addr) (fd : FuncData) (ps : List Str) (g : List Value → List Value → List Value), FnOk P w K mg base CX0 k f fd ps sp ∧ mg x = some (.ref f) ∧ PySem.W.keepIn K (.ref f) = true ∧ KBn K fd ps n ks g gV
section
variable {X : Cx} {k j n : Nat} {x : Str} {sp : Sp} {ks : List Str} {gV : List V → List V → List V} {p pos : Pos} {e : Expr} {es : List Expr} {kws : List Keyword} {t tk : TA}
theorem pe_cn (c : CalN X.prog X.w X.K X.mg X.base k x sp n ks gV) (hr : Room j X.A) (hk : k ≤ j) (hg : Gl X x) (ha : PA X (e :: es) t) (hkw : PK X kws tk)
    (hall : (backToKw pos (keywordEach kws X.env)).all (·.1.isSome) = true := by rfl) (hks : (backToKw pos (keywordEach kws X.env)).filterMap (·.1) = ks := by rfl)
    (hdb : (x == ("__debug__" : Str)) = false := by decide) (he : starEach (e :: es) X.env = (false, eval e X.env) :: starEach es X.env := by rfl)
    (hpl : ((backTo pos (starEach (e :: es) X.env)).any (·.1) || (backToKw pos (keywordEach kws X.env)).any (·.1.isNone)) = false := by rfl) :
    PE X (.Call (.Name x p) (e :: es) kws pos) (tCallN n ks.length sp gV E0 t tk) := by
  obtain ⟨f, fd, ps, g, F, hm, kp, b⟩ := c.ex
  exact pe_callN F (hr.mono hk) hg hm kp b pass0 ha hkw hall hks hdb he hpl
theorem pe_cn0 (c : CalN X.prog X.w X.K X.mg X.base k x sp 0 ks gV) (hr : Room j X.A) (hk : k ≤ j) (hg : Gl X x) (hkw : PK X kws tk)
    (hall : (backToKw pos (keywordEach kws X.env)).all (·.1.isSome) = true := by rfl) (hks : (backToKw pos (keywordEach kws X.env)).filterMap (·.1) = ks := by rfl)
    (hdb : (x == ("__debug__" : Str)) = false := by decide)
    (hpl : ((backTo pos (starEach [] X.env)).any (·.1) || (backToKw pos (keywordEach kws X.env)).any (·.1.isNone)) = false := by rfl) :
    PE X (.Call (.Name x p) [] kws pos) (tCallN 0 ks.length sp gV E0 tNil tk) := by
  obtain ⟨f, fd, ps, g, F, hm, kp, b⟩ := c.ex
  refine ⟨fun pins s σ H Q I h => ?_⟩
  refine wpAny_Call_Name_kw (ld_glob I hg hm ?_ hdb)
  refine PySem.W.callWith_KW0 (h₀ := X.base) I.ok.mod.kin kp hall ?_ hpl
  refine thn (hkw.run pos pins s σ H _ I h) fun ws s2 ⟨zs, H2, I2, rz, l1, l2, q2⟩ => ⟨I2.kIn, ?_⟩
  rw [hks]
  exact run_fnN (us := []) (vs := []) F (hr.mono hk) b pass0 I2 .nil rz rfl l2 q2
end
section
variable {P : Program} {w : World} {K : PySem.W.Frag} {mg : Str → Option Value} {base : Heap}
theorem mkCal {x : Str} {st : Stmt} {f : Addr} {fd : FuncData} {N ps : List Str} {k : Nat} {sp : Sp} (F : Fun K x x st f fd) (gm : mg x = some (.ref f)) (S : FnScope N ps (defScope st)) (b : Binds K fd ps []) (len : ∀ vs H Q E, sp vs H Q E → vs.length = ps.length)
    (hbody : ∀ (cdv : Value) (A : Around) (outer : List Env) (s : Shared) (H : Hp) (vs : List V) (Q : VK) (E : XK), Room k (A.deeper (envOfC x (defScope st) s.heap.objs.size f cdv)) → sp vs H Q E →
      ∃ t, PSs (cxOf CX0 P w K mg base N x (defScope st) f cdv A outer s H E).nox (defBody st) t ∧ t { nx := fun _ H' => Q .non H', rt := Q } (start N vs) H) : C8.Cal P w K mg base (k + 1) x sp [] :=
  ⟨f, fd, ps, [], F.ok S len hbody, gm, F.kp, b, .nil⟩
end
/-! ### heaps -/
def But (b : Addr) (H H' : Hp) : Prop := ∀ a o, a ≠ b → H a = some o → H' a = some o
theorem But.trans {b : Addr} {H H1 H2 : Hp} (h : But b H H1) (g : But b H1 H2) : But b H H2 := fun a o n e => g a o n (h a o n e)
theorem But.refl (b : Addr) (H : Hp) : But b H H := fun _ _ _ e => e
theorem But.put {b : Addr} {H : Hp} {o : HO} : But b H (L2.upd H b o) := fun a _ n e => by rw [upd_ne n]; exact e
theorem But.new {b p : Addr} {H : Hp} {o : HO} (h : H p = none) : But b H (L2.upd H p o) := fun a _ n e => by rw [upd_ne (ne_of_none e h)]; exact e
theorem same_upd {H : Hp} {p : Addr} {o : HO} (h : H p = none) : Same H (upd H p o) := fun b x e => by
  rw [upd_ne (ne_of_none e h)]
  exact e
def Bag (H : Hp) (b : Addr) : Prop := ∃ x y : Int, H b = some (.lst [.int x, .int y]) ∧ 0 ≤ x ∧ 0 ≤ y ∧ y < 2147483647
theorem Bag.new {H : Hp} {b p : Addr} {o : HO} (g : Bag H b) (h : H p = none) : Bag (L2.upd H p o) b := by
  obtain ⟨x, y, e, r⟩ := g
  exact ⟨x, y, by rw [upd_ne (ne_of_none e h)]; exact e, r⟩
theorem Bag.ne {H : Hp} {b p : Addr} (g : Bag H b) (h : H p = none) : p ≠ b := by
  obtain ⟨x, y, e, r⟩ := g
  exact (ne_of_none e h).symm
theorem Bag.ne_tup {H : Hp} {b p : Addr} {xs : List V} (g : Bag H b) (h : H p = some (.tup xs)) : p ≠ b := by
  obtain ⟨x, y, e, r⟩ := g
  exact ne_of h e (by intro z; cases z)
theorem seqBut {K : PySem.W.Frag} {H H' : Hp} {a b : Addr} {xs : List V} (e : But b H H') (n : a ≠ b) (h : SqL K H a xs) : SqL K H' a xs := by
  rcases h with (h | ⟨o, h⟩) | h
  · exact .inl (.inl (e _ _ n h))
  · exact .inl (.inr ⟨o, e _ _ n h⟩)
  · exact .inr h
theorem dT {a : Bool} {b : Bool} (h : a = b) : decide (V.bl a = V.bl b) = true := by rw [h]; exact decide_eq_true rfl
theorem two_ok (a b : V) : [a, b].length ≤ sizeLine := by show 2 ≤ sizeLine; decide
theorem three_ok (a b c : V) : [a, b, c].length ≤ sizeLine := by show 3 ≤ sizeLine; decide
theorem four_ok (a b c d : V) : [a, b, c, d].length ≤ sizeLine := by show 4 ≤ sizeLine; decide
theorem free_of {b p : Addr} {H H' : Hp} (g : But b H H') (hB : Bag H b) (hB' : Bag H' b) (np : H' p = none) : H p = none := by
  cases e : H p with
  | none => rfl
  | some o =>
    have z := g p o (hB'.ne np) e
    rw [np] at z
    cases z
theorem same_but {b : Addr} {H0 H1 H2 : Hp} (sm : Same H0 H1) (nb : H0 b = none) (g : But b H1 H2) : Same H0 H2 := fun c o e => g c o (ne_of_none e nb) (sm c o e)
theorem iteD {p A B : Prop} [Decidable p] (h : ¬ p) (b : B) : if decide p = true then A else B := by
  rw [if_neg (by rw [decide_eq_false h]; exact Bool.false_ne_true)]
  exact b
theorem iteD' {p A B : Prop} [Decidable p] (h : p) (b : A) : if decide p = true then A else B := by
  rw [if_pos (decide_eq_true h)]
  exact b
theorem vone {vs : List V} {us : List Value} (i : Nat) (r : Vals vs us) : Vals ((vs.drop i).take 1) ((us.drop i).take 1) := by
  exact (r.drop i).take 1
section
variable {P : Program} {w : World} {K : PySem.W.Frag} {mg : Str → Option Value} {base : Heap}

/-! ### _law_take: any draw below many -/
abbrev s__law_take : Stmt := topS 8
theorem sc__law_take : FnScope ["bag", "many", "found"] ["bag", "many"] (defScope s__law_take) := ⟨rfl, rfl, rfl, by decide +kernel, rfl, by decide +kernel, by decide +kernel⟩
def sp_law_take : Sp := fun vs H Q _ => ∃ (b : Addr) (m : Int), vs = [.ref b, .int m] ∧ Bag H b ∧ 0 < m ∧ m < 2 ^ 200 ∧ ∀ r H', 0 ≤ r → r < m → But b H H' → Bag H' b → Q (.int r) H'
theorem ok__law_take {f : Addr} {fd : FuncData} (F : Fun K "_law_take" "_law_take" s__law_take f fd) (gm : mg "_law_take" = some (.ref f)) (N : Fre K mg)  : C8.Cal P w K mg base 1 "_law_take" sp_law_take [] := by
  refine mkCal F gm sc__law_take (F.binds (ps := ["bag", "many"]) fun _ _ _ _ _ _ us hl => match us, hl with | [_, _], _ => rfl) (fun vs H Q E h => ?_) (fun cdv A outer s H vs Q E hr h => ?_)
  · obtain ⟨b, m, rfl, _⟩ := h
    rfl
  · obtain ⟨b, m, rfl, ⟨x, y, hb, hx, hy, hy2⟩, hm, hm2, q⟩ := h
    refine ⟨_, (pss_cons (ps_if (pt_cmpR op_gt (pe_ix ix_list (pv 0) pe_int (fun _ _ => rfl)) pe_int (nomark _))
 (pss_cons (ps_set (i := 2) sc__law_take.nd rfl (.inl rfl) (pe_op op_mod (pe_ix ix_list (pv 0) pe_int (fun _ _ => rfl)) (pv 1)))
 (pss_cons (ps_asg (pe_op op_fdivW (pe_ix ix_list (pv 0) pe_int (fun _ _ => rfl)) (pv 1)) (pg_sub (pv 0) pe_int set_list))
 (pss_one (ps_ret (pv 2)))))
 pss_nil)
 (pss_cons (ps_asg (pe_op op_mod (pe_op op_mul (pe_ix ix_list (pv 0) pe_int (fun _ _ => rfl)) pe_int) pe_int) (pg_sub (pv 0) pe_int set_list))
 (pss_one (ps_ret (pe_op op_mod (pe_op op_fdiv (pe_op op_mod (pe_op op_mul (pe_ix ix_list (pv 0) pe_int (fun _ _ => rfl)) (pe_ix ix_list (pv 0) pe_int (fun _ _ => rfl))) pe_int) pe_int) (pv 1)))))), ?_⟩
    refine ⟨_, rfl, b, _, 0, .int x, rfl, rfl, SqL.of hb, atI_nat (j := 0) rfl, x, 0, rfl, rfl, _, rfl, ite2 (fun e => ?_) (fun e => ?_)⟩
    · have hx0 : 0 < x := of_decide_eq_true e
      refine ⟨_, rfl, b, _, 0, .int x, rfl, rfl, SqL.of hb, atI_nat (j := 0) rfl, _, rfl, x, m, rfl, rfl, hm, ?_⟩
      refine ⟨_, rfl, b, _, 0, .int x, rfl, rfl, SqL.of hb, atI_nat (j := 0) rfl, _, rfl, x, m, rfl, rfl, wide_div (b := 200) hm (by omega) (by decide) (by decide), _, rfl, b, _, 0, 0, rfl, rfl, hb, rfl, ?_⟩
      refine ⟨_, rfl, q _ _ (Int.emod_nonneg _ (by omega)) (Int.emod_lt_of_pos _ hm) But.put ⟨x / m, y, upd_same, Int.ediv_nonneg hx (by omega), hy, hy2⟩⟩
    · refine ⟨_, rfl, b, _, 1, .int y, rfl, rfl, SqL.of hb, atI_nat (j := 1) rfl, y, 48271, rfl, rfl, .inr ⟨by decide, by decide⟩, _, 2147483647, rfl, rfl, (by show (0 : Int) < 2147483647; decide), _, rfl, b, _, 1, 1, rfl, rfl, hb, rfl, ?_⟩
      have hb2 : (upd H b (.lst ([V.int x, V.int y].set 1 (.int (y * 48271 % 2147483647))))) b = some (.lst [.int x, .int (y * 48271 % 2147483647)]) := upd_same
      have hz1 : 0 ≤ y * 48271 % 2147483647 := Int.emod_nonneg _ (by decide)
      have hz2 : y * 48271 % 2147483647 < 2147483647 := Int.emod_lt_of_pos _ (by decide)
      refine ⟨_, rfl, b, _, 1, _, rfl, rfl, SqL.of hb2, atI_nat (j := 1) rfl, _, rfl, b, _, 1, _, rfl, rfl, SqL.of hb2, atI_nat (j := 1) rfl, _, _, rfl, rfl, .inl ⟨by omega, by omega⟩, _, 2147483629, rfl, rfl, (by show (0 : Int) < 2147483629; decide), _, 64, rfl, rfl, ⟨by decide, by decide⟩, _, rfl, _, m, rfl, rfl, hm, ?_⟩
      exact q _ _ (Int.emod_nonneg _ (by omega)) (Int.emod_lt_of_pos _ hm) But.put ⟨x, _, hb2, hx, hz1, hz2⟩
/-! ### _law_bag -/
abbrev s__law_bag : Stmt := topS 7
theorem sc__law_bag : FnScope ["script", "k", "cell"] ["script", "k"] (defScope s__law_bag) := ⟨rfl, rfl, rfl, by decide +kernel, rfl, by decide +kernel, by decide +kernel⟩
def sp_law_bag (K : PySem.W.Frag) : Sp := fun vs H Q _ => ∃ (a : Addr) (ns : List Int) (k : Int), vs = [.ref a, .int k] ∧ SqL K H a (ns.map V.int) ∧ 0 ≤ k ∧ k < 100 ∧ ∀ p H', H p = none → Same H H' → Bag H' p → Q (.ref p) H'
theorem bag_pos (c k : Int) (n : Int) : 0 ≤ 1 + (c + k) % 2147483646 ∧ 1 + (c + k) % 2147483646 < 2147483647 := by
  have h1 : 0 ≤ (c + k) % 2147483646 := Int.emod_nonneg _ (by decide)
  have h2 : (c + k) % 2147483646 < 2147483646 := Int.emod_lt_of_pos _ (by decide)
  omega
theorem ok__law_bag {f : Addr} {fd : FuncData} (F : Fun K "_law_bag" "_law_bag" s__law_bag f fd) (gm : mg "_law_bag" = some (.ref f)) (N : Fre K mg)  : C8.Cal P w K mg base 1 "_law_bag" (sp_law_bag K) [] := by
  refine mkCal F gm sc__law_bag (F.binds (ps := ["script", "k"]) fun _ _ _ _ _ _ us hl => match us, hl with | [_, _], _ => rfl) (fun vs H Q E h => ?_) (fun cdv A outer s H vs Q E hr h => ?_)
  · obtain ⟨a, ns, k, rfl, _⟩ := h
    rfl
  · obtain ⟨a, ns, k, rfl, hS, hk, hk2, q⟩ := h
    refine ⟨_, (pss_cons (ps_set (i := 2) sc__law_bag.nd rfl (.inl rfl) pe_int)
 (pss_cons (ps_if (pt_cmpR op_lt (pv 1) (pe_callB call_len_seq (by rfl) N.len (by decide +kernel) (pa_cons (pv 0) pa_nil)) (nomark _))
 (pss_one (ps_set (i := 2) sc__law_bag.nd rfl (.inl rfl) (pe_callB call_abs (by rfl) N.abs (by decide +kernel) (pa_cons (pe_ix ix_list (pv 0) (pv 1) (fun _ _ => rfl)) pa_nil))))
 pss_nil)
 (pss_cons (ps_if (pt_cmpR op_lt (pv 2) (pe_op op_pow pe_int pe_int) (nomark _))
 (pss_one (ps_ret (pe_lst (pa_cons pe_int (pa_cons (pe_op op_add pe_int (pe_op op_mod (pe_op op_add (pe_op op_mul (pv 2) pe_int) (pe_op op_mul pe_int (pv 1))) pe_int)) pa_nil)))))
 pss_nil)
 (pss_one (ps_ret (pe_lst (pa_cons (pv 2) (pa_cons (pe_op op_add pe_int (pe_op op_mod (pe_op op_add (pv 2) (pv 1)) pe_int)) pa_nil)))))))), ?_⟩
    refine ⟨_, rfl, _, rfl, a, _, rfl, .inl hS, k, _, rfl, rfl, _, rfl, ite2 (fun e => ?_) (fun e => ?_)⟩
    · have hlt : k.toNat < ns.length := by
        have e1 := of_decide_eq_true e
        rw [List.length_map] at e1
        omega
      have g1 : (ns.map V.int)[k.toNat]? = some (.int ns[k.toNat]) := by
        rw [List.getElem?_map, List.getElem?_eq_getElem hlt]
        rfl
      generalize ns[k.toNat] = c at g1
      have g2 : atI (ns.map V.int) k = some (.int c) := by
        have e2 : ((k.toNat : Nat) : Int) = k := by omega
        rw [← e2]
        exact atI_nat g1
      refine ⟨_, rfl, _, rfl, a, _, k, _, rfl, rfl, hS, g2, c, rfl, ?_⟩
      have hc : 0 ≤ (if c < 0 then -c else c) := by split <;> omega
      generalize (if c < 0 then -c else c) = d at hc
      refine ⟨_, rfl, 10, 18, rfl, rfl, ⟨by decide, by decide, by decide⟩, d, _, rfl, rfl, _, rfl, ite2 (fun e2 => ?_) (fun e2 => ?_)⟩
      · refine ⟨_, rfl, d, 7919, rfl, rfl, .inr ⟨by decide, by decide⟩, _, rfl, 104729, k, rfl, rfl, .inl ⟨by decide, by decide⟩, _, _, rfl, rfl, _, _, rfl, rfl, (by show (0 : Int) < 2147483646; decide), 1, _, rfl, rfl, two_ok _ _, fun p np => ?_⟩
        exact q p _ np (same_upd np) ⟨0, _, upd_same, by decide, bag_pos _ _ 0⟩
      · refine ⟨_, rfl, _, rfl, _, rfl, d, k, rfl, rfl, _, _, rfl, rfl, (by show (0 : Int) < 2147483646; decide), 1, _, rfl, rfl, two_ok _ _, fun p np => ?_⟩
        exact q p _ np (same_upd np) ⟨d, _, upd_same, hc, bag_pos _ _ 0⟩
    · refine ⟨_, rfl, 10, 18, rfl, rfl, ⟨by decide, by decide, by decide⟩, 0, _, rfl, rfl, _, rfl, ite2 (fun e2 => ?_) (fun e2 => ?_)⟩
      · refine ⟨_, rfl, 0, 7919, rfl, rfl, .inr ⟨by decide, by decide⟩, _, rfl, 104729, k, rfl, rfl, .inl ⟨by decide, by decide⟩, _, _, rfl, rfl, _, _, rfl, rfl, (by show (0 : Int) < 2147483646; decide), 1, _, rfl, rfl, two_ok _ _, fun p np => ?_⟩
        exact q p _ np (same_upd np) ⟨0, _, upd_same, by decide, bag_pos _ _ 0⟩
      · refine ⟨_, rfl, _, rfl, _, rfl, 0, k, rfl, rfl, _, _, rfl, rfl, (by show (0 : Int) < 2147483646; decide), 1, _, rfl, rfl, two_ok _ _, fun p np => ?_⟩
        exact q p _ np (same_upd np) ⟨0, _, upd_same, by decide, bag_pos _ _ 0⟩

/-! ### the mathematics of clocks -/
def shw (r h t : Int) : Int := (t * r + h) / 100
def spn (l d : Int) : Int := l * (100 - d) / 100
def lst (r h a l d : Int) : Int := (100 * (shw r h a + spn l d) - 1 - h) / r
theorem lst_ge {r h a l d : Int} (hr : 0 < r) (hs : 1 ≤ spn l d) : a ≤ lst r h a l d := by
  refine Int.le_ediv_of_mul_le hr ?_
  unfold shw
  generalize a * r = q
  generalize spn l d = m at hs
  omega
theorem lst_used {r h a l d : Int} (hr : 0 < r) : shw r h (lst r h a l d) - shw r h a < spn l d := by
  have h1 : lst r h a l d * r ≤ 100 * (shw r h a + spn l d) - 1 - h := Int.ediv_mul_le _ (by omega)
  generalize lst r h a l d = t at h1
  unfold shw at *
  generalize t * r = q at *
  generalize (a * r + h) / 100 = u at *
  generalize spn l d = m at *
  omega
theorem lst_next {r h a l d : Int} (hr : 0 < r) : spn l d ≤ shw r h (lst r h a l d + 1) - shw r h a := by
  have h1 : 100 * (shw r h a + spn l d) - 1 - h < (lst r h a l d + 1) * r := Int.lt_ediv_add_one_mul_self _ hr
  generalize lst r h a l d + 1 = t at *
  unfold shw at *
  generalize t * r = q at *
  generalize (a * r + h) / 100 = u at *
  generalize spn l d = m at *
  omega
theorem spn_pos {l d : Int} (h1 : 2 ≤ l) (h2 : 0 ≤ d) (h3 : d ≤ 50) : 1 ≤ spn l d := by
  unfold spn
  refine Int.le_ediv_of_mul_le (by decide) ?_
  have : 2 * 50 ≤ l * (100 - d) := Int.mul_le_mul h1 (by omega) (by omega) (by omega)
  omega
theorem small {i : Int} (h1 : -100000 ≤ i) (h2 : i ≤ 100000) : -(2 ^ 64) < i ∧ i < 2 ^ 64 := by omega

/-! ### shown, span -/
abbrev s_shown : Stmt := topS 3
theorem sc_shown : FnScope ["clock", "time", "rate", "ahead"] ["clock", "time"] (defScope s_shown) := ⟨rfl, rfl, rfl, by decide +kernel, rfl, by decide +kernel, by decide +kernel⟩
def spshown (K : PySem.W.Frag) : Sp := fun vs H Q _ => ∃ (c : Addr) (r h t : Int), vs = [.ref c, .int t] ∧ SqT K H c [.int r, .int h] ∧ 0 ≤ r ∧ r ≤ 200 ∧ Q (.int (shw r h t)) H
theorem ok_shown {f : Addr} {fd : FuncData} (F : Fun K "shown" "shown" s_shown f fd) (gm : mg "shown" = some (.ref f)) (N : Fre K mg)  : C8.Cal P w K mg base 1 "shown" (spshown K) [] := by
  refine mkCal F gm sc_shown (F.binds (ps := ["clock", "time"]) fun _ _ _ _ _ _ us hl => match us, hl with | [_, _], _ => rfl) (fun vs H Q E h => ?_) (fun cdv A outer s H vs Q E hr h => ?_)
  · obtain ⟨c, r, h, t, rfl, _⟩ := h
    rfl
  · obtain ⟨c, r, h, t, rfl, hT, h0, h1, q⟩ := h
    refine ⟨_, (pss_cons (ps_asg (pv 0) (pg_tup rfl (pgs_cons (pg_name (i := 2) sc_shown.nd rfl (.inl rfl)) (pgs_cons (pg_name (i := 3) sc_shown.nd rfl (.inl rfl)) pgs_nil))))
 (pss_one (ps_ret (pe_op op_fdiv (pe_op op_add (pe_op op_mul (pv 1) (pv 2)) (pv 3)) pe_int)))), ?_⟩
    refine ⟨_, rfl, c, _, rfl, hT, rfl, .int r, _, rfl, .int h, _, rfl, rfl, ?_⟩
    exact ⟨_, rfl, _, rfl, t, r, rfl, rfl, .inr (small (by omega) (by omega)), _, rfl, _, h, rfl, rfl, _, 100, rfl, rfl, ⟨by decide, by decide⟩, q⟩
abbrev s_span : Stmt := topS 4
theorem sc_span : FnScope ["length", "drift"] ["length", "drift"] (defScope s_span) := ⟨rfl, rfl, rfl, by decide +kernel, rfl, by decide +kernel, by decide +kernel⟩
def spspan : Sp := fun vs H Q _ => ∃ (l d : Int), vs = [.int l, .int d] ∧ 0 ≤ l ∧ l ≤ 1000 ∧ Q (.int (spn l d)) H
theorem ok_span {f : Addr} {fd : FuncData} (F : Fun K "span" "span" s_span f fd) (gm : mg "span" = some (.ref f)) (N : Fre K mg)  : C8.Cal P w K mg base 1 "span" spspan [] := by
  refine mkCal F gm sc_span (F.binds (ps := ["length", "drift"]) fun _ _ _ _ _ _ us hl => match us, hl with | [_, _], _ => rfl) (fun vs H Q E h => ?_) (fun cdv A outer s H vs Q E hr h => ?_)
  · obtain ⟨l, d, rfl, _⟩ := h
    rfl
  · obtain ⟨l, d, rfl, h0, h1, q⟩ := h
    refine ⟨_, (pss_one (ps_ret (pe_op op_fdiv (pe_op op_mul (pv 0) (pe_op op_sub pe_int (pv 1))) pe_int))), ?_⟩
    exact ⟨_, rfl, _, rfl, 100, d, rfl, rfl, l, _, rfl, rfl, .inl (small (by omega) (by omega)), _, 100, rfl, rfl, ⟨by decide, by decide⟩, q⟩

/-! ### is_used -/
abbrev s_is_used : Stmt := topS 5
theorem sc_is_used : FnScope ["clock", "asked", "time", "length", "drift"] ["clock", "asked", "time", "length", "drift"] (defScope s_is_used) := ⟨rfl, rfl, rfl, by decide +kernel, rfl, by decide +kernel, by decide +kernel⟩
def usd (r h a t l d : Int) : Bool := decide (a ≤ t) && decide (shw r h t - shw r h a < spn l d)
def spis_used (K : PySem.W.Frag) : Sp := fun vs H Q _ => ∃ (c : Addr) (r h a t l d : Int), vs = [.ref c, .int a, .int t, .int l, .int d] ∧ SqT K H c [.int r, .int h] ∧ 0 ≤ r ∧ r ≤ 200 ∧ 0 ≤ l ∧ l ≤ 1000 ∧ Q (.bl (usd r h a t l d)) H
theorem ok_is_used {f : Addr} {fd : FuncData} (F : FunD K "is_used" "is_used" (defArgs s_is_used) (defBody s_is_used) (defScope s_is_used) [] ([("length", V.int 20), ("drift", V.int 10)] : List (Str × V)) f fd) (N : Fre K mg) (c_shown : C8.Cal P w K mg base 1 "shown" (spshown K) []) (c_span : C8.Cal P w K mg base 1 "span" spspan []) : FnOk P w K mg base CX0 2 f fd ["clock", "asked", "time", "length", "drift"] (spis_used K) := by
  refine F.ok sc_is_used (fun vs H Q E h => ?_) (fun cdv A outer s H vs Q E hr h => ?_)
  · obtain ⟨c, r, h, a, t, l, d, rfl, _⟩ := h
    rfl
  · obtain ⟨c, r, h, a, t, l, d, rfl, hT, h0, h1, h2, h3, q⟩ := h
    refine ⟨_, PSs.nox (pss_cons (ps_if (pt_cmpR op_lt (pv 2) (pv 1) (nomark _))
 (pss_one (ps_ret pe_bl))
 pss_nil)
 (pss_one (ps_ret (pe_cmpR op_lt (pe_op op_sub (C8.pe_c c_shown hr (by decide) rfl (pa_cons (pv 0) (pa_cons (pv 2) pa_nil))) (C8.pe_c c_shown hr (by decide) rfl (pa_cons (pv 0) (pa_cons (pv 1) pa_nil)))) (C8.pe_c c_span hr (by decide) rfl (pa_cons (pv 3) (pa_cons (pv 4) pa_nil))) (nomark _))))), ?_⟩
    refine ⟨_, rfl, _, rfl, t, a, rfl, rfl, _, rfl, ite2 (fun e => ?_) (fun e => ?_)⟩
    · have e1 : t < a := of_decide_eq_true e
      have e2 : usd r h a t l d = false := by unfold usd; rw [decide_eq_false (by omega)]; rfl
      rw [e2] at q
      exact q
    · have e1 : ¬ t < a := fun z => e (decide_eq_true z)
      have e2 : usd r h a t l d = decide (shw r h t - shw r h a < spn l d) := by unfold usd; rw [decide_eq_true (show a ≤ t by omega)]; rfl
      rw [e2] at q
      exact ⟨_, rfl, _, rfl, c, r, h, t, rfl, hT, h0, h1, _, rfl, _, rfl, c, r, h, a, rfl, hT, h0, h1, _, _, rfl, rfl, _, rfl, _, rfl, l, d, rfl, h2, h3, _, _, rfl, rfl, q⟩
def g_is_used_3_drift_length {α : Type} (us mv ws : List α) : List α := us ++ (ws.drop 1).take 1 ++ (ws.drop 0).take 1
theorem bd_is_used_3_drift_length {f : Addr} {fd : FuncData} (F : FunD K "is_used" "is_used" (defArgs s_is_used) (defBody s_is_used) (defScope s_is_used) [] ([("length", V.int 20), ("drift", V.int 10)] : List (Str × V)) f fd) :
    ∃ mv : List Value, KBn K fd ["clock", "asked", "time", "length", "drift"] 3 ["drift", "length"] (fun us ws => g_is_used_3_drift_length us mv ws) (fun vs zs => g_is_used_3_drift_length vs (([] : List (Str × V)).map (·.2)) zs) :=
  F.kbinds0 3 ["drift", "length"] ([] : List (Str × V)) g_is_used_3_drift_length (by decide) (by decide)
    (fun r1 r2 r3 => ((r1.append (vone 1 r3)).append (vone 0 r3)))
    fun D doc pm an cdv ct us mv ws h1 h2 h3 => match us, mv, ws, h1, h2, h3 with | [u0, u1, u2], [], [w0, w1], _, _, _ => rfl

theorem bd_is_used_3 {f : Addr} {fd : FuncData} (F : FunD K "is_used" "is_used" (defArgs s_is_used) (defBody s_is_used) (defScope s_is_used) [] ([("length", V.int 20), ("drift", V.int 10)] : List (Str × V)) f fd) : ∃ ds, Vals (([("length", V.int 20), ("drift", V.int 10)] : List (Str × V)).map (·.2)) ds ∧ Binds K fd ["clock", "asked", "time", "length", "drift"] ds :=
  F.binds0 3 (by decide) rfl fun D doc pm an cdv ct us ks h1 h2 => match us, ks, h1, h2 with | [u0, u1, u2], [m0, m1], _, _ => ⟨_, _, _, _, _, _, rfl, rfl, ⟨_, _, _, _, _, _, rfl, rfl, rfl⟩⟩

def g_is_used_3_length {α : Type} (us mv ws : List α) : List α := us ++ (ws.drop 0).take 1 ++ (mv.drop 0).take 1
theorem bd_is_used_3_length {f : Addr} {fd : FuncData} (F : FunD K "is_used" "is_used" (defArgs s_is_used) (defBody s_is_used) (defScope s_is_used) [] ([("length", V.int 20), ("drift", V.int 10)] : List (Str × V)) f fd) :
    ∃ mv : List Value, KBn K fd ["clock", "asked", "time", "length", "drift"] 3 ["length"] (fun us ws => g_is_used_3_length us mv ws) (fun vs zs => g_is_used_3_length vs (([("drift", V.int 10)] : List (Str × V)).map (·.2)) zs) :=
  F.kbinds0 3 ["length"] ([("drift", V.int 10)] : List (Str × V)) g_is_used_3_length (by decide) (by decide)
    (fun r1 r2 r3 => ((r1.append (vone 0 r3)).append (vone 0 r2)))
    fun D doc pm an cdv ct us mv ws h1 h2 h3 => match us, mv, ws, h1, h2, h3 with | [u0, u1, u2], [m0], [w0], _, _, _ => ⟨_, _, _, _, _, _, rfl, rfl, rfl⟩

def g_is_used_3_drift {α : Type} (us mv ws : List α) : List α := us ++ (mv.drop 0).take 1 ++ (ws.drop 0).take 1
theorem bd_is_used_3_drift {f : Addr} {fd : FuncData} (F : FunD K "is_used" "is_used" (defArgs s_is_used) (defBody s_is_used) (defScope s_is_used) [] ([("length", V.int 20), ("drift", V.int 10)] : List (Str × V)) f fd) :
    ∃ mv : List Value, KBn K fd ["clock", "asked", "time", "length", "drift"] 3 ["drift"] (fun us ws => g_is_used_3_drift us mv ws) (fun vs zs => g_is_used_3_drift vs (([("length", V.int 20)] : List (Str × V)).map (·.2)) zs) :=
  F.kbinds0 3 ["drift"] ([("length", V.int 20)] : List (Str × V)) g_is_used_3_drift (by decide) (by decide)
    (fun r1 r2 r3 => ((r1.append (vone 0 r2)).append (vone 0 r3)))
    fun D doc pm an cdv ct us mv ws h1 h2 h3 => match us, mv, ws, h1, h2, h3 with | [u0, u1, u2], [m0], [w0], _, _, _ => ⟨_, _, _, _, _, _, rfl, rfl, rfl⟩

theorem ok_is_used_3_drift_length {f : Addr} {fd : FuncData} (F : FunD K "is_used" "is_used" (defArgs s_is_used) (defBody s_is_used) (defScope s_is_used) [] ([("length", V.int 20), ("drift", V.int 10)] : List (Str × V)) f fd) (gm : mg "is_used" = some (.ref f)) (N : Fre K mg) (c_shown : C8.Cal P w K mg base 1 "shown" (spshown K) []) (c_span : C8.Cal P w K mg base 1 "span" spspan []) : CalN P w K mg base 2 "is_used" (spis_used K) 3 ["drift", "length"] (fun vs zs => g_is_used_3_drift_length vs (([] : List (Str × V)).map (·.2)) zs) := by
  obtain ⟨m, hb⟩ := bd_is_used_3_drift_length F
  exact ⟨f, fd, _, _, ok_is_used F N c_shown c_span, gm, F.kp, hb⟩
theorem ok_is_used_3 {f : Addr} {fd : FuncData} (F : FunD K "is_used" "is_used" (defArgs s_is_used) (defBody s_is_used) (defScope s_is_used) [] ([("length", V.int 20), ("drift", V.int 10)] : List (Str × V)) f fd) (gm : mg "is_used" = some (.ref f)) (N : Fre K mg) (c_shown : C8.Cal P w K mg base 1 "shown" (spshown K) []) (c_span : C8.Cal P w K mg base 1 "span" spspan []) : C8.Cal P w K mg base 2 "is_used" (spis_used K) (([("length", V.int 20), ("drift", V.int 10)] : List (Str × V)).map (·.2)) := by
  obtain ⟨ds, hd, hb⟩ := bd_is_used_3 F
  exact ⟨f, fd, _, ds, ok_is_used F N c_shown c_span, gm, F.kp, hb, hd⟩
theorem ok_is_used_3_length {f : Addr} {fd : FuncData} (F : FunD K "is_used" "is_used" (defArgs s_is_used) (defBody s_is_used) (defScope s_is_used) [] ([("length", V.int 20), ("drift", V.int 10)] : List (Str × V)) f fd) (gm : mg "is_used" = some (.ref f)) (N : Fre K mg) (c_shown : C8.Cal P w K mg base 1 "shown" (spshown K) []) (c_span : C8.Cal P w K mg base 1 "span" spspan []) : CalN P w K mg base 2 "is_used" (spis_used K) 3 ["length"] (fun vs zs => g_is_used_3_length vs (([("drift", V.int 10)] : List (Str × V)).map (·.2)) zs) := by
  obtain ⟨m, hb⟩ := bd_is_used_3_length F
  exact ⟨f, fd, _, _, ok_is_used F N c_shown c_span, gm, F.kp, hb⟩
theorem ok_is_used_3_drift {f : Addr} {fd : FuncData} (F : FunD K "is_used" "is_used" (defArgs s_is_used) (defBody s_is_used) (defScope s_is_used) [] ([("length", V.int 20), ("drift", V.int 10)] : List (Str × V)) f fd) (gm : mg "is_used" = some (.ref f)) (N : Fre K mg) (c_shown : C8.Cal P w K mg base 1 "shown" (spshown K) []) (c_span : C8.Cal P w K mg base 1 "span" spspan []) : CalN P w K mg base 2 "is_used" (spis_used K) 3 ["drift"] (fun vs zs => g_is_used_3_drift vs (([("length", V.int 20)] : List (Str × V)).map (·.2)) zs) := by
  obtain ⟨m, hb⟩ := bd_is_used_3_drift F
  exact ⟨f, fd, _, _, ok_is_used F N c_shown c_span, gm, F.kp, hb⟩

/-! ### what the law draws -/
abbrev s__law_terms : Stmt := topS 13
theorem sc__law_terms : FnScope ["bag", "most", "slack"] ["bag"] (defScope s__law_terms) := ⟨rfl, rfl, rfl, by decide +kernel, rfl, by decide +kernel, by decide +kernel⟩
def sp_law_terms : Sp := fun vs H Q _ => ∃ b : Addr, vs = [.ref b] ∧ Bag H b ∧ ∀ l d p H', 2 ≤ l → l ≤ 1000 → 0 ≤ d → d ≤ 50 → H p = none → But b H H' → Bag H' b → H' p = some (.tup [.int l, .int d]) → Q (.ref p) H'
theorem pick3 {x y z i : Int} (h0 : 0 ≤ i) (h1 : i < 3) : ∃ m, atI [V.int x, V.int y, V.int z] i = some (.int m) ∧ (m = x ∨ m = y ∨ m = z) := by
  have : i = 0 ∨ i = 1 ∨ i = 2 := by omega
  rcases this with rfl | rfl | rfl
  · exact ⟨x, atI_nat (j := 0) rfl, .inl rfl⟩
  · exact ⟨y, atI_nat (j := 1) rfl, .inr (.inl rfl)⟩
  · exact ⟨z, atI_nat (j := 2) rfl, .inr (.inr rfl)⟩
theorem pick6 {x y z u v w i : Int} (h0 : 0 ≤ i) (h1 : i < 6) : ∃ m, atI [V.int x, V.int y, V.int z, V.int u, V.int v, V.int w] i = some (.int m) ∧ (m = x ∨ m = y ∨ m = z ∨ m = u ∨ m = v ∨ m = w) := by
  have : i = 0 ∨ i = 1 ∨ i = 2 ∨ i = 3 ∨ i = 4 ∨ i = 5 := by omega
  rcases this with rfl | rfl | rfl | rfl | rfl | rfl
  · exact ⟨x, atI_nat (j := 0) rfl, by omega⟩
  · exact ⟨y, atI_nat (j := 1) rfl, by omega⟩
  · exact ⟨z, atI_nat (j := 2) rfl, by omega⟩
  · exact ⟨u, atI_nat (j := 3) rfl, by omega⟩
  · exact ⟨v, atI_nat (j := 4) rfl, by omega⟩
  · exact ⟨w, atI_nat (j := 5) rfl, by omega⟩
theorem six_ok (a b c d e f : V) : [a, b, c, d, e, f].length ≤ sizeLine := by show 6 ≤ sizeLine; decide
theorem ok__law_terms {f : Addr} {fd : FuncData} (F : Fun K "_law_terms" "_law_terms" s__law_terms f fd) (gm : mg "_law_terms" = some (.ref f)) (N : Fre K mg) (c__law_take : C8.Cal P w K mg base 1 "_law_take" sp_law_take []) : C8.Cal P w K mg base 2 "_law_terms" sp_law_terms [] := by
  refine mkCal F gm sc__law_terms (F.binds (ps := ["bag"]) fun _ _ _ _ _ _ us hl => match us, hl with | [_], _ => rfl) (fun vs H Q E h => ?_) (fun cdv A outer s H vs Q E hr h => ?_)
  · obtain ⟨b, rfl, _⟩ := h
    rfl
  · obtain ⟨b, rfl, hB, q⟩ := h
    refine ⟨_, (pss_cons (ps_set (i := 1) sc__law_terms.nd rfl (.inl rfl) (pe_ix ix_list (pe_lst (pa_cons pe_int (pa_cons pe_int (pa_cons pe_int pa_nil)))) (C8.pe_c c__law_take hr (by decide) rfl (pa_cons (pv 0) (pa_cons pe_int pa_nil))) (fun _ _ => rfl)))
 (pss_cons (ps_set (i := 2) sc__law_terms.nd rfl (.inl rfl) (pe_ix ix_list (pe_lst (pa_cons pe_int (pa_cons pe_int (pa_cons pe_int (pa_cons pe_int (pa_cons pe_int (pa_cons pe_int pa_nil))))))) (C8.pe_c c__law_take hr (by decide) rfl (pa_cons (pv 0) (pa_cons pe_int pa_nil))) (fun _ _ => rfl)))
 (pss_cons (ps_if (pt_cmpR op_eq (pv 2) pe_int (nomark _))
 (pss_one (ps_set (i := 2) sc__law_terms.nd rfl (.inl rfl) (C8.pe_c c__law_take hr (by decide) rfl (pa_cons (pv 0) (pa_cons pe_int pa_nil)))))
 pss_nil)
 (pss_one (ps_ret (pe_tup (pa_cons (pe_op op_add pe_int (C8.pe_c c__law_take hr (by decide) rfl (pa_cons (pv 0) (pa_cons (pv 1) pa_nil)))) (pa_cons (pv 2) pa_nil)))))))), ?_⟩
    -- most
    refine ⟨three_ok _ _ _, fun L nL => ?_⟩
    refine ⟨_, rfl, b, 3, rfl, hB.new nL, by decide, by decide, fun i H1 i0 i1 B1 G1 => ?_⟩
    obtain ⟨m, e1, hm⟩ := pick3 (x := 9) (y := 60) (z := 999) i0 i1
    have hL : H1 L = some (.lst [.int 9, .int 60, .int 999]) := B1 _ _ (hB.ne nL) upd_same
    refine ⟨L, _, i, .int m, rfl, rfl, SqL.of hL, e1, ?_⟩
    have s1 : Same H H1 ∨ True := .inr trivial
    have bH1 : But b H H1 := (But.new nL).trans B1
    -- slack
    refine ⟨six_ok _ _ _ _ _ _, fun L2 nL2 => ?_⟩
    refine ⟨_, rfl, b, 6, rfl, G1.new nL2, by decide, by decide, fun j H2 j0 j1 B2 G2 => ?_⟩
    obtain ⟨s, e2, hs⟩ := pick6 (x := 0) (y := 1) (z := 49) (u := 50) (v := 10) (w := 51) j0 j1
    have hL2 : H2 L2 = some (.lst [.int 0, .int 1, .int 49, .int 50, .int 10, .int 51]) := B2 _ _ (G1.ne nL2) upd_same
    refine ⟨L2, _, j, .int s, rfl, rfl, SqL.of hL2, e2, ?_⟩
    have bH2 : But b H H2 := bH1.trans ((But.new nL2).trans B2)
    -- if slack == 51
    refine ⟨_, rfl, rfl, _, rfl, ite2 (fun e => ?_) (fun e => ?_)⟩
    · refine ⟨_, rfl, b, 51, rfl, G2, by decide, by decide, fun d H3 d0 d1 B3 G3 => ?_⟩
      refine ⟨_, rfl, _, rfl, b, m, rfl, G3, by omega, by omega, fun l H4 l0 l1 B4 G4 => ?_⟩
      refine ⟨2, l, rfl, rfl, _, rfl, two_ok _ _, fun p np => ?_⟩
      have bH4 : But b H H4 := bH2.trans (B3.trans B4)
      refine q (2 + l) d p _ (by omega) (by omega) (by omega) (by omega) ?_ (bH4.trans (But.new np)) (G4.new np) upd_same
      exact free_of bH4 hB G4 np
    · have hs2 : s ≠ 51 := fun z => e (by rw [z]; exact decide_eq_true rfl)
      refine ⟨_, rfl, _, rfl, b, m, rfl, G2, by omega, by omega, fun l H4 l0 l1 B4 G4 => ?_⟩
      refine ⟨2, l, rfl, rfl, _, rfl, two_ok _ _, fun p np => ?_⟩
      have bH4 : But b H H4 := bH2.trans B4
      refine q (2 + l) s p _ (by omega) (by omega) (by omega) (by omega) ?_ (bH4.trans (But.new np)) (G4.new np) upd_same
      exact free_of bH4 hB G4 np

abbrev s__law_clock : Stmt := topS 10
theorem sc__law_clock : FnScope ["bag"] ["bag"] (defScope s__law_clock) := ⟨rfl, rfl, rfl, by decide +kernel, rfl, by decide +kernel, by decide +kernel⟩
def sp_law_clock : Sp := fun vs H Q _ => ∃ b : Addr, vs = [.ref b] ∧ Bag H b ∧ ∀ r h p H', 50 ≤ r → r ≤ 200 → 0 ≤ h → h ≤ 99 → H p = none → But b H H' → Bag H' b → H' p = some (.tup [.int r, .int h]) → Q (.ref p) H'
theorem ok__law_clock {f : Addr} {fd : FuncData} (F : Fun K "_law_clock" "_law_clock" s__law_clock f fd) (gm : mg "_law_clock" = some (.ref f)) (N : Fre K mg) (c__law_take : C8.Cal P w K mg base 1 "_law_take" sp_law_take []) : C8.Cal P w K mg base 2 "_law_clock" sp_law_clock [] := by
  refine mkCal F gm sc__law_clock (F.binds (ps := ["bag"]) fun _ _ _ _ _ _ us hl => match us, hl with | [_], _ => rfl) (fun vs H Q E h => ?_) (fun cdv A outer s H vs Q E hr h => ?_)
  · obtain ⟨b, rfl, _⟩ := h
    rfl
  · obtain ⟨b, rfl, hB, q⟩ := h
    refine ⟨_, (pss_one (ps_ret (pe_tup (pa_cons (pe_op op_add pe_int (C8.pe_c c__law_take hr (by decide) rfl (pa_cons (pv 0) (pa_cons pe_int pa_nil)))) (pa_cons (C8.pe_c c__law_take hr (by decide) rfl (pa_cons (pv 0) (pa_cons pe_int pa_nil))) pa_nil))))), ?_⟩
    refine ⟨_, rfl, b, 151, rfl, hB, by decide, by decide, fun r H1 r0 r1 B1 G1 => ?_⟩
    refine ⟨50, r, rfl, rfl, _, rfl, b, 100, rfl, G1, by decide, by decide, fun h H2 h0 h1 B2 G2 => ?_⟩
    refine ⟨two_ok _ _, fun p np => ?_⟩
    have bH : But b H H2 := B1.trans B2
    exact q (50 + r) h p _ (by omega) (by omega) h0 (by omega) (free_of bH hB G2 np) (bH.trans (But.new np)) (G2.new np) upd_same

abbrev s__law_time : Stmt := topS 11
theorem sc__law_time : FnScope ["bag", "most"] ["bag"] (defScope s__law_time) := ⟨rfl, rfl, rfl, by decide +kernel, rfl, by decide +kernel, by decide +kernel⟩
def sp_law_time : Sp := fun vs H Q _ => ∃ b : Addr, vs = [.ref b] ∧ Bag H b ∧ ∀ t H', 0 ≤ t → t ≤ 10 ^ 30 → But b H H' → Bag H' b → Q (.int t) H'
theorem ok__law_time {f : Addr} {fd : FuncData} (F : Fun K "_law_time" "_law_time" s__law_time f fd) (gm : mg "_law_time" = some (.ref f)) (N : Fre K mg) (c__law_take : C8.Cal P w K mg base 1 "_law_take" sp_law_take []) : C8.Cal P w K mg base 2 "_law_time" sp_law_time [] := by
  refine mkCal F gm sc__law_time (F.binds (ps := ["bag"]) fun _ _ _ _ _ _ us hl => match us, hl with | [_], _ => rfl) (fun vs H Q E h => ?_) (fun cdv A outer s H vs Q E hr h => ?_)
  · obtain ⟨b, rfl, _⟩ := h
    rfl
  · obtain ⟨b, rfl, hB, q⟩ := h
    refine ⟨_, (pss_cons (ps_set (i := 1) sc__law_time.nd rfl (.inl rfl) (pe_ix ix_list (pe_lst (pa_cons pe_int (pa_cons (pe_op op_pow pe_int pe_int) (pa_cons (pe_op op_add (pe_op op_pow pe_int pe_int) pe_int) pa_nil)))) (C8.pe_c c__law_take hr (by decide) rfl (pa_cons (pv 0) (pa_cons pe_int pa_nil))) (fun _ _ => rfl)))
 (pss_one (ps_ret (C8.pe_c c__law_take hr (by decide) rfl (pa_cons (pv 0) (pa_cons (pv 1) pa_nil)))))), ?_⟩
    refine ⟨10, 6, rfl, rfl, ⟨by decide, by decide, by decide⟩, 10, 30, rfl, rfl, ⟨by decide, by decide, by decide⟩, _, 1, rfl, rfl, three_ok _ _ _, fun L nL => ?_⟩
    refine ⟨_, rfl, b, 3, rfl, hB.new nL, by decide, by decide, fun i H1 i0 i1 B1 G1 => ?_⟩
    obtain ⟨m, e1, hm⟩ := pick3 (x := 300) (y := 10 ^ (6 : Int).toNat) (z := 10 ^ (30 : Int).toNat + 1) i0 i1
    have hL : H1 L = some (.lst [.int 300, .int (10 ^ (6 : Int).toNat), .int (10 ^ (30 : Int).toNat + 1)]) := B1 _ _ (hB.ne nL) upd_same
    refine ⟨L, _, i, .int m, rfl, rfl, SqL.of hL, e1, ?_⟩
    have hm2 : 0 < m ∧ m ≤ 10 ^ 30 + 1 := by
      have e6 : (10 : Int) ^ (6 : Int).toNat = 1000000 := by decide
      have e30 : (10 : Int) ^ (30 : Int).toNat = 10 ^ 30 := by decide
      rw [e6, e30] at hm
      omega
    refine ⟨_, rfl, _, rfl, b, m, rfl, G1, hm2.1, by omega, fun t H2 t0 t1 B2 G2 => ?_⟩
    exact q t H2 t0 (by omega) ((But.new nL).trans (B1.trans B2)) G2

abbrev s__law_late : Stmt := topS 12
theorem sc__law_late : FnScope ["c", "a", "t"] ["c", "a", "t"] (defScope s__law_late) := ⟨rfl, rfl, rfl, by decide +kernel, rfl, by decide +kernel, by decide +kernel⟩
def sp_law_late (K : PySem.W.Frag) : Sp := fun vs H Q _ => ∃ (c : Addr) (r h a t : Int), vs = [.ref c, .int a, .int t] ∧ SqT K H c [.int r, .int h] ∧ 0 ≤ r ∧ r ≤ 200 ∧ Q (.int (shw r h t - shw r h a)) H
theorem ok__law_late {f : Addr} {fd : FuncData} (F : Fun K "_law_late" "_law_late" s__law_late f fd) (gm : mg "_law_late" = some (.ref f)) (N : Fre K mg)  : C8.Cal P w K mg base 1 "_law_late" (sp_law_late K) [] := by
  refine mkCal F gm sc__law_late (F.binds (ps := ["c", "a", "t"]) fun _ _ _ _ _ _ us hl => match us, hl with | [_, _, _], _ => rfl) (fun vs H Q E h => ?_) (fun cdv A outer s H vs Q E hr h => ?_)
  · obtain ⟨c, r, h, a, t, rfl, _⟩ := h
    rfl
  · obtain ⟨c, r, h, a, t, rfl, hT, h0, h1, q⟩ := h
    refine ⟨_, (pss_one (ps_ret (pe_op op_sub (pe_op op_fdiv (pe_op op_add (pe_op op_mul (pv 2) (pe_ix ix_tup (pv 0) pe_int (fun _ _ => rfl))) (pe_ix ix_tup (pv 0) pe_int (fun _ _ => rfl))) pe_int) (pe_op op_fdiv (pe_op op_add (pe_op op_mul (pv 1) (pe_ix ix_tup (pv 0) pe_int (fun _ _ => rfl))) (pe_ix ix_tup (pv 0) pe_int (fun _ _ => rfl))) pe_int)))), ?_⟩
    refine ⟨_, rfl, _, rfl, c, _, 0, .int r, rfl, rfl, hT, atI_nat (j := 0) rfl, t, r, rfl, rfl, .inr (small (by omega) (by omega)), _, rfl, c, _, 1, .int h, rfl, rfl, hT, atI_nat (j := 1) rfl, _, h, rfl, rfl, _, 100, rfl, rfl, ⟨by decide, by decide⟩, ?_⟩
    exact ⟨_, rfl, _, rfl, c, _, 0, .int r, rfl, rfl, hT, atI_nat (j := 0) rfl, a, r, rfl, rfl, .inr (small (by omega) (by omega)), _, rfl, c, _, 1, .int h, rfl, rfl, hT, atI_nat (j := 1) rfl, _, h, rfl, rfl, _, 100, rfl, rfl, ⟨by decide, by decide⟩, _, _, rfl, rfl, q⟩

abbrev s__law_whole : Stmt := topS 9
theorem sc__law_whole : FnScope ["thing"] ["thing"] (defScope s__law_whole) := ⟨rfl, rfl, rfl, by decide +kernel, rfl, by decide +kernel, by decide +kernel⟩
def sp_law_whole : Sp := fun vs H Q _ => ∃ t : Int, vs = [.int t] ∧ Q (.bl true) H
theorem ok__law_whole {f : Addr} {fd : FuncData} (F : Fun K "_law_whole" "_law_whole" s__law_whole f fd) (gm : mg "_law_whole" = some (.ref f)) (N : Fre K mg)  : C8.Cal P w K mg base 1 "_law_whole" sp_law_whole [] := by
  refine mkCal F gm sc__law_whole (F.binds (ps := ["thing"]) fun _ _ _ _ _ _ us hl => match us, hl with | [_], _ => rfl) (fun vs H Q E h => ?_) (fun cdv A outer s H vs Q E hr h => ?_)
  · obtain ⟨t, rfl, _⟩ := h
    rfl
  · obtain ⟨t, rfl, q⟩ := h
    refine ⟨_, (pss_one (ps_ret (pe_and (pe_callB call_isi (by rfl) N.isinstance (by decide +kernel) (pa_cons (pv 0) (pa_cons (pe_bltn (v := .ty "int") (u := .type "int") rfl N.int (by decide +kernel) rfl) pa_nil))) (pe_one (pe_not (pe_callB call_isi (by rfl) N.isinstance (by decide +kernel) (pa_cons (pv 0) (pa_cons (pe_bltn (v := .ty "bool") (u := .type "bool") rfl N.bool (by decide +kernel) rfl) pa_nil)))))))), ?_⟩
    refine ⟨_, rfl, _, _, _, _, true, rfl, .ty _, .base (.int _), kit_ty (by decide +kernel), true, rfl, iteT ?_⟩
    exact ⟨_, rfl, _, _, _, _, false, rfl, .ty _, .base (.int _), kit_ty (by decide +kernel), false, rfl, q⟩

/-! ### the law -/
abbrev s_law : Stmt := topS 14
theorem sc_law : FnScope ["script", "k", "bag", "clock", "len1", "dri1", "asked", "most", "times", "late", "time", "told", "due", "found"] ["script"] (defScope s_law) := ⟨rfl, rfl, rfl, by decide +kernel, rfl, by decide +kernel, by decide +kernel⟩
def splaw (K : PySem.W.Frag) : Sp := fun vs H Q _ => ∃ (a : Addr) (ns : List Int), vs = [.ref a] ∧ SqL K H a (ns.map V.int) ∧ ns.length ≤ 63 ∧ ∀ H', Q (.bl true) H'
theorem used_in {r h a t l d m : Int} (hm : spn l d = m) (e : a ≤ t) : usd r h a t l d = decide (shw r h t - shw r h a < m) := by
  unfold usd
  rw [decide_eq_true e, hm]
  rfl
theorem used_out {r h a t l d : Int} (e : ¬ a ≤ t) : usd r h a t l d = false := by
  unfold usd
  rw [decide_eq_false e]
  rfl
theorem ok_law {f : Addr} {fd : FuncData} (F : Fun K "law" "law" s_law f fd) (N : Fre K mg) (c__law_bag : C8.Cal P w K mg base 1 "_law_bag" (sp_law_bag K) []) (c__law_clock : C8.Cal P w K mg base 2 "_law_clock" sp_law_clock []) (c__law_late : C8.Cal P w K mg base 1 "_law_late" (sp_law_late K) []) (c__law_take : C8.Cal P w K mg base 1 "_law_take" sp_law_take []) (c__law_terms : C8.Cal P w K mg base 2 "_law_terms" sp_law_terms []) (c__law_time : C8.Cal P w K mg base 2 "_law_time" sp_law_time []) (c__law_whole : C8.Cal P w K mg base 1 "_law_whole" sp_law_whole []) (c_is_used_3 : C8.Cal P w K mg base 2 "is_used" (spis_used K) (([("length", V.int 20), ("drift", V.int 10)] : List (Str × V)).map (·.2))) (c_is_used_3_drift : CalN P w K mg base 2 "is_used" (spis_used K) 3 ["drift"] (fun vs zs => g_is_used_3_drift vs (([("length", V.int 20)] : List (Str × V)).map (·.2)) zs)) (c_is_used_3_drift_length : CalN P w K mg base 2 "is_used" (spis_used K) 3 ["drift", "length"] (fun vs zs => g_is_used_3_drift_length vs (([] : List (Str × V)).map (·.2)) zs)) (c_is_used_3_length : CalN P w K mg base 2 "is_used" (spis_used K) 3 ["length"] (fun vs zs => g_is_used_3_length vs (([("drift", V.int 10)] : List (Str × V)).map (·.2)) zs)) (c_shown : C8.Cal P w K mg base 1 "shown" (spshown K) []) : FnOk P w K mg base CX0 3 f fd ["script"] (splaw K) := by
  refine F.ok sc_law (fun vs H Q E h => ?_) (fun cdv A outer s H vs Q E hr h => ?_)
  · obtain ⟨a, ns, rfl, _⟩ := h
    rfl
  · obtain ⟨a, ns, rfl, hS, hlen, q⟩ := h
    refine ⟨_, (pss_cons (ps_for PassesOwn.never rfl (pi_range1 (by rfl) N.range (pa_cons (pe_op op_add pe_int (pe_callB (call_min2 rfl) (by rfl) N.min (by decide +kernel) (pa_cons (pe_callB call_len_seq (by rfl) N.len (by decide +kernel) (pa_cons (pv 0) pa_nil)) (pa_cons pe_int pa_nil)))) pa_nil)) (pg_name (i := 1) sc_law.nd rfl (.inl rfl))
 (pss_cons (ps_set (i := 2) sc_law.nd rfl (.inl rfl) (C8.pe_c c__law_bag hr (by decide) rfl (pa_cons (pv 0) (pa_cons (pv 1) pa_nil))))
 (pss_cons (ps_set (i := 3) sc_law.nd rfl (.inl rfl) (C8.pe_c c__law_clock hr (by decide) rfl (pa_cons (pv 2) pa_nil)))
 (pss_cons (ps_asg (C8.pe_c c__law_terms hr (by decide) rfl (pa_cons (pv 2) pa_nil)) (pg_tup rfl (pgs_cons (pg_name (i := 4) sc_law.nd rfl (.inl rfl)) (pgs_cons (pg_name (i := 5) sc_law.nd rfl (.inl rfl)) pgs_nil))))
 (pss_cons (ps_set (i := 6) sc_law.nd rfl (.inl rfl) (C8.pe_c c__law_time hr (by decide) rfl (pa_cons (pv 2) pa_nil)))
 (pss_cons (ps_set (i := 7) sc_law.nd rfl (.inl rfl) (pe_op op_fdiv (pe_op op_mul (pv 4) (pe_op op_sub pe_int (pv 5))) pe_int))
 (pss_cons (ps_set (i := 8) sc_law.nd rfl (.inl rfl) (pe_lst (pa_cons (pv 6) (pa_cons (pe_op op_add (pv 6) pe_int) (pa_cons (pe_op op_sub (pe_op op_add (pv 6) (pv 4)) pe_int) (pa_cons (pe_op op_add (pv 6) (pv 4)) pa_nil))))))
 (pss_cons (ps_set (i := 8) sc_law.nd rfl (.inl rfl) (pe_op op_cat (pv 8) (pe_lst (pa_cons (pe_op op_add (pe_op op_add (pv 6) (pv 4)) pe_int) (pa_cons (pe_callB (call_max2 rfl) (by rfl) N.max (by decide +kernel) (pa_cons pe_int (pa_cons (pe_op op_sub (pv 6) pe_int) pa_nil))) pa_nil)))))
 (pss_cons (ps_set (i := 9) sc_law.nd rfl (.inl rfl) (pe_op op_add (pv 6) (pe_op op_fdiv (pe_op op_mul (pv 7) pe_int) (pe_ix ix_tup (pv 3) pe_int (fun _ _ => rfl)))))
 (pss_cons (ps_set (i := 8) sc_law.nd rfl (.inl rfl) (pe_op op_cat (pv 8) (pe_lst (pa_cons (pv 9) (pa_cons (pe_op op_add (pv 9) pe_int) (pa_cons (pe_callB (call_max2 rfl) (by rfl) N.max (by decide +kernel) (pa_cons pe_int (pa_cons (pe_op op_sub (pv 9) pe_int) pa_nil))) pa_nil))))))
 (pss_cons (ps_set (i := 8) sc_law.nd rfl (.inl rfl) (pe_op op_cat (pv 8) (pe_lst (pa_cons (pe_op op_add (pv 6) (C8.pe_c c__law_take hr (by decide) rfl (pa_cons (pv 2) (pa_cons (pe_op op_mul pe_int (pv 4)) pa_nil)))) (pa_cons pe_int pa_nil)))))
 (pss_one (ps_for PassesOwn.never rfl (pi_list (pv 8)) (pg_name (i := 10) sc_law.nd rfl (.inl rfl))
 (pss_cons (ps_set (i := 11) sc_law.nd rfl (.inl rfl) (C8.pe_c c_shown hr (by decide) rfl (pa_cons (pv 3) (pa_cons (pv 10) pa_nil))))
 (pss_cons (ps_if (PW.pt (pw_or (pt_not (pt_val (C8.pe_c c__law_whole hr (by decide) rfl (pa_cons (pv 11) pa_nil)))) (pw_or1 (pt_cmpR op_ne (pv 11) (pe_op op_fdiv (pe_op op_add (pe_op op_mul (pv 10) (pe_ix ix_tup (pv 3) pe_int (fun _ _ => rfl))) (pe_ix ix_tup (pv 3) pe_int (fun _ _ => rfl))) pe_int) (nomark _)))))
 (pss_one (ps_ret pe_bl))
 pss_nil)
 (pss_cons (ps_set (i := 12) sc_law.nd rfl (.inl rfl) (pe_and (pe_cmpR op_le (pv 6) (pv 10) (nomark _)) (pe_one (pe_cmpR op_lt (C8.pe_c c__law_late hr (by decide) rfl (pa_cons (pv 3) (pa_cons (pv 6) (pa_cons (pv 10) pa_nil)))) (pv 7) (nomark _)))))
 (pss_cons (ps_set (i := 13) sc_law.nd rfl (.inl rfl) (pe_cn c_is_used_3_drift_length hr (by decide) rfl (pa_cons (pv 3) (pa_cons (pv 6) (pa_cons (pv 10) pa_nil))) (pk_cons (pv 5) (pk_cons (pv 4) pk_nil))))
 (pss_cons (ps_if (PW.pt (pw_or (pt_not (pt_val (pe_callB call_isi (by rfl) N.isinstance (by decide +kernel) (pa_cons (pv 13) (pa_cons (pe_bltn (v := .ty "bool") (u := .type "bool") rfl N.bool (by decide +kernel) rfl) pa_nil))))) (pw_or1 (pt_cmpR op_ne (pv 13) (pv 12) (nomark _)))))
 (pss_one (ps_ret pe_bl))
 pss_nil)
 (pss_cons (ps_set (i := 12) sc_law.nd rfl (.inl rfl) (pe_and (pe_cmpR op_le (pv 6) (pv 10) (nomark _)) (pe_one (pe_cmpR op_lt (C8.pe_c c__law_late hr (by decide) rfl (pa_cons (pv 3) (pa_cons (pv 6) (pa_cons (pv 10) pa_nil)))) pe_int (nomark _)))))
 (pss_cons (ps_if (pt_cmpR op_ne (C8.pe_c c_is_used_3 hr (by decide) rfl (pa_cons (pv 3) (pa_cons (pv 6) (pa_cons (pv 10) pa_nil)))) (pv 12) (nomark _))
 (pss_one (ps_ret pe_bl))
 pss_nil)
 (pss_cons (ps_set (i := 12) sc_law.nd rfl (.inl rfl) (pe_and (pe_cmpR op_le (pv 6) (pv 10) (nomark _)) (pe_one (pe_cmpR op_lt (C8.pe_c c__law_late hr (by decide) rfl (pa_cons (pv 3) (pa_cons (pv 6) (pa_cons (pv 10) pa_nil)))) (pe_op op_fdiv (pe_op op_mul (pv 4) pe_int) pe_int) (nomark _)))))
 (pss_cons (ps_if (pt_cmpR op_ne (pe_cn c_is_used_3_length hr (by decide) rfl (pa_cons (pv 3) (pa_cons (pv 6) (pa_cons (pv 10) pa_nil))) (pk_cons (pv 4) pk_nil)) (pv 12) (nomark _))
 (pss_one (ps_ret pe_bl))
 pss_nil)
 (pss_cons (ps_set (i := 12) sc_law.nd rfl (.inl rfl) (pe_and (pe_cmpR op_le (pv 6) (pv 10) (nomark _)) (pe_one (pe_cmpR op_lt (C8.pe_c c__law_late hr (by decide) rfl (pa_cons (pv 3) (pa_cons (pv 6) (pa_cons (pv 10) pa_nil)))) (pe_op op_fdiv (pe_op op_mul pe_int (pe_op op_sub pe_int (pv 5))) pe_int) (nomark _)))))
 (pss_one (ps_if (pt_cmpR op_ne (pe_cn c_is_used_3_drift hr (by decide) rfl (pa_cons (pv 3) (pa_cons (pv 6) (pa_cons (pv 10) pa_nil))) (pk_cons (pv 5) pk_nil)) (pv 12) (nomark _))
 (pss_one (ps_ret pe_bl))
 pss_nil)))))))))))))))))))))))))
 (pss_one (ps_ret pe_bl))), ?_⟩
    refine ⟨_, rfl, a, _, rfl, .inl hS, _, 30, rfl, 1, _, rfl, rfl, ?_⟩
    have hm : 0 ≤ (if (30 : Int) < ((ns.map V.int).length : Nat) then (30 : Int) else ((ns.map V.int).length : Nat)) ∧ (if (30 : Int) < ((ns.map V.int).length : Nat) then (30 : Int) else ((ns.map V.int).length : Nat)) ≤ 30 := by
      split <;> omega
    generalize (if (30 : Int) < ((ns.map V.int).length : Nat) then (30 : Int) else ((ns.map V.int).length : Nat)) = mn at hm ⊢
    refine ⟨1 + mn, rfl, by omega, by omega, for_range (fun _ σ H1 => ∃ y1 y2 y3 y4 y5 y6 y7 y8 y9 y10 y11 y12 y13, σ = [some (.ref a), y1, y2, y3, y4, y5, y6, y7, y8, y9, y10, y11, y12, y13] ∧ Same H H1) ⟨none, none, none, none, none, none, none, none, none, none, none, none, none, rfl, Same.refl H⟩ ?_ (fun σ H1 _ => q H1)⟩
    rintro i σ H1 hi ⟨y1, y2, y3, y4, y5, y6, y7, y8, y9, y10, y11, y12, y13, rfl, sm1⟩
    -- bag
    refine ⟨_, rfl, _, rfl, a, ns, _, rfl, sm1.seq hS, by omega, by omega, fun b H2 nb sm2 G2 => ?_⟩
    have nb0 : H b = none := sm1.free nb
    have s2 : Same H H2 := sm1.trans sm2
    -- the clock
    refine ⟨_, rfl, b, rfl, G2, fun r h c H3 r0 r1 h0 h1 nc B3 G3 hc => ?_⟩
    have s3 := same_but s2 nb0 B3
    -- length and drift
    refine ⟨_, rfl, b, rfl, G3, fun l d p H4 l0 l1 d0 d1 np B4 G4 hp => ⟨p, _, rfl, SqT.of hp, rfl, .int l, _, rfl, .int d, _, rfl, rfl, ?_⟩⟩
    have s4 := same_but s3 nb0 B4
    have hc4 := B4 _ _ (G3.ne_tup hc) hc
    -- the asking
    refine ⟨_, rfl, b, rfl, G4, fun k H5 k0 k1 B5 G5 => ?_⟩
    have s5 := same_but s4 nb0 B5
    have hc5 := B5 _ _ (G4.ne_tup hc4) hc4
    -- most
    refine ⟨_, rfl, _, rfl, 100, d, rfl, rfl, l, _, rfl, rfl, .inl (small (by omega) (by omega)), _, 100, rfl, rfl, ⟨by decide, by decide⟩, ?_⟩
    -- times
    refine ⟨_, rfl, _, rfl, k, 1, rfl, rfl, _, rfl, _, rfl, k, l, rfl, rfl, _, 1, rfl, rfl, _, rfl, _, rfl, k, l, rfl, rfl, four_ok _ _ _ _, fun T1 n1 => ?_⟩
    have G6 := G5.new (o := .lst [.int k, .int (k + 1), .int (k + l - 1), .int (k + l)]) n1
    have s6 : Same H _ := s5.trans (same_upd (o := .lst [.int k, .int (k + 1), .int (k + l - 1), .int (k + l)]) n1)
    have hc6 := same_upd (o := .lst [.int k, .int (k + 1), .int (k + l - 1), .int (k + l)]) n1 _ _ hc5
    have hT6 : ∃ ts : List Int, ts.length = 4 ∧ upd H5 T1 (.lst [.int k, .int (k + 1), .int (k + l - 1), .int (k + l)]) T1 = some (.lst (ts.map V.int)) := ⟨[k, k + 1, k + l - 1, k + l], rfl, upd_same⟩
    revert G6 s6 hc6 hT6
    generalize upd H5 T1 (.lst [.int k, .int (k + 1), .int (k + l - 1), .int (k + l)]) = H6
    rintro G6 s6 hc6 ⟨ts6, tl6, hT6⟩
    refine ⟨_, rfl, _, rfl, _, rfl, k, l, rfl, rfl, _, 1, rfl, rfl, _, rfl, k, 1, rfl, rfl, 0, _, rfl, two_ok _ _, fun T2 n2 => ?_⟩
    refine ⟨T1, T2, _, _, rfl, rfl, same_upd n2 _ _ hT6, upd_same, (by rw [List.length_map, tl6]; show 6 ≤ sizeLine; decide), fun T3 n3 => ?_⟩
    have hx7 : ∀ x y : Int, ∃ ts : List Int, ts.length = 6 ∧ ts6.map V.int ++ [V.int x, V.int y] = ts.map V.int := fun x y => ⟨ts6 ++ [x, y], by rw [List.length_append, tl6]; rfl, by rw [List.map_append]; rfl⟩
    obtain ⟨ts7, tl7, te7⟩ := hx7 (k + l + 1) (if k - 1 > 0 then k - 1 else 0)
    have hT7 : upd (upd H6 T2 (.lst [V.int (k + l + 1), V.int (if k - 1 > 0 then k - 1 else 0)])) T3 (.lst (ts6.map V.int ++ [V.int (k + l + 1), V.int (if k - 1 > 0 then k - 1 else 0)])) T3 = some (.lst (ts7.map V.int)) := by rw [upd_same, te7]
    have G7 := (G6.new (o := .lst [V.int (k + l + 1), V.int (if k - 1 > 0 then k - 1 else 0)]) n2).new (o := .lst (ts6.map V.int ++ [V.int (k + l + 1), V.int (if k - 1 > 0 then k - 1 else 0)])) n3
    have m7 := (same_upd (o := .lst [V.int (k + l + 1), V.int (if k - 1 > 0 then k - 1 else 0)]) n2).trans (same_upd (o := .lst (ts6.map V.int ++ [V.int (k + l + 1), V.int (if k - 1 > 0 then k - 1 else 0)])) n3)
    have s7 := s6.trans m7
    have hc7 := m7 _ _ hc6
    revert hT7 G7 s7 hc7
    generalize upd (upd H6 T2 (.lst [V.int (k + l + 1), V.int (if k - 1 > 0 then k - 1 else 0)])) T3 (.lst (ts6.map V.int ++ [V.int (k + l + 1), V.int (if k - 1 > 0 then k - 1 else 0)])) = H7
    intro hT7 G7 s7 hc7
    clear m7
    -- late
    refine ⟨_, rfl, _, rfl, _, 100, rfl, rfl, .inr (small (by omega) (by omega)), _, rfl, c, _, 0, .int r, rfl, rfl, SqT.of hc7, atI_nat (j := 0) rfl, _, r, rfl, rfl, ⟨by omega, by omega⟩, k, _, rfl, rfl, ?_⟩
    dsimp only
    generalize k + l * (100 - d) / 100 * 100 / r = w
    refine ⟨_, rfl, _, rfl, _, rfl, w, 1, rfl, rfl, _, rfl, w, 1, rfl, rfl, 0, _, rfl, three_ok _ _ _, fun T4 n4 => ?_⟩
    refine ⟨T3, T4, _, _, rfl, rfl, same_upd n4 _ _ hT7, upd_same, (by rw [List.length_map, tl7]; show 9 ≤ sizeLine; decide), fun T5 n5 => ?_⟩
    obtain ⟨ts8, tl8, te8⟩ : ∃ ts : List Int, ts.length = 9 ∧ ts7.map V.int ++ [V.int w, V.int (w + 1), V.int (if w - 1 > 0 then w - 1 else 0)] = ts.map V.int := ⟨ts7 ++ [w, w + 1, if w - 1 > 0 then w - 1 else 0], by rw [List.length_append, tl7]; rfl, by rw [List.map_append]; rfl⟩
    have hT8 : upd (upd H7 T4 (.lst [V.int w, V.int (w + 1), V.int (if w - 1 > 0 then w - 1 else 0)])) T5 (.lst (ts7.map V.int ++ [V.int w, V.int (w + 1), V.int (if w - 1 > 0 then w - 1 else 0)])) T5 = some (.lst (ts8.map V.int)) := by rw [upd_same, te8]
    have G8 := (G7.new (o := .lst [V.int w, V.int (w + 1), V.int (if w - 1 > 0 then w - 1 else 0)]) n4).new (o := .lst (ts7.map V.int ++ [V.int w, V.int (w + 1), V.int (if w - 1 > 0 then w - 1 else 0)])) n5
    have m8 := (same_upd (o := .lst [V.int w, V.int (w + 1), V.int (if w - 1 > 0 then w - 1 else 0)]) n4).trans (same_upd (o := .lst (ts7.map V.int ++ [V.int w, V.int (w + 1), V.int (if w - 1 > 0 then w - 1 else 0)])) n5)
    have s8 := s7.trans m8
    have hc8 := m8 _ _ hc7
    revert hT8 G8 s8 hc8
    generalize upd (upd H7 T4 (.lst [V.int w, V.int (w + 1), V.int (if w - 1 > 0 then w - 1 else 0)])) T5 (.lst (ts7.map V.int ++ [V.int w, V.int (w + 1), V.int (if w - 1 > 0 then w - 1 else 0)])) = H8
    intro hT8 G8 s8 hc8
    clear m8
    -- the last two times
    have nT5 : T5 ≠ b := by
      obtain ⟨x, y, e, _⟩ := G8
      exact ne_of hT8 e (by intro z; have z2 := congrArg (fun o : HO => match o with | .lst xs => xs.length | _ => 0) z; simp [tl8] at z2)
    refine ⟨_, rfl, _, rfl, _, rfl, _, rfl, 3, l, rfl, rfl, .inl (small (by omega) (by omega)), b, 3 * l, rfl, G8, by omega, by omega, fun x H9 x0 x1 B9 G9 => ?_⟩
    have s9 := same_but s8 nb0 B9
    have hc9 := B9 _ _ (G8.ne_tup hc8) hc8
    have hT9 := B9 _ _ nT5 hT8
    refine ⟨k, x, rfl, rfl, two_ok _ _, fun T6 n6 => ?_⟩
    refine ⟨T5, T6, _, _, rfl, rfl, same_upd n6 _ _ hT9, upd_same, (by rw [List.length_map, tl8]; show 11 ≤ sizeLine; decide), fun T7 n7 => ?_⟩
    obtain ⟨ts, tl, te⟩ : ∃ ts : List Int, ts.length = 11 ∧ ts8.map V.int ++ [V.int (k + x), V.int 0] = ts.map V.int := ⟨ts8 ++ [k + x, 0], by rw [List.length_append, tl8]; rfl, by rw [List.map_append]; rfl⟩
    have hT : upd (upd H9 T6 (.lst [V.int (k + x), V.int 0])) T7 (.lst (ts8.map V.int ++ [V.int (k + x), V.int 0])) T7 = some (.lst (ts.map V.int)) := by rw [upd_same, te]
    have m10 := (same_upd (o := .lst [V.int (k + x), V.int 0]) n6).trans (same_upd (o := .lst (ts8.map V.int ++ [V.int (k + x), V.int 0])) n7)
    have s10 := s9.trans m10
    have hc10 := m10 _ _ hc9
    revert hT s10 hc10
    generalize upd (upd H9 T6 (.lst [V.int (k + x), V.int 0])) T7 (.lst (ts8.map V.int ++ [V.int (k + x), V.int 0])) = HH
    intro hT s10 hc10
    clear m10
    -- the times, one by one
    refine ⟨_, rfl, T7, rfl, ⟨_, SqL.of hT⟩, for_list (xs := ts.map V.int)
      (fun _ σ H1 => ∃ y10 y11 y12 y13, σ = [some (.ref a), some (.int (0 + (i : Int))), some (.ref b), some (.ref c), some (.int l), some (.int d), some (.int k), some (.int (spn l d)), some (.ref T7), some (.int w), y10, y11, y12, y13] ∧ H1 = HH)
      ⟨_, _, _, _, rfl, rfl⟩ (fun _ σ H1 _ hz => by obtain ⟨_, _, _, _, _, rfl⟩ := hz; exact SqL.of hT) ?_ ?_⟩
    · rintro j v σ H1 hv ⟨z10, z11, z12, z13, rfl, rfl⟩
      obtain ⟨t, _, rfl⟩ := List.mem_map.mp (List.mem_of_getElem? hv)
      -- told
      refine ⟨_, rfl, _, rfl, c, r, h, t, rfl, SqT.of hc10, by omega, by omega, ?_⟩
      refine ⟨_, rfl, _, rfl, true, rfl, iteF ?_⟩
      refine ⟨_, rfl, _, rfl, _, rfl, c, _, 0, .int r, rfl, rfl, SqT.of hc10, atI_nat (j := 0) rfl, t, r, rfl, rfl, .inr (small (by omega) (by omega)), _, rfl, c, _, 1, .int h, rfl, rfl, SqT.of hc10, atI_nat (j := 1) rfl, _, h, rfl, rfl, _, 100, rfl, rfl, ⟨by decide, by decide⟩, rfl, _, rfl, iteNS rfl ?_⟩
      by_cases hat : k ≤ t
      · -- due and found
        refine ⟨_, rfl, _, rfl, k, t, rfl, rfl, _, rfl, iteD' hat ?_⟩
        refine ⟨_, rfl, _, rfl, _, rfl, c, r, h, k, t, rfl, SqT.of hc10, by omega, by omega, _, rfl, _, _, rfl, rfl, ?_⟩
        refine ⟨_, rfl, _, rfl, _, rfl, _, rfl, _, rfl, rfl, rfl, c, r, h, k, t, l, d, rfl, SqT.of hc10, by omega, by omega, by omega, by omega, ?_⟩
        refine ⟨_, rfl, _, _, _, _, true, rfl, .ty _, .base (.bl _), kit_ty (by decide +kernel), true, rfl, iteF ?_⟩
        refine ⟨_, rfl, _, rfl, rfl, _, rfl, iteNS (congrArg V.bl (used_in rfl hat)) ?_⟩
        -- left out
        refine ⟨_, rfl, _, rfl, k, t, rfl, rfl, _, rfl, iteD' hat ?_⟩
        refine ⟨_, rfl, _, rfl, _, rfl, c, r, h, k, t, rfl, SqT.of hc10, by omega, by omega, _, 18, rfl, rfl, ?_⟩
        refine ⟨_, rfl, _, rfl, _, rfl, c, r, h, k, t, 20, 10, rfl, SqT.of hc10, by omega, by omega, by omega, by omega, ?_⟩
        refine ⟨_, rfl, rfl, _, rfl, iteNS (congrArg V.bl (used_in (by decide) hat)) ?_⟩
        -- length alone
        refine ⟨_, rfl, _, rfl, k, t, rfl, rfl, _, rfl, iteD' hat ?_⟩
        refine ⟨_, rfl, _, rfl, _, rfl, c, r, h, k, t, rfl, SqT.of hc10, by omega, by omega, _, rfl, l, 90, rfl, rfl, .inr ⟨by decide, by decide⟩, _, 100, rfl, rfl, ⟨by decide, by decide⟩, _, _, rfl, rfl, ?_⟩
        refine ⟨_, rfl, _, rfl, _, rfl, _, rfl, rfl, rfl, c, r, h, k, t, l, 10, rfl, SqT.of hc10, by omega, by omega, by omega, by omega, ?_⟩
        refine ⟨_, rfl, rfl, _, rfl, iteNS (congrArg V.bl (used_in rfl hat)) ?_⟩
        -- drift alone
        refine ⟨_, rfl, _, rfl, k, t, rfl, rfl, _, rfl, iteD' hat ?_⟩
        refine ⟨_, rfl, _, rfl, _, rfl, c, r, h, k, t, rfl, SqT.of hc10, by omega, by omega, _, rfl, 100, d, rfl, rfl, 20, _, rfl, rfl, .inl ⟨by decide, by decide⟩, _, 100, rfl, rfl, ⟨by decide, by decide⟩, _, _, rfl, rfl, ?_⟩
        refine ⟨_, rfl, _, rfl, _, rfl, _, rfl, rfl, rfl, c, r, h, k, t, 20, d, rfl, SqT.of hc10, by omega, by omega, by omega, by omega, ?_⟩
        refine ⟨_, rfl, rfl, _, rfl, iteNS (congrArg V.bl (used_in rfl hat)) ?_⟩
        exact ⟨_, _, _, _, rfl, rfl⟩
      · refine ⟨_, rfl, _, rfl, k, t, rfl, rfl, _, rfl, iteD hat ?_⟩
        refine ⟨_, rfl, _, rfl, _, rfl, _, rfl, _, rfl, rfl, rfl, c, r, h, k, t, l, d, rfl, SqT.of hc10, by omega, by omega, by omega, by omega, ?_⟩
        refine ⟨_, rfl, _, _, _, _, true, rfl, .ty _, .base (.bl _), kit_ty (by decide +kernel), true, rfl, iteF ?_⟩
        refine ⟨_, rfl, _, rfl, rfl, _, rfl, iteNS (congrArg V.bl (used_out hat)) ?_⟩
        -- left out
        refine ⟨_, rfl, _, rfl, k, t, rfl, rfl, _, rfl, iteD hat ?_⟩
        refine ⟨_, rfl, _, rfl, _, rfl, c, r, h, k, t, 20, 10, rfl, SqT.of hc10, by omega, by omega, by omega, by omega, ?_⟩
        refine ⟨_, rfl, rfl, _, rfl, iteNS (congrArg V.bl (used_out hat)) ?_⟩
        -- length alone
        refine ⟨_, rfl, _, rfl, k, t, rfl, rfl, _, rfl, iteD hat ?_⟩
        refine ⟨_, rfl, _, rfl, _, rfl, _, rfl, rfl, rfl, c, r, h, k, t, l, 10, rfl, SqT.of hc10, by omega, by omega, by omega, by omega, ?_⟩
        refine ⟨_, rfl, rfl, _, rfl, iteNS (congrArg V.bl (used_out hat)) ?_⟩
        -- drift alone
        refine ⟨_, rfl, _, rfl, k, t, rfl, rfl, _, rfl, iteD hat ?_⟩
        refine ⟨_, rfl, _, rfl, _, rfl, _, rfl, rfl, rfl, c, r, h, k, t, 20, d, rfl, SqT.of hc10, by omega, by omega, by omega, by omega, ?_⟩
        refine ⟨_, rfl, rfl, _, rfl, iteNS (congrArg V.bl (used_out hat)) ?_⟩
        exact ⟨_, _, _, _, rfl, rfl⟩
    · rintro σ H1 ⟨z10, z11, z12, z13, rfl, rfl⟩
      exact ⟨_, _, _, _, _, _, _, _, _, _, _, _, _, rfl, s10⟩

end
theorem all_mk {l : PySem.W.OpenLaw} {w : World} {K : PySem.W.Frag} {h : Heap} {mg : Str → Option Value} {fa f0 f1 f2 f3 f4 f5 f6 f7 f8 f9 f10 : Addr} (X : K.In h) (G : h.Ns mainGlobals mg) (hfa : mg "law" = some (.ref fa))
    {od0 an0 : Option Addr} {sl0 : Array (Option Value)} {oc0 kV0 dc0 pm0 cd0 ct0 : Value} {od1 an1 : Option Addr} {sl1 : Array (Option Value)} {oc1 kV1 dc1 pm1 cd1 ct1 : Value} {od2 an2 : Option Addr} {sl2 : Array (Option Value)} {oc2  dc2 pm2 cd2 ct2 : Value} {D2 : Addr} {t2_length t2_drift : Tok} {od3 an3 : Option Addr} {sl3 : Array (Option Value)} {oc3 kV3 dc3 pm3 cd3 ct3 : Value} {od4 an4 : Option Addr} {sl4 : Array (Option Value)} {oc4 kV4 dc4 pm4 cd4 ct4 : Value} {od5 an5 : Option Addr} {sl5 : Array (Option Value)} {oc5 kV5 dc5 pm5 cd5 ct5 : Value} {od6 an6 : Option Addr} {sl6 : Array (Option Value)} {oc6 kV6 dc6 pm6 cd6 ct6 : Value} {od7 an7 : Option Addr} {sl7 : Array (Option Value)} {oc7 kV7 dc7 pm7 cd7 ct7 : Value} {od8 an8 : Option Addr} {sl8 : Array (Option Value)} {oc8 kV8 dc8 pm8 cd8 ct8 : Value} {od9 an9 : Option Addr} {sl9 : Array (Option Value)} {oc9 kV9 dc9 pm9 cd9 ct9 : Value} {od10 an10 : Option Addr} {sl10 : Array (Option Value)} {oc10 kV10 dc10 pm10 cd10 ct10 : Value}
    (a0 : PySem.W.nsIn K mainGlobals "shown" = some (some (.ref f0)))
    (l0 : K.lookup f0 = some ⟨oc0, od0, .func (PySem.W.fnOf "shown" "shown" (defArgs s_shown) (defBody s_shown) (defScope s_shown) .none kV0 dc0 pm0 an0 cd0 ct0), sl0⟩)
    (c0 : PySem.W.codeIn K cd0 "shown" = true) (k0 : PySem.W.keepIn K (.ref f0) = true)
    (a1 : PySem.W.nsIn K mainGlobals "span" = some (some (.ref f1)))
    (l1 : K.lookup f1 = some ⟨oc1, od1, .func (PySem.W.fnOf "span" "span" (defArgs s_span) (defBody s_span) (defScope s_span) .none kV1 dc1 pm1 an1 cd1 ct1), sl1⟩)
    (c1 : PySem.W.codeIn K cd1 "span" = true) (k1 : PySem.W.keepIn K (.ref f1) = true)
    (a2 : PySem.W.nsIn K mainGlobals "is_used" = some (some (.ref f2)))
    (l2 : K.lookup f2 = some ⟨oc2, od2, .func (PySem.W.fnOf "is_used" "is_used" (defArgs s_is_used) (defBody s_is_used) (defScope s_is_used) .none (.ref D2) dc2 pm2 an2 cd2 ct2), sl2⟩)
    (c2 : PySem.W.codeIn K cd2 "is_used" = true) (k2 : PySem.W.keepIn K (.ref f2) = true)
    (n2_length : PySem.W.nsIn K D2 "length" = some (some (.int 20 t2_length)))
    (n2_drift : PySem.W.nsIn K D2 "drift" = some (some (.int 10 t2_drift)))
    (a3 : PySem.W.nsIn K mainGlobals "_law_bag" = some (some (.ref f3)))
    (l3 : K.lookup f3 = some ⟨oc3, od3, .func (PySem.W.fnOf "_law_bag" "_law_bag" (defArgs s__law_bag) (defBody s__law_bag) (defScope s__law_bag) .none kV3 dc3 pm3 an3 cd3 ct3), sl3⟩)
    (c3 : PySem.W.codeIn K cd3 "_law_bag" = true) (k3 : PySem.W.keepIn K (.ref f3) = true)
    (a4 : PySem.W.nsIn K mainGlobals "_law_take" = some (some (.ref f4)))
    (l4 : K.lookup f4 = some ⟨oc4, od4, .func (PySem.W.fnOf "_law_take" "_law_take" (defArgs s__law_take) (defBody s__law_take) (defScope s__law_take) .none kV4 dc4 pm4 an4 cd4 ct4), sl4⟩)
    (c4 : PySem.W.codeIn K cd4 "_law_take" = true) (k4 : PySem.W.keepIn K (.ref f4) = true)
    (a5 : PySem.W.nsIn K mainGlobals "_law_whole" = some (some (.ref f5)))
    (l5 : K.lookup f5 = some ⟨oc5, od5, .func (PySem.W.fnOf "_law_whole" "_law_whole" (defArgs s__law_whole) (defBody s__law_whole) (defScope s__law_whole) .none kV5 dc5 pm5 an5 cd5 ct5), sl5⟩)
    (c5 : PySem.W.codeIn K cd5 "_law_whole" = true) (k5 : PySem.W.keepIn K (.ref f5) = true)
    (a6 : PySem.W.nsIn K mainGlobals "_law_clock" = some (some (.ref f6)))
    (l6 : K.lookup f6 = some ⟨oc6, od6, .func (PySem.W.fnOf "_law_clock" "_law_clock" (defArgs s__law_clock) (defBody s__law_clock) (defScope s__law_clock) .none kV6 dc6 pm6 an6 cd6 ct6), sl6⟩)
    (c6 : PySem.W.codeIn K cd6 "_law_clock" = true) (k6 : PySem.W.keepIn K (.ref f6) = true)
    (a7 : PySem.W.nsIn K mainGlobals "_law_time" = some (some (.ref f7)))
    (l7 : K.lookup f7 = some ⟨oc7, od7, .func (PySem.W.fnOf "_law_time" "_law_time" (defArgs s__law_time) (defBody s__law_time) (defScope s__law_time) .none kV7 dc7 pm7 an7 cd7 ct7), sl7⟩)
    (c7 : PySem.W.codeIn K cd7 "_law_time" = true) (k7 : PySem.W.keepIn K (.ref f7) = true)
    (a8 : PySem.W.nsIn K mainGlobals "_law_late" = some (some (.ref f8)))
    (l8 : K.lookup f8 = some ⟨oc8, od8, .func (PySem.W.fnOf "_law_late" "_law_late" (defArgs s__law_late) (defBody s__law_late) (defScope s__law_late) .none kV8 dc8 pm8 an8 cd8 ct8), sl8⟩)
    (c8 : PySem.W.codeIn K cd8 "_law_late" = true) (k8 : PySem.W.keepIn K (.ref f8) = true)
    (a9 : PySem.W.nsIn K mainGlobals "_law_terms" = some (some (.ref f9)))
    (l9 : K.lookup f9 = some ⟨oc9, od9, .func (PySem.W.fnOf "_law_terms" "_law_terms" (defArgs s__law_terms) (defBody s__law_terms) (defScope s__law_terms) .none kV9 dc9 pm9 an9 cd9 ct9), sl9⟩)
    (c9 : PySem.W.codeIn K cd9 "_law_terms" = true) (k9 : PySem.W.keepIn K (.ref f9) = true)
    (a10 : PySem.W.nsIn K mainGlobals "law" = some (some (.ref f10)))
    (l10 : K.lookup f10 = some ⟨oc10, od10, .func (PySem.W.fnOf "law" "law" (defArgs s_law) (defBody s_law) (defScope s_law) .none kV10 dc10 pm10 an10 cd10 ct10), sl10⟩)
    (c10 : PySem.W.codeIn K cd10 "law" = true) (k10 : PySem.W.keepIn K (.ref f10) = true)
    (z_abs : PySem.W.nsIn K mainGlobals "abs" = some none)
    (z_bool : PySem.W.nsIn K mainGlobals "bool" = some none)
    (z_int : PySem.W.nsIn K mainGlobals "int" = some none)
    (z_isinstance : PySem.W.nsIn K mainGlobals "isinstance" = some none)
    (z_len : PySem.W.nsIn K mainGlobals "len" = some none)
    (z_max : PySem.W.nsIn K mainGlobals "max" = some none)
    (z_min : PySem.W.nsIn K mainGlobals "min" = some none)
    (z_range : PySem.W.nsIn K mainGlobals "range" = some none) :
    ∃ fd : FuncData, (∀ (s : Shared) (v : Value), BindsTo s fd ⟨[v], []⟩ [("script", v)]) ∧ ∀ base : Heap, K.In base → base.Ns mainGlobals mg → FnOk l.prog w K mg base CX0 3 fa fd ["script"] (splaw K) := by
  have N : Fre K mg := ⟨PySem.W.mg_none_of X G z_abs, PySem.W.mg_none_of X G z_bool, PySem.W.mg_none_of X G z_int, PySem.W.mg_none_of X G z_isinstance, PySem.W.mg_none_of X G z_len, PySem.W.mg_none_of X G z_max, PySem.W.mg_none_of X G z_min, PySem.W.mg_none_of X G z_range⟩
  have e := hfa.symm.trans (PySem.W.mg_of X G a10)
  cases e
  have F0 := fun_mk (st := s_shown) l0 c0 k0
  have F1 := fun_mk (st := s_span) l1 c1 k1
  have F2 : FunD K "is_used" "is_used" (defArgs s_is_used) (defBody s_is_used) (defScope s_is_used) [] [("length", V.int 20), ("drift", V.int 10)] f2 _ := ⟨⟨_, _, _, _, _, _, _, _, _, _, rfl, l2, c2, .inl ⟨rfl, rfl⟩, .inr ⟨D2, rfl, fun q hq => by
    simp only [List.mem_cons, List.not_mem_nil, or_false] at hq
    rcases hq with rfl | rfl
    · exact ⟨_, n2_length, _, rfl⟩
    · exact ⟨_, n2_drift, _, rfl⟩⟩⟩, k2⟩
  have F3 := fun_mk (st := s__law_bag) l3 c3 k3
  have F4 := fun_mk (st := s__law_take) l4 c4 k4
  have F5 := fun_mk (st := s__law_whole) l5 c5 k5
  have F6 := fun_mk (st := s__law_clock) l6 c6 k6
  have F7 := fun_mk (st := s__law_time) l7 c7 k7
  have F8 := fun_mk (st := s__law_late) l8 c8 k8
  have F9 := fun_mk (st := s__law_terms) l9 c9 k9
  have F10 := fun_mk (st := s_law) l10 c10 k10
  refine ⟨PySem.W.fnOf "law" "law" (defArgs s_law) (defBody s_law) (defScope s_law) .none kV10 dc10 pm10 an10 cd10 ct10, fun s v => .of_eq rfl, fun base _ _ => ?_⟩
  have c_shown := ok_shown (base := base) (P := l.prog) (w := w) F0 (PySem.W.mg_of X G a0) N
  have c_span := ok_span (base := base) (P := l.prog) (w := w) F1 (PySem.W.mg_of X G a1) N
  have c_is_used_3_drift_length := ok_is_used_3_drift_length (base := base) (P := l.prog) (w := w) F2 (PySem.W.mg_of X G a2) N c_shown c_span
  have c_is_used_3 := ok_is_used_3 (base := base) (P := l.prog) (w := w) F2 (PySem.W.mg_of X G a2) N c_shown c_span
  have c_is_used_3_length := ok_is_used_3_length (base := base) (P := l.prog) (w := w) F2 (PySem.W.mg_of X G a2) N c_shown c_span
  have c_is_used_3_drift := ok_is_used_3_drift (base := base) (P := l.prog) (w := w) F2 (PySem.W.mg_of X G a2) N c_shown c_span
  have c__law_bag := ok__law_bag (base := base) (P := l.prog) (w := w) F3 (PySem.W.mg_of X G a3) N
  have c__law_take := ok__law_take (base := base) (P := l.prog) (w := w) F4 (PySem.W.mg_of X G a4) N
  have c__law_whole := ok__law_whole (base := base) (P := l.prog) (w := w) F5 (PySem.W.mg_of X G a5) N
  have c__law_clock := ok__law_clock (base := base) (P := l.prog) (w := w) F6 (PySem.W.mg_of X G a6) N c__law_take
  have c__law_time := ok__law_time (base := base) (P := l.prog) (w := w) F7 (PySem.W.mg_of X G a7) N c__law_take
  have c__law_late := ok__law_late (base := base) (P := l.prog) (w := w) F8 (PySem.W.mg_of X G a8) N
  have c__law_terms := ok__law_terms (base := base) (P := l.prog) (w := w) F9 (PySem.W.mg_of X G a9) N c__law_take
  exact ok_law (base := base) (P := l.prog) (w := w) F10 N c__law_bag c__law_clock c__law_late c__law_take c__law_terms c__law_time c__law_whole c_is_used_3 c_is_used_3_drift c_is_used_3_drift_length c_is_used_3_length c_shown
end My
open PySem PySem.W PyProof.Rows
set_option maxRecDepth 100000 in
set_option maxHeartbeats 0 in
theorem PySem.Challenge.cw_pagelend_k03_clocks_and_use_holds : PySem.Challenge.rw_pagelend_k03_clocks_and_use.Holds := by
  w_on; o_law; k_head; (case hw => w_witness2)
  k_fill
  refine L2.walk_of (l := PySem.Challenge.rw_pagelend_k03_clocks_and_use) (n := 63) (k := 3) (x := "script") (CX := fun _ => L2.CX0) (sp := fun w => My.splaw _) rfl (by decide) rfl ⟨rfl, by decide, by decide⟩ (fun w h Y => PySem.W.kIn_of Y) ?F (fun _ _ a ns hl _ hS => ⟨a, ns, rfl, hS, hl, fun _ => rfl⟩) (fun _ _ _ _ _ h => h)
  case F =>
    intro w mg fa h KX G hmg
    refine' My.all_mk KX G hmg ?a0 ?l0 ?c0 ?k0 ?a1 ?l1 ?c1 ?k1 ?a2 ?l2 ?c2 ?k2 ?n2_length ?n2_drift ?a3 ?l3 ?c3 ?k3 ?a4 ?l4 ?c4 ?k4 ?a5 ?l5 ?c5 ?k5 ?a6 ?l6 ?c6 ?k6 ?a7 ?l7 ?c7 ?k7 ?a8 ?l8 ?c8 ?k8 ?a9 ?l9 ?c9 ?k9 ?a10 ?l10 ?c10 ?k10 ?z_abs ?z_bool ?z_int ?z_isinstance ?z_len ?z_max ?z_min ?z_range
    (case a0 => k_is); (case l0 => k_is); (case c0 => k_is); (case k0 => k_is); (case a1 => k_is); (case l1 => k_is); (case c1 => k_is); (case k1 => k_is); (case a2 => k_is); (case l2 => k_is); (case c2 => k_is); (case k2 => k_is); (case n2_length => k_is); (case n2_drift => k_is); (case a3 => k_is); (case l3 => k_is); (case c3 => k_is); (case k3 => k_is); (case a4 => k_is); (case l4 => k_is); (case c4 => k_is); (case k4 => k_is); (case a5 => k_is); (case l5 => k_is); (case c5 => k_is); (case k5 => k_is); (case a6 => k_is); (case l6 => k_is); (case c6 => k_is); (case k6 => k_is); (case a7 => k_is); (case l7 => k_is); (case c7 => k_is); (case k7 => k_is); (case a8 => k_is); (case l8 => k_is); (case c8 => k_is); (case k8 => k_is); (case a9 => k_is); (case l9 => k_is); (case c9 => k_is); (case k9 => k_is); (case a10 => k_is); (case l10 => k_is); (case c10 => k_is); (case k10 => k_is); (case z_abs => k_is); (case z_bool => k_is); (case z_int => k_is); (case z_isinstance => k_is); (case z_len => k_is); (case z_max => k_is); (case z_min => k_is); (case z_range => k_is)

