
import PyProof.Rows.All
import Wide.All
import OpenK.AllK
import Wide.FinOn
import HandS.ForMost
import HandS.Wide
import HandS.IsInst
import HandS.Flow
import HandS.Style
import HandS.Codes
import HandS.Lambda
import HandS.EndTab
import HandS.SortKw
import HandS.FStr
import HandS.NoneIn
import HandS.More
import HandS.Zip
import HandS.Conv
import HandS.TupAny
import HandS.RaiseMore
import HandS.Walk
import HandS.Iter
import HandS.Dict
import PyProof.StrLawsRepr
import KE.SortKeyHeap
import PySem.Challenge.RW_heaptrees_k09_classes
set_option Elab.async false
set_option linter.all false
set_option maxRecDepth 100000
set_option maxHeartbeats 4000000
namespace My
open PySem PySem.Spec PyProof.Rows L2
def topS (i : Nat) : Stmt := PySem.Challenge.pw_heaptrees_k09_classes.main.body.getD i (.Pass ⟨0, 0, 0, 0⟩)
abbrev s_class_of : Stmt := topS 1
theorem sc_class_of : FnScope ["number", "few", "turn"] ["number", "few", "turn"] (defScope s_class_of) := ⟨rfl, rfl, rfl, by decide +kernel, rfl, by decide +kernel, by decide +kernel⟩
abbrev s__law_pool : Stmt := topS 3
theorem sc__law_pool : FnScope ["script", "k", "cell"] ["script", "k"] (defScope s__law_pool) := ⟨rfl, rfl, rfl, by decide +kernel, rfl, by decide +kernel, by decide +kernel⟩
abbrev s__law_take : Stmt := topS 4
theorem sc__law_take : FnScope ["pool", "many", "found", "step", "mark"] ["pool", "many"] (defScope s__law_take) := ⟨rfl, rfl, rfl, by decide +kernel, rfl, by decide +kernel, by decide +kernel⟩
abbrev s__law_gone : Stmt := topS 5
theorem sc__law_gone : FnScope ["number", "few", "turn", "found", "step"] ["number", "few", "turn"] (defScope s__law_gone) := ⟨rfl, rfl, rfl, by decide +kernel, rfl, by decide +kernel, by decide +kernel⟩
abbrev s_law : Stmt := topS 6
theorem sc_law : FnScope ["script", "k", "pool", "few", "turn", "number", "far", "found"] ["script"] (defScope s_law) := ⟨rfl, rfl, rfl, by decide +kernel, rfl, by decide +kernel, by decide +kernel⟩
structure Txt (K : PySem.W.Frag) (mg : Str → Option Value) where
  f_class_of : Addr
  d_class_of : FuncData
  F_class_of : Fun K "class_of" "class_of" s_class_of f_class_of d_class_of
  b_class_of : Binds K d_class_of ["number", "few", "turn"] []
  m_class_of : mg "class_of" = some (.ref f_class_of)
  f__law_pool : Addr
  d__law_pool : FuncData
  F__law_pool : Fun K "_law_pool" "_law_pool" s__law_pool f__law_pool d__law_pool
  b__law_pool : Binds K d__law_pool ["script", "k"] []
  m__law_pool : mg "_law_pool" = some (.ref f__law_pool)
  f__law_take : Addr
  d__law_take : FuncData
  F__law_take : Fun K "_law_take" "_law_take" s__law_take f__law_take d__law_take
  b__law_take : Binds K d__law_take ["pool", "many"] []
  m__law_take : mg "_law_take" = some (.ref f__law_take)
  f__law_gone : Addr
  d__law_gone : FuncData
  F__law_gone : Fun K "_law_gone" "_law_gone" s__law_gone f__law_gone d__law_gone
  b__law_gone : Binds K d__law_gone ["number", "few", "turn"] []
  m__law_gone : mg "_law_gone" = some (.ref f__law_gone)
  f_law : Addr
  d_law : FuncData
  F_law : Fun K "law" "law" s_law f_law d_law
  b_law : Binds K d_law ["script"] []
  m_law : mg "law" = some (.ref f_law)
  z_bool : mg "bool" = none
  z_int : mg "int" = none
  z_isinstance : mg "isinstance" = none
  z_len : mg "len" = none
  z_max : mg "max" = none
  z_min : mg "min" = none
  z_range : mg "range" = none
local macro_rules | `(tactic| walk_at "my rd") => `(tactic| repeat (first | refine ⟨_, rfl, ?_⟩ | refine ⟨_, _, rfl, rfl, ?_⟩ | refine ⟨rfl, ?_⟩))
local macro_rules | `(tactic| walk_at "my one") => `(tactic| first | refine ⟨_, rfl, ?_⟩ | refine ⟨_, _, rfl, rfl, ?_⟩ | refine ⟨rfl, ?_⟩)
def Chg (p : Addr) (H H' : Hp) : Prop := ∀ b, b ≠ p → H' b = H b
theorem Chg.refl (p : Addr) (H : Hp) : Chg p H H := fun _ _ => rfl
theorem Chg.trans {p : Addr} {H H1 H2 : Hp} (a : Chg p H H1) (b : Chg p H1 H2) : Chg p H H2 := fun c hc => (b c hc).trans (a c hc)
theorem Chg.upd {p : Addr} {H : Hp} {o : HO} : Chg p H (upd H p o) := fun _ h => upd_ne h
theorem Chg.at {p b : Addr} {H H' : Hp} {o : HO} (c : Chg p H H') (h : H b = some o) (n : b ≠ p) : H' b = some o := (c b n).trans h
theorem Chg.seq {K : PySem.W.Frag} {p a : Addr} {H H' : Hp} {xs : List V} (c : Chg p H H') (hp : H p = none) (h : SqL K H a xs) : SqL K H' a xs := by
  rcases h with (h | ⟨o, h⟩) | h
  · exact .inl (.inl (c.at h (ne_of_none h hp)))
  · exact .inl (.inr ⟨o, c.at h (ne_of_none h hp)⟩)
  · exact .inr h
theorem same_new {H : Hp} {p : Addr} {o : HO} (h : H p = none) : Same H (upd H p o) := fun b u q => by rw [upd_ne (ne_of_none q h)]; exact q
theorem nn_mul {a b A B : Int} (h0 : 0 ≤ a) (h1 : a ≤ A) (g0 : 0 ≤ b) (g1 : b ≤ B) : 0 ≤ a * b ∧ a * b ≤ A * B :=
  ⟨Int.mul_nonneg h0 g0, Int.mul_le_mul h1 g1 g0 (Int.le_trans h0 h1)⟩
theorem divW {i j : Int} (h : 0 < j) (h2 : j < 2 ^ 60) : CDivW i j := wide_div (b := 60) h (by omega) (by decide) (by decide)


def Pool (H : Hp) (p : Addr) (n : Nat) : Prop := ∃ x f s : Int, H p = some (.lst [.int x, .int f, .int s]) ∧ 0 ≤ s ∧ s ≤ (n : Int)
theorem Pool.mono {H : Hp} {p : Addr} {n m : Nat} (h : Pool H p n) (l : n ≤ m) : Pool H p m := let ⟨x, f, s, a, b, c⟩ := h; ⟨x, f, s, a, b, by omega⟩
theorem Pool.keep {H H' : Hp} {p : Addr} {n : Nat} (h : Pool H p n) (e : Same H H') : Pool H' p n := let ⟨x, f, s, a, b, c⟩ := h; ⟨x, f, s, e _ _ a, b, c⟩
theorem Pool.ne {H : Hp} {p q : Addr} {n : Nat} (h : Pool H p n) (e : H q = none) : p ≠ q := let ⟨_, _, _, a, _⟩ := h; ne_of_none a e
theorem Pool.some {H : Hp} {p : Addr} {n : Nat} (h : Pool H p n) : H p ≠ none := let ⟨_, _, _, a, _⟩ := h; by rw [a]; simp
def sp__law_pool (K : PySem.W.Frag) : Sp := fun vs H Q _ => ∃ (a : Addr) (ns : List Int) (k : Int), vs = [.ref a, .int k] ∧ SqL K H a (ns.map V.int) ∧ ns.length ≤ 63 ∧ 0 ≤ k ∧ k ≤ 63 ∧
  ∀ p H', H p = none → Chg p H H' → Pool H' p 3000 → Q (.ref p) H'
def sp__law_take : Sp := fun vs H Q _ => ∃ (p : Addr) (m : Int) (n : Nat), vs = [.ref p, .int m] ∧ Pool H p n ∧ n < 1000000 ∧ 0 < m ∧ m < 2 ^ 60 ∧
  ∀ r H', 0 ≤ r → r < m → Chg p H H' → Pool H' p (n + 1) → Q (.int r) H'
section
variable {P : Program} {w : World} {K : PySem.W.Frag} {mg : Str → Option Value} {base : Heap}
theorem ok__law_pool (T : Txt K mg) : FnOk P w K mg base CX0 1 T.f__law_pool T.d__law_pool ["script", "k"] (sp__law_pool K) := by
  refine T.F__law_pool.ok sc__law_pool (fun vs H Q E h => ?_) (fun cdv A outer s H vs Q E hr h => ?_)
  · obtain ⟨a, ns, k, rfl, _⟩ := h
    rfl
  obtain ⟨a, ns, k, rfl, hS, h63, h0, h1, q⟩ := h
  refine ⟨_, (pss_cons (ps_set (i := 2) sc__law_pool.nd rfl (Or.inl rfl) pe_int) (pss_cons (ps_if (pt_cmpR op_lt (pv 1) (pe_callB call_len_seq (by rfl) T.z_len PySem.boot_len (pa_cons (pv 0) pa_nil)) (nomark _)) (pss_one (ps_set (i := 2) sc__law_pool.nd rfl (Or.inl rfl) (pe_ix ix_list (pv 0) (pv 1) (fun _ _ => rfl)))) pss_nil) (pss_cons (ps_if (pt_cmpR op_ge (pv 2) (pe_op op_pow pe_int pe_int) (nomark _)) (pss_one (ps_ret (pe_lst (pa_cons (pe_op op_sub (pv 2) (pe_op op_pow pe_int pe_int)) (pa_cons pe_int (pa_cons pe_int pa_nil)))))) pss_nil) (pss_one (ps_ret (pe_lst (pa_cons (pv 2) (pa_cons pe_int (pa_cons (pe_op op_mul pe_int (pv 1)) pa_nil))))))))), ?_⟩
  have fin : ∀ p, H p = none → ∀ x f s : Int, 0 ≤ s → s ≤ 3000 → Q (.ref p) (upd H p (.lst [.int x, .int f, .int s])) := fun p hp x f s hs0 hs1 =>
    q p _ hp Chg.upd ⟨x, f, s, upd_same, hs0, by omega⟩
  refine ⟨_, rfl, _, rfl, a, _, rfl, .inl hS, _, _, rfl, rfl, _, rfl, ?_⟩
  refine ite2 (fun c => ?_) (fun c => ?_)
  · have hk : k.toNat < ns.length := by
      have c' : k < (((ns.map V.int).length : Nat) : Int) := of_decide_eq_true c
      rw [List.length_map] at c'
      omega
    refine ⟨_, rfl, _, rfl, a, _, _, _, rfl, rfl, hS, at_of (j := k.toNat) (v := V.int ns[k.toNat]) (by omega) (by rw [List.getElem?_map, List.getElem?_eq_getElem hk]; rfl), ?_⟩
    refine ⟨_, rfl, 10, 18, rfl, rfl, ⟨by decide, by decide, by decide⟩, _, _, rfl, rfl, _, rfl, ?_⟩
    refine ite2 (fun c2 => ?_) (fun c2 => ?_)
    · refine ⟨_, rfl, 10, 18, rfl, rfl, ⟨by decide, by decide, by decide⟩, _, _, rfl, rfl, (by show 3 ≤ sizeLine; decide), fun p hp => ?_⟩
      exact fin p hp _ _ _ (by decide) (by decide)
    · refine ⟨_, rfl, _, rfl, _, _, rfl, rfl, .inl ⟨by decide, by decide⟩, (by show 3 ≤ sizeLine; decide), fun p hp => ?_⟩
      exact fin p hp _ _ _ (by omega) (by omega)
  · refine ⟨_, rfl, 10, 18, rfl, rfl, ⟨by decide, by decide, by decide⟩, _, _, rfl, rfl, _, rfl, ?_⟩
    refine ite2 (fun c2 => ?_) (fun c2 => ?_)
    · exact absurd (of_decide_eq_true c2) (by decide)
    · refine ⟨_, rfl, _, rfl, _, _, rfl, rfl, .inl ⟨by decide, by decide⟩, (by show 3 ≤ sizeLine; decide), fun p hp => ?_⟩
      exact fin p hp _ _ _ (by omega) (by omega)
theorem ok__law_take (T : Txt K mg) : FnOk P w K mg base CX0 1 T.f__law_take T.d__law_take ["pool", "many"] sp__law_take := by
  refine T.F__law_take.ok sc__law_take (fun vs H Q E h => ?_) (fun cdv A outer s H vs Q E hr h => ?_)
  · obtain ⟨p, m, n, rfl, _⟩ := h
    rfl
  obtain ⟨p, m, n, rfl, ⟨x, f, t, hp, ht0, ht1⟩, hn, hm0, hm1, q⟩ := h
  refine ⟨_, (pss_cons (ps_if (pt_cmpR op_eq (pe_ix ix_list (pv 0) pe_int (fun _ _ => rfl)) pe_int (nomark _)) (pss_cons (ps_set (i := 2) sc__law_take.nd rfl (Or.inl rfl) (pe_op op_mod (pe_ix ix_list (pv 0) pe_int (fun _ _ => rfl)) (pv 1))) (pss_cons (ps_asg (pe_op op_fdivW (pe_ix ix_list (pv 0) pe_int (fun _ _ => rfl)) (pv 1)) (pg_sub (pv 0) pe_int set_list)) (pss_one (ps_ret (pv 2))))) pss_nil) (pss_cons (ps_asg (pe_op op_add (pe_ix ix_list (pv 0) pe_int (fun _ _ => rfl)) pe_int) (pg_sub (pv 0) pe_int set_list)) (pss_cons (ps_set (i := 3) sc__law_take.nd rfl (Or.inl rfl) (pe_ix ix_list (pv 0) pe_int (fun _ _ => rfl))) (pss_cons (ps_set (i := 4) sc__law_take.nd rfl (Or.inl rfl) (pe_op op_mul (pe_op op_add (pe_op op_mod (pe_ix ix_list (pv 0) pe_int (fun _ _ => rfl)) pe_int) pe_int) (pe_op op_add (pe_op op_mul pe_int (pv 3)) pe_int))) (pss_cons (ps_set (i := 4) sc__law_take.nd rfl (Or.inl rfl) (pe_op op_add (pv 4) (pe_op op_mul (pe_op op_mul pe_int (pv 3)) (pv 3)))) (pss_cons (ps_set (i := 4) sc__law_take.nd rfl (Or.inl rfl) (pe_op op_mod (pe_op op_mul (pv 4) (pv 4)) pe_int)) (pss_one (ps_ret (pe_op op_mod (pe_op op_fdivW (pe_op op_mod (pe_op op_mul (pv 4) (pe_op op_add (pv 4) pe_int)) pe_int) pe_int) (pv 1)))))))))), ?_⟩
  have i0 : atI [V.int x, V.int f, V.int t] 0 = some (.int x) := atI_nat (j := 0) rfl
  have i1 : atI [V.int x, V.int f, V.int t] 1 = some (.int f) := atI_nat (j := 1) rfl
  have i2 : atI [V.int x, V.int f, V.int t] 2 = some (.int t) := atI_nat (j := 2) rfl
  refine ⟨_, rfl, p, _, 1, _, rfl, rfl, SqL.of hp, i1, rfl, _, rfl, ?_⟩
  refine ite2 (fun c => ?_) (fun c => ?_)
  · -- the digits
    refine ⟨_, rfl, p, _, 0, _, rfl, rfl, SqL.of hp, i0, _, rfl, x, m, rfl, rfl, hm0, ?_⟩
    refine ⟨_, rfl, p, _, 0, _, rfl, rfl, SqL.of hp, i0, _, rfl, x, m, rfl, rfl, divW hm0 hm1, ?_⟩
    refine ⟨_, rfl, p, _, 0, 0, rfl, rfl, hp, rfl, ?_⟩
    refine ⟨_, rfl, q _ _ (Int.emod_nonneg _ (by omega)) (Int.emod_lt_of_pos _ hm0) Chg.upd ⟨_, _, _, upd_same, ht0, by omega⟩⟩
  · -- mixed
    refine ⟨_, rfl, p, _, 2, _, rfl, rfl, SqL.of hp, i2, t, 1, rfl, rfl, ?_⟩
    refine ⟨_, rfl, p, _, 2, 2, rfl, rfl, hp, rfl, ?_⟩
    have hp' : (upd H p (.lst [V.int x, V.int f, V.int (t + 1)])) p = some (.lst [V.int x, V.int f, V.int (t + 1)]) := upd_same
    have j0 : atI [V.int x, V.int f, V.int (t + 1)] 0 = some (.int x) := atI_nat (j := 0) rfl
    have j2 : atI [V.int x, V.int f, V.int (t + 1)] 2 = some (.int (t + 1)) := atI_nat (j := 2) rfl
    refine ⟨_, rfl, p, _, 2, _, rfl, rfl, SqL.of hp', j2, ?_⟩
    have a0 : 0 ≤ x % 9999999557 := Int.emod_nonneg _ (by decide)
    have a1 : x % 9999999557 < 9999999557 := Int.emod_lt_of_pos _ (by decide)
    refine ⟨_, rfl, p, _, 0, _, rfl, rfl, SqL.of hp', j0, x, 9999999557, rfl, rfl, (by show (0 : Int) < 9999999557; decide), _, 1013, rfl, rfl, _, rfl, 41, t + 1, rfl, rfl, .inl ⟨by decide, by decide⟩, _, 71, rfl, rfl, _, _, rfl, rfl, .inl ⟨by omega, by omega⟩, ?_⟩
    have b1 := nn_mul (a := x % 9999999557 + 1013) (A := 10000000570) (b := 41 * (t + 1) + 71) (B := 41000112) (by omega) (by omega) (by omega) (by omega)
    obtain ⟨M, hM⟩ : ∃ M, (x % 9999999557 + 1013) * (41 * (t + 1) + 71) = M := ⟨_, rfl⟩
    rw [hM] at b1
    have b2 := nn_mul (a := 3571 * (t + 1)) (A := 3571000000) (b := t + 1) (B := 1000000) (by omega) (by omega) (by omega) (by omega)
    refine ⟨_, rfl, _, rfl, 3571, t + 1, rfl, rfl, .inl ⟨by decide, by decide⟩, _, rfl, _, t + 1, rfl, rfl, .inl ⟨by omega, by omega⟩, M, _, congrArg V.int hM, rfl, ?_⟩
    obtain ⟨M2, hM2⟩ : ∃ M2, M + 3571 * (t + 1) * (t + 1) = M2 := ⟨_, rfl⟩
    refine ⟨_, rfl, _, rfl, M2, M2, congrArg V.int hM2, congrArg V.int hM2, .inl ⟨by omega, by omega⟩, _, 99999999587, rfl, rfl, (by show (0 : Int) < 99999999587; decide), ?_⟩
    have d0 : 0 ≤ M2 * M2 % 99999999587 := Int.emod_nonneg _ (by decide)
    have d1 : M2 * M2 % 99999999587 < 99999999587 := Int.emod_lt_of_pos _ (by decide)
    obtain ⟨M3, hM3⟩ : ∃ M3, M2 * M2 % 99999999587 = M3 := ⟨_, rfl⟩
    rw [hM3] at d0 d1
    refine ⟨_, rfl, _, rfl, M3, 53, congrArg V.int hM3, rfl, M3, M3 + 53, congrArg V.int hM3, rfl, .inl ⟨by omega, by omega⟩, _, 99999999881, rfl, rfl, (by show (0 : Int) < 99999999881; decide), _, 103, rfl, rfl, divW (by decide) (by decide), _, rfl, _, m, rfl, rfl, hm0, ?_⟩
    exact q _ _ (Int.emod_nonneg _ (by omega)) (Int.emod_lt_of_pos _ hm0) Chg.upd ⟨_, _, _, upd_same, by omega, by omega⟩
end

theorem lay_ints : ∀ xs : List Int, PyData.canLayAll0 (xs.map PyData.int) = true
  | [] => by simp only [List.map_nil, PyData.canLayAll0]
  | x :: r => by simp only [List.map_cons, PyData.canLayAll0, PyData.canLay0, lay_ints r, Bool.and_self]
theorem dep_ints : ∀ xs : List Int, PyData.depthAll (xs.map PyData.int) ≤ 1
  | [] => by simp only [List.map_nil, PyData.depthAll]; omega
  | x :: r => by
    have := dep_ints r
    simp only [List.map_cons, PyData.depthAll, PyData.depth]
    omega
theorem shaped_ints (xs : List Int) : SeqAt.shaped (.list (xs.map PyData.int)) = true := by
  have a := lay_ints xs
  have b := dep_ints xs
  unfold SeqAt.shaped
  rw [Bool.and_eq_true]
  refine ⟨by simp only [PyData.canLay0]; exact a, decide_eq_true ?_⟩
  simp only [PyData.depth]
  omega
theorem dp_ints {K : PySem.W.Frag} {H : Hp} : ∀ xs : List Int, DpAll K H (xs.map V.int) (xs.map PyData.int)
  | [] => .nil
  | x :: r => .cons (.int x) (dp_ints r)
theorem dp_intsL {K : PySem.W.Frag} {H : Hp} {a : Addr} {xs : List Int} (h : SqL K H a (xs.map V.int)) : Dp K H (.ref a) (.list (xs.map PyData.int)) := .lst h (dp_ints xs)
theorem eqv_self {d : PyData} (h : SeqAt.shaped d = true) : PyData.eqv d d = true := SeqAt.eqv_refl d (SeqAt.canLay_of_shaped h)

def spLaw (K : PySem.W.Frag) : Sp := fun vs H Q _ => ∃ (a : Addr) (ns : List Int), vs = [.ref a] ∧ SqL K H a (ns.map V.int) ∧ ns.length ≤ 63 ∧ ∀ H', Q (.bl true) H'

def cls (n f t : Int) : Int := if n < f + t then n else f + (n - f) % t
theorem cls_low {n f t : Int} (h : n < f + t) : cls n f t = n := if_pos h
theorem cls_high {n f t : Int} (h : ¬ n < f + t) : cls n f t = f + (n - f) % t := if_neg h
theorem cls_rng {n f t : Int} (h0 : 0 ≤ n) (hf : 0 ≤ f) (ht : 0 < t) : 0 ≤ cls n f t ∧ cls n f t < f + t := by
  unfold cls
  split
  · omega
  · have a := Int.emod_nonneg (n - f) (show t ≠ 0 by omega)
    have b := Int.emod_lt_of_pos (n - f) ht
    omega
theorem cls_lo {n f t : Int} (h0 : f ≤ n) (ht : 0 < t) : f ≤ cls n f t := by
  unfold cls
  split
  · omega
  · have a := Int.emod_nonneg (n - f) (show t ≠ 0 by omega)
    omega
theorem cls_mod {n f t : Int} (h : f + t ≤ n) : (n - cls n f t) % t = 0 := by
  rw [cls_high (by omega)]
  have d := Int.emod_def (n - f) t
  have e : n - (f + (n - f) % t) = t * ((n - f) / t) := by omega
  rw [e]
  exact Int.mul_emod_right _ _
theorem cls_succ {n f t : Int} (h0 : 0 ≤ n) (hf : 0 ≤ f) (ht : 0 < t) : cls (n + 1) f t = if cls n f t + 1 = f + t then f else cls n f t + 1 := by
  by_cases h : n < f + t
  · rw [cls_low h]
    by_cases h1 : n + 1 = f + t
    · rw [if_pos h1, cls_high (by omega)]
      have e : n + 1 - f = t := by omega
      rw [e, Int.emod_self]
      omega
    · rw [if_neg h1, cls_low (by omega)]
  · have a := Int.emod_nonneg (n - f) (show t ≠ 0 by omega)
    have b := Int.emod_lt_of_pos (n - f) ht
    rw [cls_high h, cls_high (by omega)]
    have e : n + 1 - f = (n - f) + 1 := by omega
    rw [e]
    have e2 : ((n - f) + 1) % t = ((n - f) % t + 1) % t := by rw [Int.emod_add_emod]
    rw [e2]
    by_cases h1 : f + (n - f) % t + 1 = f + t
    · rw [if_pos h1]
      have e3 : (n - f) % t + 1 = t := by omega
      rw [e3, Int.emod_self]
      omega
    · rw [if_neg h1, Int.emod_eq_of_lt (by omega) (by omega)]
      omega
def sp_class_of : Sp := fun vs H Q _ => ∃ n f t : Int, vs = [.int n, .int f, .int t] ∧ 0 < t ∧ Q (.int (cls n f t)) H
def sp__law_gone : Sp := fun vs H Q _ => ∃ n f t : Int, vs = [.int n, .int f, .int t] ∧ 0 ≤ n ∧ n < 2 ^ 60 ∧ 0 ≤ f ∧ 0 < t ∧ Q (.int (cls n f t)) H
section
variable {P : Program} {w : World} {K : PySem.W.Frag} {mg : Str → Option Value} {base : Heap}
theorem ok_class_of (T : Txt K mg) : FnOk P w K mg base CX0 1 T.f_class_of T.d_class_of ["number", "few", "turn"] sp_class_of := by
  refine T.F_class_of.ok sc_class_of (fun vs H Q E h => ?_) (fun cdv A outer s H vs Q E hr h => ?_)
  · obtain ⟨_, _, _, rfl, _⟩ := h
    rfl
  obtain ⟨n, f, t, rfl, ht, q⟩ := h
  refine ⟨_, (pss_cons (ps_if (pt_cmpR op_lt (pv 0) (pe_op op_add (pv 1) (pv 2)) (nomark _)) (pss_one (ps_ret (pv 0))) pss_nil) (pss_one (ps_ret (pe_op op_add (pv 1) (pe_op op_mod (pe_op op_sub (pv 0) (pv 1)) (pv 2)))))), ?_⟩
  refine ⟨_, rfl, _, rfl, _, rfl, f, t, rfl, rfl, n, _, rfl, rfl, _, rfl, ?_⟩
  refine ite2 (fun c => ?_) (fun c => ?_)
  · have c' : n < f + t := of_decide_eq_true c
    rw [cls_low c'] at q
    exact ⟨_, rfl, q⟩
  · have c' : ¬ n < f + t := of_decide_eq_false (Bool.eq_false_iff.mpr c)
    rw [cls_high c'] at q
    exact ⟨_, rfl, _, rfl, _, rfl, n, f, rfl, rfl, _, rfl, _, t, rfl, rfl, ht, f, _, rfl, rfl, q⟩
theorem ok__law_gone (T : Txt K mg) : FnOk P w K mg base CX0 1 T.f__law_gone T.d__law_gone ["number", "few", "turn"] sp__law_gone := by
  refine T.F__law_gone.ok sc__law_gone (fun vs H Q E h => ?_) (fun cdv A outer s H vs Q E hr h => ?_)
  · obtain ⟨_, _, _, rfl, _⟩ := h
    rfl
  obtain ⟨n, f, t, rfl, h0, h1, hf, ht, q⟩ := h
  refine ⟨_, (pss_cons (ps_set (i := 3) sc__law_gone.nd rfl (Or.inl rfl) pe_int) (pss_cons (ps_for PassesOwn.never rfl (pi_range1 (by rfl) T.z_range (pa_cons (pv 0) pa_nil)) (pg_name (i := 4) sc__law_gone.nd rfl (Or.inl rfl)) (pss_cons (ps_set (i := 3) sc__law_gone.nd rfl (Or.inl rfl) (pe_op op_add (pv 3) pe_int)) (pss_one (ps_if (pt_cmpR op_eq (pv 3) (pe_op op_add (pv 1) (pv 2)) (nomark _)) (pss_one (ps_set (i := 3) sc__law_gone.nd rfl (Or.inl rfl) (pv 1))) pss_nil)))) (pss_one (ps_ret (pv 3))))), ?_⟩
  refine ⟨_, rfl, n, rfl, by omega, by omega, for_range (lo := 0) (n := n.toNat) (fun i σ H' => H' = H ∧ ∃ y, σ = [some (.int n), some (.int f), some (.int t), some (.int (cls i f t)), y]) ⟨rfl, _, by rw [cls_low (by omega)]; rfl⟩ ?_ ?_⟩
  · rintro i σ H' hi ⟨rfl, y, rfl⟩
    have g := cls_succ (n := (i : Int)) (f := f) (t := t) (by omega) hf ht
    refine ⟨_, rfl, _, 1, rfl, rfl, _, rfl, _, rfl, _, rfl, f, t, rfl, rfl, rfl, _, rfl, ?_⟩
    refine ite2 (fun c => ?_) (fun c => ?_)
    · have c' : cls i f t + 1 = f + t := V.int.inj (of_decide_eq_true c)
      rw [if_pos c'] at g
      exact ⟨_, rfl, rfl, _, by rw [show ((i + 1 : Nat) : Int) = (i : Int) + 1 by omega, g]; rfl⟩
    · have c' : ¬ cls i f t + 1 = f + t := fun e => c (decide_eq_true (congrArg V.int e))
      rw [if_neg c'] at g
      exact ⟨rfl, _, by rw [show ((i + 1 : Nat) : Int) = (i : Int) + 1 by omega, g]; rfl⟩
  · rintro σ H' ⟨rfl, y, rfl⟩
    rw [show ((n.toNat : Nat) : Int) = n by omega]
    exact ⟨_, rfl, q⟩
end
section
variable {P : Program} {w : World} {K : PySem.W.Frag} {mg : Str → Option Value} {base : Heap}
theorem ok_law (T : Txt K mg) : FnOk P w K mg base CX0 2 T.f_law T.d_law ["script"] (spLaw K) := by
  have G_class_of : FnOk P w K mg base CX0 1 T.f_class_of T.d_class_of ["number", "few", "turn"] sp_class_of := ok_class_of T
  have G__law_gone : FnOk P w K mg base CX0 1 T.f__law_gone T.d__law_gone ["number", "few", "turn"] sp__law_gone := ok__law_gone T
  have G__law_pool : FnOk P w K mg base CX0 1 T.f__law_pool T.d__law_pool ["script", "k"] (sp__law_pool K) := ok__law_pool T
  have G__law_take : FnOk P w K mg base CX0 1 T.f__law_take T.d__law_take ["pool", "many"] sp__law_take := ok__law_take T
  refine T.F_law.ok sc_law (fun vs H Q E h => ?_) (fun cdv A outer s H vs Q E hr h => ?_)
  · obtain ⟨a, ns, rfl, _⟩ := h
    rfl
  obtain ⟨a, ns, rfl, hS, h63, q⟩ := h
  refine ⟨_, (pss_cons (ps_for PassesOwn.never rfl (pi_range1 (by rfl) T.z_range (pa_cons (pe_callB (call_max2 rfl) (by rfl) T.z_max (by decide +kernel) (pa_cons pe_int (pa_cons (pe_callB (call_min2 rfl) (by rfl) T.z_min (by decide +kernel) (pa_cons pe_int (pa_cons (pe_callB call_len_seq (by rfl) T.z_len PySem.boot_len (pa_cons (pv 0) pa_nil)) pa_nil))) pa_nil))) pa_nil)) (pg_name (i := 1) sc_law.nd rfl (Or.inl rfl)) (pss_cons (ps_set (i := 2) sc_law.nd rfl (Or.inl rfl) (pe_call G__law_pool (hr.mono (by omega)) (by rfl) T.m__law_pool T.F__law_pool.kp T.b__law_pool .nil pass0 (pa_cons (pv 0) (pa_cons (pv 1) pa_nil)))) (pss_cons (ps_set (i := 3) sc_law.nd rfl (Or.inr rfl) (pe_call G__law_take (hr.mono (by omega)) (by rfl) T.m__law_take T.F__law_take.kp T.b__law_take .nil pass0 (pa_cons (pv 2) (pa_cons pe_int pa_nil)))) (pss_cons (ps_set (i := 4) sc_law.nd rfl (Or.inr rfl) (pe_op op_add pe_int (pe_call G__law_take (hr.mono (by omega)) (by rfl) T.m__law_take T.F__law_take.kp T.b__law_take .nil pass0 (pa_cons (pv 2) (pa_cons pe_int pa_nil))))) (pss_cons (ps_set (i := 5) sc_law.nd rfl (Or.inl rfl) (pe_call G__law_take (hr.mono (by omega)) (by rfl) T.m__law_take T.F__law_take.kp T.b__law_take .nil pass0 (pa_cons (pv 2) (pa_cons pe_int pa_nil)))) (pss_cons (ps_if (pt_cmpR op_ne (pe_call G_class_of (hr.mono (by omega)) (by rfl) T.m_class_of T.F_class_of.kp T.b_class_of .nil pass0 (pa_cons (pv 5) (pa_cons (pv 3) (pa_cons (pv 4) pa_nil)))) (pe_call G__law_gone (hr.mono (by omega)) (by rfl) T.m__law_gone T.F__law_gone.kp T.b__law_gone .nil pass0 (pa_cons (pv 5) (pa_cons (pv 3) (pa_cons (pv 4) pa_nil)))) (nomark _)) (pss_one (ps_ret pe_bl)) pss_nil) (pss_cons (ps_set (i := 6) sc_law.nd rfl (Or.inl rfl) (pe_op op_add (pe_op op_add pe_int (pe_op op_mul (pe_call G__law_take (hr.mono (by omega)) (by rfl) T.m__law_take T.F__law_take.kp T.b__law_take .nil pass0 (pa_cons (pv 2) (pa_cons (pe_op op_pow pe_int pe_int) pa_nil))) (pe_op op_pow pe_int pe_int))) (pe_call G__law_take (hr.mono (by omega)) (by rfl) T.m__law_take T.F__law_take.kp T.b__law_take .nil pass0 (pa_cons (pv 2) (pa_cons (pe_op op_pow pe_int pe_int) pa_nil))))) (pss_cons (ps_set (i := 7) sc_law.nd rfl (Or.inl rfl) (pe_call G_class_of (hr.mono (by omega)) (by rfl) T.m_class_of T.F_class_of.kp T.b_class_of .nil pass0 (pa_cons (pv 6) (pa_cons (pv 3) (pa_cons (pv 4) pa_nil))))) (pss_cons (ps_if (PW.pt (pw_or (pt_not (pt_val (pe_callB call_isi (by rfl) T.z_isinstance (by decide +kernel) (pa_cons (pv 7) (pa_cons (pe_bltn (v := .ty "int") (by rfl) T.z_int (by decide +kernel) rfl) pa_nil))))) (pw_or1 (pt_val (pe_callB call_isi (by rfl) T.z_isinstance (by decide +kernel) (pa_cons (pv 7) (pa_cons (pe_bltn (v := .ty "bool") (by rfl) T.z_bool (by decide +kernel) rfl) pa_nil))))))) (pss_one (ps_ret pe_bl)) pss_nil) (pss_one (ps_if (PW.pt (pw_or (pt_not (pt_chain op_le op_lt (pv 3) (pv 7) (pe_op op_add (pv 3) (pv 4)))) (pw_or1 (pt_cmpR op_ne (pe_op op_mod (pe_op op_sub (pv 6) (pv 7)) (pv 4)) pe_int (nomark _))))) (pss_one (ps_ret pe_bl)) pss_nil))))))))))) (pss_cons (ps_for PassesOwn.never rfl (pi_range1 (by rfl) T.z_range (pa_cons pe_int pa_nil)) (pg_name (i := 3) sc_law.nd rfl (Or.inr rfl)) (pss_one (ps_for PassesOwn.never rfl (pi_range2 (by rfl) T.z_range (pa_cons pe_int (pa_cons pe_int pa_nil))) (pg_name (i := 4) sc_law.nd rfl (Or.inr rfl)) (pss_cons (ps_setLc (i := 7) (own := [("number", 5)]) (g := gName 5) (tt := tYes) rfl sc_law.nd rfl rfl (sw_true rfl rfl rfl (by decide +kernel)) (pi_range1 (by rfl) T.z_range (pa_cons pe_int pa_nil)) (blkOk_by (own := [("number", 5)]) (N := ["script", "k", "pool", "few", "turn", "number", "far", "found"]) (sc := (defScope s_law)) (by decide +kernel)) (fun _ _ _ _ _ => (pg_name (i := 5) sc_law.nd rfl (Or.inl rfl))) (fun _ _ _ _ _ => pts_nil) (fun _ _ _ _ _ => (pe_call G_class_of (hr.mono (by omega)) (by rfl) T.m_class_of T.F_class_of.kp T.b_class_of .nil pass0 (pa_cons (pv 5) (pa_cons (pv 3) (pa_cons (pv 4) pa_nil)))))) (pss_one (ps_if (pt_cmpR (op_neD hr.units) (pv 7) (pe_lc (own := [("number", 5)]) (g := gName 5) (tt := tYes) rfl sc_law.nd (pi_range1 (by rfl) T.z_range (pa_cons pe_int pa_nil)) (blkOk_by (own := [("number", 5)]) (N := ["script", "k", "pool", "few", "turn", "number", "far", "found"]) (sc := (defScope s_law)) (by decide +kernel)) (fun _ _ _ _ _ => (pg_name (i := 5) sc_law.nd rfl (Or.inl rfl))) (fun _ _ _ _ _ => pts_nil) (fun _ _ _ _ _ => (pe_call G__law_gone (hr.mono (by omega)) (by rfl) T.m__law_gone T.F__law_gone.kp T.b__law_gone .nil pass0 (pa_cons (pv 5) (pa_cons (pv 3) (pa_cons (pv 4) pa_nil)))))) (nomark _)) (pss_one (ps_ret pe_bl)) pss_nil)))))) (pss_one (ps_ret pe_bl)))), ?_⟩
  have hl : (ns.map V.int).length = ns.length := List.length_map _
  obtain ⟨j, hj, hj0, hj1⟩ : ∃ j : Int, (if (if ((ns.map V.int).length : Int) < 30 then ((ns.map V.int).length : Int) else 30) > 1 then (if ((ns.map V.int).length : Int) < 30 then ((ns.map V.int).length : Int) else 30) else 1) = j ∧ 0 ≤ j ∧ j ≤ 30 := ⟨_, rfl, by split <;> split <;> omega, by split <;> split <;> omega⟩
  refine ⟨_, rfl, a, _, rfl, .inl hS, _, _, rfl, _, _, rfl, j, congrArg (fun z => [V.int z]) hj, by omega, by omega, for_range (lo := 0) (n := j.toNat) (fun i σ H' => (∃ y1 y2 y3 y4 y5 y6 y7, σ = [some (.ref a), y1, y2, y3, y4, y5, y6, y7]) ∧ SqL K H' a (ns.map V.int)) ⟨⟨_, _, _, _, _, _, _, rfl⟩, hS⟩ ?_ ?_⟩
  · rintro i σ H0 hi ⟨⟨y1, y2, y3, y4, y5, y6, y7, rfl⟩, hS0⟩
    refine ⟨_, rfl, _, rfl, a, ns, _, rfl, hS0, h63, by omega, by omega, fun p H1 hp c1 P1 => ?_⟩
    refine ⟨_, rfl, p, 5, 3000, rfl, P1, by decide, by decide, by decide, fun f H2 f0 f1 c2 P2 => ?_⟩
    refine ⟨_, rfl, p, 4, 3001, rfl, P2, by decide, by decide, by decide, fun t H3 t0 t1 c3 P3 => ⟨1, t, rfl, rfl, ?_⟩⟩
    refine ⟨_, rfl, p, 60, 3002, rfl, P3, by decide, by decide, by decide, fun n H4 n0 n1 c4 P4 => ?_⟩
    refine ⟨_, rfl, _, rfl, _, rfl, n, f, 1 + t, rfl, by omega, _, rfl, _, rfl, _, rfl, n, f, 1 + t, rfl, n0, by omega, f0, by omega, rfl, _, rfl, ?_⟩
    refine iteNS rfl ?_
    refine ⟨_, rfl, 10, 15, rfl, rfl, ⟨by decide, by decide, by decide⟩, p, _, 3003, rfl, P4, by decide, (by show (0 : Int) < 10 ^ 15; decide), (by show (10 : Int) ^ 15 < 2 ^ 60; decide), fun u H5 u0 u1 c5 P5 => ?_⟩
    refine ⟨10, 14, rfl, rfl, ⟨by decide, by decide, by decide⟩, u, _, rfl, rfl, .inr ⟨by decide, by decide⟩, 60, _, rfl, rfl, ?_⟩
    refine ⟨_, rfl, 10, 14, rfl, rfl, ⟨by decide, by decide, by decide⟩, p, _, 3004, rfl, P5, by decide, (by show (0 : Int) < 10 ^ 14; decide), (by show (10 : Int) ^ 14 < 2 ^ 60; decide), fun v H6 v0 v1 c6 P6 => ?_⟩
    obtain ⟨far, hfar, far0⟩ : ∃ far : Int, 60 + u * 10 ^ 14 + v = far ∧ 60 ≤ far := ⟨_, rfl, by omega⟩
    refine ⟨60 + u * 10 ^ 14, v, rfl, rfl, ?_⟩
    refine ⟨_, rfl, _, rfl, _, rfl, far, f, 1 + t, congrArg (fun z => [V.int z, V.int f, V.int (1 + t)]) hfar, by omega, ?_⟩
    refine ⟨_, rfl, _, _, _, _, true, rfl, .ty "int", .base (.int _), kit_ty (by decide +kernel), _, rfl, ?_⟩
    refine iteF ⟨_, rfl, _, _, _, _, false, rfl, .ty "bool", .base (.int _), kit_ty (by decide +kernel), _, rfl, ?_⟩
    refine iteF ?_
    have r1 := cls_rng (n := far) (f := f) (t := 1 + t) (by omega) f0 (by omega)
    have r2 := cls_lo (n := far) (f := f) (t := 1 + t) (by omega) (by omega)
    have r3 := cls_mod (n := far) (f := f) (t := 1 + t) (by omega)
    refine ⟨_, rfl, _, rfl, _, _, rfl, rfl, _, rfl, ?_⟩
    rw [if_pos (decide_eq_true r2)]
    refine ⟨_, rfl, _, rfl, f, 1 + t, rfl, rfl, _, _, rfl, rfl, _, rfl, ?_⟩
    have e2 : (!decide (cls far f (1 + t) < f + (1 + t))) = false := by rw [decide_eq_true r1.2]; rfl
    refine ite2 (fun c => by rw [e2] at c; cases c) (fun _ => ?_)
    refine ⟨_, rfl, _, rfl, far, cls far f (1 + t), congrArg V.int hfar, rfl, _, rfl, _, 1 + t, rfl, rfl, by omega, rfl, _, rfl, ?_⟩
    refine iteNS (congrArg V.int r3) ?_
    exact ⟨⟨_, _, _, _, _, _, _, rfl⟩, (((((c1.trans c2).trans c3).trans c4).trans c5).trans c6).seq hp hS0⟩
  · rintro σ H0 ⟨⟨y1, y2, y3, y4, y5, y6, y7, rfl⟩, hS0⟩
    refine ⟨5, rfl, by decide, by decide, for_range (lo := 0) (n := 5) (fun i σ H' => ∃ y1 y2 y3 y4 y5 y6 y7, σ = [some (.ref a), y1, y2, y3, y4, y5, y6, y7]) ⟨_, _, _, _, _, _, _, rfl⟩ ?_ ?_⟩
    · rintro i σ H1 hi ⟨y1, y2, y3, y4, y5, y6, y7, rfl⟩
      refine ⟨1, 5, rfl, by decide, for_range (lo := 1) (n := 4) (fun k σ H' => ∃ y1 y2 y4 y5 y6 y7, σ = [some (.ref a), y1, y2, some (.int (0 + i)), y4, y5, y6, y7]) ⟨_, _, _, _, _, _, rfl⟩ ?_ ?_⟩
      · rintro k σ H2 hk ⟨z1, z2, z4, z5, z6, z7, rfl⟩
        refine ⟨41, rfl, by decide, by decide, fun D hD => lc_range (lo := 0) (n := 41) (fun m H' => H' D = some (.lst (((List.range m).map fun x : Nat => cls x (0 + i) (1 + k)).map V.int))) upd_same ?_ ?_⟩
        · rintro m H3 hm h3
          refine ⟨rfl, _, rfl, _, rfl, _, rfl, _, _, _, rfl, by omega, ?_⟩
          refine ⟨_, h3, by rw [List.length_map, List.length_map, List.length_range]; exact small1000 (by omega), ?_⟩
          rw [upd_same, List.range_succ, List.map_append, List.map_append]
          show some (HO.lst (_ ++ [V.int (cls (0 + (m : Int)) _ _)])) = some (HO.lst (_ ++ [V.int (cls ((m : Nat) : Int) _ _)]))
          rw [Int.zero_add (m : Int)]
        · intro H3 h3
          refine ⟨_, rfl, 41, rfl, by decide, by decide, fun D2 hD2 => lc_range (lo := 0) (n := 41) (fun m H' => H' D = some (.lst (((List.range 41).map fun x : Nat => cls x (0 + i) (1 + k)).map V.int)) ∧ H' D2 = some (.lst (((List.range m).map fun x : Nat => cls x (0 + i) (1 + k)).map V.int))) ⟨by rw [upd_ne (ne_of_none h3 hD2)]; exact h3, upd_same⟩ ?_ ?_⟩
          · rintro m H4 hm ⟨h4, g4⟩
            have ne : D ≠ D2 := ne_of_none h3 hD2
            refine ⟨rfl, _, rfl, _, rfl, _, rfl, _, _, _, rfl, by omega, by omega, by omega, by omega, ?_⟩
            refine ⟨_, g4, by rw [List.length_map, List.length_map, List.length_range]; exact small1000 (by omega), by rw [upd_ne ne]; exact h4, ?_⟩
            rw [upd_same, List.range_succ, List.map_append, List.map_append]
            show some (HO.lst (_ ++ [V.int (cls (0 + (m : Int)) _ _)])) = some (HO.lst (_ ++ [V.int (cls ((m : Nat) : Int) _ _)]))
            rw [Int.zero_add (m : Int)]
          · rintro H4 ⟨h4, g4⟩
            refine ⟨_, _, dp_intsL (SqL.of h4), dp_intsL (SqL.of g4), shaped_ints _, shaped_ints _, _, rfl, ?_⟩
            rw [eqv_self (shaped_ints _)]
            refine iteF ?_
            exact ⟨_, _, _, _, _, _, rfl⟩
      · rintro σ H2 ⟨z1, z2, z4, z5, z6, z7, rfl⟩
        exact ⟨_, _, _, _, _, _, _, rfl⟩
    · rintro σ H1 ⟨y1, y2, y3, y4, y5, y6, y7, rfl⟩
      exact q _
end
theorem all_mk {l : PySem.W.OpenLaw} {w : World} {K : PySem.W.Frag} {h : Heap} {mg : Str → Option Value} {fa f0 f1 f2 f3 f4 : Addr} (X : K.In h) (G : h.Ns mainGlobals mg) (hfa : mg "law" = some (.ref fa))
    {od0 an0 od1 an1 od2 an2 od3 an3 od4 an4 : Option Addr} {sl0 sl1 sl2 sl3 sl4 : Array (Option Value)} {oc0 kV0 dc0 pm0 cd0 ct0 oc1 kV1 dc1 pm1 cd1 ct1 oc2 kV2 dc2 pm2 cd2 ct2 oc3 kV3 dc3 pm3 cd3 ct3 oc4 kV4 dc4 pm4 cd4 ct4 : Value}
    (a0 : PySem.W.nsIn K mainGlobals "class_of" = some (some (.ref f0))) (l0 : K.lookup f0 = some ⟨oc0, od0, .func (PySem.W.fnOf "class_of" "class_of" (defArgs s_class_of) (defBody s_class_of) (defScope s_class_of) .none kV0 dc0 pm0 an0 cd0 ct0), sl0⟩) (c0 : PySem.W.codeIn K cd0 "class_of" = true) (k0 : PySem.W.keepIn K (.ref f0) = true)
    (a1 : PySem.W.nsIn K mainGlobals "_law_pool" = some (some (.ref f1))) (l1 : K.lookup f1 = some ⟨oc1, od1, .func (PySem.W.fnOf "_law_pool" "_law_pool" (defArgs s__law_pool) (defBody s__law_pool) (defScope s__law_pool) .none kV1 dc1 pm1 an1 cd1 ct1), sl1⟩) (c1 : PySem.W.codeIn K cd1 "_law_pool" = true) (k1 : PySem.W.keepIn K (.ref f1) = true)
    (a2 : PySem.W.nsIn K mainGlobals "_law_take" = some (some (.ref f2))) (l2 : K.lookup f2 = some ⟨oc2, od2, .func (PySem.W.fnOf "_law_take" "_law_take" (defArgs s__law_take) (defBody s__law_take) (defScope s__law_take) .none kV2 dc2 pm2 an2 cd2 ct2), sl2⟩) (c2 : PySem.W.codeIn K cd2 "_law_take" = true) (k2 : PySem.W.keepIn K (.ref f2) = true)
    (a3 : PySem.W.nsIn K mainGlobals "_law_gone" = some (some (.ref f3))) (l3 : K.lookup f3 = some ⟨oc3, od3, .func (PySem.W.fnOf "_law_gone" "_law_gone" (defArgs s__law_gone) (defBody s__law_gone) (defScope s__law_gone) .none kV3 dc3 pm3 an3 cd3 ct3), sl3⟩) (c3 : PySem.W.codeIn K cd3 "_law_gone" = true) (k3 : PySem.W.keepIn K (.ref f3) = true)
    (a4 : PySem.W.nsIn K mainGlobals "law" = some (some (.ref f4))) (l4 : K.lookup f4 = some ⟨oc4, od4, .func (PySem.W.fnOf "law" "law" (defArgs s_law) (defBody s_law) (defScope s_law) .none kV4 dc4 pm4 an4 cd4 ct4), sl4⟩) (c4 : PySem.W.codeIn K cd4 "law" = true) (k4 : PySem.W.keepIn K (.ref f4) = true)
    (z_bool : PySem.W.nsIn K mainGlobals "bool" = some none)
    (z_int : PySem.W.nsIn K mainGlobals "int" = some none)
    (z_isinstance : PySem.W.nsIn K mainGlobals "isinstance" = some none)
    (z_len : PySem.W.nsIn K mainGlobals "len" = some none)
    (z_max : PySem.W.nsIn K mainGlobals "max" = some none)
    (z_min : PySem.W.nsIn K mainGlobals "min" = some none)
    (z_range : PySem.W.nsIn K mainGlobals "range" = some none)
    : ∃ fd : FuncData, (∀ (s : Shared) (v : Value), BindsTo s fd ⟨[v], []⟩ [("script", v)]) ∧ ∀ base : Heap, K.In base → base.Ns mainGlobals mg → FnOk l.prog w K mg base CX0 2 fa fd ["script"] (spLaw K) := by
  have e := hfa.symm.trans (PySem.W.mg_of X G a4)
  cases e
  have F0 := fun_mk (st := s_class_of) l0 c0 k0
  have b0 := F0.binds (ps := ["number", "few", "turn"]) fun _ _ _ _ _ _ us hl => match us, hl with | [_, _, _], _ => rfl
  have F1 := fun_mk (st := s__law_pool) l1 c1 k1
  have b1 := F1.binds (ps := ["script", "k"]) fun _ _ _ _ _ _ us hl => match us, hl with | [_, _], _ => rfl
  have F2 := fun_mk (st := s__law_take) l2 c2 k2
  have b2 := F2.binds (ps := ["pool", "many"]) fun _ _ _ _ _ _ us hl => match us, hl with | [_, _], _ => rfl
  have F3 := fun_mk (st := s__law_gone) l3 c3 k3
  have b3 := F3.binds (ps := ["number", "few", "turn"]) fun _ _ _ _ _ _ us hl => match us, hl with | [_, _, _], _ => rfl
  have F4 := fun_mk (st := s_law) l4 c4 k4
  have b4 := F4.binds (ps := ["script"]) fun _ _ _ _ _ _ us hl => match us, hl with | [_], _ => rfl
  let T : Txt K mg := ⟨f0, _, F0, b0, PySem.W.mg_of X G a0, f1, _, F1, b1, PySem.W.mg_of X G a1, f2, _, F2, b2, PySem.W.mg_of X G a2, f3, _, F3, b3, PySem.W.mg_of X G a3, fa, _, F4, b4, PySem.W.mg_of X G a4, PySem.W.mg_none_of X G z_bool, PySem.W.mg_none_of X G z_int, PySem.W.mg_none_of X G z_isinstance, PySem.W.mg_none_of X G z_len, PySem.W.mg_none_of X G z_max, PySem.W.mg_none_of X G z_min, PySem.W.mg_none_of X G z_range⟩
  exact ⟨PySem.W.fnOf "law" "law" (defArgs s_law) (defBody s_law) (defScope s_law) .none kV4 dc4 pm4 an4 cd4 ct4, fun s v => .of_eq rfl, fun base _ _ => ok_law T⟩
end My
open PySem PySem.W PyProof.Rows
set_option maxRecDepth 100000 in
set_option maxHeartbeats 0 in
theorem PySem.Challenge.cw_heaptrees_k09_classes_holds : PySem.Challenge.rw_heaptrees_k09_classes.Holds := by
  w_on; o_law; k_head; (case hw => w_witness2)
  k_fill
  refine L2.walk_of (l := PySem.Challenge.rw_heaptrees_k09_classes) (n := 63) (k := 2) (x := "script") (CX := fun _ => L2.CX0) (sp := fun w => My.spLaw _) rfl (by decide) rfl ⟨rfl, by decide, by decide⟩ (fun w h Y => PySem.W.kIn_of Y) ?F (fun _ _ a ns hl _ hS => ⟨a, ns, rfl, hS, hl, fun _ => rfl⟩) (fun _ _ _ _ _ h => h)
  case F =>
    intro w mg fa h KX G hmg
    refine' My.all_mk KX G hmg ?a0 ?l0 ?c0 ?k0 ?a1 ?l1 ?c1 ?k1 ?a2 ?l2 ?c2 ?k2 ?a3 ?l3 ?c3 ?k3 ?a4 ?l4 ?c4 ?k4 ?z_bool ?z_int ?z_isinstance ?z_len ?z_max ?z_min ?z_range
    (case a0 => k_is)
    (case l0 => k_is)
    (case c0 => k_is)
    (case k0 => k_is)
    (case a1 => k_is)
    (case l1 => k_is)
    (case c1 => k_is)
    (case k1 => k_is)
    (case a2 => k_is)
    (case l2 => k_is)
    (case c2 => k_is)
    (case k2 => k_is)
    (case a3 => k_is)
    (case l3 => k_is)
    (case c3 => k_is)
    (case k3 => k_is)
    (case a4 => k_is)
    (case l4 => k_is)
    (case c4 => k_is)
    (case k4 => k_is)
    (case z_bool => k_is)
    (case z_int => k_is)
    (case z_isinstance => k_is)
    (case z_len => k_is)
    (case z_max => k_is)
    (case z_min => k_is)
    (case z_range => k_is)
#print axioms PySem.Challenge.cw_heaptrees_k09_classes_holds
