import PyProof.Rows.All
import HandS.Strs
import HandS.Deep
import Wide.All
import OpenK.AllK
import Wide.FinOn
import HandS.ForMost
import HandS.Wide
import HandS.IsInst
import HandS.Exc
import HandS.ExcOwn
import HandS.ExcValue
import HandS.ExcIs
import HandS.TryOnly
import HandS.WordsExc
import HandS.Flow
import HandS.Style
import HandS.Codes
import HandS.Lambda
import HandS.Star
import HandS.Nested
import HandS.EndTab
import HandS.SortKw
import HandS.FStr
import HandS.NoneIn
import HandS.More
import HandS.Zip
import HandS.Conv
import HandS.TupAny
import HandS.RaiseMore
import HandS.Walk
import HandS.Iter
import HandS.Dict
import PyProof.StrLawsRepr
import KE.SortKeyHeap
import KE.SortData
import KE.DataFind
import KE.DataMinMax
import KE.KEqNest
import PyProof.Draws
import PyProof.EnumMake
import KE.KeyNested
import KE.KDictKeyed
import HandS.Steps
import HandS.SetFor
import HandS.DictEq
import HandS.DictTup
import HandS.DictComp
import KE.KMathGC
import HandS.Gcd
import HandS.Replace
import HandS.SortInts
import KE.GoesMore
import KE.GoesZip
import PySem.Challenge.RW_heaptrees_k60_alike_states
set_option Elab.async false
set_option linter.all false
set_option maxRecDepth 100000
set_option maxHeartbeats 4000000
namespace My
open PySem PySem.Spec PyProof.Rows L2
def topS (i : Nat) : Stmt := PySem.Challenge.pw_heaptrees_k60_alike_states.main.body.getD i (.Pass ⟨0, 0, 0, 0⟩)
abbrev s_class_of : Stmt := topS 1
theorem sc_class_of : FnScope ["number", "few", "turn"] ["number", "few", "turn"] (defScope s_class_of) := ⟨rfl, rfl, rfl, by decide +kernel, rfl, by decide +kernel, by decide +kernel⟩
abbrev s_classes_with : Stmt := topS 2
theorem sc_classes_with : FnScope ["judge", "row", "state", "number"] ["judge", "row", "state"] (defScope s_classes_with) := ⟨rfl, rfl, rfl, by decide +kernel, rfl, by decide +kernel, by decide +kernel⟩
abbrev s_states_that_come : Stmt := topS 4
theorem sc_states_that_come : FnScope ["judge", "row"] ["judge"] (defScope s_states_that_come) := ⟨rfl, rfl, rfl, by decide +kernel, rfl, by decide +kernel, by decide +kernel⟩
abbrev s__least_rows : Stmt := topS 5
theorem sc__least_rows : FnScope ["judge", "sizes", "rows", "row"] ["judge"] (defScope s__least_rows) := ⟨rfl, rfl, rfl, by decide +kernel, rfl, by decide +kernel, by decide +kernel⟩
abbrev s__next_least_row : Stmt := topS 6
theorem sc__next_least_row : FnScope ["judge", "sizes", "rows", "letter", "classes", "state"] ["judge", "sizes"] (defScope s__next_least_row) := ⟨rfl, rfl, rfl, by decide +kernel, rfl, by decide +kernel, by decide +kernel⟩
abbrev s__least_size : Stmt := topS 7
theorem sc__least_size : FnScope ["classes", "sizes", "state", "many"] ["classes", "sizes"] (defScope s__least_size) := ⟨rfl, rfl, rfl, by decide +kernel, rfl, by decide +kernel, by decide +kernel⟩
abbrev s_are_only_of : Stmt := topS 8
theorem sc_are_only_of : FnScope ["classes", "states", "state", "many"] ["classes", "states"] (defScope s_are_only_of) := ⟨rfl, rfl, rfl, by decide +kernel, rfl, by decide +kernel, by decide +kernel⟩
abbrev s__keys_that_come : Stmt := topS 10
theorem sc__keys_that_come : FnScope ["judge", "coming", "key"] ["judge"] (defScope s__keys_that_come) := ⟨rfl, rfl, rfl, by decide +kernel, rfl, by decide +kernel, by decide +kernel⟩
abbrev s__states_behind : Stmt := topS 11
theorem sc__states_behind : FnScope ["judge", "keys", "state", "letter", "row"] ["judge", "keys"] (defScope s__states_behind) := ⟨rfl, rfl, rfl, by decide +kernel, rfl, by decide +kernel, by decide +kernel⟩
abbrev s_alike_paper : Stmt := topS 12
theorem sc_alike_paper : FnScope ["judge", "behind", "groups", "finer", "state"] ["judge"] (defScope s_alike_paper) := ⟨rfl, rfl, rfl, by decide +kernel, rfl, by decide +kernel, by decide +kernel⟩
abbrev s__parted_behind : Stmt := topS 13
theorem sc__parted_behind : FnScope ["groups", "behind", "group_at", "state", "row", "one"] ["groups", "behind"] (defScope s__parted_behind) := ⟨rfl, rfl, rfl, by decide +kernel, rfl, by decide +kernel, by decide +kernel⟩
abbrev s__parted : Stmt := topS 14
theorem sc__parted : FnScope ["groups", "marks", "parts", "group", "mark", "state"] ["groups", "marks"] (defScope s__parted) := ⟨rfl, rfl, rfl, by decide +kernel, rfl, by decide +kernel, by decide +kernel⟩
abbrev s__each_once : Stmt := topS 15
theorem sc__each_once : FnScope ["row", "place", "thing"] ["row"] (defScope s__each_once) := ⟨rfl, rfl, rfl, by decide +kernel, rfl, by decide +kernel, by decide +kernel⟩
abbrev s__group_at : Stmt := topS 16
theorem sc__group_at : FnScope ["groups", "place", "group", "state"] ["groups"] (defScope s__group_at) := ⟨rfl, rfl, rfl, by decide +kernel, rfl, by decide +kernel, by decide +kernel⟩
abbrev s__law_draws : Stmt := topS 18
theorem sc__law_draws : FnScope ["script", "many", "drawn", "base", "k", "cell", "number", "one"] ["script", "many"] (defScope s__law_draws) := ⟨rfl, rfl, rfl, by decide +kernel, rfl, by decide +kernel, by decide +kernel⟩
abbrev s__law_rows : Stmt := topS 19
theorem sc__law_rows : FnScope ["states", "classes", "found", "k", "longer", "row", "one"] ["states", "classes"] (defScope s__law_rows) := ⟨rfl, rfl, rfl, by decide +kernel, rfl, by decide +kernel, by decide +kernel⟩
abbrev s__law_shape : Stmt := topS 20
theorem sc__law_shape : FnScope ["x", "some"] ["x"] (defScope s__law_shape) := ⟨rfl, rfl, rfl, by decide +kernel, rfl, by decide +kernel, by decide +kernel⟩
abbrev s__law_judge : Stmt := topS 21
theorem sc__law_judge : FnScope ["d", "spot", "letters", "states", "few", "turn", "way", "table", "letter", "row", "k", "x", "good", "one", "state"] ["d", "spot"] (defScope s__law_judge) := ⟨rfl, rfl, rfl, by decide +kernel, rfl, by decide +kernel, by decide +kernel⟩
abbrev s__law_laid : Stmt := topS 22
theorem sc__law_laid : FnScope ["judge", "x", "keys", "at", "key"] ["judge", "x"] (defScope s__law_laid) := ⟨rfl, rfl, rfl, by decide +kernel, rfl, by decide +kernel, by decide +kernel⟩
abbrev s__law_class : Stmt := topS 23
theorem sc__law_class : FnScope ["number", "few", "turn"] ["number", "few", "turn"] (defScope s__law_class) := ⟨rfl, rfl, rfl, by decide +kernel, rfl, by decide +kernel, by decide +kernel⟩
abbrev s__law_more : Stmt := topS 24
theorem sc__law_more : FnScope ["judge", "row", "state", "one"] ["judge", "row", "state"] (defScope s__law_more) := ⟨rfl, rfl, rfl, by decide +kernel, rfl, by decide +kernel, by decide +kernel⟩
abbrev s__law_steps : Stmt := topS 25
theorem sc__law_steps : FnScope ["judge", "coming", "found", "row", "there", "state", "letter"] ["judge", "coming"] (defScope s__law_steps) := ⟨rfl, rfl, rfl, by decide +kernel, rfl, by decide +kernel, by decide +kernel⟩
abbrev s__law_coming : Stmt := topS 26
theorem sc__law_coming : FnScope ["judge", "found", "k", "step"] ["judge"] (defScope s__law_coming) := ⟨rfl, rfl, rfl, by decide +kernel, rfl, by decide +kernel, by decide +kernel⟩
abbrev s__law_far : Stmt := topS 27
theorem sc__law_far : FnScope ["judge", "coming", "steps", "behind", "far", "state", "letter", "row", "other", "parts", "level", "pair", "ends", "both"] ["judge", "coming"] (defScope s__law_far) := ⟨rfl, rfl, rfl, by decide +kernel, rfl, by decide +kernel, by decide +kernel⟩
abbrev s__law_groups : Stmt := topS 28
theorem sc__law_groups : FnScope ["judge", "coming", "far", "found", "state", "some", "row"] ["judge", "coming"] (defScope s__law_groups) := ⟨rfl, rfl, rfl, by decide +kernel, rfl, by decide +kernel, by decide +kernel⟩
abbrev s__law_is_paper : Stmt := topS 29
theorem sc__law_is_paper : FnScope ["found", "due", "row", "one"] ["found", "due"] (defScope s__law_is_paper) := ⟨rfl, rfl, rfl, by decide +kernel, rfl, by decide +kernel, by decide +kernel⟩
abbrev s__law_chain : Stmt := topS 30
theorem sc__law_chain : FnScope ["table", "row"] [] (defScope s__law_chain) := ⟨rfl, rfl, rfl, by decide +kernel, rfl, by decide +kernel, by decide +kernel⟩
abbrev s_law : Stmt := topS 31
theorem sc_law : FnScope ["script", "d", "turn", "judge", "handed", "due", "found"] ["script"] (defScope s_law) := ⟨rfl, rfl, rfl, by decide +kernel, rfl, by decide +kernel, by decide +kernel⟩
structure Txt (K : PySem.W.Frag) (mg : Str → Option Value) where
  f_class_of : Addr
  d_class_of : FuncData
  F_class_of : Fun K "class_of" "class_of" s_class_of f_class_of d_class_of
  b_class_of : Binds K d_class_of ["number", "few", "turn"] []
  m_class_of : mg "class_of" = some (.ref f_class_of)
  f_classes_with : Addr
  d_classes_with : FuncData
  F_classes_with : Fun K "classes_with" "classes_with" s_classes_with f_classes_with d_classes_with
  b_classes_with : Binds K d_classes_with ["judge", "row", "state"] []
  m_classes_with : mg "classes_with" = some (.ref f_classes_with)
  f_states_that_come : Addr
  d_states_that_come : FuncData
  F_states_that_come : Fun K "states_that_come" "states_that_come" s_states_that_come f_states_that_come d_states_that_come
  b_states_that_come : Binds K d_states_that_come ["judge"] []
  m_states_that_come : mg "states_that_come" = some (.ref f_states_that_come)
  f__least_rows : Addr
  d__least_rows : FuncData
  F__least_rows : Fun K "_least_rows" "_least_rows" s__least_rows f__least_rows d__least_rows
  b__least_rows : Binds K d__least_rows ["judge"] []
  m__least_rows : mg "_least_rows" = some (.ref f__least_rows)
  f__next_least_row : Addr
  d__next_least_row : FuncData
  F__next_least_row : Fun K "_next_least_row" "_next_least_row" s__next_least_row f__next_least_row d__next_least_row
  b__next_least_row : Binds K d__next_least_row ["judge", "sizes"] []
  m__next_least_row : mg "_next_least_row" = some (.ref f__next_least_row)
  f__least_size : Addr
  d__least_size : FuncData
  F__least_size : Fun K "_least_size" "_least_size" s__least_size f__least_size d__least_size
  b__least_size : Binds K d__least_size ["classes", "sizes"] []
  m__least_size : mg "_least_size" = some (.ref f__least_size)
  f_are_only_of : Addr
  d_are_only_of : FuncData
  F_are_only_of : Fun K "are_only_of" "are_only_of" s_are_only_of f_are_only_of d_are_only_of
  b_are_only_of : Binds K d_are_only_of ["classes", "states"] []
  m_are_only_of : mg "are_only_of" = some (.ref f_are_only_of)
  f__keys_that_come : Addr
  d__keys_that_come : FuncData
  F__keys_that_come : Fun K "_keys_that_come" "_keys_that_come" s__keys_that_come f__keys_that_come d__keys_that_come
  b__keys_that_come : Binds K d__keys_that_come ["judge"] []
  m__keys_that_come : mg "_keys_that_come" = some (.ref f__keys_that_come)
  f__states_behind : Addr
  d__states_behind : FuncData
  F__states_behind : Fun K "_states_behind" "_states_behind" s__states_behind f__states_behind d__states_behind
  b__states_behind : Binds K d__states_behind ["judge", "keys"] []
  m__states_behind : mg "_states_behind" = some (.ref f__states_behind)
  f_alike_paper : Addr
  d_alike_paper : FuncData
  F_alike_paper : Fun K "alike_paper" "alike_paper" s_alike_paper f_alike_paper d_alike_paper
  b_alike_paper : Binds K d_alike_paper ["judge"] []
  m_alike_paper : mg "alike_paper" = some (.ref f_alike_paper)
  f__parted_behind : Addr
  d__parted_behind : FuncData
  F__parted_behind : Fun K "_parted_behind" "_parted_behind" s__parted_behind f__parted_behind d__parted_behind
  b__parted_behind : Binds K d__parted_behind ["groups", "behind"] []
  m__parted_behind : mg "_parted_behind" = some (.ref f__parted_behind)
  f__parted : Addr
  d__parted : FuncData
  F__parted : Fun K "_parted" "_parted" s__parted f__parted d__parted
  b__parted : Binds K d__parted ["groups", "marks"] []
  m__parted : mg "_parted" = some (.ref f__parted)
  f__each_once : Addr
  d__each_once : FuncData
  F__each_once : Fun K "_each_once" "_each_once" s__each_once f__each_once d__each_once
  b__each_once : Binds K d__each_once ["row"] []
  m__each_once : mg "_each_once" = some (.ref f__each_once)
  f__group_at : Addr
  d__group_at : FuncData
  F__group_at : Fun K "_group_at" "_group_at" s__group_at f__group_at d__group_at
  b__group_at : Binds K d__group_at ["groups"] []
  m__group_at : mg "_group_at" = some (.ref f__group_at)
  f__law_draws : Addr
  d__law_draws : FuncData
  F__law_draws : Fun K "_law_draws" "_law_draws" s__law_draws f__law_draws d__law_draws
  b__law_draws : Binds K d__law_draws ["script", "many"] []
  m__law_draws : mg "_law_draws" = some (.ref f__law_draws)
  f__law_rows : Addr
  d__law_rows : FuncData
  F__law_rows : Fun K "_law_rows" "_law_rows" s__law_rows f__law_rows d__law_rows
  b__law_rows : Binds K d__law_rows ["states", "classes"] []
  m__law_rows : mg "_law_rows" = some (.ref f__law_rows)
  f__law_shape : Addr
  d__law_shape : FuncData
  F__law_shape : Fun K "_law_shape" "_law_shape" s__law_shape f__law_shape d__law_shape
  b__law_shape : Binds K d__law_shape ["x"] []
  m__law_shape : mg "_law_shape" = some (.ref f__law_shape)
  f__law_judge : Addr
  d__law_judge : FuncData
  F__law_judge : Fun K "_law_judge" "_law_judge" s__law_judge f__law_judge d__law_judge
  b__law_judge : Binds K d__law_judge ["d", "spot"] []
  m__law_judge : mg "_law_judge" = some (.ref f__law_judge)
  f__law_laid : Addr
  d__law_laid : FuncData
  F__law_laid : Fun K "_law_laid" "_law_laid" s__law_laid f__law_laid d__law_laid
  b__law_laid : Binds K d__law_laid ["judge", "x"] []
  m__law_laid : mg "_law_laid" = some (.ref f__law_laid)
  f__law_class : Addr
  d__law_class : FuncData
  F__law_class : Fun K "_law_class" "_law_class" s__law_class f__law_class d__law_class
  b__law_class : Binds K d__law_class ["number", "few", "turn"] []
  m__law_class : mg "_law_class" = some (.ref f__law_class)
  f__law_more : Addr
  d__law_more : FuncData
  F__law_more : Fun K "_law_more" "_law_more" s__law_more f__law_more d__law_more
  b__law_more : Binds K d__law_more ["judge", "row", "state"] []
  m__law_more : mg "_law_more" = some (.ref f__law_more)
  f__law_steps : Addr
  d__law_steps : FuncData
  F__law_steps : Fun K "_law_steps" "_law_steps" s__law_steps f__law_steps d__law_steps
  b__law_steps : Binds K d__law_steps ["judge", "coming"] []
  m__law_steps : mg "_law_steps" = some (.ref f__law_steps)
  f__law_coming : Addr
  d__law_coming : FuncData
  F__law_coming : Fun K "_law_coming" "_law_coming" s__law_coming f__law_coming d__law_coming
  b__law_coming : Binds K d__law_coming ["judge"] []
  m__law_coming : mg "_law_coming" = some (.ref f__law_coming)
  f__law_far : Addr
  d__law_far : FuncData
  F__law_far : Fun K "_law_far" "_law_far" s__law_far f__law_far d__law_far
  b__law_far : Binds K d__law_far ["judge", "coming"] []
  m__law_far : mg "_law_far" = some (.ref f__law_far)
  f__law_groups : Addr
  d__law_groups : FuncData
  F__law_groups : Fun K "_law_groups" "_law_groups" s__law_groups f__law_groups d__law_groups
  b__law_groups : Binds K d__law_groups ["judge", "coming"] []
  m__law_groups : mg "_law_groups" = some (.ref f__law_groups)
  f__law_is_paper : Addr
  d__law_is_paper : FuncData
  F__law_is_paper : Fun K "_law_is_paper" "_law_is_paper" s__law_is_paper f__law_is_paper d__law_is_paper
  b__law_is_paper : Binds K d__law_is_paper ["found", "due"] []
  m__law_is_paper : mg "_law_is_paper" = some (.ref f__law_is_paper)
  f__law_chain : Addr
  d__law_chain : FuncData
  F__law_chain : Fun K "_law_chain" "_law_chain" s__law_chain f__law_chain d__law_chain
  b__law_chain : Binds K d__law_chain [] []
  m__law_chain : mg "_law_chain" = some (.ref f__law_chain)
  f_law : Addr
  d_law : FuncData
  F_law : Fun K "law" "law" s_law f_law d_law
  b_law : Binds K d_law ["script"] []
  m_law : mg "law" = some (.ref f_law)
  z_abs : mg "abs" = none
  z_all : mg "all" = none
  z_bool : mg "bool" = none
  z_dict : mg "dict" = none
  z_enumerate : mg "enumerate" = none
  z_int : mg "int" = none
  z_isinstance : mg "isinstance" = none
  z_len : mg "len" = none
  z_list : mg "list" = none
  z_max : mg "max" = none
  z_min : mg "min" = none
  z_range : mg "range" = none
  z_set : mg "set" = none
  z_sorted : mg "sorted" = none
  z_sum : mg "sum" = none
  z_zip : mg "zip" = none
local macro_rules | `(tactic| walk_at "my rd") => `(tactic| repeat (first | refine ⟨_, rfl, ?_⟩ | refine ⟨_, _, rfl, rfl, ?_⟩ | refine ⟨rfl, ?_⟩))
local macro_rules | `(tactic| walk_at "my one") => `(tactic| first | refine ⟨_, rfl, ?_⟩ | refine ⟨_, _, rfl, rfl, ?_⟩ | refine ⟨rfl, ?_⟩)
def Chg (p : Addr) (H H' : Hp) : Prop := ∀ b, b ≠ p → H' b = H b
theorem Chg.refl (p : Addr) (H : Hp) : Chg p H H := fun _ _ => rfl
theorem Chg.trans {p : Addr} {H H1 H2 : Hp} (a : Chg p H H1) (b : Chg p H1 H2) : Chg p H H2 := fun c hc => (b c hc).trans (a c hc)
theorem Chg.upd {p : Addr} {H : Hp} {o : HO} : Chg p H (upd H p o) := fun _ h => upd_ne h
theorem Chg.at {p b : Addr} {H H' : Hp} {o : HO} (c : Chg p H H') (h : H b = some o) (n : b ≠ p) : H' b = some o := (c b n).trans h
theorem Chg.seq {K : PySem.W.Frag} {p a : Addr} {H H' : Hp} {xs : List V} (c : Chg p H H') (hp : H p = none) (h : SqL K H a xs) : SqL K H' a xs := by
  rcases h with (h | ⟨o, h⟩) | h
  · exact .inl (.inl (c.at h (ne_of_none h hp)))
  · exact .inl (.inr ⟨o, c.at h (ne_of_none h hp)⟩)
  · exact .inr h
theorem same_new {H : Hp} {p : Addr} {o : HO} (h : H p = none) : Same H (upd H p o) := fun b u q => by rw [upd_ne (ne_of_none q h)]; exact q
theorem nn_mul {a b A B : Int} (h0 : 0 ≤ a) (h1 : a ≤ A) (g0 : 0 ≤ b) (g1 : b ≤ B) : 0 ≤ a * b ∧ a * b ≤ A * B :=
  ⟨Int.mul_nonneg h0 g0, Int.mul_le_mul h1 g1 g0 (Int.le_trans h0 h1)⟩
theorem divW {i j : Int} (h : 0 < j) (h2 : j < 2 ^ 60) : CDivW i j := wide_div (b := 60) h (by omega) (by decide) (by decide)

theorem lay_ints : ∀ xs : List Int, PyData.canLayAll0 (xs.map PyData.int) = true
  | [] => by simp only [List.map_nil, PyData.canLayAll0]
  | x :: r => by simp only [List.map_cons, PyData.canLayAll0, PyData.canLay0, lay_ints r, Bool.and_self]
theorem dep_ints : ∀ xs : List Int, PyData.depthAll (xs.map PyData.int) ≤ 1
  | [] => by simp only [List.map_nil, PyData.depthAll]; omega
  | x :: r => by
    have := dep_ints r
    simp only [List.map_cons, PyData.depthAll, PyData.depth]
    omega
theorem shaped_ints (xs : List Int) : SeqAt.shaped (.list (xs.map PyData.int)) = true := by
  have a := lay_ints xs
  have b := dep_ints xs
  unfold SeqAt.shaped
  rw [Bool.and_eq_true]
  refine ⟨by simp only [PyData.canLay0]; exact a, decide_eq_true ?_⟩
  simp only [PyData.depth]
  omega
theorem dp_ints {K : PySem.W.Frag} {H : Hp} : ∀ xs : List Int, DpAll K H (xs.map V.int) (xs.map PyData.int)
  | [] => .nil
  | x :: r => .cons (.int x) (dp_ints r)
theorem dp_intsL {K : PySem.W.Frag} {H : Hp} {a : Addr} {xs : List Int} (h : SqL K H a (xs.map V.int)) : Dp K H (.ref a) (.list (xs.map PyData.int)) := .lst h (dp_ints xs)
theorem eqv_self {d : PyData} (h : SeqAt.shaped d = true) : PyData.eqv d d = true := SeqAt.eqv_refl d (SeqAt.canLay_of_shaped h)

inductive Tr where
  | node (c : Nat) (ks : List Tr)
def ch (c : Nat) : Str := ⟨#[c]⟩
mutual
def Tr.size : Tr → Nat
  | .node _ ks => 1 + sizes ks
def sizes : List Tr → Nat
  | [] => 0
  | t :: r => t.size + sizes r
end
mutual
def Tr.depth : Tr → Nat
  | .node _ ks => 1 + depths ks
def depths : List Tr → Nat
  | [] => 0
  | t :: r => max t.depth (depths r)
end
mutual
def Tr.post : Tr → List Tr
  | .node c ks => posts ks ++ [.node c ks]
def posts : List Tr → List Tr
  | [] => []
  | t :: r => t.post ++ posts r
end

mutual
def Tr.lets (p : Nat → Prop) : Tr → Prop
  | .node c ks => p c ∧ letss p ks
def letss (p : Nat → Prop) : List Tr → Prop
  | [] => True
  | t :: r => t.lets p ∧ letss p r
end
def Tr.kids : Tr → List Tr
  | .node _ ks => ks
def Tr.top : Tr → Nat
  | .node c _ => c
theorem sizes_append : ∀ a b : List Tr, sizes (a ++ b) = sizes a + sizes b
  | [], b => by simp only [List.nil_append, sizes]; omega
  | t :: r, b => by simp only [List.cons_append, sizes, sizes_append r b]; omega
theorem depths_append : ∀ a b : List Tr, depths (a ++ b) = max (depths a) (depths b)
  | [], b => by simp only [List.nil_append, depths]; omega
  | t :: r, b => by simp only [List.cons_append, depths, depths_append r b]; omega
theorem posts_append : ∀ a b : List Tr, posts (a ++ b) = posts a ++ posts b
  | [], b => by simp only [List.nil_append, posts]
  | t :: r, b => by simp only [List.cons_append, posts, posts_append r b, List.append_assoc]
theorem letss_append (p : Nat → Prop) : ∀ a b : List Tr, letss p (a ++ b) ↔ letss p a ∧ letss p b
  | [], b => by simp only [List.nil_append, letss, true_and]
  | t :: r, b => by simp only [List.cons_append, letss, letss_append p r b, and_assoc]
theorem size_pos : ∀ t : Tr, 1 ≤ t.size
  | .node c ks => by simp only [Tr.size]; omega
theorem len_sizes : ∀ ts : List Tr, ts.length ≤ sizes ts
  | [] => Nat.le_refl _
  | t :: r => by
    have a := size_pos t
    have b := len_sizes r
    simp only [List.length_cons, sizes]
    omega
mutual
theorem post_len : ∀ t : Tr, t.post.length = t.size
  | .node c ks => by simp only [Tr.post, List.length_append, posts_len ks, List.length_singleton, Tr.size]; omega
theorem posts_len : ∀ ts : List Tr, (posts ts).length = sizes ts
  | [] => rfl
  | t :: r => by simp only [posts, List.length_append, post_len t, posts_len r, sizes]
end
theorem sizes_mem : ∀ {ts : List Tr} {t : Tr}, t ∈ ts → t.size ≤ sizes ts
  | u :: r, t, h => by
    rcases List.mem_cons.mp h with e | h
    · subst e; simp only [sizes]; omega
    · have := sizes_mem h
      simp only [sizes]; omega
theorem depths_mem : ∀ {ts : List Tr} {t : Tr}, t ∈ ts → t.depth ≤ depths ts
  | u :: r, t, h => by
    rcases List.mem_cons.mp h with e | h
    · subst e; simp only [depths]; omega
    · have := depths_mem h
      simp only [depths]; omega
theorem letss_mem {p : Nat → Prop} : ∀ {ts : List Tr} {t : Tr}, letss p ts → t ∈ ts → t.lets p
  | u :: r, t, hl, h => by
    simp only [letss] at hl
    rcases List.mem_cons.mp h with e | h
    · subst e; exact hl.1
    · exact letss_mem hl.2 h
mutual
theorem lets_mono {p q : Nat → Prop} (h : ∀ c, p c → q c) : ∀ t : Tr, t.lets p → t.lets q
  | .node c ks, a => by
    simp only [Tr.lets] at a ⊢
    exact ⟨h _ a.1, letss_mono h ks a.2⟩
theorem letss_mono {p q : Nat → Prop} (h : ∀ c, p c → q c) : ∀ ts : List Tr, letss p ts → letss q ts
  | [], _ => trivial
  | t :: r, a => by
    simp only [letss] at a ⊢
    exact ⟨lets_mono h t a.1, letss_mono h r a.2⟩
end
mutual
inductive TrAt (ok : Addr → Prop) (H : Hp) : V → Tr → Prop
  | node {a l : Addr} {vs : List V} {c : Nat} {ks : List Tr} : H a = some (.tup [.str (ch c), .ref l]) → H l = some (.lst vs) → ok a → ok l → 97 ≤ c → c ≤ 122 → TrsAt ok H vs ks → TrAt ok H (.ref a) (.node c ks)
inductive TrsAt (ok : Addr → Prop) (H : Hp) : List V → List Tr → Prop
  | nil : TrsAt ok H [] []
  | cons {v : V} {vs : List V} {t : Tr} {ts : List Tr} : TrAt ok H v t → TrsAt ok H vs ts → TrsAt ok H (v :: vs) (t :: ts)
end
section
variable {ok ok' : Addr → Prop} {H H' : Hp}
mutual
theorem TrAt.imp (hk : ∀ b, ok b → ok' b) (h : ∀ b o, ok b → H b = some o → H' b = some o) : ∀ (t : Tr) (v : V), TrAt ok H v t → TrAt ok' H' v t
  | .node c ks, v, x => by
    cases x with
    | node h1 h2 k1 k2 c1 c2 r => exact .node (h _ _ k1 h1) (h _ _ k2 h2) (hk _ k1) (hk _ k2) c1 c2 (TrsAt.imp hk h ks _ r)
theorem TrsAt.imp (hk : ∀ b, ok b → ok' b) (h : ∀ b o, ok b → H b = some o → H' b = some o) : ∀ (ts : List Tr) (vs : List V), TrsAt ok H vs ts → TrsAt ok' H' vs ts
  | [], _, x => by cases x; exact .nil
  | t :: r, _, x => by
    cases x with
    | cons a b => exact .cons (TrAt.imp hk h t _ a) (TrsAt.imp hk h r _ b)
end
theorem TrAt.keep {v : V} {t : Tr} (x : TrAt ok H v t) (h : ∀ b o, ok b → H b = some o → H' b = some o) : TrAt ok H' v t := TrAt.imp (fun _ k => k) h t v x
theorem TrsAt.keep {vs : List V} {ts : List Tr} (x : TrsAt ok H vs ts) (h : ∀ b o, ok b → H b = some o → H' b = some o) : TrsAt ok H' vs ts := TrsAt.imp (fun _ k => k) h ts vs x
theorem TrAt.weak {v : V} {t : Tr} (x : TrAt ok H v t) (h : ∀ b, ok b → ok' b) : TrAt ok' H v t := TrAt.imp h (fun _ _ _ e => e) t v x
theorem TrsAt.weak {vs : List V} {ts : List Tr} (x : TrsAt ok H vs ts) (h : ∀ b, ok b → ok' b) : TrsAt ok' H vs ts := TrsAt.imp h (fun _ _ _ e => e) ts vs x
mutual
theorem TrAt.there : ∀ (t : Tr) (v : V), TrAt ok H v t → TrAt (fun b => ok b ∧ ∃ o, H b = some o) H v t
  | .node c ks, v, x => by
    cases x with
    | node h1 h2 k1 k2 c1 c2 r => exact .node h1 h2 ⟨k1, _, h1⟩ ⟨k2, _, h2⟩ c1 c2 (TrsAt.there ks _ r)
theorem TrsAt.there : ∀ (ts : List Tr) (vs : List V), TrsAt ok H vs ts → TrsAt (fun b => ok b ∧ ∃ o, H b = some o) H vs ts
  | [], _, x => by cases x; exact .nil
  | t :: r, _, x => by
    cases x with
    | cons a b => exact .cons (TrAt.there t _ a) (TrsAt.there r _ b)
end
theorem TrsAt.len : ∀ {vs : List V} {ts : List Tr}, TrsAt ok H vs ts → vs.length = ts.length
  | [], [], _ => rfl
  | v :: vs, t :: ts, h => by
    cases h with
    | cons a b => simp only [List.length_cons, TrsAt.len b]
  | [], _ :: _, h => by cases h
  | _ :: _, [], h => by cases h
theorem TrsAt.get : ∀ {vs : List V} {ts : List Tr} {i : Nat} {t : Tr}, TrsAt ok H vs ts → ts[i]? = some t → ∃ v, vs[i]? = some v ∧ TrAt ok H v t
  | _, _, i, t, .nil, e => by simp at e
  | _, _, 0, t, .cons a _, e => by simp at e; subst e; exact ⟨_, rfl, a⟩
  | _, _, i + 1, t, .cons _ b, e => by
    obtain ⟨v, h1, h2⟩ := TrsAt.get (i := i) (t := t) b (by simpa using e)
    exact ⟨v, by simpa using h1, h2⟩
theorem TrsAt.getV : ∀ {vs : List V} {ts : List Tr} {i : Nat} {v : V}, TrsAt ok H vs ts → vs[i]? = some v → ∃ t, ts[i]? = some t ∧ TrAt ok H v t
  | _, _, i, t, .nil, e => by simp at e
  | _, _, 0, t, .cons a _, e => by simp at e; subst e; exact ⟨_, rfl, a⟩
  | _, _, i + 1, t, .cons _ b, e => by
    obtain ⟨v, h1, h2⟩ := TrsAt.getV (i := i) (v := t) b (by simpa using e)
    exact ⟨v, by simpa using h1, h2⟩
theorem TrsAt.append : ∀ {vs ws : List V} {ts us : List Tr}, TrsAt ok H vs ts → TrsAt ok H ws us → TrsAt ok H (vs ++ ws) (ts ++ us)
  | [], _, [], _, _, h => h
  | v :: vs, _, t :: ts, _, h, g => by
    cases h with
    | cons a b => exact .cons a (TrsAt.append b g)
  | [], _, _ :: _, _, h, _ => by cases h
  | _ :: _, _, [], _, h, _ => by cases h
theorem TrsAt.split : ∀ {vs ws : List V} {ts : List Tr}, TrsAt ok H (vs ++ ws) ts → ∃ a b, ts = a ++ b ∧ TrsAt ok H vs a ∧ TrsAt ok H ws b
  | [], ws, ts, h => ⟨[], ts, rfl, .nil, h⟩
  | v :: vs, ws, _, h => by
    cases h with
    | cons x y =>
      obtain ⟨a, b, e, h1, h2⟩ := TrsAt.split y
      exact ⟨_ :: a, b, by rw [e]; rfl, .cons x h1, h2⟩
theorem TrsAt.perm {vs ws : List V} (p : vs.Perm ws) : ∀ {ts : List Tr}, TrsAt ok H vs ts → ∃ us, ts.Perm us ∧ TrsAt ok H ws us := by
  induction p with
  | nil => intro ts h; exact ⟨ts, .refl _, h⟩
  | cons x _ ih =>
    intro ts h
    cases h with
    | cons a b =>
      obtain ⟨us, p1, h1⟩ := ih b
      exact ⟨_ :: us, p1.cons _, .cons a h1⟩
  | swap x y l =>
    intro ts h
    cases h with
    | cons a b =>
      cases b with
      | cons c d => exact ⟨_, .swap _ _ _, .cons c (.cons a d)⟩
  | trans _ _ ih1 ih2 =>
    intro ts h
    obtain ⟨us, p1, h1⟩ := ih1 h
    obtain ⟨ws, p2, h2⟩ := ih2 h1
    exact ⟨ws, p1.trans p2, h2⟩
theorem TrsAt.rev {vs : List V} {ts : List Tr} (h : TrsAt ok H vs ts) : TrsAt ok H vs.reverse ts.reverse := by
  induction vs generalizing ts with
  | nil => cases h; exact .nil
  | cons v vs ih =>
    cases h with
    | cons a b =>
      rw [List.reverse_cons, List.reverse_cons]
      exact (ih b).append (.cons a .nil)
end
theorem sizes_perm {a b : List Tr} (p : a.Perm b) : sizes a = sizes b := by
  induction p with
  | nil => rfl
  | cons x _ ih => simp only [sizes, ih]
  | swap x y l => simp only [sizes]; omega
  | trans _ _ ih1 ih2 => exact ih1.trans ih2
theorem depths_perm {a b : List Tr} (p : a.Perm b) : depths a = depths b := by
  induction p with
  | nil => rfl
  | cons x _ ih => simp only [depths, ih]
  | swap x y l => simp only [depths]; omega
  | trans _ _ ih1 ih2 => exact ih1.trans ih2
theorem letss_perm {p : Nat → Prop} {a b : List Tr} (h : a.Perm b) : letss p a → letss p b := by
  induction h with
  | nil => exact id
  | cons x _ ih =>
    intro q
    simp only [letss] at q ⊢
    exact ⟨q.1, ih q.2⟩
  | swap x y l =>
    intro q
    simp only [letss] at q ⊢
    exact ⟨q.2.1, q.1, q.2.2⟩
  | trans _ _ ih1 ih2 => exact fun q => ih2 (ih1 q)
mutual
inductive Sh : Tr → Tr → Prop
  | node {c : Nat} {ks us ls : List Tr} : ks.Perm us → Shs us ls → Sh (.node c ks) (.node c ls)
inductive Shs : List Tr → List Tr → Prop
  | nil : Shs [] []
  | cons {t u : Tr} {ts us : List Tr} : Sh t u → Shs ts us → Shs (t :: ts) (u :: us)
end
mutual
theorem Sh.refl : ∀ t : Tr, Sh t t
  | .node c ks => .node (.refl _) (Shs.refl ks)
theorem Shs.refl : ∀ ts : List Tr, Shs ts ts
  | [] => .nil
  | t :: r => .cons (Sh.refl t) (Shs.refl r)
end
mutual
theorem Sh.size : ∀ {t u : Tr}, Sh t u → t.size = u.size
  | _, _, .node p h => by simp only [Tr.size, sizes_perm p, Shs.sizes h]
theorem Shs.sizes : ∀ {ts us : List Tr}, Shs ts us → My.sizes ts = My.sizes us
  | _, _, .nil => rfl
  | _, _, .cons a b => by simp only [My.sizes, Sh.size a, Shs.sizes b]
end
mutual
theorem Sh.depth : ∀ {t u : Tr}, Sh t u → t.depth = u.depth
  | _, _, .node p h => by simp only [Tr.depth, depths_perm p, Shs.depths h]
theorem Shs.depths : ∀ {ts us : List Tr}, Shs ts us → My.depths ts = My.depths us
  | _, _, .nil => rfl
  | _, _, .cons a b => by simp only [My.depths, Sh.depth a, Shs.depths b]
end
mutual
theorem Sh.lets {p : Nat → Prop} : ∀ {t u : Tr}, Sh t u → t.lets p → u.lets p
  | _, _, .node q h, a => by
    simp only [Tr.lets] at a ⊢
    exact ⟨a.1, Shs.letss h (letss_perm q a.2)⟩
theorem Shs.letss {p : Nat → Prop} : ∀ {ts us : List Tr}, Shs ts us → My.letss p ts → My.letss p us
  | _, _, .nil, a => a
  | _, _, .cons x y, a => by
    simp only [My.letss] at a ⊢
    exact ⟨Sh.lets x a.1, Shs.letss y a.2⟩
end
theorem Shs.len : ∀ {ts us : List Tr}, Shs ts us → ts.length = us.length
  | _, _, .nil => rfl
  | _, _, .cons a b => by simp only [List.length_cons, Shs.len b]
theorem Shs.append : ∀ {ts us ts' us' : List Tr}, Shs ts us → Shs ts' us' → Shs (ts ++ ts') (us ++ us')
  | _, _, _, _, .nil, h => h
  | _, _, _, _, .cons a b, h => .cons a (Shs.append b h)

def Fr (p : Addr) (H H' : Hp) : Prop := ∀ b o, b ≠ p → H b = some o → H' b = some o
theorem Fr.refl (p : Addr) (H : Hp) : Fr p H H := fun _ _ _ h => h
theorem Fr.trans {p : Addr} {H H1 H2 : Hp} (a : Fr p H H1) (b : Fr p H1 H2) : Fr p H H2 := fun c o n h => b c o n (a c o n h)
theorem Fr.same {p : Addr} {H H' : Hp} (s : Same H H') : Fr p H H' := fun b o _ h => s b o h
theorem Fr.chg {p : Addr} {H H' : Hp} (c : Chg p H H') : Fr p H H' := fun _ _ n h => c.at h n
theorem Fr.new {p q : Addr} {H H' : Hp} {o : HO} (f : Fr p H H') (h : H q = none) : Fr p H (upd H' q o) := fun b u n e => by
  rw [upd_ne (ne_of_none e h)]
  exact f b u n e
theorem same_add {q : Addr} {H H' : Hp} {o : HO} (f : Same H H') (h : H q = none) : Same H (upd H' q o) := fun b u e => by
  rw [upd_ne (ne_of_none e h)]
  exact f b u e
theorem Fr.free {p q : Addr} {H H' : Hp} (f : Fr p H H') (hp : H' p ≠ none) (h : H' q = none) : H q = none := by
  cases e : H q with
  | none => rfl
  | some o =>
    by_cases hq : q = p
    · subst hq; exact absurd h hp
    · rw [f q o hq e] at h; cases h
theorem Fr.seq {K : PySem.W.Frag} {p a : Addr} {H H' : Hp} {xs : List V} (c : Fr p H H') (hp : H p = none) (h : SqL K H a xs) : SqL K H' a xs := by
  rcases h with (h | ⟨o, h⟩) | h
  · exact .inl (.inl (c _ _ (ne_of_none h hp) h))
  · exact .inl (.inr ⟨o, c _ _ (ne_of_none h hp) h⟩)
  · exact .inr h
theorem TrAt.same {ok : Addr → Prop} {H H' : Hp} {v : V} {t : Tr} (x : TrAt ok H v t) (s : Same H H') : TrAt ok H' v t := x.keep fun b o _ h => s b o h
theorem TrsAt.same {ok : Addr → Prop} {H H' : Hp} {vs : List V} {ts : List Tr} (x : TrsAt ok H vs ts) (s : Same H H') : TrsAt ok H' vs ts := x.keep fun b o _ h => s b o h
theorem TrAt.off {ok : Addr → Prop} {H : Hp} {v : V} {t : Tr} {w : Addr} (x : TrAt ok H v t) (h : H w = none) : TrAt (fun b => ok b ∧ b ≠ w) H v t :=
  (TrAt.there t v x).weak fun b ⟨k, o, e⟩ => ⟨k, ne_of_none e h⟩
theorem TrsAt.off {ok : Addr → Prop} {H : Hp} {vs : List V} {ts : List Tr} {w : Addr} (x : TrsAt ok H vs ts) (h : H w = none) : TrsAt (fun b => ok b ∧ b ≠ w) H vs ts :=
  (TrsAt.there ts vs x).weak fun b ⟨k, o, e⟩ => ⟨k, ne_of_none e h⟩
theorem upd_keep {H : Hp} {w : Addr} {o : HO} {ok : Addr → Prop} (h : ∀ b, ok b → b ≠ w) : ∀ b u, ok b → H b = some u → (upd H w o) b = some u := fun b u k e => by
  rw [upd_ne (h b k)]
  exact e
theorem lc_outer {K : PySem.W.Frag} {a : Addr} {xs : List V} {Bd : V → Hp → (Hp → Prop) → Prop} {Qd : Hp → Prop} {H0 : Hp} (Pv : Nat → Hp → Prop) (h0 : Pv 0 H0) (hl : ∀ i H, i ≤ xs.length → Pv i H → SqL K H a xs)
    (hs : ∀ i x H, xs[i]? = some x → Pv i H → Bd x H (Pv (i + 1))) (hd : ∀ H, Pv xs.length H → Qd H) :
    ∃ W : Nat → Nat → Hp → Prop, (∃ m, W 0 m H0) ∧ ∀ i m H, W i m H → ((Itl K a).stop i H ∧ Qd H) ∨ ((Itl K a).go i H ∧ ∃ Nx : Hp → Prop, (∀ H', Nx H' → ∃ m', m' < m ∧ W (i + 1) m' H') ∧ ∀ x H', (Itl K a).yld i H x H' → Bd x H' Nx) := by
  refine ⟨fun i m H => m = xs.length - i ∧ i ≤ xs.length ∧ Pv i H, ⟨xs.length, by simp, Nat.zero_le _, h0⟩, ?_⟩
  rintro i m H ⟨rfl, hi, p⟩
  have q := hl i H hi p
  by_cases hlt : i < xs.length
  · refine .inr ⟨⟨xs, xs[i], q, by simp [hlt]⟩, Pv (i + 1), fun H' p' => ⟨xs.length - (i + 1), by omega, rfl, hlt, p'⟩, fun x H' y => ?_⟩
    obtain ⟨e, y⟩ := y
    subst e
    exact hs i x _ (y xs q) p
  · have e : i = xs.length := by omega
    subst e
    exact .inl ⟨⟨xs, q, Nat.le_refl _⟩, hd H p⟩
theorem take_succ_of {α : Type} {l : List α} {i : Nat} {x : α} (h : l[i]? = some x) : l.take (i + 1) = l.take i ++ [x] := by
  rw [List.take_add_one, h]
  rfl

def RowL (params : Arguments) (scope : PySem.Scope) (body : PySem.Expr) : Prop :=
  (∃ (x : Str) (p1 p2 p3 : Pos) (k0 : Nat), body = .Subscript (.Name x p1) (.Constant (.int 0) k0 p2) p3 ∧ (x == Str.ofString "__debug__") = false ∧ scope.names = [(x, .local)] ∧
    ∀ (fd : FuncData) (u : Value), fd.params = params → fd.defaults = .none → fd.kwdefaults = .none → bindArgs fd ⟨[u], []⟩ = pure [(x, u)]) ∧
  scope.kind = .function ∧ scope.isGenerator = false ∧ scope.isCoroutine = false
theorem row_call {P : Program} {w : World} {A : Around} {s : Shared} {f p c' : Addr} {nm q : Str} {params : Arguments} {scope : PySem.Scope} {body : PySem.Expr} {clos : List (Str × Addr)} {pm ctv : Value} {its : Array Value} {x : Str} {tx : Tok}
    (R : RowL params scope body) (hd : A.depth < recursionLimit) (hf : s.heap.get? f = some (PySem.W.kla_obj nm q params body scope clos pm c' ctv))
    (hc : s.heap.CodeRec (.ref c') q) (hn : s.heap.NoLimit) (ht : IsTup s.heap p its) (h0 : its[0]? = some (.str x tx)) :
    wpAny (model P w) A (call (.ref f) [.ref p]) (PySem.W.KeyPure (.str x) s) (fun _ _ => False) s := by
  obtain ⟨⟨z, p1, p2, p3, k0, rfl, hz, hnm, hb⟩, hk, hg, ho⟩ := R
  refine wpAny_call ?_
  refine PySem.W.kla_callFunE hd hf rfl ho hg rfl hc ?_
  refine BindsTo.of_eq (hb _ _ rfl rfl rfl) _ _ _ _ ?_
  refine wpAny_newFunctionEnv (by intro y hy; rw [show (PySem.W.kla_fn nm q params _ scope clos pm (.ref c') ctv).scope.names = _ from hnm] at hy; simp only [List.mem_singleton] at hy; subst hy; simp) (by intro y hy; simp only [List.mem_singleton] at hy; subst hy; rw [show (PySem.W.kla_fn nm q params _ scope clos pm (.ref c') ctv).scope.names = _ from hnm]; simp) (fun h' hns hsame => ?_) hk
  have hkeep : ∀ b o, s.heap.get? b = some o → h'.get? b = some o := by
    intro b o hb
    have hne : b ≠ s.heap.objs.size := fun e => by
      rw [e] at hb
      simp [Heap.get?] at hb
    rw [hsame.2 b hne]
    exact Heap.get?_push_of_some _ hb
  refine ⟨hn.keeps hkeep, PySem.W.kla_codeExpr ?_⟩
  refine Subscript_Constant (wpAny_Name (wpAny_loadName_local (m := fun y => List.lookup y [(z, Value.ref p)].reverse) (v := .ref p) hk ?_ hns ?_ ?_) hz)
  · simp [Env.kindOf, newEnv, hnm]
  · simp
  refine wpAny_Constant_int ?_
  obtain ⟨o, g1, g2, n, g3⟩ := ht
  have ht' : IsTup h' p its := ⟨o, hkeep _ _ g1, g2, n, g3⟩
  refine ⟨"tuple", _, rfl, ⟨o, hkeep _ _ g1, g2⟩, ?_⟩
  have hz0 : its.size ≠ 0 := fun e => by
    rw [Array.getElem?_eq_none (by omega)] at h0
    cases h0
  refine getItem_tuple (j := 0) ht' (by decide) (by decide) ?_ h0 ?_
  · simp [seqIndex?]
    intro e
    rw [e] at hz0
    exact hz0 rfl
  exact ⟨h', _, rfl, hkeep, .str _ _⟩

def leS (a b : V × Str) : Bool := decide (a.2.cps.toList ≤ b.2.cps.toList)
def RowO (f c : Addr) (q : Str) : HO := .ext fun h => ∃ nm params body scope clos pm ctv, h.get? f = some (PySem.W.kla_obj nm q params body scope clos pm c ctv) ∧ RowL params scope body
def rSortRow : List V → List V → Hp → VK → Prop := fun xs zs H Q => ∃ (a f c : Addr) (q : Str) (bs : List (V × Str)), xs = [.ref a] ∧ zs = [.ref f] ∧ H f = some (RowO f c q) ∧ H c = some (LamX.CodeO c q) ∧ H a = some (.lst (bs.map Prod.fst)) ∧
  (∀ b ∈ bs, ∃ p rest, b.1 = .ref p ∧ H p = some (.tup (.str b.2 :: rest))) ∧ bs.length ≤ sizeLine ∧ ∀ r, H r = none → Q (.ref r) (upd H r (.lst ((bs.mergeSort leS).map Prod.fst)))
def RowR (H : Hp) (v : Value) (b : V × Str) : Prop := RelV b.1 v ∧ ∃ p rest, b.1 = .ref p ∧ H p = some (.tup (.str b.2 :: rest))
theorem eachRow {H : Hp} : ∀ {bs : List (V × Str)} {its : List Value}, Vals (bs.map Prod.fst) its → (∀ b ∈ bs, ∃ p rest, b.1 = .ref p ∧ H p = some (.tup (.str b.2 :: rest))) → PySem.W.EachIs (RowR H) its bs
  | [], _, v, _ => by cases v; exact .nil
  | b :: r, _, v, h => by
    cases v with
    | cons g1 g2 => exact .cons ⟨g1, h b (by simp)⟩ (eachRow g2 fun x hx => h x (by simp [hx]))
theorem rowEach {H : Hp} : ∀ {bs : List (V × Str)} {its : List Value}, PySem.W.EachIs (RowR H) its bs → Vals (bs.map Prod.fst) its
  | [], _, v => by cases v; exact .nil
  | b :: r, _, v => by
    cases v with
    | cons g1 g2 => exact .cons g1.1 (rowEach g2)
theorem cr_sortRow {X : Cx} {k : Nat} (hr : Room k X.A) : CallRK X (.builtin "sorted") ["key"] rSortRow := by
  intro pins s σ H xs zs us ws Q I hv hw h
  obtain ⟨a, f, c, q, bs, rfl, rfl, hf, hc, ha, hp, hz, q2⟩ := h
  cases hv with
  | cons g1 g2 =>
  cases g2
  cases hw with
  | cons g3 g4 =>
  cases g4
  cases g1
  cases g3
  have oa := I.hok _ _ ha
  have of := I.hok _ _ hf
  have oc := I.hok _ _ hc
  obtain ⟨nm, params, body, scope, clos, pm, ctv, hfo, hR⟩ := of.1
  obtain ⟨oz, its, n, hits, hao⟩ := oa
  refine PySem.W.sorted_key_data (vs := its) (bs := bs) (R := RowR H) (f := .ref f) (b := false) (fun b => .str b.2) ⟨_, hao, rfl, n, rfl⟩ (eachRow hits hp) ?_ ?_ hz ?_ (ksk_s1 _ _) (fun x => ksk_l1 _ _) (fun x => ?_) (fun v x hv hx h tk hk => ?_) (fun out c' h' tk hk hn ho hl he => ?_)
  · intro d hd d' hd'
    simp only [List.mem_map] at hd hd'
    obtain ⟨_, _, rfl⟩ := hd
    obtain ⟨_, _, rfl⟩ := hd'
    rfl
  · refine .inr fun d hd => ?_
    simp only [List.mem_map] at hd
    obtain ⟨_, _, rfl⟩ := hd
    exact ⟨by simp, by simp⟩
  · intro x _
    have := hr.un
    have e : (PyData.str x.2).depth = 0 := rfl
    omega
  · rfl
  · obtain ⟨hv1, p, rest, e1, e2⟩ := hv
    obtain ⟨v1, w1⟩ := x
    dsimp only at e1 hv1 e2 hx ⊢
    subst e1
    cases hv1
    have op := I.hok _ _ e2
    obtain ⟨_, its2, g1, g2, g3, n2, g4⟩ := op
    cases g1 with
    | cons k1 k2 =>
    obtain ⟨tx, rfl⟩ := k1
    obtain ⟨oc', vs', t', c1, c2, c3⟩ := oc.1
    refine row_call (its := _) (x := w1) (tx := tx) hR ?_ (hk _ _ hfo) ⟨_, _, _, _, rfl, hk _ _ c1, c2, c3⟩ (I.nolimit.keeps hk) ⟨g2, hk _ _ g3, n2, g4⟩ (by simp)
    have := hr.dp
    show X.A.depth < recursionLimit
    omega
  · refine ⟨.ref (s.heap.objs.size + 1), _, I.laid (a := s.heap.objs.size + 1) (o := .lst ((bs.mergeSort leS).map Prod.fst)) hk (by omega) ?_, rfl, q2 _ ?_⟩
    · have e : PySem.W.dataLe false (fun b : V × Str => PyData.str b.2) = leS := PySem.W.dataLe_str _
      rw [e] at he
      exact ⟨by simpa using hz, out, c', rowEach he, ho⟩
    · exact I.hok.fresh (by omega)
theorem rowO_ok {P : Program} {w : World} {H : Hp} {h : Heap} {c : Addr} {nm q : Str} {params : Arguments} {scope : PySem.Scope} {body : PySem.Expr} {clos : List (Str × Addr)} {pm ctv : Value} (hR : RowL params scope body) :
    ObjOk P w H (h.push (PySem.W.kla_obj nm q params body scope clos pm c ctv)) h.objs.size (RowO h.objs.size c q) := by
  have e : (h.push (PySem.W.kla_obj nm q params body scope clos pm c ctv)).get? h.objs.size = some (PySem.W.kla_obj nm q params body scope clos pm c ctv) := Heap.get?_push_size _ rfl
  refine ⟨⟨_, _, _, _, _, _, _, e, hR⟩, ⟨_, e⟩, fun h1 h2 ⟨a1, a2, a3, a4, a5, a6, a7, e1, e2⟩ k => ⟨a1, a2, a3, a4, a5, a6, a7, k _ e1, e2⟩⟩
theorem pe_lamRow {X : Cx} {c P : Addr} {params : Arguments} {body : PySem.Expr} {scope : PySem.Scope} {pos : Pos} (tb : LamX.TabB X.base X.mg c P) (hc : X.env.code = .ref c) (hd : defaultsOf params X.env = ([], []))
    (hR : RowL params scope body) : PE X (.Lambda params body scope pos) (fun σ H Q => LamX.TabS H P (X.env.qual ++ "<lambda>") ∧ ∀ (f c : Addr) (H1 : Hp), Fr P H H1 → LamX.TabS H1 P (X.env.qual ++ "<lambda>") → H1 f = some (RowO f c (X.env.qual ++ "<lambda>")) → H1 c = some (LamX.CodeO c (X.env.qual ++ "<lambda>")) → Q (.ref f) H1) := by
  refine ⟨fun pins s σ H Q I h => ?_⟩
  obtain ⟨ht, q⟩ := h
  have hclo : closureFor scope X.env = pure (cloFrom X.env.cells scope.names []) := by
    refine closure_ok ?_
    intro y hy he
    obtain ⟨⟨z, p1, p2, p3, k0, rfl, hz, hnm, hb⟩, hk, hg, ho⟩ := hR
    rw [hnm] at hy
    simp only [List.mem_singleton] at hy
    subst hy
    cases he
  have ht' := ht
  obtain ⟨ps, hP, hT, hA⟩ := ht'
  have oP : s.heap.get? P = some (PySem.W.tabObj ps) := I.hok _ _ hP
  refine PySem.W.kla_eval hd ?_
  cases hcd : codeAmong pos ps.toList with
  | some cv =>
    obtain ⟨c', rfl, hc'⟩ := hA _ _ hcd
    refine PySem.W.kla_makeFunctionHit hclo I.ok.glob (I.mod.glob.keeps I.bk) hc (tb.code.keeps I.bk) oP hT hcd (tb.bm.keeps I.bk) (fun ctv h' tk hk hs => ?_)
    have I1 := I.kept (t' := tk) hk
    have hz : s.heap.objs.size ≤ h'.objs.size := hs
    have hn : H h'.objs.size = none := I.hok.fresh hz
    refine ⟨.ref h'.objs.size, upd H h'.objs.size (RowO h'.objs.size c' (X.env.qual ++ "<lambda>")), ?_, rfl, q _ c' _ (fun b o _ hb => ?_) (ht.ext fun b o hb => ?_) upd_same ?_⟩
    · exact I1.laid (h' := h'.push _) (t' := tk) (fun b u hb => Heap.get?_push_of_some _ hb) (Nat.le_refl _) (rowO_ok hR)
    · rw [upd_ne (ne_of_none hb hn)]; exact hb
    · rw [upd_ne (ne_of_none hb hn)]; exact hb
    · rw [upd_ne (ne_of_none hc' hn)]; exact hc'
  | none =>
    refine PySem.W.kla_makeFunction hclo I.ok.glob (I.mod.glob.keeps I.bk) hc (tb.code.keeps I.bk) oP hT hcd tb.gP (tb.bm.keeps I.bk) (fun c' ctv h' tk he hl hu hrec hP' => ?_)
    obtain ⟨c2, o2, vs2, t2, ec, e1, e2, e3⟩ := hrec
    cases ec
    have I2 := LamX.inv_table (t' := tk) (c := c') (q := X.env.qual ++ "<lambda>") I hP he (more := #[rawInt ↑pos.line, rawInt ↑pos.col, .ref c']) hP' hl ⟨_, _, _, e1, e2, e3⟩
    have hn : (upd (upd H P (.tbl (ps ++ #[rawInt ↑pos.line, rawInt ↑pos.col, .ref c']))) c' (LamX.CodeO c' (X.env.qual ++ "<lambda>"))) h'.objs.size = none := I2.hok.fresh (Nat.le_refl _)
    have hcn : H c' = none := I.hok.fresh hl
    have hPc : P ≠ c' := fun e => by rw [e] at hP; rw [hcn] at hP; cases hP
    refine ⟨.ref h'.objs.size, _, I2.laid (h' := h'.push _) (o := RowO h'.objs.size c' (X.env.qual ++ "<lambda>")) (t' := tk) (fun b u hb => Heap.get?_push_of_some _ hb) (Nat.le_refl _) (rowO_ok hR), rfl, q _ c' _ ?_ ?_ upd_same ?_⟩
    · intro b o hbP hb
      have h1 : (upd (upd H P (.tbl (ps ++ #[rawInt ↑pos.line, rawInt ↑pos.col, .ref c']))) c' (LamX.CodeO c' (X.env.qual ++ "<lambda>"))) b = some o := by
        rw [upd_ne (ne_of_none hb hcn), upd_ne hbP]; exact hb
      rw [upd_ne (ne_of_none h1 hn)]; exact h1
    · refine LamX.TabS.ext (H := upd (upd H P (.tbl (ps ++ #[rawInt ↑pos.line, rawInt ↑pos.col, .ref c']))) c' (LamX.CodeO c' (X.env.qual ++ "<lambda>"))) ?_ (fun b o hb => by rw [upd_ne (ne_of_none hb hn)]; exact hb)
      refine ⟨_, by rw [upd_ne hPc]; exact upd_same, ?_, ?_⟩
      · simpa using TriplesOk_snoc _ _ _ _ hT
      · intro pos2 cv hcv
        rw [Array.toList_append] at hcv
        rcases LamX.among_app _ hT hcv with h | h
        · obtain ⟨c3, e3, h3⟩ := hA _ _ h
          refine ⟨c3, e3, ?_⟩
          rw [upd_ne (ne_of_none h3 hcn), upd_ne (fun e => by rw [e, hP] at h3; cases h3)]
          exact h3
        · exact ⟨c', h, upd_same⟩
    · have h1 : (upd (upd H P (.tbl (ps ++ #[rawInt ↑pos.line, rawInt ↑pos.col, .ref c']))) c' (LamX.CodeO c' (X.env.qual ++ "<lambda>"))) c' = some (LamX.CodeO c' (X.env.qual ++ "<lambda>")) := upd_same
      rw [upd_ne (ne_of_none h1 hn)]; exact h1

theorem okC {P : Program} {w : World} {K : PySem.W.Frag} {mg : Str → Option Value} {base : Heap} {x qual : Str} {st : Stmt} {f c : Addr} {fd : FuncData} {N ps : List Str} {k : Nat} {sp : Sp} (F : Fun K x qual st f fd) (hc : fd.code = .ref c) (S : FnScope N ps (defScope st))
    (len : ∀ vs H Q E, sp vs H Q E → vs.length = ps.length)
    (hb : ∀ (A : Around) (outer : List Env) (s : Shared) (H : Hp) (vs : List V) (Q : VK) (E : XK), Room k (A.deeper (envOfC qual (defScope st) s.heap.objs.size f (.ref c))) → sp vs H Q E →
      ∃ t, PSs (cxOf CX0 P w K mg base N qual (defScope st) f (.ref c) A outer s H E).nox (defBody st) t ∧ t { nx := fun _ H' => Q .non H', rt := Q } (L2.start N vs) H) : FnOk P w K mg base CX0 (k + 1) f fd ps sp := by
  obtain ⟨oc, od, kV, doc, pm, an, cdv, ct, osl, rfl, lk, hcd⟩ := F.ex
  cases hc
  exact fn_of lk hcd S len fun A outer s H vs Q E hr hsp => by
    obtain ⟨t, h, q⟩ := hb A outer s H vs Q E hr hsp
    exact ⟨t, h.nox, q⟩
theorem rowL_mk {x : Str} {p0 p1 p2 p3 : Pos} {k0 : Nat} {scope : PySem.Scope} (hz : (x == Str.ofString "__debug__") = false) (hn : scope.names = [(x, .local)]) (hk : scope.kind = .function) (hg : scope.isGenerator = false) (hc : scope.isCoroutine = false)
    (hb : ∀ (nm q : Str) (b : FuncBody) (sc : PySem.Scope) (g : Addr) (cl : List (Str × Addr)) (pm an : Value) (cd : Option Addr) (ct bl : Value) (bu : Addr) (u : Value), bindArgs ⟨nm, q, { posonlyargs := [], args := [{ arg := x, annotation := none, pos := p0 }], vararg := none, kwonlyargs := [], kw_defaults := [], kwarg := none, defaults := [] }, b, sc, g, cl, .none, .none, pm, an, cd, ct, bl, bu⟩ ⟨[u], []⟩ = pure [(x, u)]) :
    RowL { posonlyargs := [], args := [{ arg := x, annotation := none, pos := p0 }], vararg := none, kwonlyargs := [], kw_defaults := [], kwarg := none, defaults := [] } scope (.Subscript (.Name x p1) (.Constant (.int 0) k0 p2) p3) := by
  refine ⟨⟨x, p1, p2, p3, k0, rfl, hz, hn, fun fd u e1 e2 e3 => ?_⟩, hk, hg, hc⟩
  obtain ⟨nm, q, pr, b, sc, g, cl, d, kd, pm, an, cd, ct, bl, bu⟩ := fd
  subst e1 e2 e3
  exact hb _ _ _ _ _ _ _ _ _ _ _ _ _
def spLawT (K : PySem.W.Frag) (Ps : List Addr) : Sp := fun vs H Q _ => ∃ (a : Addr) (ns : List Int), vs = [.ref a] ∧ SqL K H a (ns.map V.int) ∧ ns.length ≤ 63 ∧ (∀ P ∈ Ps, H P = some (.tbl #[])) ∧ ∀ H', Q (.bl true) H'
def LawT (l : PySem.W.OpenLaw) (w : World) (K : PySem.W.Frag) (k : Nat) (x : Str) (mg : Str → Option Value) (fa : Addr) (cs : List (Str × Addr × Addr)) : Prop :=
  (∀ z ∈ cs, PySem.W.tabIn K z.1 = some (z.2.1, z.2.2) ∧ K.lookup z.2.2 = none) ∧ ∃ fd : FuncData, (∀ (s : Shared) (v : Value), BindsTo s fd ⟨[v], []⟩ [(x, v)]) ∧
    ∀ base : Heap, K.In base → base.Ns mainGlobals mg → (∀ z ∈ cs, LamX.TabB base mg z.2.1 z.2.2) → FnOk l.prog w K mg base CX0 k fa fd [x] (spLawT K (cs.map fun z => z.2.2))
theorem walk_ofT {l : PySem.W.OpenLaw} {n k : Nat} {q : Program} {loose : List Str} {XP : (Str → Option Value) → Heap → Prop} {YP : World → Heap → Prop} {d : DefRec} {K : Params → PySem.W.Frag} {x : Str}
    (hn : l.most = some n) (hz : n ≤ sizeLine) (h63 : n ≤ 63) (hd : d.params.defaults = []) (hr : Room k callerA) (hY : ∀ w h, YP w h → (K w.params).In h) (names : List Str)
    (hR : (names.all fun z => (recsOf q).any fun e => e.name == z) = true)
    (hF : ∀ (w : World) (mg : Str → Option Value) (fa : Addr) (h : Heap), (K w.params).In h → h.Ns mainGlobals mg → mg d.name = some (.ref fa) → ∃ cs : List (Str × Addr × Addr), cs.map Prod.fst = names ∧ LawT l w (K w.params) k x mg fa cs) :
    PySem.W.WalkO q loose XP YP l.row.toRowW d [] fun f vs => call f vs := by
  refine Att.attach_callB hn hd fun w s0 s1 mg mb fa o pm cd doc a vs ns G Y ho hod hcr hmg ha hi hl hb hg => ?_
  obtain ⟨cs, hcs, hT, fd, hB, hOk⟩ := hF w mg fa s1.heap (hY w _ Y) G.T.g hmg
  have key : ∀ z ∈ cs, PySem.W.CodeHd s1.heap z.2.1 z.2.2 ∧ s1.heap.get? z.2.2 = some (PySem.W.tabObj #[]) := by
    intro z hz
    have h1 : z.1 ∈ names := by rw [← hcs]; exact List.mem_map_of_mem hz
    have h2 := List.all_eq_true.mp hR _ h1
    cases hf : (recsOf q).find? fun e => e.name == z.1 with
    | none =>
      rw [List.find?_eq_none] at hf
      rw [List.any_eq_true] at h2
      obtain ⟨e, he, h3⟩ := h2
      exact absurd h3 (hf e he)
    | some dd => exact PySem.W.tab_of G.T (hY w _ Y) hf (hT z hz).1
  refine LamX.law_callTs (K := K w.params) (cs := cs.map fun z => z.2) (hY w _ Y) G.T.g G.T.b G.T.builtins G.T.nolimit hg ?_ ?_ ?_ G.T.bmain ha hi (Nat.le_trans hl hz) hr (fun base h1 h2 h3 => hOk base h1 h2 fun z hz => h3 _ (List.mem_map_of_mem hz)) (fun s u => hB s u) (fun H hH hS => ⟨a, ns, rfl, hS, ?_, ?_, fun _ => rfl⟩) (fun _ _ _ h => h)
  · intro p hp
    obtain ⟨z, hz, rfl⟩ := List.mem_map.mp hp
    exact (key z hz).2
  · intro p hp
    obtain ⟨z, hz, rfl⟩ := List.mem_map.mp hp
    exact (hT z hz).2
  · intro p hp
    obtain ⟨z, hz, rfl⟩ := List.mem_map.mp hp
    exact (key z hz).1
  · exact Nat.le_trans hl h63
  · intro P hP
    obtain ⟨z, hz, rfl⟩ := List.mem_map.mp hP
    exact hH _ (List.mem_map_of_mem hz)

theorem take_zip {α : Type} (sel : Nat → Bool) (j : Nat) : ∀ (xs : List α) (i : Nat), (∀ k, k < i + xs.length → sel k = decide (j ≤ k)) → (xs.zipIdx i).filterMap (fun x => if sel x.2 = true then none else some x.1) = xs.take (j - i)
  | [], i, _ => by simp
  | x :: r, i, hs => by
    rw [List.zipIdx_cons, List.filterMap_cons]
    have ih := take_zip sel j r (i + 1) fun k hk => hs k (by rw [List.length_cons]; omega)
    have h0 := hs i (by rw [List.length_cons]; omega)
    by_cases h : j ≤ i
    · have e : j - i = 0 := by omega
      have e2 : j - (i + 1) = 0 := by omega
      rw [e2] at ih
      simp only [h0, h, decide_true, if_true, e, List.take_zero]
      simpa using ih
    · have e : j - i = (j - (i + 1)) + 1 := by omega
      rw [e, List.take_succ_cons, ← ih]
      simp [h0, h]
theorem run_delFrom {P : Program} {w : World} {A : Around} {E : Value → Shared → Prop} {s : Shared} {l sl : Addr} {items : Array Value} {n j : Nat} {t : Tok} {Q : Unit → Shared → Prop}
    (hl : s.heap.get? l = some { cls := Value.type "list", data := Data.seq items n }) (hs : s.heap.get? sl = some { cls := .type "slice", data := .fields #[.int j t, .none, .none] }) (hj : j ≤ items.size) (hz : items.size ≤ sizeLine)
    (q : ∀ f : Array Value → Array Value, f items = (items.toList.take j).toArray → Q () { s with heap := s.heap.update l (Obj.mapSeq f) }) :
    wpAny (model P w) A (delItem (.ref l) (.ref sl)) Q E s := by
  refine wpAny_delItem_slot (T := "list") ⟨_, hl, rfl⟩ (by decide) PySem.F.slot_list_delitem ?_
  refine wpAny_call_entry PySem.F.slot_list_delitem ⟨_, hl, rfl⟩ PySem.F.entry_list_delitem ?_ (PySem.F.args_list_delitem_2 _ _)
  show wpAny _ _ (do
      let __x ← slotArgs "__delitem__" 1 { pos := [.ref l, .ref sl] }
      _) _ _ _
  refine wpAny_bind (wpAny_pure ?_)
  refine wpAny_bind ?_
  refine wpAny_bind (wpAny_specialOf (T := "slice") (r := none) ⟨_, hs, rfl⟩ rfl ?_)
  refine wpAny_pure ?_
  refine wpAny_bind (wpAny_typeOf (T := "slice") ⟨_, hs, rfl⟩ ?_)
  dsimp only
  rw [if_neg (by decide)]
  refine wpAny_bind ?_
  rw [listSliceParts_eq]
  refine wpAny_bind (wpAny_field hs rfl (i := 2) rfl (wpAny_bind (wpAny_listPart .none ?_)))
  dsimp only [rawPart]
  rw [if_neg (by decide)]
  refine wpAny_bind (wpAny_field hs rfl (i := 0) rfl (wpAny_bind (wpAny_listPart (.int _ _) ?_)))
  refine wpAny_bind (wpAny_field hs rfl (i := 1) rfl (wpAny_bind (wpAny_listPart .none (wpAny_pure ?_))))
  dsimp only
  refine wpAny_bind (wpAny_listItems hl rfl ?_)
  have eb : sliceBounds (some (j : Int)) none none items.size = ((j : Int), (items.size : Int), 1) := by
    simp [sliceBounds]
    omega
  rw [show sliceIndices (rawPart (some (j : Int))) (rawPart none) .none items.size = pure (sliceBounds (some (j : Int)) none none items.size) from sliceIndices_raw (some (j : Int)) none none items.size (by simp), eb]
  refine wpAny_bind (wpAny_pure ?_)
  dsimp only
  refine wpAny_bind (wpAny_rule ?_)
  refine wpAny_bind (wpAny_updateSeq hl rfl (wpAny_bind (wpAny_letGo (wpAny_pure ⟨_, rfl, q _ ?_⟩))) hz ?_)
  · refine congrArg List.toArray ((take_zip (fun k => _) j items.toList 0 ?_).trans (by rw [Nat.sub_zero]))
    intro k hk
    show (if (1 : Int) > 0 then decide ((j : Int) ≤ (k : Int)) && decide ((k : Int) < (items.size : Int)) && ((k : Int) - j) % 1 == 0 else _) = _
    rw [Nat.zero_add, Array.length_toList] at hk
    rw [if_pos (by decide), Int.emod_one, decide_eq_true (show (k : Int) < (items.size : Int) by omega)]
    by_cases h : j ≤ k
    · simp [h]
    · simp [h]
  · refine Nat.le_trans ?_ (Nat.le_succ_of_le hz)
    rw [List.size_toArray]
    refine Nat.le_trans (List.length_filterMap_le _ _) ?_
    simp
theorem ps_delFrom {X : Cx} {pos p2 : Pos} {o e : PySem.Expr} {to te : TE} {tpos : Pos} (ho : PE X o to) (he : PE X e te) :
    PS X (.Delete [.Subscript o (.Slice (some e) none none p2) tpos] pos) (fun D σ H => to σ H fun x H1 => te σ H1 fun y H2 => ∃ (l : Addr) (xs : List V) (j : Nat), x = .ref l ∧ y = .int j ∧ H2 l = some (.lst xs) ∧ j ≤ xs.length ∧ D.nx σ (upd H2 l (.lst (xs.take j)))) := by
  refine ⟨fun pins s σ H D I h => ?_⟩
  refine wpAny_Delete (wpAny_deleteEach_cons (wpAny_delete_Subscript ?_))
  refine thn (ho.run pins s σ H _ I h) fun u s1 hx => ?_
  obtain ⟨x, H1, I1, r1, h1⟩ := hx
  refine wpAny_Slice ?_
  rw [evalPart_some]
  refine thn (he.run pins s1 σ H1 _ I1 h1) fun u2 s2 hx => ?_
  obtain ⟨y, H2, I2, r2, l, xs, j, rfl, rfl, hl, hj, q⟩ := hx
  cases r1
  obtain ⟨t, rfl⟩ := r2
  rw [evalPart_none]
  refine wpAny_pure ?_
  refine wpAny_pure ?_
  have hsl : (s2.heap.push { cls := .type "slice", data := .fields #[.int j t, .none, .none] }).get? s2.heap.objs.size = some { cls := .type "slice", data := .fields #[.int j t, .none, .none] } := Heap.get?_push_size _ rfl
  have I3 := I2.kept (h' := s2.heap.push { cls := .type "slice", data := .fields #[.int j t, .none, .none] }) (t' := s2.toks) (fun b u hb => Heap.get?_push_of_some _ hb)
  obtain ⟨oz, its, n, hits, hao⟩ := I3.hok _ _ hl
  have ll : xs.length = its.length := L2.Vals.length hits
  refine run_delFrom (items := its.toArray) hao hsl (by simp; omega) (by simp; omega) (fun f hf => ?_)
  refine wpAny_deleteEach_nil ?_
  refine ⟨σ, _, I3.lset (its := its) (its' := its.take j) (ys := xs.take j) hl hao (by simpa using hf) ?_ ?_, q⟩
  · exact L2.Vals.take j hits
  · rw [List.length_take]; omega

open LamX NdefX in
structure CalX (P : Program) (w : World) (K : PySem.W.Frag) (mg : Str → Option Value) (base : Heap) (k : Nat) (f : Addr) (G : Hp → Prop) (np : Nat) (sp : Sp) : Prop where
  len : ∀ vs H Q E, sp vs H Q E → vs.length = np
  at_ : ∀ (s : Shared) (H : Hp), HOk P w H s.heap → K.In s.heap → G H → PySem.W.FnAt f s.heap
  run : ∀ (A : Around) (outer : List Env) (s : Shared) (H : Hp) (us : List Value) (vs : List V) (Q : VK) (E : XK), Room k A → Env0 P w K mg base A outer s H → G H → Vals vs us → sp vs H Q E → codeAny (model P w) A (.call (.ref f) ⟨us, []⟩) (CR CX0 outer P w H s Q E) s
def tCalX (i : Nat) (f : Addr) (G : Hp → Prop) (sp : Sp) (t : TA) : TE := fun σ H Q => σ[i]? = some (some (.ref f)) ∧ G H ∧ t σ H fun vs H1 => G H1 ∧ sp vs H1 Q C8.E0
theorem pe_calX {X : Cx} {k i np : Nat} {f : Addr} {G : Hp → Prop} {sp : Sp} {x : Str} {p pos : Pos} {e : PySem.Expr} {es : List PySem.Expr} {t : TA}
    (C : CalX X.prog X.w X.K X.mg X.base k f G np sp) (hr : Room k X.A) (hN : X.N[i]? = some x) (hv : Vis X.env.scope x) (ha : PA X (e :: es) t)
    (hdb : (x == ("__debug__" : Str)) = false := by decide) (hcd : (x == ("__classdict__" : Str)) = false := by decide)
    (he : starEach (e :: es) X.env = (false, eval e X.env) :: starEach es X.env := by rfl) (hpl : (backTo pos (starEach es X.env)).any (·.1) = false := by rfl) : PE X (.Call (.Name x p) (e :: es) [] pos) (tCalX i f G sp t) := by
  refine ⟨fun pins s σ H Q I h => ?_⟩
  obtain ⟨hs, hg, ht⟩ := h
  refine wpAny_Call_Name_kw (thn ((pe_var (pos := p) hN hv hdb hcd).run pins s σ H (fun v H1 => v = .ref f ∧ H1 = H) I ⟨.ref f, hs, rfl, rfl⟩) fun u s1 ⟨v, H1, I1, r1, q1⟩ => ?_)
  obtain ⟨ev, eH⟩ := q1
  subst ev
  rw [eH] at I1
  obtain rfl : u = Value.ref f := r1
  refine PySem.W.callWith_F (first := []) (C.at_ s1 H I1.hok I1.kIn hg) (thn (ha.run pos pins s1 σ H _ I1 ht) fun us s2 ⟨vs, H2, I2, r, h1, q⟩ => ⟨C.at_ s2 H2 I2.hok I2.kIn h1, ?_⟩) he hpl
  show wpAny _ _ (call (.ref f) us) _ _ _
  refine wpAny_call (codeAny_mono (C.run X.A X.stack s2 H2 us vs Q C8.E0 hr I2.env0 h1 r q) fun r s' hq => ?_)
  cases r with
  | error e => exact (show False from hq).elim
  | ok fl =>
    cases fl with
    | ret u => exact I2.after hq
    | next => exact False.elim hq
    | brk => exact False.elim hq
    | cont => exact False.elim hq
theorem calX_of {P : Program} {w : World} {K : PySem.W.Frag} {mg : Str → Option Value} {base : Heap} {k : Nat} {x q : Str} {st : Stmt} {f : Addr} {fd : FuncData} {ps : List Str} {sp : Sp} (F : FnOk P w K mg base CX0 k f fd ps sp) (U : Fun K x q st f fd) (hb : Binds K fd ps []) {G : Hp → Prop} : CalX P w K mg base k f G ps.length sp := by
  refine ⟨F.len, fun s H _ hk _ => ?_, fun A outer s H us vs Q E hr e0 _ r h => ?_⟩
  · obtain ⟨oc, od, kV, doc, pm, an, cdv, ct, osl, rfl, lk, hcd⟩ := U.ex
    exact ⟨_, _, _, _, hk _ _ lk⟩
  · have KX : K.In s.heap := e0.mod.kin.keeps fun b o e => (e0.bs b o e).1
    have hl : us.length = ps.length := by rw [← r.length]; exact F.len _ _ _ _ h
    have hb' := hb s us KX (by rw [List.append_nil]; exact hl)
    rw [List.append_nil] at hb'
    exact F.run A outer s H ⟨us, []⟩ us vs Q E hr e0 hb' r h
structure LF where
  qual : Str
  params : Arguments
  body : PySem.Expr
  scope : PySem.Scope
  cl : List (Str × Addr)
  c : Addr
abbrev LF.nf (F : LF) : NdefX.NF := ⟨"<lambda>", F.qual, F.params, [], F.scope, F.cl, F.c⟩
def LamO (f : Addr) (F : LF) : HO := .ext fun h => ∃ pm ctv, h.get? f = some (PySem.W.kla_obj "<lambda>" F.qual F.params F.body F.scope F.cl pm F.c ctv)
theorem lamO_ok {P : Program} {w : World} {H : Hp} {h : Heap} {F : LF} {pm ctv : Value} :
    ObjOk P w H (h.push (PySem.W.kla_obj "<lambda>" F.qual F.params F.body F.scope F.cl pm F.c ctv)) h.objs.size (LamO h.objs.size F) := by
  have e : (h.push (PySem.W.kla_obj "<lambda>" F.qual F.params F.body F.scope F.cl pm F.c ctv)).get? h.objs.size = some (PySem.W.kla_obj "<lambda>" F.qual F.params F.body F.scope F.cl pm F.c ctv) := Heap.get?_push_size _ rfl
  exact ⟨⟨pm, ctv, e⟩, ⟨_, e⟩, fun h1 h2 ⟨a1, a2, e1⟩ k => ⟨a1, a2, k _ e1⟩⟩
theorem calX_lam {P : Program} {w : World} {K : PySem.W.Frag} {mg : Str → Option Value} {base : Heap} {k : Nat} {N ps : List Str} {f : Addr} {F : LF} {sp : Sp} (S : NdefX.NScope N ps [] F.scope) (hcl : F.cl = [])
    (hb : ∀ (pm ctv : Value) (us : List Value), us.length = ps.length → bindArgs (PySem.W.kla_fn "<lambda>" F.qual F.params F.body F.scope F.cl pm (.ref F.c) ctv) ⟨us, []⟩ = pure (ps.zip us)) (len : ∀ vs H Q E, sp vs H Q E → vs.length = ps.length)
    (hbody : ∀ (A : Around) (outer : List Env) (s : Shared) (H : Hp) (vs : List V) (Q : VK) (E : XK), Room k (A.deeper (NdefX.envF F.nf f s.heap.objs.size)) → sp vs H Q E →
      ∃ t, PE (NdefX.ncx CX0 P w K mg base N F.nf f A outer s H E) F.body t ∧ t (NdefX.startF N vs []) H Q) :
    CalX P w K mg base (k + 1) f (fun H => H f = some (LamO f F) ∧ H F.c = some (LamX.CodeO F.c F.qual)) ps.length sp := by
  refine ⟨len, fun s H hok _ hg => ?_, fun A outer s H us vs Q E hr e0 hg r hsp => ?_⟩
  · obtain ⟨⟨pm, ctv, e⟩, _, _⟩ := hok _ _ hg.1
    exact ⟨_, _, _, _, e⟩
  obtain ⟨⟨pm, ctv, ho⟩, _, _⟩ := e0.hok _ _ hg.1
  have hl := len _ _ _ _ hsp
  have lim : s.heap.NoLimit := e0.mod.nolimit.keeps fun b o e => (e0.bs b o e).1
  refine PySem.W.kla_callFunE hr.depth ho rfl S.co S.gen rfl (NdefX.codeO_at e0.hok hg.2) ?_
  rw [hb pm ctv us (by rw [← r.length]; exact hl)]
  refine wpAny_pure (wpAny_newFunctionEnv S.nocell (fun ⟨n, _⟩ hy => S.par n (List.of_mem_zip hy).1) (fun h₁ hns hsb => ⟨lim.fresh _ hsb, ?_⟩) S.kind)
  show codeAny _ _ (.expr F.body (NdefX.envF F.nf f s.heap.objs.size)) _ _
  have kp : ∀ b o, s.heap.get? b = some o → h₁.get? b = some o := fun b o e => hsb.extBut b o (Nat.ne_of_lt (Heap.lt_size e)) (Heap.get?_push_of_some _ e)
  obtain ⟨t, ht, hq⟩ := hbody A outer s H vs Q E (hr.deeper _) hsp
  have C : NdefX.CellsAt F.nf.cl [] [] s.heap H := by
    have e : F.nf.cl = [] := hcl
    rw [e]
    exact ⟨rfl, (fun y c e => by cases e), (fun x y c e => by cases e), (fun i y e => by simp at e)⟩
  have I : Inv (NdefX.ncx CX0 P w K mg base N F.nf f A outer s H E) [] (NdefX.startF N vs []) H { s with heap := h₁, toks := s.toks + (ps.zip us).length } := NdefX.inv_startN S hr.hd e0 hl r C hns kp
  refine PySem.W.kla_codeExpr (wpAny_mono (ht.run [] _ _ H Q I hq) (fun v s' hq => ?_) fun e s' hq => hq)
  obtain ⟨w', H', J', rv, q⟩ := hq
  exact ⟨w', H', J'.os, J'.bare, J'.base, J'.hok, rv, q⟩
theorem pe_lamX {X : Cx} {c P : Addr} {params : Arguments} {body : PySem.Expr} {scope : PySem.Scope} {pos : Pos} (tb : LamX.TabB X.base X.mg c P) (hc : X.env.code = .ref c) (hd : defaultsOf params X.env = ([], []))
    (hfree : ∀ y ∈ scope.names, y.2 = .free → ∃ c, X.env.cells.lookup y.1 = some c) : PE X (.Lambda params body scope pos) (fun σ H Q => LamX.TabS H P (X.env.qual ++ "<lambda>") ∧ ∀ (f c : Addr) (H1 : Hp), Fr P H H1 → (∀ b, H1 b = none → H b = none) → LamX.TabS H1 P (X.env.qual ++ "<lambda>") → H f = none →
      H1 f = some (LamO f ⟨X.env.qual ++ "<lambda>", params, body, scope, cloFrom X.env.cells scope.names [], c⟩) → H1 c = some (LamX.CodeO c (X.env.qual ++ "<lambda>")) → Q (.ref f) H1) := by
  refine ⟨fun pins s σ H Q I h => ?_⟩
  obtain ⟨ht, q⟩ := h
  have hclo : closureFor scope X.env = pure (cloFrom X.env.cells scope.names []) := closure_ok hfree
  have ht' := ht
  obtain ⟨ps, hP, hT, hA⟩ := ht'
  have oP : s.heap.get? P = some (PySem.W.tabObj ps) := I.hok _ _ hP
  refine PySem.W.kla_eval hd ?_
  cases hcd : codeAmong pos ps.toList with
  | some cv =>
    obtain ⟨c', rfl, hc'⟩ := hA _ _ hcd
    refine PySem.W.kla_makeFunctionHit hclo I.ok.glob (I.mod.glob.keeps I.bk) hc (tb.code.keeps I.bk) oP hT hcd (tb.bm.keeps I.bk) (fun ctv h' tk hk hs => ?_)
    have I1 := I.kept (t' := tk) hk
    have hz : s.heap.objs.size ≤ h'.objs.size := hs
    have hn : H h'.objs.size = none := I.hok.fresh hz
    refine ⟨.ref h'.objs.size, upd H h'.objs.size (LamO h'.objs.size ⟨X.env.qual ++ "<lambda>", params, body, scope, cloFrom X.env.cells scope.names [], c'⟩), ?_, rfl, q _ c' _ (fun b o _ hb => ?_) (fun b e => NdefX.upd_none e) (ht.ext fun b o hb => ?_) hn upd_same ?_⟩
    · exact I1.laid (h' := h'.push _) (t' := tk) (fun b u hb => Heap.get?_push_of_some _ hb) (Nat.le_refl _) (lamO_ok (F := ⟨X.env.qual ++ "<lambda>", params, body, scope, cloFrom X.env.cells scope.names [], c'⟩))
    · rw [upd_ne (ne_of_none hb hn)]; exact hb
    · rw [upd_ne (ne_of_none hb hn)]; exact hb
    · rw [upd_ne (ne_of_none hc' hn)]; exact hc'
  | none =>
    refine PySem.W.kla_makeFunction hclo I.ok.glob (I.mod.glob.keeps I.bk) hc (tb.code.keeps I.bk) oP hT hcd tb.gP (tb.bm.keeps I.bk) (fun c' ctv h' tk he hl hu hrec hP' => ?_)
    obtain ⟨c2, o2, vs2, t2, ec, e1, e2, e3⟩ := hrec
    cases ec
    have I2 := LamX.inv_table (t' := tk) (c := c') (q := X.env.qual ++ "<lambda>") I hP he (more := #[rawInt ↑pos.line, rawInt ↑pos.col, .ref c']) hP' hl ⟨_, _, _, e1, e2, e3⟩
    have hn : (upd (upd H P (.tbl (ps ++ #[rawInt ↑pos.line, rawInt ↑pos.col, .ref c']))) c' (LamX.CodeO c' (X.env.qual ++ "<lambda>"))) h'.objs.size = none := I2.hok.fresh (Nat.le_refl _)
    have hcn : H c' = none := I.hok.fresh hl
    have hPc : P ≠ c' := fun e => by rw [e] at hP; rw [hcn] at hP; cases hP
    refine ⟨.ref h'.objs.size, _, I2.laid (h' := h'.push _) (o := LamO h'.objs.size ⟨X.env.qual ++ "<lambda>", params, body, scope, cloFrom X.env.cells scope.names [], c'⟩) (t' := tk) (fun b u hb => Heap.get?_push_of_some _ hb) (Nat.le_refl _) (lamO_ok (F := ⟨X.env.qual ++ "<lambda>", params, body, scope, cloFrom X.env.cells scope.names [], c'⟩)), rfl, q _ c' _ ?_ (fun b e => NdefX.upd_none (NdefX.upd_none (NdefX.upd_none e))) ?_ (NdefX.upd_none (NdefX.upd_none hn)) upd_same ?_⟩
    · intro b o hbP hb
      have h1 : (upd (upd H P (.tbl (ps ++ #[rawInt ↑pos.line, rawInt ↑pos.col, .ref c']))) c' (LamX.CodeO c' (X.env.qual ++ "<lambda>"))) b = some o := by
        rw [upd_ne (ne_of_none hb hcn), upd_ne hbP]; exact hb
      rw [upd_ne (ne_of_none h1 hn)]; exact h1
    · refine LamX.TabS.ext (H := upd (upd H P (.tbl (ps ++ #[rawInt ↑pos.line, rawInt ↑pos.col, .ref c']))) c' (LamX.CodeO c' (X.env.qual ++ "<lambda>"))) ?_ (fun b o hb => by rw [upd_ne (ne_of_none hb hn)]; exact hb)
      refine ⟨_, by rw [upd_ne hPc]; exact upd_same, ?_, ?_⟩
      · simpa using TriplesOk_snoc _ _ _ _ hT
      · intro pos2 cv hcv
        rw [Array.toList_append] at hcv
        rcases LamX.among_app _ hT hcv with h | h
        · obtain ⟨c3, e3, h3⟩ := hA _ _ h
          refine ⟨c3, e3, ?_⟩
          rw [upd_ne (ne_of_none h3 hcn), upd_ne (fun e => by rw [e, hP] at h3; cases h3)]
          exact h3
        · exact ⟨c', h, upd_same⟩
    · have h1 : (upd (upd H P (.tbl (ps ++ #[rawInt ↑pos.line, rawInt ↑pos.col, .ref c']))) c' (LamX.CodeO c' (X.env.qual ++ "<lambda>"))) c' = some (LamX.CodeO c' (X.env.qual ++ "<lambda>")) := upd_same
      rw [upd_ne (ne_of_none h1 hn)]; exact h1
theorem nofree_by {scope : PySem.Scope} {cells : List (Str × Addr)} (h : (scope.names.all fun y => !decide (y.2 = .free)) = true) : ∀ y ∈ scope.names, y.2 = .free → ∃ c, cells.lookup y.1 = some c := fun y hy e => by
  have := List.all_eq_true.mp h y hy
  simp only [e, decide_true, Bool.not_true] at this
  cases this
theorem CalX.imp {P : Program} {w : World} {K : PySem.W.Frag} {mg : Str → Option Value} {base : Heap} {k j : Nat} {f : Addr} {G G' : Hp → Prop} {np : Nat} {sp sp' : Sp} (C : CalX P w K mg base k f G np sp) (hk : k ≤ j) (hG : ∀ H, G' H → G H) (hs : ∀ vs H Q E, sp' vs H Q E → sp vs H Q E) : CalX P w K mg base j f G' np sp' :=
  ⟨fun vs H Q E q => C.len vs H Q E (hs _ _ _ _ q), fun s H a b g => C.at_ s H a b (hG H g), fun A outer s H us vs Q E hr e0 g r q => C.run A outer s H us vs Q E (hr.mono hk) e0 (hG H g) r (hs _ _ _ _ q)⟩
inductive Runs : List Tr → List Tr → List Tr → Prop
  | nil {us : List Tr} : Runs us [] us
  | cons {us ks r z : List Tr} {c : Nat} : Runs (us ++ [.node c ks]) r z → Runs (us ++ ks) (.node c ks :: r) z
mutual
theorem runs_post : ∀ (t : Tr) (us r z : List Tr), Runs (us ++ [t]) r z → Runs us (t.post ++ r) z
  | .node c ks, us, r, z, h => by
    simp only [Tr.post, List.append_assoc, List.singleton_append]
    exact runs_posts ks us _ z (.cons h)
theorem runs_posts : ∀ (ts us r z : List Tr), Runs (us ++ ts) r z → Runs us (posts ts ++ r) z
  | [], us, r, z, h => by simpa [posts] using h
  | t :: ts, us, r, z, h => by
    simp only [posts, List.append_assoc]
    refine runs_post t us _ z (runs_posts ts (us ++ [t]) r z ?_)
    rw [List.append_assoc]
    exact h
end
theorem runs_all (t : Tr) : Runs [] t.post [t] := by
  have := runs_post t [] [] [t] .nil
  rwa [List.append_nil] at this
abbrev ItP := (Addr → Prop) → Hp → V → Tr → List Addr → Prop
structure ItOk (It : ItP) : Prop where
  imp : ∀ {ok ok' : Addr → Prop} {H H' : Hp} {v : V} {t : Tr} {as : List Addr}, (∀ b, ok b → ok' b) → (∀ b o, ok b → H b = some o → H' b = some o) → It ok H v t as → It ok' H' v t as
  lst : ∀ {ok : Addr → Prop} {H : Hp} {v : V} {t : Tr} {as : List Addr}, It ok H v t as → ∀ b ∈ as, ok b ∧ ∃ xs, H b = some (.lst xs)
abbrev lstsI (bs : List (V × Tr × List Addr)) : List Addr := (bs.map fun b => b.2.2).flatten
def sp_made (It : ItP) (Pt : Addr) (q : Str) : Sp := fun vs H Q _ => ∃ (c : Nat) (bl : Addr) (bs : List (V × Tr × List Addr)) (ok : Addr → Prop), vs = [.str (ch c), .ref bl] ∧ 97 ≤ c ∧ c ≤ 122 ∧ H bl = some (.lst (bs.map (·.1))) ∧ ok bl ∧
  (∀ b ∈ bs, It ok H b.1 b.2.1 b.2.2) ∧ (bl :: lstsI bs).Nodup ∧ sizes (bs.map (·.2.1)) ≤ 1000000 ∧ (∀ b, ok b → b ≠ Pt) ∧ LamX.TabS H Pt q ∧
  ∀ v as H', Fr Pt H H' → LamX.TabS H' Pt q → It (fun b => ok b ∨ H b = none) H' v (.node c (bs.map (·.2.1))) as → as.Nodup → (∀ a ∈ as, a ∈ bl :: lstsI bs ∨ H a = none) → Q v H'
def sp_built_upward (P : Program) (w : World) (K : PySem.W.Frag) (mg : Str → Option Value) (base : Heap) (k : Nat) (Pt : Addr) (q : Str) : Sp := fun vs H Q _ => ∃ (v : V) (t : Tr) (f : Addr) (It : ItP), vs = [v, .ref f] ∧ TrAt (fun _ => True) H v t ∧ t.size ≤ 1000000 ∧ ItOk It ∧ LamX.TabS H Pt q ∧
  CalX P w K mg base k f (fun H' => Fr Pt H H') 2 (sp_made It Pt q) ∧ ∀ r as H', Fr Pt H H' → LamX.TabS H' Pt q → It (fun b => H b = none) H' r t as → as.Nodup → Q r H'

def CellO (c : Addr) (o : Obj) : HO := .ext fun h => h.get? c = some o
abbrev Lent := List (Addr × Obj)
def lend (H : Hp) (cs : Lent) : Hp := fun b => match cs.lookup b with
  | some o => some (CellO b o)
  | none => H b
def unl (H : Hp) (cs : Lent) : Hp := fun b => match cs.lookup b with
  | some _ => none
  | none => H b
def LentAt (cs : Lent) (H : Hp) : Prop := ∀ c o, cs.lookup c = some o → H c = some (CellO c o)
def Fresh (cs : Lent) (H : Hp) : Prop := ∀ c o, cs.lookup c = some o → H c = none
section
variable {H H' : Hp} {cs : Lent} {b c : Addr} {o : Obj} {u : HO}
theorem lend_in (h : cs.lookup c = some o) : lend H cs c = some (CellO c o) := by unfold lend; rw [h]
theorem lend_out (h : cs.lookup b = none) : lend H cs b = H b := by unfold lend; rw [h]
theorem unl_in (h : cs.lookup c = some o) : unl H cs c = none := by unfold unl; rw [h]
theorem unl_out (h : cs.lookup b = none) : unl H cs b = H b := by unfold unl; rw [h]
theorem Fresh.out (f : Fresh cs H) (h : H b = some u) : cs.lookup b = none := by
  cases e : cs.lookup b with
  | none => rfl
  | some o => rw [f b o e] at h; cases h
theorem lend_some (f : Fresh cs H) (h : H b = some u) : lend H cs b = some u := by rw [lend_out (f.out h)]; exact h
theorem lend_same (f : Fresh cs H) : Same H (lend H cs) := fun _ _ h => lend_some f h
theorem unl_some (h : unl H cs b = some u) : H b = some u := by
  cases e : cs.lookup b with
  | none => rw [unl_out e] at h; exact h
  | some o => rw [unl_in e] at h; cases h
theorem unl_same : Same (unl H cs) H := fun _ _ h => unl_some h
theorem LentAt.out (f : LentAt cs H) (h : H b = some u) (n : ∀ φ, u ≠ .ext φ) : cs.lookup b = none := by
  cases e : cs.lookup b with
  | none => rfl
  | some o => rw [f b o e] at h; cases h; exact absurd rfl (n _)
theorem unl_keep (f : LentAt cs H) (h : H b = some u) (n : ∀ φ, u ≠ .ext φ) : unl H cs b = some u := by rw [unl_out (f.out h n)]; exact h
theorem unl_fresh : Fresh cs (unl H cs) := fun _ _ h => unl_in h
theorem lend_lent : LentAt cs (lend H cs) := fun _ _ h => lend_in h
theorem unl_lend (f : Fresh cs H) : unl (lend H cs) cs = H := by
  funext b
  cases e : cs.lookup b with
  | none => rw [unl_out e, lend_out e]
  | some o => rw [unl_in e, f b o e]
theorem lend_unl (f : LentAt cs H) : lend (unl H cs) cs = H := by
  funext b
  cases e : cs.lookup b with
  | none => rw [lend_out e, unl_out e]
  | some o => rw [lend_in e, f b o e]
end
section
variable {P : Program} {w : World} {H H1 : Hp} {h h0 h1 : Heap} {cs : Lent} {fs : List Addr}
theorem hok_lend (ok : HOk P w H h) (f : Fresh cs H) (hc : ∀ c o, cs.lookup c = some o → h.get? c = some o) : HOk P w (lend H cs) h := fun a u e => by
  cases hl : cs.lookup a with
  | some o =>
    rw [lend_in hl] at e
    cases e
    exact ⟨hc _ _ hl, ⟨o, hc _ _ hl⟩, fun h1 h2 q k => k _ q⟩
  | none =>
    rw [lend_out hl] at e
    exact (ok a u e).stay (fun _ _ _ q => q) (fun b q => lend_some f q) fun b xs q => lend_some f q
theorem hok_unl (ok : HOk P w H h) (f : LentAt cs H) : HOk P w (unl H cs) h := fun a u e =>
  (ok a u (unl_some e)).stay (fun _ _ _ q => q) (fun b q => unl_keep f q (fun φ z => by cases z)) fun b xs q => unl_keep f q (fun φ z => by cases z)
theorem lent_get (ok : HOk P w H h) (f : LentAt cs H) {c : Addr} {o : Obj} (e : cs.lookup c = some o) : h.get? c = some o := (ok c _ (f c o e)).1
theorem un_back (u : Un fs [] (lend H cs) H1 h0 h1) (f : Fresh cs H) (l : LentAt cs H1) (ok : HOk P w H1 h1) (hc : ∀ c o, cs.lookup c = some o → h0.get? c = some o) : Un fs [] H (unl H1 cs) h0 h1 where
  keep := fun b ob e n hf hx => by
    cases hl : cs.lookup b with
    | some o =>
      have e2 := hc _ _ hl
      rw [e] at e2
      cases e2
      exact lent_get ok l hl
    | none => exact u.keep b ob e (by rw [lend_out hl]; exact n) hf hx
  slot := fun b ob e n hf hx => by
    cases hl : cs.lookup b with
    | some o =>
      have e2 := hc _ _ hl
      rw [e] at e2
      cases e2
      exact ⟨ob.slots, lent_get ok l hl⟩
    | none => exact u.slot b ob e (by rw [lend_out hl]; exact n) hf hx
  free := fun b ob e n hx => by
    cases hl : cs.lookup b with
    | some o => exact unl_in hl
    | none => rw [unl_out hl]; exact u.free b ob e (by rw [lend_out hl]; exact n) hx
  there := u.there
  tups := fun b xs e => unl_keep l (u.tups b xs (lend_some f e)) (fun φ z => by cases z)
  frzs := fun b o v e => unl_keep l (u.frzs b o v (lend_some f e)) (fun φ z => by cases z)
  tbls := fun b ps e => by
    obtain ⟨more, q⟩ := u.tbls b ps (lend_some f e)
    exact ⟨more, unl_keep l q (fun φ z => by cases z)⟩
theorem un_fwd (u : Un fs [] (unl H cs) H1 h0 h1) (l : LentAt cs H) (ok : HOk P w H h0) (hf : ∀ c o, cs.lookup c = some o → c ∉ fs) : Fresh cs H1 ∧ (∀ c o, cs.lookup c = some o → h1.get? c = some o) ∧ Un fs [] H (lend H1 cs) h0 h1 := by
  have f1 : Fresh cs H1 := fun c o e => u.free c o (lent_get ok l e) (unl_in e) (by simp)
  have hc : ∀ c o, cs.lookup c = some o → h1.get? c = some o := fun c o e => u.keep c o (lent_get ok l e) (unl_in e) (hf c o e) (by simp)
  have no : ∀ b, H b = none → cs.lookup b = none := fun b n => by
    cases hl : cs.lookup b with
    | none => rfl
    | some o => rw [l b o hl] at n; cases n
  refine ⟨f1, hc, fun b ob e n => ?_, fun b ob e n => ?_, fun b ob e n hx => ?_, u.there, fun b xs e => ?_, fun b o v e => ?_, fun b ps e => ?_⟩
  · exact u.keep b ob e (by rw [unl_out (no b n)]; exact n)
  · exact u.slot b ob e (by rw [unl_out (no b n)]; exact n)
  · rw [lend_out (no b n)]
    exact u.free b ob e (by rw [unl_out (no b n)]; exact n) hx
  · exact lend_some f1 (u.tups b xs (unl_keep l e (fun φ z => by cases z)))
  · exact lend_some f1 (u.frzs b o v (unl_keep l e (fun φ z => by cases z)))
  · obtain ⟨more, q⟩ := u.tbls b ps (unl_keep l e (fun φ z => by cases z))
    exact ⟨more, lend_some f1 q⟩
end
structure Caught (cl : List (Str × Addr)) (fr : List Str) (ws : List (Option V)) (cs : Lent) : Prop where
  len : ws.length = fr.length
  all : ∀ y c, cl.lookup y = some c → ∃ o v, cs.lookup c = some o ∧ o.data = .cell v
  inj : ∀ x y c, cl.lookup x = some c → cl.lookup y = some c → x = y
  has : ∀ (i : Nat) (y : Str), fr[i]? = some y → ∃ c, cl.lookup y = some c ∧ ∀ v, ws[i]? = some (some v) → ∃ u o, L2.RelV v u ∧ cs.lookup c = some o ∧ o.data = .cell (some u)
def Cells (cs : Lent) : Prop := ∀ c o, cs.lookup c = some o → ∃ v, o.data = .cell v
theorem codeO_cell {c : Addr} {q : Str} {o : Obj} {v : Option Value} (hd : o.data = .cell v) : LamX.CodeO c q ≠ CellO c o := fun e => by
  have hg : (Heap.mk (Array.replicate (c + 1) o) {}).get? c = some o := by
    have h1 : (Array.replicate (c + 1) o)[c]? = some o := by rw [Array.getElem?_replicate, if_pos (Nat.lt_succ_self c)]
    show (match (Array.replicate (c + 1) o)[c]? with
      | some ⟨_, _, .freed, _⟩ => none
      | o => o) = some o
    rw [h1]
    obtain ⟨c1, c2, c3, c4⟩ := o
    cases hd
    rfl
  have e2 := HO.ext.inj e
  have e3 := (congrFun e2 (Heap.mk (Array.replicate (c + 1) o) {})).mpr hg
  obtain ⟨oc, vs, t, h1, h2, _⟩ := e3
  rw [hg] at h1
  cases h1
  rw [hd] at h2
  cases h2
section
variable {P : Program} {w : World} {K : PySem.W.Frag} {mg : Str → Option Value} {base : Heap} {cl : List (Str × Addr)} {fr : List Str} {ws : List (Option V)} {cs : Lent}
theorem Caught.at (C : Caught cl fr ws cs) {H : Hp} {h : Heap} (l : LentAt cs H) (ok : HOk P w H h) : NdefX.CellsAt cl fr ws h (unl H cs) := by
  refine ⟨C.len, fun y c e => ?_, C.inj, fun i y e => ?_⟩
  · obtain ⟨o, v, h1, h2⟩ := C.all y c e
    exact ⟨unl_in h1, v, o, lent_get ok l h1, h2⟩
  · obtain ⟨c, h1, h2⟩ := C.has i y e
    refine ⟨c, h1, fun v hv => ?_⟩
    obtain ⟨u, o, r, g1, g2⟩ := h2 v hv
    exact ⟨u, r, o, lent_get ok l g1, g2⟩
theorem unl_none {H : Hp} {b : Addr} (h : H b = none) : unl H cs b = none := by
  cases z : unl H cs b with
  | none => rfl
  | some u => rw [unl_some z] at h; cases h
theorem env0_unl {A : Around} {outer : List Env} {s : Shared} {H : Hp} (e : Env0 P w K mg base A outer s H) (l : LentAt cs H) : Env0 P w K mg base A outer s (unl H cs) :=
  ⟨e.frames, e.mod, fun b o q => ⟨(e.bs b o q).1, unl_none (e.bs b o q).2⟩, e.bsz, e.funs, fun b hb => unl_none (e.frf b hb), hok_unl e.hok l, e.bare⟩
theorem cr_fwd {outer : List Env} {s s' : Shared} {H : Hp} {Q : VK} {E : XK} {r : Result} (l : LentAt cs H) (ok : HOk P w H s.heap) (hf : ∀ c o, cs.lookup c = some o → c ∉ frs outer) (h : CR CX0 outer P w (unl H cs) s (fun v H' => Q v (lend H' cs)) E r s') : CR CX0 outer P w H s Q E r s' := by
  cases r with
  | error e => exact (show False from h).elim
  | ok fl =>
    cases fl with
    | ret u =>
      obtain ⟨v, H1, h1, h2, h3, h4, h5, h6⟩ := h
      obtain ⟨f1, f2, f3⟩ := un_fwd h3 l ok hf
      exact ⟨v, lend H1 cs, h1, h2, f3, hok_lend h4 f1 f2, h5, h6⟩
    | next => exact h
    | brk => exact h
    | cont => exact h
theorem calX_ndef {k : Nat} {f : Addr} {F : NdefX.NF} {ps : List Str} {sp : List (Option V) → Sp} (o : NdefX.NOk P w K mg base CX0 k f F ps fr sp) (C : Caught F.cl fr ws cs) (hz : Cells cs) :
    CalX P w K mg base k f (fun H => H f = some (NdefX.FnO f F) ∧ H F.c = some (LamX.CodeO F.c F.qual) ∧ LentAt cs H) ps.length (fun vs H Q E => sp ws vs (unl H cs) (fun v H' => Q v (lend H' cs)) E) := by
  refine ⟨fun vs H Q E h => o.len _ _ _ _ _ h, fun s H hok _ hg => ?_, fun A outer s H us vs Q E hr e0 hg r h => ?_⟩
  · obtain ⟨od, sl, doc, pm, ctv, ho⟩ := NdefX.fnO_at hok hg.1
    exact ⟨_, od, _, sl, ho⟩
  · obtain ⟨g1, g2, g3⟩ := hg
    have nf : cs.lookup f = none := by
      cases e : cs.lookup f with
      | none => rfl
      | some ob =>
        obtain ⟨od, sl, doc, pm, ctv, ho⟩ := NdefX.fnO_at e0.hok g1
        obtain ⟨v, hv⟩ := hz _ _ e
        rw [lent_get e0.hok g3 e] at ho
        cases ho
        cases hv
    have nc : cs.lookup F.c = none := by
      cases e : cs.lookup F.c with
      | none => rfl
      | some ob =>
        obtain ⟨c, oc, vs, t, ec, h1, h2, h3⟩ := NdefX.codeO_at e0.hok g2
        obtain ⟨v, hv⟩ := hz _ _ e
        cases ec
        rw [lent_get e0.hok g3 e] at h1
        cases h1
        rw [hv] at h2
        cases h2
    refine codeAny_mono (o.run A outer s (unl H cs) us vs ws _ E hr (env0_unl e0 g3) (by rw [unl_out nf]; exact g1) (by rw [unl_out nc]; exact g2) (C.at g3 e0.hok) r h) fun r s' hq => ?_
    exact cr_fwd g3 e0.hok (fun c ob e hb => by have := e0.frf c hb; rw [g3 c ob e] at this; cases this) hq
theorem calX_lamC {k : Nat} {N ps : List Str} {f : Addr} {F : LF} {sp : Sp} (S : NdefX.NScope N ps fr F.scope) (C : Caught F.cl fr ws cs) (hz : Cells cs)
    (hb : ∀ (pm ctv : Value) (us : List Value), us.length = ps.length → bindArgs (PySem.W.kla_fn "<lambda>" F.qual F.params F.body F.scope F.cl pm (.ref F.c) ctv) ⟨us, []⟩ = pure (ps.zip us)) (len : ∀ vs H Q E, sp vs H Q E → vs.length = ps.length)
    (hbody : ∀ (A : Around) (outer : List Env) (s : Shared) (H : Hp) (vs : List V) (Q : VK) (E : XK), Room k (A.deeper (NdefX.envF F.nf f s.heap.objs.size)) → sp vs H Q E →
      ∃ t, PE (NdefX.ncx CX0 P w K mg base N F.nf f A outer s H E) F.body t ∧ t (NdefX.startF N vs ws) H Q) :
    CalX P w K mg base (k + 1) f (fun H => H f = some (LamO f F) ∧ H F.c = some (LamX.CodeO F.c F.qual) ∧ LentAt cs H) ps.length (fun vs H Q E => sp vs (unl H cs) (fun v H' => Q v (lend H' cs)) E) := by
  refine ⟨fun vs H Q E h => len _ _ _ _ h, fun s H hok _ hg => ?_, fun A outer s H us vs Q E hr e0 hg r hsp => ?_⟩
  · obtain ⟨⟨pm, ctv, e⟩, _, _⟩ := hok _ _ hg.1
    exact ⟨_, _, _, _, e⟩
  obtain ⟨g1, g2, g3⟩ := hg
  obtain ⟨⟨pm, ctv, ho⟩, _, _⟩ := e0.hok _ _ g1
  have hl := len _ _ _ _ hsp
  have lim : s.heap.NoLimit := e0.mod.nolimit.keeps fun b o e => (e0.bs b o e).1
  refine codeAny_mono (R := CR CX0 outer P w (unl H cs) s (fun v H' => Q v (lend H' cs)) E) ?_ fun r s' hq => cr_fwd g3 e0.hok (fun c ob e hb => by have := e0.frf c hb; rw [g3 c ob e] at this; cases this) hq
  refine PySem.W.kla_callFunE hr.depth ho rfl S.co S.gen rfl (NdefX.codeO_at e0.hok g2) ?_
  rw [hb pm ctv us (by rw [← r.length]; exact hl)]
  refine wpAny_pure (wpAny_newFunctionEnv S.nocell (fun ⟨n, _⟩ hy => S.par n (List.of_mem_zip hy).1) (fun h₁ hns hsb => ⟨lim.fresh _ hsb, ?_⟩) S.kind)
  show codeAny _ _ (.expr F.body (NdefX.envF F.nf f s.heap.objs.size)) _ _
  have kp : ∀ b o, s.heap.get? b = some o → h₁.get? b = some o := fun b o e => hsb.extBut b o (Nat.ne_of_lt (Heap.lt_size e)) (Heap.get?_push_of_some _ e)
  obtain ⟨t, ht, hq⟩ := hbody A outer s (unl H cs) vs _ E (hr.deeper _) hsp
  have I : Inv (NdefX.ncx CX0 P w K mg base N F.nf f A outer s (unl H cs) E) [] (NdefX.startF N vs ws) (unl H cs) { s with heap := h₁, toks := s.toks + (ps.zip us).length } := NdefX.inv_startN S hr.hd (env0_unl e0 g3) hl r (C.at g3 e0.hok) hns kp
  refine PySem.W.kla_codeExpr (wpAny_mono (ht.run [] _ _ _ _ I hq) (fun v s' hq => ?_) fun e s' hq => hq)
  obtain ⟨w', H', J', rv, q⟩ := hq
  exact ⟨w', H', J'.os, J'.bare, J'.base, J'.hok, rv, q⟩
end
section
variable {X : Cx} {pins : List (Addr × Obj)} {σ : L2.St} {H : Hp} {s : Shared}
def ownCells (X : Cx) (h : Heap) : Lent := (X.env.cells.map (·.1)).filterMap fun y => match X.env.cells.lookup y with
  | some c => (h.get? c).map fun o => (c, o)
  | none => none
theorem look_has {α β : Type} [BEq α] [LawfulBEq α] {a : α} {b : β} : ∀ {l : List (α × β)}, (a, b) ∈ l → ∃ b', l.lookup a = some b'
  | (x, y) :: r, h => by
    by_cases e : a = x
    · subst e
      exact ⟨y, by simp [List.lookup]⟩
    · rcases List.mem_cons.mp h with h | h
      · cases h
        exact absurd rfl e
      · obtain ⟨b', h'⟩ := look_has h
        refine ⟨b', ?_⟩
        have : (a == x) = false := by simpa using e
        simp [List.lookup, this, h']
theorem mem_look {α β : Type} [BEq α] [LawfulBEq α] {a : α} {b : β} : ∀ {l : List (α × β)}, l.lookup a = some b → (a, b) ∈ l
  | (x, y) :: r, h => by
    by_cases e : a = x
    · subst e
      simp [List.lookup] at h
      rw [h]
      exact List.mem_cons_self
    · have e2 : (a == x) = false := by simpa using e
      simp only [List.lookup, e2] at h
      exact List.mem_cons_of_mem _ (mem_look h)
theorem own_mem {c : Addr} {o : Obj} {h : Heap} (e : (c, o) ∈ ownCells X h) : h.get? c = some o ∧ ∃ y, X.env.cells.lookup y = some c := by
  unfold ownCells at e
  obtain ⟨y, _, hy⟩ := List.mem_filterMap.mp e
  cases hl : X.env.cells.lookup y with
  | none => rw [hl] at hy; cases hy
  | some c' =>
    rw [hl] at hy
    dsimp only at hy
    cases ho : h.get? c' with
    | none => rw [ho] at hy; cases hy
    | some o' =>
      rw [ho] at hy
      cases hy
      exact ⟨ho, y, hl⟩
theorem own_look {c : Addr} {o : Obj} {h : Heap} (e : (ownCells X h).lookup c = some o) : h.get? c = some o ∧ ∃ y, X.env.cells.lookup y = some c := own_mem (mem_look e)
theorem own_in {c : Addr} {o : Obj} {h : Heap} {y : Str} (hy : X.env.cells.lookup y = some c) (ho : h.get? c = some o) : (ownCells X h).lookup c = some o := by
  have hm : (c, o) ∈ ownCells X h := by
    unfold ownCells
    refine List.mem_filterMap.mpr ⟨y, List.mem_map.mpr ⟨_, PySem.mem_of_lookup hy, rfl⟩, ?_⟩
    rw [hy]
    dsimp only
    rw [ho]
    rfl
  obtain ⟨o', h'⟩ := look_has hm
  have := (own_look h').1
  rw [ho] at this
  cases this
  exact h'
structure Lends (X : Cx) (σ : L2.St) (H : Hp) (cs : Lent) : Prop where
  new : Fresh cs H
  cel : Cells cs
  got : ∀ (scope : PySem.Scope) (fr : List Str) (js : List Nat), NdefX.ndefB X.env.scope scope fr = true → js.map (fun j => X.N[j]?) = fr.map some → Caught (cloFrom X.env.cells scope.names []) fr (js.map (NdefX.slotAt σ)) cs
theorem lends_own (I : Inv X pins σ H s) : Lends X σ H (ownCells X s.heap) := by
  have cel : Cells (ownCells X s.heap) := fun c o e => by
    obtain ⟨h1, y, h2⟩ := own_look e
    obtain ⟨v, o', h3, h4⟩ := I.cell y c h2
    rw [h1] at h3
    cases h3
    exact ⟨v, h4⟩
  refine ⟨fun c o e => ?_, cel, fun scope fr js hfr hjs => ?_⟩
  · obtain ⟨_, y, h2⟩ := own_look e
    exact I.freeC y c h2
  · have C := NdefX.Caps.made I.ok (NdefX.ndef_free hfr) (NdefX.ndef_fr hfr) hjs
    have A := NdefX.cells_of I C
    refine ⟨A.len, fun y c e => ?_, A.inj, fun i y e => ?_⟩
    · obtain ⟨_, v, o, h1, h2⟩ := A.all y c e
      exact ⟨o, v, own_in (C.sub y c e) h1, h2⟩
    · obtain ⟨c, h1, h2⟩ := A.has i y e
      refine ⟨c, h1, fun v hv => ?_⟩
      obtain ⟨u, r, o, h3, h4⟩ := h2 v hv
      exact ⟨u, o, r, own_in (C.sub y c h1) h3, h4⟩
theorem env0_lend (I : Inv X pins σ H s) (hfn : ∀ x, X.fn x = true) : Env0 X.prog X.w X.K X.mg X.base X.A X.stack s (lend H (ownCells X s.heap)) := by
  have L := lends_own I
  have big : ∀ c o, (ownCells X s.heap).lookup c = some o → X.s_0.heap.objs.size ≤ c := fun c o e => by
    obtain ⟨_, y, h2⟩ := own_look e
    exact I.ok.cab y c (hfn y) h2
  refine ⟨I.ok.frames, I.ok.mod, fun b o e => ⟨(I.bs b o e).1, ?_⟩, Nat.le_trans I.ok.bsz I.sz, I.stack, fun b hb => ?_, hok_lend I.hok L.new (fun c o e => (own_look e).1), I.bare⟩
  · cases hl : (ownCells X s.heap).lookup b with
    | none => rw [lend_out hl]; exact (I.bs b o e).2
    | some ob =>
      exact absurd (Nat.lt_of_lt_of_le (Heap.lt_size e) I.ok.bsz) (Nat.not_lt.mpr (big _ _ hl))
  · cases hl : (ownCells X s.heap).lookup b with
    | none => rw [lend_out hl]; exact I.stkFree b hb
    | some ob =>
      exfalso
      rcases List.mem_cons.mp (I.stkSub b hb) with e | hb
      · obtain ⟨v, hv⟩ := L.cel _ _ hl
        obtain ⟨m, hn, _⟩ := I.loc
        obtain ⟨o2, es, ep, h1, h3, _⟩ := hn
        rw [← e, (own_look hl).1] at h1
        cases h1
        rw [hv] at h3
        cases h3
      · obtain ⟨_, o, ho, _⟩ := I.ok.funs.mem hb
        exact absurd (Heap.lt_size ho) (Nat.not_lt.mpr (big _ _ hl))
theorem pe_callLd {k : Nat} {f : Addr} {fd : FuncData} {ps : List Str} {sp : Sp} {x : Str} {p pos : Pos} {e : PySem.Expr} {es : List PySem.Expr} {t : TA} (F : FnOk X.prog X.w X.K X.mg X.base CX0 k f fd ps sp) (hr : Room k X.A) (hg : Gl X x) (hm : X.mg x = some (.ref f)) (hk : PySem.W.keepIn X.K (.ref f) = true) (hb : Binds X.K fd ps []) (hfn : ∀ x, X.fn x = true)
    (ha : PA X (e :: es) t) (hdb : (x == ("__debug__" : Str)) = false := by decide) (he : starEach (e :: es) X.env = (false, eval e X.env) :: starEach es X.env := by rfl) (hpl : (backTo pos (starEach es X.env)).any (·.1) = false := by rfl) :
    PE X (.Call (.Name x p) (e :: es) [] pos) (fun σ H Q => t σ H fun vs H1 => ∀ cs, Lends X σ H1 cs → sp vs (lend H1 cs) (fun v H2 => LentAt cs H2 ∧ Q v (unl H2 cs)) E0) := by
  refine ⟨fun pins s σ H Q I h => ?_⟩
  refine wpAny_Call_Name_kw (ld_glob I hg hm ?_ hdb)
  refine PySem.W.callWith_K (h₀ := X.base) I.ok.mod.kin hk (thn (ha.run pos pins s σ H _ I h) fun us s1 ⟨vs, H1, I1, r, q⟩ => ⟨I1.kIn, ?_⟩) he hpl
  have L := lends_own I1
  have q := q _ L
  have hl : us.length = ps.length := by rw [← r.length]; exact F.len _ _ _ _ q
  have hb' := hb s1 us I1.kIn (by rw [List.append_nil]; exact hl)
  rw [List.append_nil] at hb'
  refine wpAny_call (codeAny_mono (F.run X.A X.stack s1 _ ⟨us, []⟩ us vs _ E0 hr (env0_lend I1 hfn) hb' r q) fun r s' hq => ?_)
  cases r with
  | error e => exact (show False from hq).elim
  | ok fl =>
    cases fl with
    | ret u =>
      obtain ⟨v, H2, h1, h2, h3, h4, h5, h6, h7⟩ := hq
      exact I1.after ⟨v, unl H2 _, h1, h2, un_back h3 L.new h6 h4 (fun c o e => (own_look e).1), hok_unl h4 h6, h5, h7⟩
    | next => exact False.elim hq
    | brk => exact False.elim hq
    | cont => exact False.elim hq
end
theorem pe_lamXc {X : Cx} {c P : Addr} {params : Arguments} {body : PySem.Expr} {scope : PySem.Scope} {pos : Pos} {fr : List Str} (tb : LamX.TabB X.base X.mg c P) (hc : X.env.code = .ref c) (hd : defaultsOf params X.env = ([], []))
    (hfr : NdefX.ndefB X.env.scope scope fr = true) : PE X (.Lambda params body scope pos) (fun σ H Q => LamX.TabS H P (X.env.qual ++ "<lambda>") ∧ ∀ (f c : Addr) (H1 : Hp), Fr P H H1 → (∀ b, H1 b = none → H b = none) → LamX.TabS H1 P (X.env.qual ++ "<lambda>") → H f = none →
      H1 f = some (LamO f ⟨X.env.qual ++ "<lambda>", params, body, scope, cloFrom X.env.cells scope.names [], c⟩) → H1 c = some (LamX.CodeO c (X.env.qual ++ "<lambda>")) → Q (.ref f) H1) :=
  ⟨fun pins s σ H Q I h => (pe_lamX tb hc hd fun y hy e => ((NdefX.ndef_free hfr) y hy e).elim (fun z => I.ok.has _ (.inl z)) fun z => I.ok.has _ (.inr z)).run pins s σ H Q I h⟩

theorem concat_of {α : Type} {l : List α} (h : l ≠ []) : ∃ a b, l = a ++ [b] := ⟨l.dropLast, l.getLast h, (List.dropLast_concat_getLast h).symm⟩

abbrev nI (n : Nat) : V := .int (n : Int)
theorem nI_map (xs : List Nat) : xs.map nI = (xs.map fun n : Nat => (n : Int)).map V.int := by rw [List.map_map]; rfl
theorem tabsN_fr1 {TT : List NdefX.NTab} {H H' : Hp} {p : Addr} {xs : List V} (h : NdefX.TabsN TT H) (hp : H p = some (.lst xs)) (f : Fr p H H') : NdefX.TabsN TT H' := fun z hz => by
  obtain ⟨ps, h1, h2, h3⟩ := h z hz
  refine ⟨ps, f _ _ (fun e => by rw [e, hp] at h1; cases h1) h1, h2, fun pos cv hc => ?_⟩
  obtain ⟨c, e, h4⟩ := h3 pos cv hc
  exact ⟨c, e, f _ _ (fun e => by rw [e, hp] at h4; unfold LamX.CodeO at h4; cases h4) h4⟩
theorem CalX.imp2 {P : Program} {w : World} {K : PySem.W.Frag} {mg : Str → Option Value} {base : Heap} {k j : Nat} {f : Addr} {G G' : Hp → Prop} {np : Nat} {sp sp' : Sp} (C : CalX P w K mg base k f G np sp) (hk : k ≤ j) (hl : ∀ vs H Q E, sp' vs H Q E → vs.length = np) (hG : ∀ H, G' H → G H) (hs : ∀ vs H Q E, G' H → sp' vs H Q E → sp vs H Q E) : CalX P w K mg base j f G' np sp' :=
  ⟨hl, fun s H a b g => C.at_ s H a b (hG H g), fun A outer s H us vs Q E hr e0 g r q => C.run A outer s H us vs Q E (hr.mono hk) e0 (hG H g) r (hs _ _ _ _ g q)⟩


def cnts (n : Nat) (xs : List Nat) : List Nat := (List.range n).map fun s => xs.count s
mutual
def St (fs : Nat → List Nat → Nat) (n : Nat) : Tr → Nat
  | .node c ks => fs c (cnts n (Sts fs n ks))
def Sts (fs : Nat → List Nat → Nat) (n : Nat) : List Tr → List Nat
  | [] => []
  | t :: r => St fs n t :: Sts fs n r
end
theorem Sts_map (fs : Nat → List Nat → Nat) (n : Nat) : ∀ ks : List Tr, Sts fs n ks = ks.map (St fs n)
  | [] => rfl
  | t :: r => by simp only [Sts, List.map_cons, Sts_map fs n r]
theorem count_cast (s : Nat) : ∀ xs : List Nat, (xs.map fun n : Nat => (n : Int)).count (s : Int) = xs.count s
  | [] => rfl
  | x :: r => by
    rw [List.map_cons, List.count_cons, List.count_cons, count_cast s r]
    by_cases e : x = s
    · subst e; simp
    · have : ¬ ((x : Int) = (s : Int)) := by omega
      simp [e, this]
def sp__numbers (K : PySem.W.Frag) : Sp := fun vs H Q _ => ∃ (b : Addr) (xs : List Nat) (n : Nat), vs = [.ref b, nI n] ∧ SqL K H b (xs.map nI) ∧ n ≤ 1000 ∧ ∀ r H', Same H H' → H r = none → H' r = some (.lst ((cnts n xs).map nI)) → Q (.ref r) H'
def sp_state_at (L : Str) (n : Nat) (fs : Nat → List Nat → Nat) : Sp := fun vs H Q _ => ∃ (c : Nat) (b : Addr) (cs : List Nat), vs = [.str (ch c), .ref b] ∧ c ∈ L.cps.toList ∧ cs.length = n ∧ (∀ x ∈ cs, x ≤ 1000000) ∧ H b = some (.lst (cs.map nI)) ∧ ∀ H', Same H H' → Q (nI (fs c cs)) H'
def sp_check_letters (K : PySem.W.Frag) : Sp := fun vs H Q _ => ∃ (a : Addr) (L : Str) (ws : List V) (ts : List Tr) (ok : Addr → Prop), vs = [.ref a, .str L] ∧ SqL K H a ws ∧ TrsAt ok H ws ts ∧ (∀ t ∈ ts, ∀ c ks, t = .node c ks → c ∈ L.cps.toList) ∧ ∀ H', Same H H' → Q .non H'
def sp_next_state (L : Str) (n : Nat) (fs : Nat → List Nat → Nat) (f p : Addr) (G : Hp → Prop) : List (Option V) → Sp := fun ws vs H Q _ => ∃ (c : Nat) (bl : Addr) (xs ds : List Nat), vs = [.str (ch c), .ref bl] ∧ ws = [some (.ref p), some (.ref f), some (nI n)] ∧ c ∈ L.cps.toList ∧ n ≤ 1000 ∧ xs.length ≤ 1000000 ∧ ds.length ≤ 1000000 ∧
  H bl = some (.lst (xs.map nI)) ∧ H p = some (.lst (ds.map nI)) ∧ (∀ H', Same H H' → G H') ∧ ∀ H', Fr p H H' → H' p = some (.lst ((ds ++ [fs c (cnts n xs)]).map nI)) → Q (nI (fs c (cnts n xs))) H'
def sp_states_upward (P : Program) (w : World) (K : PySem.W.Frag) (mg : Str → Option Value) (base : Heap) (TT : List NdefX.NTab) : Sp := fun vs H Q _ => ∃ (v : V) (t : Tr) (L : Str) (n : Nat) (f : Addr) (fs : Nat → List Nat → Nat), vs = [v, .str L, nI n, .ref f] ∧ TrAt (fun _ => True) H v t ∧ t.size ≤ 1000000 ∧
  t.lets (fun c => c ∈ L.cps.toList) ∧ n ≤ 1000 ∧ NdefX.TabsN TT H ∧ CalX P w K mg base 10 f (fun H' => LamX.ExtN H H') 2 (sp_state_at L n fs) ∧
  ∀ r H', LamX.ExtN H H' → NdefX.TabsN TT H' → H r = none → H' r = some (.lst ((t.post.map (St fs n)).map nI)) → Q (.ref r) H'
mutual
theorem lets_post {q : Nat → Prop} : ∀ t : Tr, t.lets q → ∀ u ∈ t.post, ∀ c ks, u = .node c ks → q c
  | .node c ks, h, u, hu, c', ks', e => by
    simp only [Tr.lets] at h
    simp only [Tr.post, List.mem_append, List.mem_singleton] at hu
    rcases hu with hu | hu
    · exact letss_post ks h.2 u hu c' ks' e
    · rw [hu] at e
      cases e
      exact h.1
theorem letss_post {q : Nat → Prop} : ∀ ts : List Tr, letss q ts → ∀ u ∈ posts ts, ∀ c ks, u = .node c ks → q c
  | [], _, u, hu, _, _, _ => by simp [posts] at hu
  | t :: r, h, u, hu, c', ks', e => by
    simp only [letss] at h
    simp only [posts, List.mem_append] at hu
    rcases hu with hu | hu
    · exact lets_post t h.1 u hu c' ks' e
    · exact letss_post r h.2 u hu c' ks' e
end
theorem Same.fr {H H' : Hp} {p : Addr} (s : Same H H') : Fr p H H' := Fr.same s
section
variable {P : Program} {w : World} {K : PySem.W.Frag} {mg : Str → Option Value} {base : Heap}
end


theorem seqN {K : PySem.W.Frag} {H H' : Hp} {a : Addr} {xs : List V} (f : LamX.ExtN H H') (h : SqL K H a xs) : SqL K H' a xs := by
  rcases h with (h | ⟨o, h⟩) | h
  · exact .inl (.inl (f _ _ h fun _ z => by cases z))
  · exact .inl (.inr ⟨o, f _ _ h fun _ z => by cases z⟩)
  · exact .inr h
theorem tabs_only : ∀ {TT : List NdefX.NTab}, (TT.map (·.1)).Nodup → ∀ (q : Addr) (f : Nat → Nat → Str), (q, f) ∈ TT → ∀ z ∈ TT, z.1 = q → z.2 = f
  | [], _, _, _, h, _, _, _ => by cases h
  | x :: r, nd, q, f, h, z, hz, e => by
    rw [List.map_cons, List.nodup_cons] at nd
    rcases List.mem_cons.mp h with h | h <;> rcases List.mem_cons.mp hz with k | k
    · rw [k, ← h]
    · exact absurd (List.mem_map.mpr ⟨z, k, by rw [e, ← h]⟩) nd.1
    · exact absurd (List.mem_map.mpr ⟨(q, f), h, by rw [← e, k]⟩) nd.1
    · exact tabs_only nd.2 q f h z k e

def Dw (H : Hp) (D : Addr) (n : Nat) : Prop := ∃ xs : List Nat, H D = some (.lst (xs.map nI)) ∧ (∀ x ∈ xs, x < 10007) ∧ xs.length ≤ n
theorem Dw.app {H : Hp} {D : Addr} {n : Nat} (h : Dw H D n) (hn : n ≤ 100000) (x : Int) (y : Int) (hy : y = x % 10007) : ∃ xs, H D = some (.lst xs) ∧ xs.length < sizeLine ∧ Dw (upd H D (.lst (xs ++ [.int y]))) D (n + 1) := by
  obtain ⟨xs, e, h1, h2⟩ := h
  have r0 : 0 ≤ x % 10007 := Int.emod_nonneg _ (by decide)
  have r1 : x % 10007 < 10007 := Int.emod_lt_of_pos _ (by decide)
  obtain ⟨k, hk, hk2⟩ : ∃ k : Nat, y = (k : Int) ∧ k < 10007 := ⟨y.toNat, by omega, by omega⟩
  subst hk
  refine ⟨_, e, ?_, xs ++ [k], ?_, ?_, by rw [List.length_append, List.length_singleton]; omega⟩
  · rw [List.length_map]
    exact Nat.lt_of_le_of_lt (show _ ≤ 1000000 by omega) (by decide)
  · rw [upd_same, List.map_append]
    rfl
  · intro z hz
    rcases List.mem_append.mp hz with hz | hz
    · exact h1 z hz
    · rw [List.mem_singleton.mp hz]
      exact hk2
def sp__law_draws (K : PySem.W.Frag) : Sp := fun vs H Q _ => ∃ (a : Addr) (ns : List Int) (many : Nat), vs = [.ref a, nI many] ∧ SqL K H a (ns.map V.int) ∧ many ≤ 1000 ∧ ∀ r (xs : List Nat) H', Same H H' → H r = none → H' r = some (.lst (xs.map nI)) → (∀ x ∈ xs, x < 10007) → many ≤ xs.length → xs.length ≤ 2000 → Q (.ref r) H'
section
variable {P : Program} {w : World} {K : PySem.W.Frag} {mg : Str → Option Value} {base : Heap}
theorem ok__law_draws (T : Txt K mg) : FnOk P w K mg base CX0 1 T.f__law_draws T.d__law_draws ["script", "many"] (sp__law_draws K) := by
  refine T.F__law_draws.ok sc__law_draws (fun vs H Q E h => ?_) (fun cdv A outer s H vs Q E hr h => ?_)
  · obtain ⟨a, ns, many, rfl, _⟩ := h
    rfl
  obtain ⟨a, ns, many, rfl, hS, hm, q⟩ := h
  refine ⟨_, (pss_cons (ps_set (i := 2) sc__law_draws.nd rfl (Or.inl rfl) (pe_lst pa_nil)) (pss_cons (ps_set (i := 3) sc__law_draws.nd rfl (Or.inl rfl) pe_int) (pss_cons (ps_for PassesOwn.never rfl (pi_enum (by rfl) T.z_enumerate (pa_cons (pe_slice sl_list (pv 0) po_none (po_some pe_int)) pa_nil)) (pg_tup rfl (pgs_cons (pg_name (i := 4) sc__law_draws.nd rfl (Or.inl rfl)) (pgs_cons (pg_name (i := 5) sc__law_draws.nd rfl (Or.inl rfl)) pgs_nil))) (pss_cons (ps_set (i := 6) sc__law_draws.nd rfl (Or.inl rfl) (pe_callB call_abs (by rfl) T.z_abs (by decide +kernel) (pa_cons (pv 5) pa_nil))) (pss_cons (ps_set (i := 3) sc__law_draws.nd rfl (Or.inl rfl) (pe_op op_mod (pe_op op_add (pe_op op_mul (pv 3) pe_int) (pv 6)) pe_int)) (pss_one (ps_if (pt_cmpR op_ge (pv 6) (pe_op op_pow pe_int pe_int) (nomark _)) (pss_one (ps_while PassesOwn.never (PW.pt (pw_and (pt_cmpR op_gt (pv 6) pe_int (nomark _)) (pw_and1 (pt_cmpR op_lt (pe_callB call_len_seq (by rfl) T.z_len PySem.boot_len (pa_cons (pv 2) pa_nil)) (pv 1) (nomark _))))) (pss_cons (ps_expr (pe_bm PySem.F.plainAttrs_list PySem.F.slot_list_append PySem.F.type_list_append mt_append (pv 2) (pa_cons (pe_op op_mod (pv 6) pe_int) pa_nil))) (pss_one (ps_set (i := 6) sc__law_draws.nd rfl (Or.inl rfl) (pe_op op_fdivW (pv 6) pe_int)))))) (pss_cons (ps_set (i := 7) sc__law_draws.nd rfl (Or.inl rfl) (pe_op op_mod (pe_op op_mul (pe_op op_add (pe_op op_add (pe_op op_mod (pv 6) pe_int) (pv 4)) pe_int) pe_int) pe_int)) (pss_cons (ps_set (i := 7) sc__law_draws.nd rfl (Or.inl rfl) (pe_op op_mod (pe_op op_mul (pv 7) (pv 7)) pe_int)) (pss_cons (ps_expr (pe_bm PySem.F.plainAttrs_list PySem.F.slot_list_append PySem.F.type_list_append mt_append (pv 2) (pa_cons (pe_op op_mod (pe_op op_fdivW (pv 7) pe_int) pe_int) pa_nil))) (pss_cons (ps_set (i := 7) sc__law_draws.nd rfl (Or.inl rfl) (pe_op op_mod (pe_op op_add (pe_op op_add (pe_op op_mul (pv 7) pe_int) (pe_op op_mul pe_int (pv 4))) pe_int) pe_int)) (pss_cons (ps_set (i := 7) sc__law_draws.nd rfl (Or.inl rfl) (pe_op op_mod (pe_op op_mul (pv 7) (pv 7)) pe_int)) (pss_one (ps_expr (pe_bm PySem.F.plainAttrs_list PySem.F.slot_list_append PySem.F.type_list_append mt_append (pv 2) (pa_cons (pe_op op_mod (pe_op op_fdivW (pv 7) pe_int) pe_int) pa_nil)))))))))))))) (pss_cons (ps_for PassesOwn.never rfl (pi_range1 (by rfl) T.z_range (pa_cons (pe_op op_sub (pv 1) (pe_callB call_len_seq (by rfl) T.z_len PySem.boot_len (pa_cons (pv 2) pa_nil))) pa_nil)) (pg_name (i := 4) sc__law_draws.nd rfl (Or.inl rfl)) (pss_cons (ps_set (i := 7) sc__law_draws.nd rfl (Or.inl rfl) (pe_op op_mod (pe_op op_add (pe_op op_add (pv 3) (pe_op op_mul pe_int (pv 4))) pe_int) pe_int)) (pss_cons (ps_set (i := 7) sc__law_draws.nd rfl (Or.inl rfl) (pe_op op_mod (pe_op op_mul (pv 7) (pv 7)) pe_int)) (pss_cons (ps_set (i := 7) sc__law_draws.nd rfl (Or.inl rfl) (pe_op op_mod (pe_op op_add (pe_op op_mul (pv 7) pe_int) (pv 4)) pe_int)) (pss_one (ps_expr (pe_bm PySem.F.plainAttrs_list PySem.F.slot_list_append PySem.F.type_list_append mt_append (pv 2) (pa_cons (pe_op op_mod (pe_op op_fdivW (pe_op op_mod (pe_op op_mul (pv 7) (pv 7)) pe_int) pe_int) pe_int) pa_nil)))))))) (pss_one (ps_ret (pv 2))))))), ?_⟩
  refine ⟨(by show 0 ≤ sizeLine; decide), fun D hD => ?_⟩
  have s1 := same_new hD (o := .lst [])
  have kD := upd_same (H := H) (a := D) (o := .lst [])
  generalize upd H D (.lst []) = H1 at *
  have d1 : Dw H1 D 0 := ⟨[], kD, (fun x h => by cases h), Nat.le_refl _⟩
  refine ⟨_, rfl, _, rfl, a, _, rfl, seqN (.of s1) hS, fun l hl => ?_⟩
  have s2 := same_new hl (o := .lst (cutV (ns.map V.int) none (some 63)))
  have kl := upd_same (H := H1) (a := l) (o := .lst (cutV (ns.map V.int) none (some 63)))
  generalize upd H1 l (.lst (cutV (ns.map V.int) none (some 63))) = H2 at *
  have S2 : Same H H2 := s1.trans s2
  have nDl : D ≠ l := fun e => by rw [e, hl] at kD; cases kD
  have hcut : ∃ ms : List Int, cutV (ns.map V.int) none (some 63) = ms.map V.int ∧ ms.length ≤ 63 := by
    refine ⟨ns.take 63, ?_, by rw [List.length_take]; omega⟩
    unfold cutV
    have e1 : HT.sIx (ns.map V.int).length 0 none = 0 := rfl
    have e2 : HT.sIx (ns.map V.int).length (ns.map V.int).length (some 63) = min 63 (ns.map V.int).length := by
      simp only [HT.sIx]
      split <;> omega
    rw [e1, e2, List.drop_zero, Nat.sub_zero, List.map_take]
    rcases Nat.le_total 63 (ns.map V.int).length with h | h
    · rw [Nat.min_eq_left h]
    · rw [Nat.min_eq_right h, List.take_length, List.take_of_length_le h]
  obtain ⟨ms, em, m63⟩ := hcut
  rw [em] at kl
  have d2 : Dw H2 D 0 := by obtain ⟨xs, e, r⟩ := d1; exact ⟨xs, s2 _ _ e, r⟩
  clear d1 kD s1 s2 hl
  refine ⟨l, _, rfl, .inl (.inl kl), ?_⟩
  refine for_it walk_enum (fun i σ H' => ∃ (b : Int) (y4 y5 y6 y7 : Option V), σ = [some (.ref a), some (nI many), some (.ref D), some (.int b), y4, y5, y6, y7] ∧ 0 ≤ b ∧ b < 2147483629 ∧ Dw H' D (many + 2 * i) ∧ H' l = some (.lst (ms.map V.int)) ∧ Same H H') ⟨7, none, none, none, none, rfl, by decide, by decide, by obtain ⟨xs, e, r, z⟩ := d2; exact ⟨xs, e, r, by omega⟩, kl, S2⟩ (fun i σ H' _ ⟨_, _, _, _, _, _, _, _, _, h, _⟩ => SqL.of h) ?_ ?_
  · rintro i x σ H3 H4 hi ⟨b, y4, y5, y6, y7, rfl, b0, b1, dd, g1, g2⟩ ⟨T0, x1, x2, rfl, hT0, rfl, e1, e2⟩
    cases e1
    have e2 : (ms.map V.int)[i]? = some x2 := e2
    rw [List.getElem?_map] at e2
    cases hb : ms[i]? with
    | none => rw [hb] at e2; cases e2
    | some cell =>
    rw [hb] at e2
    cases e2
    have i63 : i ≤ 63 := by rw [List.length_map] at hi; omega
    have sT := same_new hT0 (o := .tup [.int (i : Nat), .int cell])
    refine ⟨T0, _, rfl, SqT.of upd_same, rfl, _, _, rfl, _, _, rfl, rfl, ?_⟩
    have g1 := sT _ _ g1
    have dd : Dw (upd H3 T0 (.tup [.int (i : Nat), .int cell])) D (many + 2 * i) := by obtain ⟨xs, e, r⟩ := dd; exact ⟨xs, sT _ _ e, r⟩
    have g2 := g2.trans sT
    generalize upd H3 T0 (.tup [.int (i : Nat), .int cell]) = H4 at *
    refine ⟨_, rfl, cell, rfl, ?_⟩
    show gName 6 (.int (if cell < 0 then -cell else cell)) _ _ _
    obtain ⟨num, hn, num0⟩ : ∃ num : Int, (if cell < 0 then -cell else cell) = num ∧ 0 ≤ num := ⟨_, rfl, by split <;> omega⟩
    rw [hn]
    refine ⟨_, rfl, _, _, rfl, rfl, .inl ⟨by omega, by omega⟩, _, rfl, _, _, rfl, rfl, _, _, rfl, rfl, (by show (0 : Int) < 2147483629; decide), ?_⟩
    have c0 : 0 ≤ (b * 31 + num) % 2147483629 := Int.emod_nonneg _ (by decide)
    have c1 : (b * 31 + num) % 2147483629 < 2147483629 := Int.emod_lt_of_pos _ (by decide)
    show gName 3 (.int ((b * 31 + num) % 2147483629)) _ _ _
    generalize (b * 31 + num) % 2147483629 = b2 at *
    refine ⟨_, rfl, 10, 18, rfl, rfl, ⟨by decide, by decide, by decide⟩, _, _, rfl, rfl, _, rfl, ite2 (fun k2 => ?_) (fun k2 => ?_)⟩
    · refine ⟨fun m σ' H' => ∃ z : Int, m = z.toNat ∧ 0 ≤ z ∧ σ' = [some (.ref a), some (nI many), some (.ref D), some (.int b2), some (.int (i : Nat)), some (.int cell), some (.int z), y7] ∧ Dw H' D (many + 2 * i) ∧ H' l = some (.lst (ms.map V.int)) ∧ Same H H', ⟨_, num, rfl, num0, rfl, dd, g1, g2⟩, ?_⟩
      rintro m σ' H5 ⟨z, rfl, z0, rfl, dd, g1, g2⟩
      refine ⟨_, rfl, _, _, rfl, rfl, _, rfl, ?_⟩
      have fin : ∃ (b : Int) (y4 y5 y6 y7' : Option V), [some (V.ref a), some (nI many), some (.ref D), some (.int b2), some (.int (i : Nat)), some (.int cell), some (.int z), y7] = [some (V.ref a), some (nI many), some (.ref D), some (.int b), y4, y5, y6, y7'] ∧ 0 ≤ b ∧ b < 2147483629 ∧ Dw H5 D (many + 2 * (i + 1)) ∧ H5 l = some (.lst (ms.map V.int)) ∧ Same H H5 :=
        ⟨b2, _, _, _, _, rfl, c0, c1, by obtain ⟨xs, e, r, z⟩ := dd; exact ⟨xs, e, r, by omega⟩, g1, g2⟩
      refine ite2 (fun k3 => ?_) (fun k3 => iteF fin)
      have zpos : 0 < z := of_decide_eq_true k3
      obtain ⟨xs, e, r, lz⟩ := id dd
      refine ⟨_, rfl, D, _, rfl, .inl (SqL.of e), _, rfl, _, _, rfl, rfl, _, rfl, ite2 (fun k4 => ?_) (fun k4 => fin)⟩
      have k4 : (((xs.map nI).length : Nat) : Int) < (many : Int) := of_decide_eq_true k4
      rw [List.length_map] at k4
      refine ⟨fun σ' H' => ∃ m', m' < z.toNat ∧ ∃ z : Int, m' = z.toNat ∧ 0 ≤ z ∧ σ' = [some (.ref a), some (nI many), some (.ref D), some (.int b2), some (.int (i : Nat)), some (.int cell), some (.int z), y7] ∧ Dw H' D (many + 2 * i) ∧ H' l = some (.lst (ms.map V.int)) ∧ Same H H', fun σ2 H2 h => h, ?_⟩
      have dd2 : Dw H5 D (many + 2 * i - 1) := ⟨xs, e, r, by omega⟩
      obtain ⟨ys, f1, f2, f3⟩ := dd2.app (by omega) z _ rfl
      refine ⟨_, rfl, .inl ⟨rfl, _, SqL.of f1⟩, _, rfl, _, _, rfl, rfl, (by show (0 : Int) < 10007; decide), D, _, _, rfl, rfl, f1, f2, ?_⟩
      refine ⟨_, rfl, _, _, rfl, rfl, divW (by decide) (by decide), ?_⟩
      have q0 : 0 ≤ z / 10007 := by omega
      refine ⟨(z / 10007).toNat, by omega, z / 10007, rfl, q0, rfl, ?_, by rw [upd_ne nDl.symm]; exact g1, same_add g2 hD⟩
      have e3 : many + 2 * i - 1 + 1 = many + 2 * i := by omega
      rw [e3] at f3
      exact f3
    · refine ⟨_, rfl, _, _, rfl, rfl, (by show (0 : Int) < 2147483647; decide), _, rfl, _, _, rfl, rfl, _, _, rfl, rfl, _, _, rfl, rfl, .inr ⟨by decide, by decide⟩, _, _, rfl, rfl, (by show (0 : Int) < 2147483647; decide), ?_⟩
      have o0 : 0 ≤ (num % 2147483647 + (i : Int) + 1) * 48271 % 2147483647 := Int.emod_nonneg _ (by decide)
      have o1 : (num % 2147483647 + (i : Int) + 1) * 48271 % 2147483647 < 2147483647 := Int.emod_lt_of_pos _ (by decide)
      show gName 7 (.int ((num % 2147483647 + (i : Int) + 1) * 48271 % 2147483647)) _ _ _
      generalize (num % 2147483647 + (i : Int) + 1) * 48271 % 2147483647 = one at *
      refine ⟨_, rfl, _, rfl, _, _, rfl, rfl, .inl ⟨by omega, by omega⟩, _, _, rfl, rfl, (by show (0 : Int) < 2147483629; decide), ?_⟩
      have o2 : 0 ≤ one * one % 2147483629 := Int.emod_nonneg _ (by decide)
      have o3 : one * one % 2147483629 < 2147483629 := Int.emod_lt_of_pos _ (by decide)
      show gName 7 (.int (one * one % 2147483629)) _ _ _
      generalize one * one % 2147483629 = two at *
      obtain ⟨ys, f1, f2, f3⟩ := dd.app (by omega) (two / 8) _ rfl
      refine ⟨_, rfl, .inl ⟨rfl, _, SqL.of f1⟩, _, rfl, _, _, rfl, rfl, divW (by decide) (by decide), _, _, rfl, rfl, (by show (0 : Int) < 10007; decide), D, _, _, rfl, rfl, f1, f2, ?_⟩
      have g1' : upd H4 D (.lst (ys ++ [.int (two / 8 % 10007)])) l = some (.lst (ms.map V.int)) := by rw [upd_ne nDl.symm]; exact g1
      have g2' : Same H (upd H4 D (.lst (ys ++ [.int (two / 8 % 10007)]))) := same_add g2 hD
      refine ⟨_, rfl, _, _, rfl, rfl, .inr ⟨by decide, by decide⟩, _, rfl, _, _, rfl, rfl, .inl ⟨by decide, by decide⟩, _, _, rfl, rfl, _, _, rfl, rfl, _, _, rfl, rfl, (by show (0 : Int) < 2147483563; decide), ?_⟩
      have o4 : 0 ≤ (two * 40692 + 2 * (i : Int) + 1) % 2147483563 := Int.emod_nonneg _ (by decide)
      have o5 : (two * 40692 + 2 * (i : Int) + 1) % 2147483563 < 2147483563 := Int.emod_lt_of_pos _ (by decide)
      show gName 7 (.int ((two * 40692 + 2 * (i : Int) + 1) % 2147483563)) _ _ _
      generalize (two * 40692 + 2 * (i : Int) + 1) % 2147483563 = three at *
      refine ⟨_, rfl, _, rfl, _, _, rfl, rfl, .inl ⟨by omega, by omega⟩, _, _, rfl, rfl, (by show (0 : Int) < 2147483647; decide), ?_⟩
      show gName 7 (.int (three * three % 2147483647)) _ _ _
      generalize three * three % 2147483647 = four at *
      generalize hH5 : upd H4 D (.lst (ys ++ [.int (two / 8 % 10007)])) = H5 at *
      obtain ⟨zs, e1, e2, e3⟩ := f3.app (by omega) (four / 8) _ rfl
      refine ⟨_, rfl, .inl ⟨rfl, _, SqL.of e1⟩, _, rfl, _, _, rfl, rfl, divW (by decide) (by decide), _, _, rfl, rfl, (by show (0 : Int) < 10007; decide), D, _, _, rfl, rfl, e1, e2, ?_⟩
      exact ⟨b2, _, _, _, _, rfl, c0, c1, e3, by rw [upd_ne nDl.symm]; exact g1', same_add g2' hD⟩
  rintro σ H3 ⟨b, y4, y5, y6, y7, rfl, b0, b1, dd, g1, g2⟩
  obtain ⟨xs, e, r, lz⟩ := dd
  rw [List.length_map] at lz
  refine ⟨_, rfl, _, rfl, D, _, rfl, .inl (SqL.of e), _, _, rfl, rfl, (many : Int) - ((xs.map nI).length : Int), rfl, by rw [List.length_map]; omega, by rw [List.length_map]; omega, ?_⟩
  rw [List.length_map]
  refine for_range (lo := 0) (n := ((many : Int) - (xs.length : Int)).toNat) (fun i σ H' => ∃ (y4 y5 y6 y7 : Option V) (zs : List Nat), σ = [some (.ref a), some (nI many), some (.ref D), some (.int b), y4, y5, y6, y7] ∧ H' D = some (.lst (zs.map nI)) ∧ (∀ x ∈ zs, x < 10007) ∧ zs.length = xs.length + i ∧ Same H H') ⟨_, _, _, _, xs, rfl, e, r, rfl, g2⟩ ?_ ?_
  · rintro i σ H4 hi ⟨y4, y5, y6, y7, zs, rfl, h1, h2, h3, h4⟩
    refine ⟨_, rfl, _, rfl, 7919, _, rfl, rfl, .inl ⟨by decide, by decide⟩, _, _, rfl, rfl, _, _, rfl, rfl, _, _, rfl, rfl, (by show (0 : Int) < 2147483629; decide), ?_⟩
    have o0 : 0 ≤ (b + 7919 * (0 + (i : Int)) + 13) % 2147483629 := Int.emod_nonneg _ (by decide)
    have o1 : (b + 7919 * (0 + (i : Int)) + 13) % 2147483629 < 2147483629 := Int.emod_lt_of_pos _ (by decide)
    show gName 7 (.int ((b + 7919 * (0 + (i : Int)) + 13) % 2147483629)) _ _ _
    generalize (b + 7919 * (0 + (i : Int)) + 13) % 2147483629 = one at *
    refine ⟨_, rfl, _, rfl, _, _, rfl, rfl, .inl ⟨by omega, by omega⟩, _, _, rfl, rfl, (by show (0 : Int) < 2147483647; decide), ?_⟩
    show gName 7 (.int (one * one % 2147483647)) _ _ _
    generalize one * one % 2147483647 = two at *
    refine ⟨_, rfl, _, _, rfl, rfl, .inr ⟨by decide, by decide⟩, _, rfl, _, _, rfl, rfl, _, _, rfl, rfl, (by show (0 : Int) < 2147483563; decide), ?_⟩
    have o4 : 0 ≤ (two * 69621 + (0 + (i : Int))) % 2147483563 := Int.emod_nonneg _ (by decide)
    have o5 : (two * 69621 + (0 + (i : Int))) % 2147483563 < 2147483563 := Int.emod_lt_of_pos _ (by decide)
    show gName 7 (.int ((two * 69621 + (0 + (i : Int))) % 2147483563)) _ _ _
    generalize (two * 69621 + (0 + (i : Int))) % 2147483563 = three at *
    refine ⟨_, rfl, .inl ⟨rfl, _, SqL.of h1⟩, _, rfl, _, rfl, _, _, rfl, rfl, .inl ⟨by omega, by omega⟩, _, _, rfl, rfl, (by show (0 : Int) < 2147483629; decide), _, _, rfl, rfl, divW (by decide) (by decide), _, _, rfl, rfl, (by show (0 : Int) < 10007; decide), D, _, _, rfl, rfl, h1, ?_, ?_⟩
    · rw [List.length_map]
      exact Nat.lt_of_le_of_lt (show _ ≤ 1000000 by omega) (by decide)
    have r0 : 0 ≤ three * three % 2147483629 / 8 % 10007 := Int.emod_nonneg _ (by decide)
    have r1 : three * three % 2147483629 / 8 % 10007 < 10007 := Int.emod_lt_of_pos _ (by decide)
    obtain ⟨k, hk, hk2⟩ : ∃ k : Nat, three * three % 2147483629 / 8 % 10007 = (k : Int) ∧ k < 10007 := ⟨(three * three % 2147483629 / 8 % 10007).toNat, by omega, by omega⟩
    refine ⟨_, _, _, _, zs ++ [k], rfl, ?_, ?_, by rw [List.length_append, List.length_singleton]; omega, same_add h4 hD⟩
    · rw [upd_same, List.map_append]
      exact congrArg (fun z => some (HO.lst (zs.map nI ++ [V.int z]))) hk
    · intro z hz
      rcases List.mem_append.mp hz with hz | hz
      · exact h2 z hz
      · rw [List.mem_singleton.mp hz]
        exact hk2
  rintro σ H4 ⟨y4, y5, y6, y7, zs, rfl, h1, h2, h3, h4⟩
  exact ⟨_, rfl, q D zs H4 h4 hD h1 h2 (by omega) (by omega)⟩
end

mutual
inductive Dt (ok : Addr → Prop) (H : Hp) : V → PyData → Prop
  | non : Dt ok H .non .none
  | bl (b : Bool) : Dt ok H (.bl b) (.bool b)
  | int (i : Int) : Dt ok H (.int i) (.int i)
  | str (x : Str) : Dt ok H (.str x) (.str x)
  | dic {a : Addr} : H a = some (.dK []) → ok a → Dt ok H (.ref a) (.dict [])
  | lst {a : Addr} {xs : List V} {ds : List PyData} : H a = some (.lst xs) → ok a → xs.length ≤ 1000 → DtAll ok H xs ds → Dt ok H (.ref a) (.list ds)
  | tup {a : Addr} {xs : List V} {ds : List PyData} : H a = some (.tup xs) → ok a → xs.length ≤ 1000 → DtAll ok H xs ds → Dt ok H (.ref a) (.tuple ds)
inductive DtAll (ok : Addr → Prop) (H : Hp) : List V → List PyData → Prop
  | nil : DtAll ok H [] []
  | cons {v : V} {vs : List V} {d : PyData} {ds : List PyData} : Dt ok H v d → DtAll ok H vs ds → DtAll ok H (v :: vs) (d :: ds)
end
section
variable {ok ok' : Addr → Prop} {H H' : Hp} {K : PySem.W.Frag}
mutual
theorem Dt.imp (hk : ∀ b o, ok b → H b = some o → ok' b) (h : ∀ b o, ok b → H b = some o → H' b = some o) : ∀ {v : V} {d : PyData}, Dt ok H v d → Dt ok' H' v d
  | _, _, .non => .non
  | _, _, .bl b => .bl b
  | _, _, .int i => .int i
  | _, _, .str x => .str x
  | _, _, .dic e k => .dic (h _ _ k e) (hk _ _ k e)
  | _, _, .lst e k l r => .lst (h _ _ k e) (hk _ _ k e) l (DtAll.imp hk h r)
  | _, _, .tup e k l r => .tup (h _ _ k e) (hk _ _ k e) l (DtAll.imp hk h r)
theorem DtAll.imp (hk : ∀ b o, ok b → H b = some o → ok' b) (h : ∀ b o, ok b → H b = some o → H' b = some o) : ∀ {vs : List V} {ds : List PyData}, DtAll ok H vs ds → DtAll ok' H' vs ds
  | _, _, .nil => .nil
  | _, _, .cons a b => .cons (Dt.imp hk h a) (DtAll.imp hk h b)
end
theorem Dt.keep {v : V} {d : PyData} (x : Dt ok H v d) (h : ∀ b o, ok b → H b = some o → H' b = some o) : Dt ok H' v d := x.imp (fun _ _ k _ => k) h
theorem Dt.same {v : V} {d : PyData} (x : Dt ok H v d) (s : Same H H') : Dt ok H' v d := x.keep fun b o _ h => s b o h
theorem Dt.weak {v : V} {d : PyData} (x : Dt ok H v d) (h : ∀ b, ok b → ok' b) : Dt ok' H v d := x.imp (fun b _ k _ => h b k) fun _ _ _ e => e
theorem Dt.any {v : V} {d : PyData} (x : Dt ok H v d) : Dt (fun _ => True) H v d := x.weak fun _ _ => trivial
theorem Dt.off {w : Addr} {v : V} {d : PyData} (x : Dt ok H v d) (h : H w = none) : Dt (fun b => ok b ∧ b ≠ w) H v d := x.imp (fun _ _ k e => ⟨k, ne_of_none e h⟩) fun _ _ _ e => e
theorem DtAll.keep {vs : List V} {ds : List PyData} (x : DtAll ok H vs ds) (h : ∀ b o, ok b → H b = some o → H' b = some o) : DtAll ok H' vs ds := x.imp (fun _ _ k _ => k) h
theorem DtAll.same {vs : List V} {ds : List PyData} (x : DtAll ok H vs ds) (s : Same H H') : DtAll ok H' vs ds := x.keep fun b o _ h => s b o h
theorem DtAll.weak {vs : List V} {ds : List PyData} (x : DtAll ok H vs ds) (h : ∀ b, ok b → ok' b) : DtAll ok' H vs ds := x.imp (fun b _ k _ => h b k) fun _ _ _ e => e
mutual
theorem Dt.dp : ∀ {v : V} {d : PyData}, Dt ok H v d → d.canLay0 = true → Dp K H v d
  | _, _, .non, _ => .non
  | _, _, .bl b, _ => .bl b
  | _, _, .int i, _ => .int i
  | _, _, .str x, _ => .str x
  | _, _, .dic _ _, h => by simp [PyData.canLay0] at h
  | _, _, .lst e _ _ r, h => .lst (SqL.of e) (DtAll.dp r (by simpa only [PyData.canLay0] using h))
  | _, _, .tup e _ _ r, h => .tup (SqT.of e) (DtAll.dp r (by simpa only [PyData.canLay0] using h))
theorem DtAll.dp : ∀ {vs : List V} {ds : List PyData}, DtAll ok H vs ds → PyData.canLayAll0 ds = true → DpAll K H vs ds
  | _, _, .nil, _ => .nil
  | _, _, .cons a b, h => by
    simp only [PyData.canLayAll0, Bool.and_eq_true] at h
    exact .cons (Dt.dp a h.1) (DtAll.dp b h.2)
end
theorem DtAll.len : ∀ {vs : List V} {ds : List PyData}, DtAll ok H vs ds → vs.length = ds.length
  | _, _, .nil => rfl
  | _, _, .cons _ b => by simp only [List.length_cons, DtAll.len b]
theorem DtAll.getV : ∀ {vs : List V} {ds : List PyData} {i : Nat} {x : V}, DtAll ok H vs ds → vs[i]? = some x → ∃ d, ds[i]? = some d ∧ Dt ok H x d
  | _, _, 0, _, .cons a _, h => by cases h; exact ⟨_, rfl, a⟩
  | _, _, i + 1, _, .cons _ b, h => by
    rw [List.getElem?_cons_succ] at h
    obtain ⟨d, h1, h2⟩ := DtAll.getV b h
    exact ⟨d, by rw [List.getElem?_cons_succ]; exact h1, h2⟩
theorem DtAll.snoc : ∀ {vs : List V} {ds : List PyData} {v : V} {d : PyData}, DtAll ok H vs ds → Dt ok H v d → DtAll ok H (vs ++ [v]) (ds ++ [d])
  | _, _, _, _, .nil, y => .cons y .nil
  | _, _, _, _, .cons a b, y => .cons a (DtAll.snoc b y)
theorem dt_ints : ∀ xs : List Int, DtAll ok H (xs.map V.int) (xs.map PyData.int)
  | [] => .nil
  | x :: r => .cons (.int x) (dt_ints r)
theorem dt_intsL {a : Addr} {xs : List Int} (h : H a = some (.lst (xs.map V.int))) (k : ok a) (l : xs.length ≤ 1000) : Dt ok H (.ref a) (.list (xs.map PyData.int)) := .lst h k (by rw [List.length_map]; exact l) (dt_ints xs)
theorem dtAll_ints : ∀ {w : List Int} {vs : List V}, DtAll ok H vs (w.map PyData.int) → vs = w.map V.int
  | [], _, h => by cases h; rfl
  | x :: r, _, h => by
    cases h with
    | cons a b =>
      cases a
      rw [dtAll_ints b]
      rfl
theorem Dt.intsL {v : V} {w : List Int} (h : Dt ok H v (.list (w.map PyData.int))) : ∃ a, v = .ref a ∧ H a = some (.lst (w.map V.int)) ∧ ok a := by
  cases h with
  | lst e k l r =>
    rw [dtAll_ints r] at e
    exact ⟨_, rfl, e, k⟩
end
theorem layAll_mem {d : PyData} : ∀ {ds : List PyData}, PyData.canLayAll0 ds = true → d ∈ ds → d.canLay0 = true
  | x :: r, h, hm => by
    simp only [PyData.canLayAll0, Bool.and_eq_true] at h
    rcases List.mem_cons.mp hm with rfl | hm
    · exact h.1
    · exact layAll_mem h.2 hm
theorem depthAll_mem {d : PyData} : ∀ {ds : List PyData}, d ∈ ds → d.depth ≤ PyData.depthAll ds
  | x :: r, h => by
    simp only [PyData.depthAll]
    rcases List.mem_cons.mp h with rfl | h
    · omega
    · have := depthAll_mem h
      omega
theorem eqT {x y : V} {i : Decidable (x = y)} {A B : Prop} (h : x = y) (k : A) : if (@decide (x = y) i) = true then A else B := by
  rw [decide_eq_true h]
  exact iteT k
theorem eqF {x y : V} {i : Decidable (x = y)} {A B : Prop} (h : x ≠ y) (k : B) : if (@decide (x = y) i) = true then A else B := by
  rw [decide_eq_false h]
  exact iteF k
theorem noneOf {sp : Sp} {P : Program} {w : World} {K : PySem.W.Frag} {mg : Str → Option Value} {base : Heap} {f : Addr} {fd : FuncData} {ps : List Str} {k : Nat} (no : ∀ vs H Q E, ¬ sp vs H Q E) : FnOk P w K mg base CX0 k f fd ps sp :=
  ⟨fun vs H Q E h => absurd h (no vs H Q E), fun A outer s H args us vs Q E _ _ _ _ h => absurd h (no vs H Q E)⟩

mutual
inductive NK (H : Hp) : NestedKey → V → Prop
  | int (i : Int) : NK H (.num i) (.int i)
  | text (x : Str) : NK H (.text x) (.str x)
  | tup {a : Addr} {vs : List V} {ks : List NestedKey} : H a = some (.tup vs) → NKs H ks vs → NK H (.tup ks) (.ref a)
inductive NKs (H : Hp) : List NestedKey → List V → Prop
  | nil : NKs H [] []
  | cons {k : NestedKey} {v : V} {ks : List NestedKey} {vs : List V} : NK H k v → NKs H ks vs → NKs H (k :: ks) (v :: vs)
end
section
variable {X : Cx} {pins : List (Addr × Obj)} {σ : L2.St} {H H' : Hp} {s : Shared}
mutual
theorem NK.is (I : Inv X pins σ H s) : ∀ {k : NestedKey} {v : V} {u : Value}, NK H k v → RelV v u → NestedIs s.heap k u
  | _, _, _, .int i, r => by
    obtain ⟨t, rfl⟩ := r
    exact .int i t
  | _, _, _, .text x, r => by
    obtain ⟨t, rfl⟩ := r
    exact .text x t
  | _, _, _, .tup h1 h2, r => by
    cases r
    obtain ⟨_, its, rv, o, e1, e2, n, e3⟩ := I.hok _ _ h1
    exact .tup e1 e2 e3 (by simpa using NKs.is I h2 rv)
theorem NKs.is (I : Inv X pins σ H s) : ∀ {ks : List NestedKey} {vs : List V} {us : List Value}, NKs H ks vs → Vals vs us → NestedAll s.heap ks us
  | _, _, _, .nil, r => by cases r; exact .nil
  | _, _, _, .cons a b, r => by
    cases r with
    | cons r1 r2 => exact .cons (NK.is I a r1) (NKs.is I b r2)
end
mutual
theorem NK.keep (f : ∀ b xs, H b = some (.tup xs) → H' b = some (.tup xs)) : ∀ {k : NestedKey} {v : V}, NK H k v → NK H' k v
  | _, _, .int i => .int i
  | _, _, .text x => .text x
  | _, _, .tup h1 h2 => .tup (f _ _ h1) (NKs.keep f h2)
theorem NKs.keep (f : ∀ b xs, H b = some (.tup xs) → H' b = some (.tup xs)) : ∀ {ks : List NestedKey} {vs : List V}, NKs H ks vs → NKs H' ks vs
  | _, _, .nil => .nil
  | _, _, .cons a b => .cons (NK.keep f a) (NKs.keep f b)
end
end
abbrev NRow := NestedKey × Addr × V
def DictN (P : Program) (w : World) (a : Addr) (xs : List NRow) : HO := .ext fun h => (a == sysModules) = false ∧ xs.length ≤ sizeLine ∧ ∃ us : List (NestedKey × Addr × Value), Paired (fun (p : NRow) (q : NestedKey × Addr × Value) => p.1 = q.1 ∧ p.2.1 = q.2.1 ∧ RelV p.2.2 q.2.2) xs us ∧
  ∃ o es ep, h.get? a = some o ∧ o.ExactDict ∧ o.data = .dict es ep ∧ es.toList = us.map (entryOfKey (nestedKind P w)) ∧ (us.map (·.1)).Nodup
theorem dictN_ok {P : Program} {w : World} {H : Hp} {h : Heap} {a : Addr} {xs : List NRow} (h1 : (a == sysModules) = false) (h2 : xs.length ≤ sizeLine) {us : List (NestedKey × Addr × Value)} (h3 : Paired (fun (p : NRow) (q : NestedKey × Addr × Value) => p.1 = q.1 ∧ p.2.1 = q.2.1 ∧ RelV p.2.2 q.2.2) xs us)
    (h4 : ∃ o es ep, h.get? a = some o ∧ o.ExactDict ∧ o.data = .dict es ep ∧ es.toList = us.map (entryOfKey (nestedKind P w)) ∧ (us.map (·.1)).Nodup) : ObjOk P w H h a (DictN P w a xs) :=
  ⟨⟨h1, h2, us, h3, h4⟩, (let ⟨o, _, _, e, _⟩ := h4; ⟨o, e⟩), fun _ _ ⟨b1, b2, us, b3, o, es, ep, e, r⟩ k => ⟨b1, b2, us, b3, o, es, ep, k o e, r⟩⟩
def RowsN (H : Hp) (xs : List NRow) : Prop := ∀ x ∈ xs, NK H x.1 (.ref x.2.1) ∧ x.1.depth ≤ 8
def atN (xs : List NRow) (k : NestedKey) : Option V := (xs.find? fun x => decide (x.1 = k)).map (·.2.2)
section
variable {X : Cx} {pins : List (Addr × Obj)} {σ : L2.St} {H : Hp} {s : Shared} {a : Addr} {xs : List NRow}
theorem dictN_of (I : Inv X pins σ H s) (h : H a = some (DictN X.prog X.w a xs)) (hk : RowsN H xs) : (a == sysModules) = false ∧ ∃ us : List (NestedKey × Addr × Value), Paired (fun (p : NRow) (q : NestedKey × Addr × Value) => p.1 = q.1 ∧ p.2.1 = q.2.1 ∧ RelV p.2.2 q.2.2) xs us ∧ s.heap.DictOfH (nestedKind X.prog X.w) a us := by
  obtain ⟨⟨h1, h2, us, h3, o, es, ep, e1, e2, e3, e4, e5⟩, _, _⟩ := I.hok _ _ h
  refine ⟨h1, us, h3, o, es, ep, e1, e2, e3, e4, fun u hu => ?_, e5⟩
  have : ∀ (xs : List NRow) (us : List (NestedKey × Addr × Value)), Paired (fun (p : NRow) (q : NestedKey × Addr × Value) => p.1 = q.1 ∧ p.2.1 = q.2.1 ∧ RelV p.2.2 q.2.2) xs us → RowsN H xs → ∀ u ∈ us, (nestedKind X.prog X.w).is s.heap u.1 u.2.1 := by
    intro xs us p
    induction p with
    | nil => intro _ u hu; cases hu
    | cons r t ih =>
      intro hk u hu
      rcases List.mem_cons.mp hu with rfl | hu
      · obtain ⟨n1, n2⟩ := hk _ List.mem_cons_self
        refine ⟨?_, ?_⟩
        · rw [← r.1, ← r.2.1]
          exact NK.is I n1 rfl
        · rw [← r.1]
          exact n2
      · exact ih (fun x hx => hk x (List.mem_cons_of_mem _ hx)) u hu
  exact this _ _ h3 hk u hu
def tDGetN (P : Program) (w : World) (td ty : TE) : TE := fun σ H Q => td σ H fun x H1 => ty σ H1 fun y H2 => ∃ (a b : Addr) (xs : List NRow) (k : NestedKey) (v : V), x = .ref a ∧ y = .ref b ∧ H2 a = some (DictN P w a xs) ∧ RowsN H2 xs ∧ NK H2 k (.ref b) ∧ k.depth ≤ 8 ∧ atN xs k = some v ∧ Q v H2
theorem atN_pairs {k : NestedKey} {xs : List NRow} {us : List (NestedKey × Addr × Value)} (p : Paired (fun (p : NRow) (q : NestedKey × Addr × Value) => p.1 = q.1 ∧ p.2.1 = q.2.1 ∧ RelV p.2.2 q.2.2) xs us) : (∃ v u, atN xs k = some v ∧ valueAt (pairsH us) k = some u ∧ RelV v u) ∨ (atN xs k = none ∧ valueAt (pairsH us) k = none) := by
  induction p with
  | nil => exact .inr ⟨rfl, rfl⟩
  | cons r t ih =>
    rename_i x u xs us
    by_cases e : x.1 = k
    · have e2 : u.1 = k := r.1.symm.trans e
      exact .inl ⟨x.2.2, u.2.2, by simp [atN, e], by simp [valueAt, pairsH, e2], r.2.2⟩
    · have e2 : ¬ u.1 = k := fun z => e (r.1.trans z)
      have a1 : atN (x :: xs) k = atN xs k := by simp [atN, List.find?_cons, e]
      have a2 : valueAt (pairsH (u :: us)) k = valueAt (pairsH us) k := by simp [valueAt, pairsH, List.find?_cons, e2]
      rw [a1, a2]
      exact ih
theorem pe_dgetN {o i : PySem.Expr} {td ty : TE} {pos : Pos} (hu : X.A.units + 9 < cLine) (ho : PE X o td) (hi : PE X i ty) (hs : NoSl i) : PE X (.Subscript o i pos) (tDGetN X.prog X.w td ty) := by
  refine ⟨fun pins s σ H Q I h => ?_⟩
  refine subD_of PySem.F.slot_dict_getitem.lookup hs (thn (ho.run pins s σ H _ I h) fun u s1 ⟨x, H1, I1, rx, q1⟩ => thn (hi.run pins s1 σ H1 _ I1 q1) fun iv s2 ⟨y, H2, I2, ry, a, b, xs, k, v, ex, ey, g, gr, gk, gd, ga, q2⟩ => ?_)
  subst ex ey
  cases rx
  cases ry
  obtain ⟨ha, us, hp, hm⟩ := dictN_of I2 g gr
  rcases atN_pairs (k := k) hp with ⟨v', uv, e1, e2, rv⟩ | ⟨e1, _⟩
  · have ev := Option.some.inj (e1.symm.trans ga)
    subst ev
    exact ⟨hm.typeIs, getItem_keyed (knd := nestedKind X.prog X.w) (show X.A.units + 1 + 8 < cLine by omega) ⟨NK.is I2 gk rfl, gd⟩ ⟨us, hm, rfl⟩ e2 ⟨_, H2, I2.tok _, rv, q2⟩⟩
  · rw [ga] at e1
    cases e1
def rInN (P : Program) (w : World) : R2 := fun y x H Q => ∃ (a b : Addr) (xs : List NRow) (k : NestedKey), x = .ref a ∧ y = .ref b ∧ H a = some (DictN P w a xs) ∧ RowsN H xs ∧ NK H k (.ref b) ∧ k.depth ≤ 8 ∧ Q (.bl (atN xs k).isSome) H
theorem op_inN (hu : X.A.units + 9 < cLine) : OpR X (compareOp .In) (rInN X.prog X.w) := by
  intro pins s σ H y x u iv Q I ry rx h
  obtain ⟨a, b, xs, k, rfl, rfl, g, gr, gk, gd, q⟩ := h
  cases rx
  cases ry
  obtain ⟨ha, us, hp, hm⟩ := dictN_of I g gr
  refine in_keyed (knd := nestedKind X.prog X.w) (show X.A.units + 1 + 8 < cLine by omega) ⟨NK.is I gk rfl, gd⟩ ha ⟨us, hm, rfl⟩ ?_
  rcases atN_pairs (k := k) hp with ⟨v', uv, e1, e2, _⟩ | ⟨e1, e2⟩
  · rw [e1] at q
    rw [e2]
    exact ⟨.bl true, H, I.tok _, rfl, q⟩
  · rw [e1] at q
    rw [e2]
    exact ⟨.bl false, H, I.tok _, rfl, q⟩
def rNotInN (P : Program) (w : World) : R2 := fun y x H Q => ∃ (a b : Addr) (xs : List NRow) (k : NestedKey), x = .ref a ∧ y = .ref b ∧ H a = some (DictN P w a xs) ∧ RowsN H xs ∧ NK H k (.ref b) ∧ k.depth ≤ 8 ∧ Q (.bl (!(atN xs k).isSome)) H
theorem op_notInN (hu : X.A.units + 9 < cLine) : OpR X (compareOp .NotIn) (rNotInN X.prog X.w) := by
  intro pins s σ H y x u iv Q I ry rx h
  obtain ⟨a, b, xs, k, rfl, rfl, g, gr, gk, gd, q⟩ := h
  cases rx
  cases ry
  obtain ⟨ha, us, hp, hm⟩ := dictN_of I g gr
  refine notIn_keyed (knd := nestedKind X.prog X.w) (show X.A.units + 1 + 8 < cLine by omega) ⟨NK.is I gk rfl, gd⟩ ha ⟨us, hm, rfl⟩ ?_
  rcases atN_pairs (k := k) hp with ⟨v', uv, e1, e2, _⟩ | ⟨e1, e2⟩
  · rw [e1] at q
    rw [e2]
    exact ⟨.bl false, H, I.tok _, rfl, q⟩
  · rw [e1] at q
    rw [e2]
    exact ⟨.bl true, H, I.tok _, rfl, q⟩
def storedN (xs : List NRow) (k : NestedKey) (b : Addr) (v : V) : List NRow := if (atN xs k).isSome then xs.map (fun x => if x.1 = k then (x.1, x.2.1, v) else x) else xs ++ [(k, b, v)]
abbrev RowsP (xs : List NRow) (us : List (NestedKey × Addr × Value)) : Prop := Paired (fun (p : NRow) (q : NestedKey × Addr × Value) => p.1 = q.1 ∧ p.2.1 = q.2.1 ∧ RelV p.2.2 q.2.2) xs us
theorem rows_map {k : NestedKey} {v : V} {u : Value} (rv : RelV v u) : ∀ {xs : List NRow} {us : List (NestedKey × Addr × Value)}, RowsP xs us → RowsP (xs.map (fun x => if x.1 = k then (x.1, x.2.1, v) else x)) (us.map (putAt k u))
  | _, _, .nil => .nil
  | x :: xs, y :: us, .cons r t => by
    refine .cons ?_ (rows_map rv t)
    show (if x.1 = k then (x.1, x.2.1, v) else x).1 = (putAt k u y).1 ∧ (if x.1 = k then (x.1, x.2.1, v) else x).2.1 = (putAt k u y).2.1 ∧ RelV (if x.1 = k then (x.1, x.2.1, v) else x).2.2 (putAt k u y).2.2
    unfold putAt
    by_cases e : x.1 = k
    · rw [if_pos e, if_pos (r.1.symm.trans e)]
      exact ⟨r.1, r.2.1, rv⟩
    · rw [if_neg e, if_neg (fun z => e (r.1.trans z))]
      exact r
theorem rows_app {k : NestedKey} {b : Addr} {v : V} {u : Value} (rv : RelV v u) : ∀ {xs : List NRow} {us : List (NestedKey × Addr × Value)}, RowsP xs us → RowsP (xs ++ [(k, b, v)]) (us ++ [(k, b, u)])
  | _, _, .nil => .cons ⟨rfl, rfl, rv⟩ .nil
  | _ :: _, _ :: _, .cons r t => .cons r (rows_app rv t)
theorem stored_pairs {k : NestedKey} {b : Addr} {v : V} {u : Value} (rv : RelV v u) {xs : List NRow} {us : List (NestedKey × Addr × Value)} (p : Paired (fun (p : NRow) (q : NestedKey × Addr × Value) => p.1 = q.1 ∧ p.2.1 = q.2.1 ∧ RelV p.2.2 q.2.2) xs us) :
    Paired (fun (p : NRow) (q : NestedKey × Addr × Value) => p.1 = q.1 ∧ p.2.1 = q.2.1 ∧ RelV p.2.2 q.2.2) (storedN xs k b v) (storedH us k b u) := by
  have hs : (atN xs k).isSome = (atKey us k).isSome := by
    have e : valueAt (pairsH us) k = (atKey us k).map (·.2) := valueAt_pairsH us k
    rcases atN_pairs (k := k) p with ⟨v', u', e1, e2, _⟩ | ⟨e1, e2⟩
    · rw [e1]
      rw [e2] at e
      cases h : atKey us k with
      | none => rw [h] at e; cases e
      | some _ => rfl
    · rw [e1]
      rw [e2] at e
      cases h : atKey us k with
      | none => rfl
      | some _ => rw [h] at e; cases e
  unfold storedN storedH
  rw [hs]
  split
  · exact rows_map rv p
  · exact rows_app rv p
theorem storedN_len (xs : List NRow) (k : NestedKey) (b : Addr) (v : V) : (storedN xs k b v).length ≤ xs.length + 1 := by
  unfold storedN
  split
  · rw [List.length_map]; omega
  · rw [List.length_append]; exact Nat.le_refl _
def sDPutN (P : Program) (w : World) (td ty tv : TE) : TS := fun D σ H => tv σ H fun v H1 => td σ H1 fun x H2 => ty σ H2 fun y H3 => ∃ (a b : Addr) (xs : List NRow) (k : NestedKey), x = .ref a ∧ y = .ref b ∧ H3 a = some (DictN P w a xs) ∧ RowsN H3 xs ∧ NK H3 k (.ref b) ∧ k.depth ≤ 8 ∧ xs.length < sizeLine ∧ D.nx σ (upd H3 a (DictN P w a (storedN xs k b v)))
theorem ps_dputN {o i value : PySem.Expr} {td ty tv : TE} {pos pos' : Pos} (hu : X.A.units + 9 < cLine) (ho : PE X o td) (hi : PE X i ty) (hv : PE X value tv) (hs : swapsWith value (some (.Subscript o i pos')) pos.line X.env = pure false) :
    PS X (.Assign [.Subscript o i pos'] value pos) (sDPutN X.prog X.w td ty tv) := by
  refine ⟨fun pins s σ H D I h => ?_⟩
  refine wpAny_Assign_Subscript (thn (hv.run pins s σ H _ I h) fun r s1 ⟨v, H1, I1, rv, q1⟩ => thn (ho.run pins s1 σ H1 _ I1 q1) fun u s2 ⟨x, H2, I2, rx, q2⟩ => thn (hi.run pins s2 σ H2 _ I2 q2) fun iv s3 ⟨y, H3, I3, ry, a, b, xs, k, ex, ey, g, gr, gk, gd, gz, q3⟩ => ?_) hs
  subst ex ey
  cases rx
  cases ry
  obtain ⟨ha, us, hp, hm⟩ := dictN_of I3 g gr
  have hl : us.length ≤ sizeLine := by rw [← Paired.length hp]; omega
  refine wpAny_setItem_heap (knd := nestedKind X.prog X.w) (hsz := hl) (show X.A.units + 1 + 8 < cLine by omega) ⟨NK.is I3 gk rfl, gd⟩ hm fun h' hm' sb => ?_
  obtain ⟨ob, es, ep, e1, e2, e3, e4, _, e5⟩ := hm'
  have hz : (storedN xs k b v).length ≤ sizeLine := by have := storedN_len xs k b v; omega
  exact ⟨σ, _, d_write I3 (by rw [g]; exact True.intro) sb ⟨ob, e1⟩ (dictN_ok ha hz (stored_pairs rv hp) ⟨ob, es, ep, e1, e2, e3, e4, e5⟩), q3⟩
theorem pe_dnewN {pos : Pos} : PE X (.Dict [] [] pos) (fun _ H Q => ∀ p, H p = none → Q (.ref p) (upd H p (DictN X.prog X.w p []))) := ⟨fun pins s σ H Q I h =>
  wpAny_Dict_empty ⟨.ref s.heap.objs.size, _, I.laid (a := s.heap.objs.size) (o := DictN X.prog X.w s.heap.objs.size []) (t' := s.toks) (fun _ _ q => Heap.get?_push_of_some _ q) (Nat.le_refl _)
    (dictN_ok (beq_eq_false_iff_ne.mpr (Ne.symm (Nat.ne_of_lt I.big))) (Nat.zero_le _) .nil ⟨_, #[], 0, Heap.get?_push_size _ rfl, ⟨rfl, rfl, rfl⟩, rfl, rfl, List.nodup_nil⟩), rfl, h _ (I.hok.fresh (Nat.le_refl _))⟩⟩
end
theorem frzN {X : Cx} {pins : List (Addr × Obj)} {σ : L2.St} {H : Hp} {s : Shared} {a : Addr} {o : Obj} {xs : List NRow} (I : Inv X pins σ H s) (h : H a = some (.frz o (DictN X.prog X.w a xs))) :
    (a == sysModules) = false ∧ s.heap.get? a = some o ∧ o.ExactDict ∧ ∃ (es : Array DictEntry) (ep : Nat), o.data = .dict es ep ∧ es.size = xs.length ∧ ∀ (i : Nat) (row : NRow), xs[i]? = some row → ∃ en : DictEntry, es[i]? = some en ∧ en.key = Value.ref row.2.1 ∧ RelV row.2.2 en.val := by
  obtain ⟨hg, ⟨h1, h2, us, h3, o2, es, ep, e1, e2, e3, e4, e5⟩, _, _⟩ := I.hok _ _ h
  have eo : o2 = o := Option.some.inj (e1.symm.trans hg)
  subst eo
  have hl : us.length = es.size := by
    have := congrArg List.length e4
    rw [List.length_map, Array.length_toList] at this
    exact this.symm
  refine ⟨h1, hg, e2, es, ep, e3, by rw [← hl]; exact (Paired.length h3).symm, fun i row hr => ?_⟩
  have : ∀ (xs : List NRow) (us : List (NestedKey × Addr × Value)), RowsP xs us → ∀ (i : Nat) (row : NRow), xs[i]? = some row → ∃ u : NestedKey × Addr × Value, us[i]? = some u ∧ u.2.1 = row.2.1 ∧ RelV row.2.2 u.2.2 := by
    intro xs us p
    induction p with
    | nil => intro i row h; cases h
    | cons r t ih =>
      intro i row h
      cases i with
      | zero => cases h; exact ⟨_, rfl, r.2.1.symm, r.2.2⟩
      | succ i => exact ih i row (by simpa using h)
  obtain ⟨u, hu, k1, k2⟩ := this _ _ h3 i row hr
  refine ⟨entryOfKey (nestedKind X.prog X.w) u, ?_, by show Value.ref u.2.1 = _; rw [k1], k2⟩
  rw [← Array.getElem?_toList, e4, List.getElem?_map, hu]
  rfl
def ItkN (P : Program) (w : World) (d : Addr) (o : Obj) (xs : List NRow) : It :=
  ⟨fun i H => H d = some (.frz o (DictN P w d xs)) ∧ i < xs.length, fun i H x H' => H' = H ∧ ∃ row, xs[i]? = some row ∧ x = .ref row.2.1, fun i H => H d = some (.frz o (DictN P w d xs)) ∧ xs.length ≤ i⟩
theorem turn_keysN {P : Program} {w : World} {K : PySem.W.Frag} {tg : PySem.Expr} {d : Addr} {o : Obj} {es : Array DictEntry} {ep : Nat} {xs : List NRow} (it : Addr) (hod : o.data = .dict es ep) : Turn P w K tg (ItkN P w d o xs) [it] it (fun i h => h.IsKeyIter it d i xs.length ep) where
  mem := List.mem_singleton.mpr rfl
  obj := by
    intro i h st b hb
    cases List.mem_singleton.mp hb
    obtain ⟨x, e, c, dd⟩ := st
    exact ⟨x, e, fun v z => by rw [dd] at z; cases z⟩
  keep := by
    intro i h h' st k
    exact st.at fun x e => k it (List.mem_singleton.mpr rfl) x e
  item := by
    intro X hP hw hK hc i pins s σ H E I hf st hg
    subst hP hw hK
    obtain ⟨hd, hi⟩ := hg
    obtain ⟨z0, z1, z2, z3, z4, z5⟩ := hf it (List.mem_singleton.mpr rfl)
    obtain ⟨hs, hgd, hx, es2, ep2, hdt, hsz, ent⟩ := frzN I hd
    obtain ⟨rfl, rfl⟩ := dict_ep hod hdt
    obtain ⟨row, hrow⟩ : ∃ row, xs[i]? = some row := ⟨_, List.getElem?_eq_getElem hi⟩
    obtain ⟨en, hen, hkey, _⟩ := ent i row hrow
    refine next_key_item st hgd hdt hsz hen fun h' st' sb => ?_
    have J : Inv X pins σ H { s with heap := h' } := I.turned (t' := s.toks) (fun b ob hb e => (sb.2 b hb).trans e) z0 z1 z3 z4 z5
    obtain ⟨x, e, c, dd⟩ := id st'
    exact ⟨en.key, rfl, go_of (s := { s with heap := h' }) e c dd (by decide) ⟨.ref row.2.1, H, J, hkey, ⟨rfl, row, hrow, rfl⟩, st', fun b hb => (hf b hb).1⟩⟩
  done := by
    intro X hP hw hK hc i pins s σ H E I hf st hg
    subst hP hw hK
    obtain ⟨hd, hi⟩ := hg
    obtain ⟨z0, z1, z2, z3, z4, z5⟩ := hf it (List.mem_singleton.mpr rfl)
    obtain ⟨hs, hgd, hx, es2, ep2, hdt, hsz, ent⟩ := frzN I hd
    obtain ⟨rfl, rfl⟩ := dict_ep hod hdt
    exact next_key_end (I.ok.hd hc) st hgd hdt hsz hi fun h' eb => ⟨rfl, I.turned (t' := s.toks) (fun b ob hb e => eb b ob hb e) z0 z1 z3 z4 z5⟩
  self := fun A i s Q E st h => wpAny_pyIter_keyiter st h
def iKeysN (P : Program) (w : World) (td : TE) : TI := fun σ H R => td σ H fun x H1 => ∃ d o xs, x = .ref d ∧ H1 d = some (.frz o (DictN P w d xs)) ∧ R (ItkN P w d o xs) H1
theorem pi_keysN {X : Cx} {tg e : PySem.Expr} {td : TE} (he : PE X e td) : PI X tg e (iKeysN X.prog X.w td) := by
  refine ⟨fun pins s σ H R I h => ?_⟩
  refine thn (he.run pins s σ H _ I h) fun u s1 ⟨x, H1, I1, rx, d, o, xs, ex, hd, q⟩ => ?_
  subst ex
  cases rx
  obtain ⟨hs, hgd, hx, es, ep, hdt, hsz, ent⟩ := frzN I1 hd
  refine iter_keys hs hgd hx hdt (pi_one (tk := s1.toks) I1 _ (turn_keysN _ hdt) ⟨_, Heap.get?_push_size _ rfl, rfl, ?_⟩ q)
  rw [hsz] <;> rfl
theorem walk_keysN {P : Program} {w : World} {d : Addr} {o : Obj} {xs : List NRow} : Walk (ItkN P w d o xs) xs.length (fun H => H d = some (.frz o (DictN P w d xs))) (fun i H x H' => H' = H ∧ ∃ row, xs[i]? = some row ∧ x = .ref row.2.1) :=
  ⟨fun _ _ hi q => ⟨q, hi⟩, fun _ q => ⟨q, Nat.le_refl _⟩, fun _ _ _ _ _ _ y => y⟩
theorem roomN {k : Nat} {A : Around} (r : Room k A) : A.units + 9 < cLine := by have := r.un; omega
theorem call_lenN {X : Cx} : CallR X (.builtin "len") (fun xs H Q => ∃ (a : Addr) (rows : List NRow), xs = [.ref a] ∧ H a = some (DictN X.prog X.w a rows) ∧ RowsN H rows ∧ Q (.int (rows.length : Nat)) H) := by
  intro pins s σ H xs us Q I r h
  obtain ⟨a, rows, rfl, g, gr, q⟩ := h
  have hz : rows.length ≤ sizeLine := by
    obtain ⟨⟨_, h2, _⟩, _, _⟩ := I.hok _ _ g
    exact h2
  cases r with
  | cons r1 r2 =>
    cases r2
    cases r1
    obtain ⟨ha, us, hp, hm⟩ := dictN_of I g gr
    have hl : (pairsH us).length = rows.length := by
      rw [pairsH_length]
      exact (Paired.length hp).symm
    refine PyProof.Rows.call_len_slot (n := (pairsH us).length) hm.typeIs PySem.F.slot_dict_len (fun Q' hq => len_keyed (knd := nestedKind X.prog X.w) ha ⟨us, hm, rfl⟩ hq) (by omega) (by rw [hl]; rw [sizeLine_eq] at hz; omega) ?_
    rw [hl]
    exact ⟨.int _, H, I.tok _, ⟨_, rfl⟩, q⟩

def ItiN (P : Program) (w : World) (d : Addr) (o : Obj) (xs : List NRow) : It :=
  ⟨fun n H => H d = some (.frz o (DictN P w d xs)) ∧ n < xs.length, fun n H v H' => ∃ (p : Addr) (row : NRow), xs[n]? = some row ∧ v = .ref p ∧ H p = none ∧ H' = upd H p (.tup [.ref row.2.1, row.2.2]), fun n H => H d = some (.frz o (DictN P w d xs)) ∧ xs.length ≤ n⟩
theorem turn_itemsN {P : Program} {w : World} {K : PySem.W.Frag} {parts : List PySem.Expr} {many : Nat} {at_ : Pos} {d : Addr} {o : Obj} {es : Array DictEntry} {ep : Nat} {xs : List NRow} (it : Addr) (hod : o.data = .dict es ep) :
    Turn P w K (.Tuple parts many at_) (ItiN P w d o xs) [it] it (fun n h => ∃ x y, IsItemIter h it d n xs.length ep x y) where
  mem := List.mem_singleton.mpr rfl
  obj := by
    rintro n h ⟨x, y, e⟩ b hb
    cases List.mem_singleton.mp hb
    exact ⟨_, e, fun v z => nomatch z⟩
  keep := by
    rintro n h h' ⟨x, y, e⟩ k
    exact ⟨x, y, k it (List.mem_singleton.mpr rfl) _ e⟩
  item := by
    rintro X rfl rfl rfl calm n pins s σ H E I free ⟨x, y, here⟩ ⟨hd, more⟩
    obtain ⟨sys, got, exact_, es2, ep2, hdt, hsz, ent⟩ := frzN I hd
    obtain ⟨rfl, rfl⟩ := dict_ep hod hdt
    obtain ⟨row, hrow⟩ : ∃ row, xs[n]? = some row := ⟨_, List.getElem?_eq_getElem more⟩
    obtain ⟨en, hen, hkey, hval⟩ := ent n row hrow
    rw [← hsz] at here more
    have een : es2[n] = en := by
      have := List.getElem?_eq_some_iff.mp (show es2.toList[n]? = some en by rw [Array.getElem?_toList]; exact hen)
      simpa using this.2
    have low : it < s.heap.objs.size := Heap.lt_size here
    refine DT.nextI here ⟨o, got, exact_, hdt⟩ more fun h1 out tup _ stays => ?_
    refine ⟨_, rfl, wpAny_letOwnedTupleGo_items (s := { s with heap := h1 }) out fun h2 back but => ?_⟩
    rw [een] at tup back
    have tup2 : h2.get? s.heap.objs.size = some { cls := .type "tuple", data := .seq #[en.key, en.val] } := (but.2 _ (Nat.ne_of_gt low)).trans tup
    have made : ObjOk X.prog X.w (upd H s.heap.objs.size (.tup [.ref row.2.1, row.2.2])) h2 s.heap.objs.size (.tup [.ref row.2.1, row.2.2]) :=
      ⟨by show 2 ≤ sizeLine; decide, [en.key, en.val], .cons hkey (.cons hval .nil), _, tup2, rfl, _, rfl⟩
    have J : Inv X pins σ (upd H s.heap.objs.size (.tup [.ref row.2.1, row.2.2])) { s with heap := h2 } :=
      I.turnedNew (t' := s.toks) (ch := [it]) (fun b ob hb e => by
        have ne : b ≠ it := fun z => hb (by rw [z]; exact List.mem_singleton.mpr rfl)
        exact (but.2 b ne).trans (stays b ob ne e)) free (Nat.le_refl _) made
    refine ⟨.ref s.heap.objs.size, _, J, rfl, ⟨_, row, hrow, rfl, I.hok.fresh (Nat.le_refl _), rfl⟩, ⟨en.key, en.val, ?_⟩, fun b hb => ?_⟩
    · rw [← hsz]
      exact back
    · cases List.mem_singleton.mp hb
      rw [upd_ne (Nat.ne_of_lt low)]
      exact (free it (List.mem_singleton.mpr rfl)).1
  done := by
    rintro X rfl rfl rfl calm n pins s σ H E I free ⟨x, y, here⟩ ⟨hd, over⟩
    obtain ⟨z0, z1, z2, z3, z4, z5⟩ := free it (List.mem_singleton.mpr rfl)
    obtain ⟨sys, got, exact_, es2, ep2, hdt, hsz, _⟩ := frzN I hd
    obtain ⟨rfl, rfl⟩ := dict_ep hod hdt
    rw [← hsz] at here over
    exact DT.endI (I.ok.hd calm) here ⟨o, got, exact_, hdt⟩ over fun h' eb => ⟨rfl, I.turned (t' := s.toks) (fun b ob hb e => eb b ob hb e) z0 z1 z3 z4 z5⟩
  self := fun A i s Q E st h => let ⟨_, _, e⟩ := st; PySem.W.kcp_self e h
def iItemsN (P : Program) (w : World) (td : TE) : TI := fun σ H R => td σ H fun x H1 => ∃ d o xs, x = .ref d ∧ H1 d = some (.frz o (DictN P w d xs)) ∧ R (ItiN P w d o xs) H1
theorem pi_itemsN {X : Cx} {e : PySem.Expr} {td : TE} {parts : List PySem.Expr} {many : Nat} {at_ at1 at2 : Pos} (he : PE X e td) (base : attributeBase e "items" X.env (eval e X.env) = eval e X.env := by rfl) (line : (at1.endLine == at2.line) = true := by rfl) :
    PI X (.Tuple parts many at_) (.Call (.Attribute e "items" at1) [] [] at2) (iItemsN X.prog X.w td) := by
  refine ⟨fun pins s σ H R I h => wpAny_Call_method (T := "dict") (id := "dict.items") base rfl line F.plainAttrs_dict F.slot_dict_items F.type_dict_items (thn (he.run pins s σ H _ I h) ?_)⟩
  rintro u s1 ⟨x, H1, I1, rx, d, o, xs, rfl, hd, q⟩
  obtain rfl : u = Value.ref d := rx
  obtain ⟨sys, got, exact_, es, ep, hdt, hsz, _⟩ := frzN I1 hd
  have raw : DT.Raw s1.heap d es ep := ⟨o, got, exact_, hdt⟩
  refine ⟨raw.typeIs, (fun a e => by cases e; exact ⟨o, got, exact_.2.1⟩), ?_⟩
  have I2 : Inv X pins σ H1 { s1 with heap := s1.heap.push { cls := .type "dict_items", data := .fields #[.ref d] } } := I1.kept (t' := s1.toks) fun b ob z => Heap.get?_push_of_some _ z
  have go : wpAny (model X.prog X.w) X.A (pyIter (.ref s1.heap.objs.size)) (PIE X pins σ (.Tuple parts many at_) R) X.xe { s1 with heap := s1.heap.push { cls := .type "dict_items", data := .fields #[.ref d] } } := by
    refine DT.iterI (d := d) (es := es) (ep := ep) ⟨_, Heap.get?_push_size _ rfl, rfl, rfl⟩ (raw.push _) (pi_one (tk := s1.toks) I2 _ (turn_itemsN _ hdt) ⟨.none, .none, ?_⟩ q)
    rw [← hsz]
    exact Heap.get?_push_size _ rfl
  show wpAny _ _ (callWith at2 (.builtin "dict.items") [.ref d] [] []) _ X.xe s1
  exact method_meetsIn F.slot_dict_items F.entry_dict_items rfl (PySem.evalArgs_none ⟨rfl, raw.typeIs, F.args_dict_items_1 _, _, DT.meetsItems (es := es) (ep := ep) sys, raw, go⟩)
theorem walk_itemsN {P : Program} {w : World} {d : Addr} {o : Obj} {xs : List NRow} : Walk (ItiN P w d o xs) xs.length (fun H => H d = some (.frz o (DictN P w d xs))) (fun i H x H' => ∃ (p : Addr) (row : NRow), xs[i]? = some row ∧ x = .ref p ∧ H p = none ∧ H' = upd H p (.tup [.ref row.2.1, row.2.2])) :=
  ⟨fun _ _ hi q => ⟨q, hi⟩, fun _ q => ⟨q, Nat.le_refl _⟩, fun _ _ _ _ _ _ y => y⟩
def rIsN (P : Program) (w : World) (K : PySem.W.Frag) : List V → Hp → VK → Prop := fun xs H Q => ∃ (a : Addr) (rows : List NRow) (y : V) (u : Value) (b : Bool), xs = [.ref a, y] ∧ H a = some (DictN P w a rows) ∧ ClsV y u ∧ PySem.W.kitOne K (.type "dict") u = some b ∧ Q (.bl b) H
theorem call_isN {X : Cx} : CallR X (.builtin "isinstance") (rIsN X.prog X.w X.K) := by
  rintro pins s σ H _ us Q I r ⟨a, rows, y, u, b, rfl, ha, hy, hk, q⟩
  obtain ⟨_, u2, rfl, r1, r2⟩ := vals2 r
  obtain rfl := hy.eq r2
  cases r1
  obtain ⟨⟨_, _, _, _, o, _, _, e1, e2, _⟩, _, _⟩ := I.hok a _ ha
  exact PySem.W.kia_one PySem.W.kitx_dict I.kIn ⟨o, e1, e2.1⟩ hk (fun z => nomatch z) fun tk => ⟨.bl b, H, I.tok tk, rfl, q⟩

abbrev InBlk (X : Cx) (scope : PySem.Scope) (F : Cx → Prop) : Prop := ∀ (s : Shared) (H : Hp) (C : Addr) (cl : List (Str × Addr)) (fp : List Addr), F (X.blk s H scope (compEnvC scope cl C X.env) fp)
def tDcN (P : Program) (w : World) (wi : TI) (g : TG) (tt : TT) (tk tv : TE) (vs : List Nat) : TE := fun σ H Q => wi σ H fun J H1 => ∀ D, H1 D = none → ∃ W : Nat → Nat → Hp → Prop, (∃ m, W 0 m (upd H1 D (DictN P w D []))) ∧ ∀ n m H, W n m H →
  ((J.stop n H ∧ Q (.ref D) H) ∨ (J.go n H ∧ ∃ Nx : Hp → Prop, (∀ H', Nx H' → ∃ less, less < m ∧ W (n + 1) less H') ∧ ∀ x H', J.yld n H x H' → g x (wipe σ vs) H' fun σ2 H2 => wipe σ2 vs = wipe σ vs ∧ tt σ2 H2 fun yes H3 =>
    if yes = true then tk σ2 H3 fun y H4 => tv σ2 H4 fun z H5 => ∃ (xs : List NRow) (k : NestedKey) (b : Addr), y = .ref b ∧ H5 D = some (DictN P w D xs) ∧ RowsN H5 xs ∧ NK H5 k (.ref b) ∧ k.depth ≤ 8 ∧ xs.length < sizeLine ∧ Nx (upd H5 D (DictN P w D (storedN xs k b z))) else Nx H3))
section
variable {X : Cx} {pins : List (Addr × Obj)} {σ : L2.St} {H : Hp} {s : Shared}
theorem put_rowN {D b : Addr} {xs : List NRow} {k : NestedKey} {z : V} {r : Value} {E : Value → Shared → Prop} {Q : Unit → Shared → Prop} (hu : X.A.units + 9 < cLine) (I : Inv X pins σ H s) (hD : H D = some (DictN X.prog X.w D xs)) (hr : RowsN H xs) (hk : NK H k (.ref b)) (hd : k.depth ≤ 8) (hz : xs.length < sizeLine) (rv : RelV z r)
    (h : ∀ s', Inv X pins σ (upd H D (DictN X.prog X.w D (storedN xs k b z))) s' → Q () s') : wpAny (model X.prog X.w) X.A (dictSet D (.ref b) r) Q E s := by
  obtain ⟨hs, us, hp, hm⟩ := dictN_of I hD hr
  have hl : us.length ≤ sizeLine := by rw [← Paired.length hp]; omega
  refine wpAny_dictSet_heap (knd := nestedKind X.prog X.w) (hsz := hl) (show X.A.units + 8 < cLine by omega) ⟨NK.is I hk rfl, hd⟩ hm fun h' hm' but => h _ ?_
  obtain ⟨ob, es, ep, e1, e2, e3, e4, _, e5⟩ := hm'
  have fits : (storedN xs k b z).length ≤ sizeLine := by have := storedN_len xs k b z; omega
  exact d_write I (by rw [hD]; exact True.intro) but ⟨ob, e1⟩ (dictN_ok hs fits (stored_pairs rv hp) ⟨ob, es, ep, e1, e2, e3, e4, e5⟩)
theorem pe_dcN {kx vx tg iter : PySem.Expr} {ifs : List PySem.Expr} {scope : PySem.Scope} {own : List (Str × Nat)} {pos : Pos} {wi : TI} {g : TG} {tt : TT} {tk tv : TE} (hu : X.A.units + 9 < cLine) (calm : X.calm = true) (nd : X.N.Nodup) (hi : PI X tg iter wi) (ok : BlkOk X.N X.env.scope scope own)
    (hg : InBlk X scope fun Y => PG Y tg g) (ht : InBlk X scope fun Y => PTs Y ifs tt) (hk : InBlk X scope fun Y => PE Y kx tk) (he : InBlk X scope fun Y => PE Y vx tv) (plain : ∀ x, foldedSetIterable iter X.env x = pure x := by intro _; rfl) :
    PE X (.DictComp kx vx [⟨tg, iter, ifs, 0⟩] scope pos) (tDcN X.prog X.w wi g tt tk tv (own.map (·.2))) := by
  refine ⟨fun pins s σ H Q I h => ?_⟩
  rw [arm_eval_DictComp]
  have known : ∀ y ∈ scope.names, y.2 = .free → ∃ c, X.env.cells.lookup y.1 = some c := fun y hy e => (ok.free y hy e).elim (fun k => I.ok.has _ (.inl k)) (fun k => I.ok.has _ (.inr k))
  refine wpAny_comprehension_free (use := none) rfl plain (closure_ok known) ok.kind (fun y hy e => by rw [ok.uniq y hy, e]) (thn (hi.run pins s σ H _ I h) fun _ t1 a1 => thn a1 fun _ t2 a2 => ?_)
  obtain ⟨it, fp, tn, J, H2, rfl, I2, T, st2, apart, q⟩ := a2
  refine wpAny_newObj_type (newEnv_comp ?_)
  obtain ⟨W, ⟨m0, w0⟩, turn⟩ := q _ (I2.hok.fresh (Nat.le_refl _))
  have nsys : (t2.heap.objs.size == sysModules) = false := beq_eq_false_iff_ne.mpr (Ne.symm (Nat.ne_of_lt I2.big))
  have I3 : Inv X pins σ (upd H2 t2.heap.objs.size (DictN X.prog X.w t2.heap.objs.size [])) { t2 with heap := t2.heap.push { cls := .type "dict", data := .dict #[] } } :=
    I2.laid (t' := t2.toks) (fun _ _ z => Heap.get?_push_of_some _ z) (Nat.le_refl _) (dictN_ok nsys (Nat.zero_le _) .nil ⟨_, #[], 0, Heap.get?_push_size _ rfl, ⟨rfl, rfl, rfl⟩, rfl, rfl, List.nodup_nil⟩)
  have ahead : ∀ b ∈ fp, b < t2.heap.objs.size := fun b hb => let ⟨_, z, _⟩ := T.obj _ _ st2 b hb; Heap.lt_size z
  generalize e3 : ({ t2 with heap := t2.heap.push { cls := .type "dict", data := .dict #[] } } : Shared) = t3 at I3
  have h3 : t3.heap = t2.heap.push { cls := .type "dict", data := .dict #[] } := by rw [← e3]
  have fp3 : ∀ b ∈ fp, FpOk X pins (upd H2 t2.heap.objs.size (DictN X.prog X.w t2.heap.objs.size [])) b ∧ b < t3.heap.objs.size := fun b hb => by
    refine ⟨⟨?_, (apart b hb).2⟩, ?_⟩
    · rw [upd_ne (Nat.ne_of_lt (ahead b hb))]
      exact (apart b hb).1
    · rw [h3, Heap.size_push]
      exact Nat.lt_succ_of_lt (ahead b hb)
  have st3 : tn 0 t3.heap := T.keep _ _ _ st2 fun b _ o z => by rw [h3]; exact Heap.get?_push_of_some _ z
  have I4 := block_start I3 ok nd fp3
  generalize eD : t2.heap.objs.size = D at *
  generalize eH : upd H2 D (DictN X.prog X.w D []) = H3 at *
  have pg := hg t3 H3 t3.heap.objs.size (cellsFrom (t3.heap.objs.size + 1) scope.names (cloFrom X.env.cells scope.names [])) fp
  have pt := ht t3 H3 t3.heap.objs.size (cellsFrom (t3.heap.objs.size + 1) scope.names (cloFrom X.env.cells scope.names [])) fp
  have pk := hk t3 H3 t3.heap.objs.size (cellsFrom (t3.heap.objs.size + 1) scope.names (cloFrom X.env.cells scope.names [])) fp
  have pv := he t3 H3 t3.heap.objs.size (cellsFrom (t3.heap.objs.size + 1) scope.names (cloFrom X.env.cells scope.names [])) fp
  show codeAny _ _ (.compStart (.DictComp kx vx [⟨tg, iter, ifs, 0⟩] scope pos) 0 (.ref it) (.ref D) (compEnvC scope (cellsFrom (t3.heap.objs.size + 1) scope.names (cloFrom X.env.cells scope.names [])) t3.heap.objs.size X.env)) (compPost (model X.prog X.w) X.A X.xe none (EP X pins σ Q) (.ref D) t3.heap.objs.size) { t3 with heap := pushCells (t3.heap.push { cls := .type "dict", data := .dict #[] }) scope.names }
  have off : ∀ b ∈ fp, H3 b = none := fun b hb => (fp3 b hb).1.1
  generalize eC : compEnvC scope (cellsFrom (t3.heap.objs.size + 1) scope.names (cloFrom X.env.cells scope.names [])) t3.heap.objs.size X.env = ce at I4 pg pt pk pv ⊢
  have place : ce.locals = t3.heap.objs.size := by rw [← eC]; rfl
  generalize e4 : ({ t3 with heap := pushCells (t3.heap.push { cls := .type "dict", data := .dict #[] }) scope.names } : Shared) = t4 at I4 ⊢
  have st4 : tn 0 t4.heap := T.keep _ _ _ st3 fun b _ o z => by rw [← e4]; exact pushCells_keeps _ _ _ _ (Heap.get?_push_of_some _ z)
  have still : ∀ {σ' : L2.St} {H' : Hp} {t : Shared}, Inv (X.blk t3 H3 scope ce fp) [] σ' H' t → (∀ b ∈ fp, H' b = none) → ∀ b ∈ fp, FpOk (X.blk t3 H3 scope ce fp) [] H' b := fun J n b hb =>
    ⟨n b hb, (J.ok.exf b hb).1, J.ok.exfs b hb, .inl hb, fun x c z => (J.ok.exf b hb).2 x c z, fun z hz => absurd (show z ∈ ([] : List (Addr × Obj)) ++ [] from hz) (by simp)⟩
  have main : codeAny (model X.prog X.w) X.A (.compLoop (.DictComp kx vx [⟨tg, iter, ifs, 0⟩] scope pos) 0 (.ref it) (.ref D) ce) (compPost (model X.prog X.w) X.A X.xe none (EP X pins σ Q) (.ref D) t3.heap.objs.size) t4 := by
    refine compLoop_anyD (fun m t => ∃ n Hn, Inv (X.blk t3 H3 scope ce fp) [] (wipe σ (own.map (·.2))) Hn t ∧ tn n t.heap ∧ (∀ b ∈ fp, Hn b = none) ∧ W n m Hn) ?_ m0 ⟨0, H3, I4, st4, off, w0⟩
    rintro m t5 ⟨n, H5, I5, st5, off5, w5⟩
    rcases turn n m H5 w5 with ⟨stop, over⟩ | ⟨go, Nx, lower, step⟩
    · refine thnF (T.done (X.blk t3 H3 scope ce fp) rfl rfl rfl calm n [] t5 _ H5 (fun _ _ => False) I5 (still I5 off5) st5 stop) ?_
      rintro _ t6 ⟨rfl, I6⟩
      have I7 : Inv X pins σ H5 t6 := I3.call' (ch := fp) I6.os I6.base I6.hok I6.bare fun b hb => let z := (fp3 b hb).1.2; ⟨z.2.2.1, z.1, z.2.2.2.1, z.2.2.2.2⟩
      have gone : H5 t3.heap.objs.size = none := by rw [← place]; exact I6.free
      obtain ⟨names, hn, _⟩ := I6.loc
      have hn2 : t6.heap.Ns ce.locals names := hn
      rw [place] at hn2
      obtain ⟨z0, z1, z2, z3, z4, z5⟩ := I3.fpOk (Nat.le_refl _) gone
      exact ⟨names, hn2, fun h7 but => ⟨.ref D, H5, I7.turned (t' := t6.toks) (fun b ob hb z => (but.2 b hb).trans z) z0 z1 z3 z4 z5, rfl, over⟩⟩
    · refine thnF (T.item (X.blk t3 H3 scope ce fp) rfl rfl rfl calm n [] t5 _ H5 (fun _ _ => False) I5 (still I5 off5) st5 go) ?_
      rintro _ t6 ⟨u, rfl, a6⟩
      refine thnF a6 ?_
      rintro _ t7 ⟨x, H7, I7, rx, yx, st7, off7⟩
      refine thnF (pg.run _ t7 _ H7 x u _ (I7.pinned (still I7 off7) (T.obj _ _ st7)) rx (step x H7 yx)) ?_
      rintro _ t8 ⟨σ8, H8, I8, same8, q8⟩
      have close : ∀ {t : Shared} {Hn : Hp}, Inv (X.blk t3 H3 scope ce fp) ([] ++ pinsAt fp t7.heap) σ8 Hn t → Nx Hn → ∃ less, less < m ∧ ∃ n Hn, Inv (X.blk t3 H3 scope ce fp) [] (wipe σ (own.map (·.2))) Hn t ∧ tn n t.heap ∧ (∀ b ∈ fp, Hn b = none) ∧ W n less Hn := fun {t Hn} J nx => by
        obtain ⟨less, hl, wl⟩ := lower Hn nx
        have kept : ∀ b ∈ fp, ∀ o, t7.heap.get? b = some o → t.heap.get? b = some o ∧ Hn b = none := fun b hb o z =>
          let y := J.pin (b, o) (List.mem_append_right _ (List.mem_append_right _ (mem_pinsAt hb z)))
          ⟨y.1, y.2.1⟩
        refine ⟨less, hl, n + 1, Hn, (J.unpinned (pins := [])).weak (by rw [← same8, wipe_length]) fun j v z => ?_, T.keep _ _ _ st7 fun b hb o z => (kept b hb o z).1, fun b hb => ?_, wl⟩
        · rw [← same8] at z
          exact (wipe_some z).1
        · obtain ⟨o, z, _⟩ := T.obj _ _ st7 b hb
          exact (kept b hb o z).2
      refine thnF (pt.run _ t8 σ8 H8 _ I8 q8) ?_
      rintro yes t9 ⟨H9, I9, q9⟩
      cases yes with
      | false => exact close I9 (by simpa using q9)
      | true =>
        simp only [if_true] at q9 ⊢
        refine thnF (pk.run _ t9 σ8 H9 _ I9 q9) ?_
        rintro uk t10 ⟨y, H10, I10, ry, q10⟩
        refine thnF (pv.run _ t10 σ8 H10 _ I10 q10) ?_
        rintro uz t11 ⟨z, H11, I11, rz, xs, k, b, rfl, g1, g2, g3, g4, g5, nx⟩
        cases ry
        exact put_rowN (X := X.blk t3 H3 scope ce fp) hu I11 g1 g2 g3 g4 g5 rz fun t12 I12 => close I12 nx
  exact codeAny_compStart_dict main (T.self X.A 0 _ _ _ st4 main)
end

theorem wipe_wipe {σ : L2.St} {vs ws : List Nat} (sub : ∀ i ∈ vs, i ∈ ws) : wipe (wipe σ vs) ws = wipe σ ws := by
  refine List.ext_getElem? fun i => ?_
  by_cases h : i ∈ ws
  · have z : ∀ τ : L2.St, ∀ v, (wipe τ ws)[i]? ≠ some (some v) := fun τ v e => (wipe_some e).2 h
    have l1 := wipe_length (wipe σ vs) ws
    have l2 := wipe_length σ ws
    have l3 := wipe_length σ vs
    cases e1 : (wipe (wipe σ vs) ws)[i]? with
    | none =>
      rw [List.getElem?_eq_none_iff] at e1
      exact (List.getElem?_eq_none (by rw [l2, ← l3, ← l1]; exact e1)).symm
    | some o1 =>
      have := (List.getElem?_eq_some_iff.mp e1).1
      obtain ⟨o2, e2⟩ : ∃ o, (wipe σ ws)[i]? = some o := ⟨_, List.getElem?_eq_getElem (by rw [l2, ← l3, ← l1]; exact this)⟩
      rw [e2]
      cases o1 with
      | some v => exact absurd e1 (z _ v)
      | none =>
        cases o2 with
        | some v => exact absurd e2 (z _ v)
        | none => rfl
  · rw [wipe_out h, wipe_out h, wipe_out fun k => h (sub i k)]
section
variable {prog : Program} {w : World} {A : Around} {R : Result → Shared → Prop} {s : Shared} {kx vx t0 i0 t1 i1 : Expr} {ifs0 ifs1 : List Expr} {scope : PySem.Scope} {pos : Pos} {it : Value} {D : Addr} {env : Env}
theorem compLoop2D_in (I : Nat → Shared → Prop)
  (h : ∀ (n : Nat) (s : Shared), I n s → wpAny (model prog w) A (pyNext it) (fun r s1 => match r with
    | none => R (Except.ok Flow.next) s1
    | some v => wpAny (model prog w) A (letOwnedTupleGo t1 it v) (fun _ s2 => wpAny (model prog w) A (assign t1 env v) (fun _ s3 => wpAny (model prog w) A (forIn ifs1 true fun c r => if r = true then do
          let ok ← PySem.isTrue c env (eval c env)
          pure (ForInStep.yield ok)
        else pure (ForInStep.yield r)) (fun ok s4 => if ok = true then wpAny (model prog w) A (eval kx env) (fun kv s5 => wpAny (model prog w) A (eval vx env) (fun vv s6 => wpAny (model prog w) A (dictSet D kv vv) (fun _ s7 => ∃ m, m < n ∧ I m s7)
          (notedBy (model prog w) A env fun e s' => R (Except.error e) s') s6) (notedBy (model prog w) A env fun e s' => R (Except.error e) s') s5) (notedBy (model prog w) A env fun e s' => R (Except.error e) s') s4 else ∃ m, m < n ∧ I m s4)
        (notedBy (model prog w) A env fun e s' => R (Except.error e) s') s3) (notedBy (model prog w) A env fun e s' => R (Except.error e) s') s2) (notedBy (model prog w) A env fun e s' => R (Except.error e) s') s1)
    (notedBy (model prog w) A env fun e s' => R (Except.error e) s') s) (n : Nat) (hn : I n s) :
    codeAny (model prog w) A (.compLoop (.DictComp kx vx [⟨t0, i0, ifs0, 0⟩, ⟨t1, i1, ifs1, 0⟩] scope pos) 1 it (.ref D) env) R s := by
  refine codeAny_loop rfl I (fun n s hI => ?_) n hn
  have eA : A.under (.compLoop (.DictComp kx vx [⟨t0, i0, ifs0, 0⟩, ⟨t1, i1, ifs1, 0⟩] scope pos) 1 it (.ref D) env) = A := by
    obtain ⟨a, b, c, d, e⟩ := A
    cases c <;> cases d <;> rfl
  rw [eA]
  show wpAny (model prog w) A ((compTurn (.DictComp kx vx [⟨t0, i0, ifs0, 0⟩, ⟨t1, i1, ifs1, 0⟩] scope pos) 1 it (.ref D) env).onRaise fun x => do
    noteFrame x env
    theTreesLotGoes x) _ _ s
  refine wpAny_noted ?_
  have eT : compTurn (.DictComp kx vx [⟨t0, i0, ifs0, 0⟩, ⟨t1, i1, ifs1, 0⟩] scope pos) 1 it (.ref D) env = (do
    standAt i1.pos
    match (← pyNext it) with
    | none => pure (Fin.done Flow.next)
    | some v => do
      letOwnedTupleGo t1 it v
      assign t1 env v
      let ok ← forIn ifs1 true fun c r => if r = true then do
          let ok ← PySem.isTrue c env (eval c env)
          pure (ForInStep.yield ok)
        else pure (ForInStep.yield r)
      if ok = true then do
        let _ ← (do
          let kv ← eval kx env
          let vv ← holding [kv] (eval vx env)
          standAt { line := kx.pos.line, col := kx.pos.col, endLine := vx.pos.endLine, endCol := vx.pos.endCol }
          holding [kv, vv] (dictSet D kv vv))
        again (.compLoop (.DictComp kx vx [⟨t0, i0, ifs0, 0⟩, ⟨t1, i1, ifs1, 0⟩] scope pos) 1 it (.ref D) env)
      else again (.compLoop (.DictComp kx vx [⟨t0, i0, ifs0, 0⟩, ⟨t1, i1, ifs1, 0⟩] scope pos) 1 it (.ref D) env)) := by
    rfl


  rw [eT]
  refine wpAny_bind (wpAny_standAt (wpAny_bind (thn (h n s hI) ?_)))
  rintro (_ | v) s1 h1
  · exact wpAny_pure h1
  refine wpAny_bind (thn h1 ?_)
  rintro _ s2 h2
  refine wpAny_bind (thn h2 ?_)
  rintro _ s3 h3
  refine wpAny_bind (thn h3 ?_)
  rintro ok s4 h4
  cases ok with
  | false => exact wpAny_pure ⟨rfl, by simpa using h4⟩
  | true =>
    refine wpAny_bind (wpAny_bind (thn (by simpa using h4) ?_))
    rintro kv s5 h5
    refine wpAny_bind (wpAny_holding (thn h5 ?_))
    rintro vv s6 h6
    refine wpAny_bind (wpAny_standAt (wpAny_holding (thn h6 ?_)))
    rintro _ s7 h7
    exact wpAny_pure ⟨rfl, h7⟩
theorem compLoop2D_out (plain : ∀ x, foldedSetIterable i1 env x = pure x) (I : Nat → Shared → Prop)
  (h : ∀ (n : Nat) (s : Shared), I n s → wpAny (model prog w) A (pyNext it) (fun r s1 => match r with
    | none => R (Except.ok Flow.next) s1
    | some v => wpAny (model prog w) A (letOwnedTupleGo t0 it v) (fun _ s2 => wpAny (model prog w) A (assign t0 env v) (fun _ s3 => wpAny (model prog w) A (forIn ifs0 true fun c r => if r = true then do
          let ok ← PySem.isTrue c env (eval c env)
          pure (ForInStep.yield ok)
        else pure (ForInStep.yield r)) (fun ok s4 => if ok = true then wpAny (model prog w) A (eval i1 env) (fun x s5 => wpAny (model prog w) A (pyIter x) (fun it1 s6 =>
          codeAny (model prog w) A (.compStart (.DictComp kx vx [⟨t0, i0, ifs0, 0⟩, ⟨t1, i1, ifs1, 0⟩] scope pos) 1 it1 (.ref D) env) (fun r s' => match r with
            | .ok _ => ∃ m, m < n ∧ I m s'
            | .error _ => False) s6)
          (notedBy (model prog w) A env fun e s' => R (Except.error e) s') s5) (notedBy (model prog w) A env fun e s' => R (Except.error e) s') s4 else ∃ m, m < n ∧ I m s4)
        (notedBy (model prog w) A env fun e s' => R (Except.error e) s') s3) (notedBy (model prog w) A env fun e s' => R (Except.error e) s') s2) (notedBy (model prog w) A env fun e s' => R (Except.error e) s') s1)
    (notedBy (model prog w) A env fun e s' => R (Except.error e) s') s) (n : Nat) (hn : I n s) :
    codeAny (model prog w) A (.compLoop (.DictComp kx vx [⟨t0, i0, ifs0, 0⟩, ⟨t1, i1, ifs1, 0⟩] scope pos) 0 it (.ref D) env) R s := by
  refine codeAny_loop rfl I (fun n s hI => ?_) n hn
  have eA : A.under (.compLoop (.DictComp kx vx [⟨t0, i0, ifs0, 0⟩, ⟨t1, i1, ifs1, 0⟩] scope pos) 0 it (.ref D) env) = A := by
    obtain ⟨a, b, c, d, e⟩ := A
    cases c <;> cases d <;> rfl
  rw [eA]
  show wpAny (model prog w) A ((compTurn (.DictComp kx vx [⟨t0, i0, ifs0, 0⟩, ⟨t1, i1, ifs1, 0⟩] scope pos) 0 it (.ref D) env).onRaise fun x => do
    noteFrame x env
    theTreesLotGoes x) _ _ s
  refine wpAny_noted ?_
  have eT : compTurn (.DictComp kx vx [⟨t0, i0, ifs0, 0⟩, ⟨t1, i1, ifs1, 0⟩] scope pos) 0 it (.ref D) env = (do
    standAt i0.pos
    match (← pyNext it) with
    | none => pure (Fin.done Flow.next)
    | some v => do
      letOwnedTupleGo t0 it v
      assign t0 env v
      let ok ← forIn ifs0 true fun c r => if r = true then do
          let ok ← PySem.isTrue c env (eval c env)
          pure (ForInStep.yield ok)
        else pure (ForInStep.yield r)
      if ok = true then do
        let x ← eval i1 env
        standAt i1.pos
        let x ← foldedSetIterable i1 env x
        let it1 ← holding [x] (pyIter x)
        let _ ← runOwn (.compStart (.DictComp kx vx [⟨t0, i0, ifs0, 0⟩, ⟨t1, i1, ifs1, 0⟩] scope pos) 1 it1 (.ref D) env) env
        again (.compLoop (.DictComp kx vx [⟨t0, i0, ifs0, 0⟩, ⟨t1, i1, ifs1, 0⟩] scope pos) 0 it (.ref D) env)
      else again (.compLoop (.DictComp kx vx [⟨t0, i0, ifs0, 0⟩, ⟨t1, i1, ifs1, 0⟩] scope pos) 0 it (.ref D) env)) := by
    rfl
  rw [eT]
  refine wpAny_bind (wpAny_standAt (wpAny_bind (thn (h n s hI) ?_)))
  rintro (_ | v) s1 h1
  · exact wpAny_pure h1
  refine wpAny_bind (thn h1 ?_)
  rintro _ s2 h2
  refine wpAny_bind (thn h2 ?_)
  rintro _ s3 h3
  refine wpAny_bind (thn h3 ?_)
  rintro ok s4 h4
  cases ok with
  | false => exact wpAny_pure ⟨rfl, by simpa using h4⟩
  | true =>
    refine wpAny_bind (thn (by simpa using h4) ?_)
    rintro x s5 h5
    refine wpAny_bind (wpAny_standAt ?_)
    rw [plain]
    refine wpAny_bind (wpAny_pure (wpAny_bind (wpAny_holding (thn h5 ?_))))
    rintro it1 s6 h6
    refine wpAny_bind (wpAny_runOwn (h := none) (codeAny_mono h6 ?_))
    rintro (_ | _) s7 h7
    · exact h7.elim
    · exact wpAny_pure ⟨rfl, h7⟩
theorem compStart1D_ok (h : codeAny (model prog w) A (.compLoop (.DictComp kx vx [⟨t0, i0, ifs0, 0⟩, ⟨t1, i1, ifs1, 0⟩] scope pos) 1 it (.ref D) env) R s)
    (h2 : wpAny (model prog w) A (pyIter it) (fun it' s' => codeAny (model prog w) A (.compLoop (.DictComp kx vx [⟨t0, i0, ifs0, 0⟩, ⟨t1, i1, ifs1, 0⟩] scope pos) 1 it' (.ref D) env) R s') (notedBy (model prog w) A env fun x s' => R (Except.error x) s') s) :
    codeAny (model prog w) A (.compStart (.DictComp kx vx [⟨t0, i0, ifs0, 0⟩, ⟨t1, i1, ifs1, 0⟩] scope pos) 1 it (.ref D) env) R s := by
  refine codeAny_of_tree ?_
  have eA : A.under (.compStart (.DictComp kx vx [⟨t0, i0, ifs0, 0⟩, ⟨t1, i1, ifs1, 0⟩] scope pos) 1 it (.ref D) env) = A := by
    obtain ⟨a, b, c, d, e⟩ := A
    cases c <;> cases d <;> rfl
  rw [eA]
  show wpAny (model prog w) A ((compStart (.DictComp kx vx [⟨t0, i0, ifs0, 0⟩, ⟨t1, i1, ifs1, 0⟩] scope pos) 1 it (.ref D) env).onRaise fun x => do
    noteFrame x env
    standAt theWindowsPlace) _ _ s
  refine wpAny_notedAt ?_
  unfold compStart
  rw [if_neg (by simp [clausesOf])]
  refine wpAny_bind (wpAny_askSetting ?_)
  dsimp only
  split
  · exact wpAny_pure ⟨rfl, h⟩
  · refine wpAny_bind (wpAny_rule ?_)
    refine wpAny_bind (wpAny_standAt ?_)
    refine wpAny_bind (thn h2 ?_)
    intro it' s' h'
    exact wpAny_pure ⟨rfl, h'⟩
end
def tDc2 (wi : TI) (g : TG) (tt : TT) (wi1 : TI) (g1 : TG) (tt1 : TT) (tk tv : TE) (vs vs1 : List Nat) : TE := fun σ H Q => wi σ H fun J H1 => ∀ D, H1 D = none → ∃ W : Nat → Nat → Hp → Prop, (∃ m, W 0 m (upd H1 D (.dK []))) ∧ ∀ n m H, W n m H →
  ((J.stop n H ∧ Q (.ref D) H) ∨ (J.go n H ∧ ∃ Nx : Hp → Prop, (∀ H', Nx H' → ∃ less, less < m ∧ W (n + 1) less H') ∧ ∀ x H', J.yld n H x H' → g x (wipe σ vs) H' fun σ2 H2 => wipe σ2 vs = wipe σ vs ∧ tt σ2 H2 fun yes H3 =>
    if yes = true then wi1 σ2 H3 fun J1 H4 => ∃ W1 : Nat → Nat → Hp → Prop, (∃ m, W1 0 m H4) ∧ ∀ j k H, W1 j k H →
      ((J1.stop j H ∧ Nx H) ∨ (J1.go j H ∧ ∃ Nx1 : Hp → Prop, (∀ H', Nx1 H' → ∃ less, less < k ∧ W1 (j + 1) less H') ∧ ∀ x H', J1.yld j H x H' → g1 x (wipe σ2 vs1) H' fun σ3 H5 => wipe σ3 vs1 = wipe σ2 vs1 ∧ tt1 σ3 H5 fun yes1 H6 =>
        if yes1 = true then tk σ3 H6 fun y H7 => tv σ3 H7 fun z H8 => ∃ (kvs : List (Key × V)) (key : Key), y = kV key ∧ H8 D = some (.dK kvs) ∧ kvs.length < sizeLine ∧ Nx1 (upd H8 D (.dK (putK kvs key z))) else Nx1 H6))
    else Nx H3))
section
theorem pe_dc2 {X : Cx} {kx vx tg iter tg1 iter1 : PySem.Expr} {ifs ifs1 : List PySem.Expr} {scope : PySem.Scope} {own : List (Str × Nat)} {vs1 : List Nat} {pos : Pos} {wi wi1 : TI} {g g1 : TG} {tt tt1 : TT} {tk tv : TE} (calm : X.calm = true) (nd : X.N.Nodup) (hi : PI X tg iter wi) (ok : BlkOk X.N X.env.scope scope own)
    (sub : ∀ i ∈ vs1, i ∈ own.map (·.2)) (hg : InBlk X scope fun Y => PG Y tg g) (ht : InBlk X scope fun Y => PTs Y ifs tt) (hi1 : InBlk X scope fun Y => PI Y tg1 iter1 wi1) (hg1 : InBlk X scope fun Y => PG Y tg1 g1) (ht1 : InBlk X scope fun Y => PTs Y ifs1 tt1) (hk : InBlk X scope fun Y => PE Y kx tk) (he : InBlk X scope fun Y => PE Y vx tv)
    (plain : ∀ x, foldedSetIterable iter X.env x = pure x := by intro _; rfl) (plain1 : ∀ (env : Env) x, foldedSetIterable iter1 env x = pure x := by intro _ _; rfl) :
    PE X (.DictComp kx vx [⟨tg, iter, ifs, 0⟩, ⟨tg1, iter1, ifs1, 0⟩] scope pos) (tDc2 wi g tt wi1 g1 tt1 tk tv (own.map (·.2)) vs1) := by
  refine ⟨fun pins s σ H Q I h => ?_⟩
  rw [arm_eval_DictComp]
  have known : ∀ y ∈ scope.names, y.2 = .free → ∃ c, X.env.cells.lookup y.1 = some c := fun y hy e => (ok.free y hy e).elim (fun k => I.ok.has _ (.inl k)) (fun k => I.ok.has _ (.inr k))
  refine wpAny_comprehension_free (use := none) rfl plain (closure_ok known) ok.kind (fun y hy e => by rw [ok.uniq y hy, e]) (thn (hi.run pins s σ H _ I h) fun _ t1 a1 => thn a1 fun _ t2 a2 => ?_)
  obtain ⟨it, fp, tn, J, H2, rfl, I2, T, st2, apart, q⟩ := a2
  refine wpAny_newObj_type (newEnv_comp ?_)
  obtain ⟨W, ⟨m0, w0⟩, turn⟩ := q _ (I2.hok.fresh (Nat.le_refl _))
  have I3 : Inv X pins σ (upd H2 t2.heap.objs.size (.dK [])) { t2 with heap := t2.heap.push { cls := .type "dict", data := .dict #[] } } :=
    I2.laid (t' := t2.toks) (fun _ _ z => Heap.get?_push_of_some _ z) (Nat.le_refl _) (dk_empty _ I2.big)
  have ahead : ∀ b ∈ fp, b < t2.heap.objs.size := fun b hb => let ⟨_, z, _⟩ := T.obj _ _ st2 b hb; Heap.lt_size z
  generalize e3 : ({ t2 with heap := t2.heap.push { cls := .type "dict", data := .dict #[] } } : Shared) = t3 at I3
  have h3 : t3.heap = t2.heap.push { cls := .type "dict", data := .dict #[] } := by rw [← e3]
  have fp3 : ∀ b ∈ fp, FpOk X pins (upd H2 t2.heap.objs.size (.dK [])) b ∧ b < t3.heap.objs.size := fun b hb => by
    refine ⟨⟨?_, (apart b hb).2⟩, ?_⟩
    · rw [upd_ne (Nat.ne_of_lt (ahead b hb))]
      exact (apart b hb).1
    · rw [h3, Heap.size_push]
      exact Nat.lt_succ_of_lt (ahead b hb)
  have st3 : tn 0 t3.heap := T.keep _ _ _ st2 fun b _ o z => by rw [h3]; exact Heap.get?_push_of_some _ z
  have I4 := block_start I3 ok nd fp3
  generalize eD : t2.heap.objs.size = D at *
  generalize eH : upd H2 D (.dK []) = H3 at *
  have pg := hg t3 H3 t3.heap.objs.size (cellsFrom (t3.heap.objs.size + 1) scope.names (cloFrom X.env.cells scope.names [])) fp
  have pt := ht t3 H3 t3.heap.objs.size (cellsFrom (t3.heap.objs.size + 1) scope.names (cloFrom X.env.cells scope.names [])) fp
  have pi1 := hi1 t3 H3 t3.heap.objs.size (cellsFrom (t3.heap.objs.size + 1) scope.names (cloFrom X.env.cells scope.names [])) fp
  have pg1 := hg1 t3 H3 t3.heap.objs.size (cellsFrom (t3.heap.objs.size + 1) scope.names (cloFrom X.env.cells scope.names [])) fp
  have pt1 := ht1 t3 H3 t3.heap.objs.size (cellsFrom (t3.heap.objs.size + 1) scope.names (cloFrom X.env.cells scope.names [])) fp
  have pk := hk t3 H3 t3.heap.objs.size (cellsFrom (t3.heap.objs.size + 1) scope.names (cloFrom X.env.cells scope.names [])) fp
  have pv := he t3 H3 t3.heap.objs.size (cellsFrom (t3.heap.objs.size + 1) scope.names (cloFrom X.env.cells scope.names [])) fp
  show codeAny _ _ (.compStart (.DictComp kx vx [⟨tg, iter, ifs, 0⟩, ⟨tg1, iter1, ifs1, 0⟩] scope pos) 0 (.ref it) (.ref D) (compEnvC scope (cellsFrom (t3.heap.objs.size + 1) scope.names (cloFrom X.env.cells scope.names [])) t3.heap.objs.size X.env)) (compPost (model X.prog X.w) X.A X.xe none (EP X pins σ Q) (.ref D) t3.heap.objs.size) { t3 with heap := pushCells (t3.heap.push { cls := .type "dict", data := .dict #[] }) scope.names }
  have off : ∀ b ∈ fp, H3 b = none := fun b hb => (fp3 b hb).1.1
  generalize eC : compEnvC scope (cellsFrom (t3.heap.objs.size + 1) scope.names (cloFrom X.env.cells scope.names [])) t3.heap.objs.size X.env = ce at I4 pg pt pi1 pg1 pt1 pk pv ⊢
  have place : ce.locals = t3.heap.objs.size := by rw [← eC]; rfl
  generalize e4 : ({ t3 with heap := pushCells (t3.heap.push { cls := .type "dict", data := .dict #[] }) scope.names } : Shared) = t4 at I4 ⊢
  have st4 : tn 0 t4.heap := T.keep _ _ _ st3 fun b _ o z => by rw [← e4]; exact pushCells_keeps _ _ _ _ (Heap.get?_push_of_some _ z)
  have still : ∀ {σ' : L2.St} {H' : Hp} {t : Shared}, Inv (X.blk t3 H3 scope ce fp) [] σ' H' t → (∀ b ∈ fp, H' b = none) → ∀ b ∈ fp, FpOk (X.blk t3 H3 scope ce fp) [] H' b := fun J n b hb =>
    ⟨n b hb, (J.ok.exf b hb).1, J.ok.exfs b hb, .inl hb, fun x c z => (J.ok.exf b hb).2 x c z, fun z hz => absurd (show z ∈ ([] : List (Addr × Obj)) ++ [] from hz) (by simp)⟩
  have main : codeAny (model X.prog X.w) X.A (.compLoop (.DictComp kx vx [⟨tg, iter, ifs, 0⟩, ⟨tg1, iter1, ifs1, 0⟩] scope pos) 0 (.ref it) (.ref D) ce) (compPost (model X.prog X.w) X.A X.xe none (EP X pins σ Q) (.ref D) t3.heap.objs.size) t4 := by
    refine compLoop2D_out (plain1 ce) (fun m t => ∃ n Hn, Inv (X.blk t3 H3 scope ce fp) [] (wipe σ (own.map (·.2))) Hn t ∧ tn n t.heap ∧ (∀ b ∈ fp, Hn b = none) ∧ W n m Hn) ?_ m0 ⟨0, H3, I4, st4, off, w0⟩
    rintro m t5 ⟨n, H5, I5, st5, off5, w5⟩
    rcases turn n m H5 w5 with ⟨stop, over⟩ | ⟨go, Nx, lower, step⟩
    · refine thnF (T.done (X.blk t3 H3 scope ce fp) rfl rfl rfl calm n [] t5 _ H5 (fun _ _ => False) I5 (still I5 off5) st5 stop) ?_
      rintro _ t6 ⟨rfl, I6⟩
      have I7 : Inv X pins σ H5 t6 := I3.call' (ch := fp) I6.os I6.base I6.hok I6.bare fun b hb => let z := (fp3 b hb).1.2; ⟨z.2.2.1, z.1, z.2.2.2.1, z.2.2.2.2⟩
      have gone : H5 t3.heap.objs.size = none := by rw [← place]; exact I6.free
      obtain ⟨names, hn, _⟩ := I6.loc
      have hn2 : t6.heap.Ns ce.locals names := hn
      rw [place] at hn2
      obtain ⟨z0, z1, z2, z3, z4, z5⟩ := I3.fpOk (Nat.le_refl _) gone
      exact ⟨names, hn2, fun h7 but => ⟨.ref D, H5, I7.turned (t' := t6.toks) (fun b ob hb z => (but.2 b hb).trans z) z0 z1 z3 z4 z5, rfl, over⟩⟩
    · refine thnF (T.item (X.blk t3 H3 scope ce fp) rfl rfl rfl calm n [] t5 _ H5 (fun _ _ => False) I5 (still I5 off5) st5 go) ?_
      rintro _ t6 ⟨u, rfl, a6⟩
      refine thnF a6 ?_
      rintro _ t7 ⟨x, H7, I7, rx, yx, st7, off7⟩
      refine thnF (pg.run _ t7 _ H7 x u _ (I7.pinned (still I7 off7) (T.obj _ _ st7)) rx (step x H7 yx)) ?_
      rintro _ t8 ⟨σ8, H8, I8, same8, q8⟩
      have close : ∀ {σ' : L2.St} {t : Shared} {Hn : Hp}, wipe σ' (own.map (·.2)) = wipe σ (own.map (·.2)) → Inv (X.blk t3 H3 scope ce fp) ([] ++ pinsAt fp t7.heap) σ' Hn t → Nx Hn → ∃ less, less < m ∧ ∃ n Hn, Inv (X.blk t3 H3 scope ce fp) [] (wipe σ (own.map (·.2))) Hn t ∧ tn n t.heap ∧ (∀ b ∈ fp, Hn b = none) ∧ W n less Hn := fun {σ' t Hn} same' J nx => by
        obtain ⟨less, hl, wl⟩ := lower Hn nx
        have kept : ∀ b ∈ fp, ∀ o, t7.heap.get? b = some o → t.heap.get? b = some o ∧ Hn b = none := fun b hb o z =>
          let y := J.pin (b, o) (List.mem_append_right _ (List.mem_append_right _ (mem_pinsAt hb z)))
          ⟨y.1, y.2.1⟩
        refine ⟨less, hl, n + 1, Hn, (J.unpinned (pins := [])).weak (by rw [← same', wipe_length]) fun j v z => ?_, T.keep _ _ _ st7 fun b hb o z => (kept b hb o z).1, fun b hb => ?_, wl⟩
        · rw [← same'] at z
          exact (wipe_some z).1
        · obtain ⟨o, z, _⟩ := T.obj _ _ st7 b hb
          exact (kept b hb o z).2
      refine thnF (pt.run _ t8 σ8 H8 _ I8 q8) ?_
      rintro yes t9 ⟨H9, I9, q9⟩
      cases yes with
      | false => exact close same8 I9 (by simpa using q9)
      | true =>
        simp only [if_true] at q9 ⊢
        refine thnF (pi1.run _ t9 σ8 H9 _ I9 q9) fun _ ta a1 => ?_
        refine thnF a1 fun _ tb a2 => ?_
        obtain ⟨it1, fp1, tn1, J1, Hb, rfl, Ib, T1, stb, apart1, W1, ⟨k0, v0⟩, turn1⟩ := a2
        have still1 : ∀ {Hc : Hp}, (∀ b ∈ fp1, Hc b = none) → ∀ b ∈ fp1, FpOk (X.blk t3 H3 scope ce fp) ([] ++ pinsAt fp t7.heap) Hc b := fun n b hb => ⟨n b hb, (apart1 b hb).2⟩
        have same1 : wipe (wipe σ8 vs1) (own.map (·.2)) = wipe σ (own.map (·.2)) := by
          rw [← same8]
          exact wipe_wipe sub
        have inner : codeAny (model X.prog X.w) X.A (.compLoop (.DictComp kx vx [⟨tg, iter, ifs, 0⟩, ⟨tg1, iter1, ifs1, 0⟩] scope pos) 1 (.ref it1) (.ref D) ce) (fun r s' => match r with
            | .ok _ => ∃ less, less < m ∧ ∃ n Hn, Inv (X.blk t3 H3 scope ce fp) [] (wipe σ (own.map (·.2))) Hn s' ∧ tn n s'.heap ∧ (∀ b ∈ fp, Hn b = none) ∧ W n less Hn
            | .error _ => False) tb := by
          refine compLoop2D_in (fun k t => ∃ j Hc, Inv (X.blk t3 H3 scope ce fp) ([] ++ pinsAt fp t7.heap) (wipe σ8 vs1) Hc t ∧ tn1 j t.heap ∧ (∀ b ∈ fp1, Hc b = none) ∧ W1 j k Hc) ?_ k0 ⟨0, Hb, Ib.weak (wipe_length _ _) fun j v z => (wipe_some z).1, stb, fun b hb => (apart1 b hb).1, v0⟩
          rintro k t10 ⟨j, H10, I10, st10, off10, w10⟩
          rcases turn1 j k H10 w10 with ⟨stop1, nx⟩ | ⟨go1, Nx1, lower1, step1⟩
          · refine thnF (T1.done (X.blk t3 H3 scope ce fp) rfl rfl rfl calm j _ t10 _ H10 (fun _ _ => False) I10 (still1 off10) st10 stop1) ?_
            rintro _ t11 ⟨rfl, I11⟩
            exact close same1 I11 nx
          · refine thnF (T1.item (X.blk t3 H3 scope ce fp) rfl rfl rfl calm j _ t10 _ H10 (fun _ _ => False) I10 (still1 off10) st10 go1) ?_
            rintro _ t11 ⟨u1, rfl, a11⟩
            refine thnF a11 ?_
            rintro _ t12 ⟨x1, H12, I12, rx1, yx1, st12, off12⟩
            refine thnF (pg1.run _ t12 _ H12 x1 u1 _ (I12.pinned (still1 off12) (T1.obj _ _ st12)) rx1 (step1 x1 H12 yx1)) ?_
            rintro _ t13 ⟨σ13, H13, I13, same13, q13⟩
            have close1 : ∀ {t : Shared} {Hn : Hp}, Inv (X.blk t3 H3 scope ce fp) (([] ++ pinsAt fp t7.heap) ++ pinsAt fp1 t12.heap) σ13 Hn t → Nx1 Hn → ∃ less, less < k ∧ ∃ j Hc, Inv (X.blk t3 H3 scope ce fp) ([] ++ pinsAt fp t7.heap) (wipe σ8 vs1) Hc t ∧ tn1 j t.heap ∧ (∀ b ∈ fp1, Hc b = none) ∧ W1 j less Hc := fun {t Hn} J nx => by
              obtain ⟨less, hl, wl⟩ := lower1 Hn nx
              have kept : ∀ b ∈ fp1, ∀ o, t12.heap.get? b = some o → t.heap.get? b = some o ∧ Hn b = none := fun b hb o z =>
                let y := J.pin (b, o) (List.mem_append_right _ (List.mem_append_right _ (mem_pinsAt hb z)))
                ⟨y.1, y.2.1⟩
              refine ⟨less, hl, j + 1, Hn, (J.unpinned (pins := [] ++ pinsAt fp t7.heap)).weak (by rw [← same13, wipe_length]) fun i v z => ?_, T1.keep _ _ _ st12 fun b hb o z => (kept b hb o z).1, fun b hb => ?_, wl⟩
              · rw [← same13] at z
                exact (wipe_some z).1
              · obtain ⟨o, z, _⟩ := T1.obj _ _ st12 b hb
                exact (kept b hb o z).2
            refine thnF (pt1.run _ t13 σ13 H13 _ I13 q13) ?_
            rintro yes1 t14 ⟨H14, I14, q14⟩
            cases yes1 with
            | false => exact close1 I14 (by simpa using q14)
            | true =>
              simp only [if_true] at q14 ⊢
              refine thnF (pk.run _ t14 σ13 H14 _ I14 q14) ?_
              rintro uk t15 ⟨y, H15, I15, ry, q15⟩
              refine thnF (pv.run _ t15 σ13 H15 _ I15 q15) ?_
              rintro uz t16 ⟨z, H16, I16, rz, kvs, key, rfl, g1, g2, nx1⟩
              exact d_dictSet (X := X.blk t3 H3 scope ce fp) I16 g1 g2 ry rz fun t17 I17 => close1 I17 nx1
        exact compStart1D_ok inner (T1.self X.A 0 _ _ _ stb inner)
  exact codeAny_compStart_dict main (T.self X.A 0 _ _ _ st4 main)
end

def Lets (L : Str) : Prop := 1 ≤ L.length ∧ L.length ≤ 26 ∧ ∀ c ∈ L.cps.toList, 97 ≤ c ∧ c ≤ 122

def rLcm : List V → Hp → VK → Prop := fun vs H Q => ∃ a b : Nat, vs = [nI a, nI b] ∧ a < 1000 ∧ b < 1000 ∧ Q (nI (a.lcm b)) H
theorem cr_lcm {X : Cx} : CallR X (.builtin "math.lcm") rLcm := by
  intro pins s σ H vs us Q I r ⟨a, b, e, ha, hb, q⟩
  subst e
  obtain ⟨t, u, rfl⟩ := Vals.int2 r
  refine PySem.W.mc_lcm (by rw [Int.natAbs_natCast]; exact Nat.lt_trans ha (by decide)) (by rw [Int.natAbs_natCast]; exact Nat.lt_trans hb (by decide)) fun _ => ⟨nI (a.lcm b), H, I.tok _, ⟨s.toks, ?_⟩, q⟩
  simp

theorem lc_outT {K : PySem.W.Frag} {a : Addr} {xs : List V} {Bd : V → Hp → (Hp → Prop) → Prop} {Qd : Hp → Prop} {H0 : Hp} (Pv : Nat → Hp → Prop) (h0 : Pv 0 H0) (hl : ∀ i H, i ≤ xs.length → Pv i H → SqT K H a xs)
    (hs : ∀ i x H, xs[i]? = some x → Pv i H → Bd x H (Pv (i + 1))) (hd : ∀ H, Pv xs.length H → Qd H) :
    ∃ W : Nat → Nat → Hp → Prop, (∃ m, W 0 m H0) ∧ ∀ i m H, W i m H → ((Itt K a).stop i H ∧ Qd H) ∨ ((Itt K a).go i H ∧ ∃ Nx : Hp → Prop, (∀ H', Nx H' → ∃ m', m' < m ∧ W (i + 1) m' H') ∧ ∀ x H', (Itt K a).yld i H x H' → Bd x H' Nx) := by
  refine ⟨fun i m H => m = xs.length - i ∧ i ≤ xs.length ∧ Pv i H, ⟨xs.length, by simp, Nat.zero_le _, h0⟩, ?_⟩
  rintro i m H ⟨rfl, hi, p⟩
  have q := hl i H hi p
  rcases Nat.lt_or_ge i xs.length with lt | ge
  · exact .inr ⟨⟨xs, xs[i], q, by simp [lt]⟩, Pv (i + 1), fun H' p' => ⟨_, by omega, rfl, lt, p'⟩, fun x H' y => by
      obtain ⟨e, y⟩ := y
      subst e
      exact hs i x _ (y xs q) p⟩
  · obtain rfl : i = xs.length := by omega
    exact .inl ⟨⟨xs, q, Nat.le_refl _⟩, hd H p⟩
theorem cut1 {x : V} {r : List V} : cutV (x :: r) (some 1) none = r := by
  have h1 : HT.sIx (x :: r).length 0 (some 1) = 1 := by
    have := HT.sIx_nat (x :: r).length 0 1
    rw [show ((1 : Nat) : Int) = 1 from rfl] at this
    rw [this, List.length_cons]
    omega
  unfold cutV
  rw [h1, HT.sIx_none, List.length_cons, List.drop_succ_cons, List.drop_zero, Nat.add_sub_cancel, List.take_length]
theorem cut1_not {x : V} {r : List V} : ¬ (HT.sIx (x :: r).length 0 (some 1) = 0 ∧ HT.sIx (x :: r).length (x :: r).length none = (x :: r).length) := by
  have h1 : HT.sIx (x :: r).length 0 (some 1) = 1 := by
    have := HT.sIx_nat (x :: r).length 0 1
    rw [show ((1 : Nat) : Int) = 1 from rfl] at this
    rw [this, List.length_cons]
    omega
  rw [h1]
  omega
theorem dtAll_app {ok : Addr → Prop} {H : Hp} : ∀ {xs ys : List V} {ds es : List PyData}, DtAll ok H xs ds → DtAll ok H ys es → DtAll ok H (xs ++ ys) (ds ++ es)
  | _, _, _, _, .nil, y => y
  | _, _, _, _, .cons a b, y => .cons a (dtAll_app b y)
theorem flat_take {α β : Type} (f : α → List β) {l : List α} {i : Nat} {x : α} (h : l[i]? = some x) : (l.take (i + 1)).flatMap f = (l.take i).flatMap f ++ f x := by
  rw [take_succ_of h, List.flatMap_append]
  simp


def rowsTo : Nat → Nat → List (List Nat)
  | 0, _ => [[]]
  | n + 1, k => (rowsTo n k).flatMap fun r => (List.range k).map fun x => r ++ [x]
def keysOf (L : Str) (n k : Nat) : List (Nat × List Nat) := L.cps.toList.flatMap fun c => (rowsTo n k).map fun r => (c, r)
def RowsAt (H : Hp) (as : List Addr) (rows : List (List Nat)) : Prop := Paired (fun (a : Addr) (row : List Nat) => H a = some (.tup (row.map nI))) as rows
def KeysAt (H : Hp) (bs : List Addr) (keys : List (Nat × List Nat)) : Prop := Paired (fun (b : Addr) (key : Nat × List Nat) => ∃ a, H b = some (.tup [.str (ch key.1), .ref a]) ∧ H a = some (.tup (key.2.map nI))) bs keys
theorem ext_len (k : Nat) : ∀ l : List (List Nat), (l.flatMap fun r => (List.range k).map fun x => r ++ [x]).length = l.length * k
  | [] => by simp
  | a :: t => by rw [List.flatMap_cons, List.length_append, List.length_map, List.length_range, ext_len k t, List.length_cons, Nat.succ_mul, Nat.add_comm]
theorem rowsTo_len (k : Nat) : ∀ n, (rowsTo n k).length = k ^ n
  | 0 => rfl
  | n + 1 => by rw [rowsTo, ext_len, rowsTo_len k n, Nat.pow_succ]
theorem rowsTo_mem {k : Nat} : ∀ {n : Nat} {r : List Nat}, r ∈ rowsTo n k → r.length = n ∧ ∀ x ∈ r, x < k
  | 0, r, h => by simp [rowsTo] at h; subst h; simp
  | n + 1, r, h => by
    simp only [rowsTo, List.mem_flatMap, List.mem_map, List.mem_range] at h
    obtain ⟨r0, h0, x, hx, rfl⟩ := h
    obtain ⟨a, b⟩ := rowsTo_mem h0
    refine ⟨by simp [a], fun y hy => ?_⟩
    rcases List.mem_append.mp hy with hy | hy
    · exact b y hy
    · rw [List.mem_singleton.mp hy]; exact hx
theorem prd_app {α β : Type} {F : α → β → Prop} : ∀ {as cs : List α} {bs ds : List β}, Paired F as bs → Paired F cs ds → Paired F (as ++ cs) (bs ++ ds)
  | _, _, _, _, .nil, y => y
  | _, _, _, _, .cons r t, y => .cons r (prd_app t y)
theorem prd_at {α β : Type} {F : α → β → Prop} : ∀ {as : List α} {bs : List β} {i : Nat} {a : α}, Paired F as bs → as[i]? = some a → ∃ b, bs[i]? = some b ∧ F a b
  | _, _, 0, _, .cons r _, h => by cases h; exact ⟨_, rfl, r⟩
  | _, _, i + 1, _, .cons _ t, h => by
    rw [List.getElem?_cons_succ] at h
    obtain ⟨b, h1, h2⟩ := prd_at t h
    exact ⟨b, by rw [List.getElem?_cons_succ]; exact h1, h2⟩
theorem RowsAt.keep {H H' : Hp} {as : List Addr} {rows : List (List Nat)} (x : RowsAt H as rows) (h : ∀ b xs, H b = some (.tup xs) → H' b = some (.tup xs)) : RowsAt H' as rows := Paired.mapP x fun _ _ e => h _ _ e
theorem KeysAt.keep {H H' : Hp} {as : List Addr} {ks : List (Nat × List Nat)} (x : KeysAt H as ks) (h : ∀ b xs, H b = some (.tup xs) → H' b = some (.tup xs)) : KeysAt H' as ks := Paired.mapP x fun _ _ ⟨a, e1, e2⟩ => ⟨a, h _ _ e1, h _ _ e2⟩
theorem upd_tup {H : Hp} {D : Addr} {xs : List V} {o : HO} (hD : H D = some (.lst xs)) : ∀ b ys, H b = some (.tup ys) → (upd H D o) b = some (.tup ys) := fun b ys e => by
  rw [upd_ne (fun z => by rw [z, hD] at e; cases e)]
  exact e
theorem lc_walk {J : It} {len : Nat} {G : Hp → Prop} {Y : Nat → Hp → V → Hp → Prop} (wk : Walk J len G Y) {Bd : V → Hp → (Hp → Prop) → Prop} {Qd : Hp → Prop} {H0 : Hp} (Pv : Nat → Hp → Prop) (h0 : Pv 0 H0) (hp : ∀ i H, i ≤ len → Pv i H → G H)
    (hs : ∀ i x H H', i < len → Pv i H → Y i H x H' → Bd x H' (Pv (i + 1))) (hd : ∀ H, Pv len H → Qd H) :
    ∃ W : Nat → Nat → Hp → Prop, (∃ m, W 0 m H0) ∧ ∀ i m H, W i m H → (J.stop i H ∧ Qd H) ∨ (J.go i H ∧ ∃ Nx : Hp → Prop, (∀ H', Nx H' → ∃ m', m' < m ∧ W (i + 1) m' H') ∧ ∀ x H', J.yld i H x H' → Bd x H' Nx) := by
  refine ⟨fun i m H => m = len - i ∧ i ≤ len ∧ Pv i H, ⟨len, by simp, Nat.zero_le _, h0⟩, ?_⟩
  rintro i m H ⟨rfl, hi, p⟩
  have g := hp i H hi p
  rcases Nat.lt_or_ge i len with lt | ge
  · exact .inr ⟨wk.goes i H lt g, Pv (i + 1), fun H' p' => ⟨_, by omega, rfl, lt, p'⟩, fun x H' y => hs i x H H' lt p (wk.yields i H x H' lt g y)⟩
  · obtain rfl : i = len := by omega
    exact .inl ⟨wk.stops H g, hd H p⟩
def sp_tuples_due : Sp := fun vs H Q _ => ∃ (L : Str) (n k : Nat), vs = [.str L, nI n, nI k] ∧ L.length ≤ 26 ∧ n ≤ 6 ∧ k ≤ 20 ∧ Q (nI (L.length * k ^ n)) H
def sp_class_rows : Sp := fun vs H Q _ => ∃ (n k : Nat), vs = [nI n, nI k] ∧ n ≤ 6 ∧ 1 ≤ k ∧ k ≤ 20 ∧ k ^ n ≤ 600 ∧ ∀ r as H', Same H H' → H r = none → H' r = some (.lst (as.map V.ref)) → RowsAt H' as (rowsTo n k) → Q (.ref r) H'
def sp_keys_due : Sp := fun vs H Q _ => ∃ (L : Str) (n k : Nat), vs = [.str L, nI n, nI k] ∧ Lets L ∧ n ≤ 6 ∧ 1 ≤ k ∧ k ≤ 20 ∧ L.length * k ^ n ≤ 600 ∧ ∀ r bs H', Same H H' → H r = none → H' r = some (.lst (bs.map V.ref)) → KeysAt H' bs (keysOf L n k) → Q (.ref r) H'
section
variable {P : Program} {w : World} {K : PySem.W.Frag} {mg : Str → Option Value} {base : Heap}
end

def keyN (c : Nat) (row : List Nat) : NestedKey := .tup [.text (ch c), .tup (row.map fun x : Nat => .num (x : Int))]
def RowsJ (xs : List NRow) (keys : List (Nat × List Nat)) (fs : Nat → List Nat → Nat) : Prop := Paired (fun (x : NRow) (key : Nat × List Nat) => x.1 = keyN key.1 key.2 ∧ x.2.2 = nI (fs key.1 key.2)) xs keys
def Rises (L : Str) : Prop := L.cps.toList.Pairwise (· < ·)
def sp_at (L : Str) (n : Nat) (fs : Nat → List Nat → Nat) : Sp := fun vs H Q _ => ∃ (c : Nat) (b : Addr) (row : List Nat), vs = [.str (ch c), .ref b] ∧ c ∈ L.cps.toList ∧ row.length = n ∧ H b = some (.tup (row.map nI)) ∧ ∀ H', Same H H' → Q (nI (fs c row)) H'
def sp_table_made (P : Program) (w : World) (K : PySem.W.Frag) (mg : Str → Option Value) (base : Heap) : Sp := fun vs H Q _ => ∃ (L : Str) (n few turn : Nat) (f : Addr) (fs : Nat → List Nat → Nat), vs = [.str L, nI n, nI few, nI turn, .ref f] ∧ Lets L ∧ Rises L ∧ n ≤ 6 ∧ few ≤ 4 ∧ 1 ≤ turn ∧ turn ≤ 4 ∧ L.length * (few + turn) ^ n ≤ 600 ∧
  CalX P w K mg base 8 f (fun H' => Same H H') 2 (sp_at L n fs) ∧ ∀ d xs H', Same H H' → H d = none → H' d = some (DictN P w d xs) → RowsN H' xs → RowsJ xs (keysOf L n (few + turn)) fs → Q (.ref d) H'
theorem ch_inj {a b : Nat} (h : ch a = ch b) : a = b := by
  have := congrArg (fun s : Str => s.cps.toList) h
  simpa [ch] using this
theorem keyN_inj {c c' : Nat} {r r' : List Nat} (h : keyN c r = keyN c' r') : c = c' ∧ r = r' := by
  unfold keyN at h
  injection h with h
  injection h with h1 h2
  injection h1 with h1
  injection h2 with h2
  injection h2 with h2
  refine ⟨ch_inj h1, ?_⟩
  clear h1
  induction r generalizing r' with
  | nil => cases r' with | nil => rfl | cons a b => cases h2
  | cons a b ih => cases r' with
    | nil => cases h2
    | cons a' b' =>
      rw [List.map_cons, List.map_cons] at h2
      injection h2 with e1 e2
      injection e1 with e1
      rw [ih e2, show a = a' by omega]
theorem keyN_depth (c : Nat) (r : List Nat) : (keyN c r).depth ≤ 8 := by
  have : ∀ r : List Nat, NestedKey.depthAll (r.map fun x : Nat => NestedKey.num (x : Int)) ≤ 1 := by
    intro r
    induction r with
    | nil => simp [NestedKey.depthAll]
    | cons a b ih => simp only [List.map_cons, NestedKey.depthAll, NestedKey.depth]; omega
  have := this r
  simp only [keyN, NestedKey.depth, NestedKey.depthAll]
  omega
theorem nk_nums {H : Hp} : ∀ r : List Nat, NKs H (r.map fun x : Nat => .num (x : Int)) (r.map nI)
  | [] => .nil
  | x :: r => .cons (.int _) (nk_nums r)
theorem nk_key {H : Hp} {b a : Addr} {c : Nat} {r : List Nat} (hb : H b = some (.tup [.str (ch c), .ref a])) (ha : H a = some (.tup (r.map nI))) : NK H (keyN c r) (.ref b) := .tup hb (.cons (.text _) (.cons (.tup ha (nk_nums r)) .nil))
theorem rowsTo_nd (k : Nat) : ∀ n, (rowsTo n k).Pairwise (· ≠ ·)
  | 0 => by simp [rowsTo]
  | n + 1 => by
    rw [rowsTo, List.pairwise_flatMap]
    refine ⟨fun r _ => ?_, (rowsTo_nd k n).imp fun {a b} hab x hx y hy e => ?_⟩
    · rw [List.pairwise_map]
      exact List.nodup_range.imp fun h e => h (by simpa using e)
    · simp only [List.mem_map] at hx hy
      obtain ⟨p, _, rfl⟩ := hx
      obtain ⟨q, _, rfl⟩ := hy
      exact hab (List.append_inj' e rfl).1
theorem keysOf_nd {L : Str} (h : Rises L) (n k : Nat) : (keysOf L n k).Pairwise (· ≠ ·) := by
  unfold keysOf
  rw [List.pairwise_flatMap]
  refine ⟨fun c _ => ?_, h.imp fun {a b} hab x hx y hy e => ?_⟩
  · rw [List.pairwise_map]
    exact (rowsTo_nd k n).imp fun h e => h (by simpa using e)
  · simp only [List.mem_map] at hx hy
    obtain ⟨p, _, rfl⟩ := hx
    obtain ⟨q, _, rfl⟩ := hy
    have : a = b := (Prod.mk.inj e).1
    omega
theorem atN_none {xs : List NRow} {k : NestedKey} (h : ∀ x ∈ xs, x.1 ≠ k) : atN xs k = none := by
  unfold atN
  rw [List.find?_eq_none.mpr fun x hx => by simpa using h x hx]
  rfl
theorem storedN_new {xs : List NRow} {k : NestedKey} {b : Addr} {v : V} (h : ∀ x ∈ xs, x.1 ≠ k) : storedN xs k b v = xs ++ [(k, b, v)] := by
  unfold storedN
  rw [atN_none h]
  rfl
theorem prd_mem {α β : Type} {F : α → β → Prop} {as : List α} {bs : List β} {a : α} (p : Paired F as bs) (h : a ∈ as) : ∃ b ∈ bs, F a b := by
  obtain ⟨i, hi⟩ := List.getElem?_of_mem h
  obtain ⟨b, h1, h2⟩ := prd_at p hi
  exact ⟨b, List.mem_of_getElem? h1, h2⟩
theorem ahead_ne {α : Type} {l : List α} {i : Nat} {x : α} (h : l.Pairwise (· ≠ ·)) (hx : l[i]? = some x) : ∀ y ∈ l.take i, y ≠ x := fun y hy e => by
  obtain ⟨j, hj⟩ := List.getElem?_of_mem hy
  have lt := (List.getElem?_eq_some_iff.mp hj).1
  rw [List.length_take] at lt
  rw [List.getElem?_take_of_lt (by omega)] at hj
  have h1 := List.getElem?_eq_some_iff.mp hj
  have h2 := List.getElem?_eq_some_iff.mp hx
  exact (List.pairwise_iff_getElem.mp h) j i h1.1 h2.1 (by omega) (by rw [h1.2, h2.2]; exact e)
theorem dF {p : Prop} {i : Decidable p} {A B : Prop} (h : ¬p) (k : B) : if (@decide p i) = true then A else B := by
  rw [decide_eq_false h]
  exact iteF k
theorem dT {p : Prop} {i : Decidable p} {A B : Prop} (h : p) (k : A) : if (@decide p i) = true then A else B := by
  rw [decide_eq_true h]
  exact iteT k
theorem RowsN.keep {H H' : Hp} {xs : List NRow} (x : RowsN H xs) (h : ∀ b ys, H b = some (.tup ys) → H' b = some (.tup ys)) : RowsN H' xs := fun r hr => ⟨NK.keep h (x r hr).1, (x r hr).2⟩
theorem upd_tupN {H : Hp} {D : Addr} {P : Program} {w : World} {d : Addr} {xs : List NRow} {o : HO} (hD : H D = some (DictN P w d xs)) : ∀ b ys, H b = some (.tup ys) → (upd H D o) b = some (.tup ys) := fun b ys e => by
  rw [upd_ne (fun z => by rw [z, hD] at e; unfold DictN at e; cases e)]
  exact e
theorem upd_lstN {H : Hp} {D : Addr} {P : Program} {w : World} {d : Addr} {xs : List NRow} {o : HO} (hD : H D = some (DictN P w d xs)) : ∀ b ys, H b = some (.lst ys) → (upd H D o) b = some (.lst ys) := fun b ys e => by
  rw [upd_ne (fun z => by rw [z, hD] at e; unfold DictN at e; cases e)]
  exact e
section
variable {P : Program} {w : World} {K : PySem.W.Frag} {mg : Str → Option Value} {base : Heap}
end

theorem inV_nI (x : Nat) : ∀ g : List Nat, inV (nI x) (g.map nI) = decide (x ∈ g)
  | [] => rfl
  | y :: r => by
    have ih := inV_nI x r
    unfold inV at ih ⊢
    rw [List.map_cons, List.any_cons, ih]
    have e : eqV (nI y) (nI x) = decide (x = y) := by
      show ((y : Int) == (x : Int)) = _
      rw [Bool.eq_iff_iff]
      simp
      omega
    rw [e]
    simp
theorem flat_nI : ∀ g : List Nat, (g.map nI).all flatV = true
  | [] => rfl
  | y :: r => by rw [List.map_cons, List.all_cons, flat_nI r]; rfl
theorem post_last : ∀ t : Tr, ∃ l, t.post = l ++ [t]
  | .node c ks => ⟨posts ks, rfl⟩

theorem tabsN_frP {TT : List NdefX.NTab} {H H' : Hp} {P : Addr} {q : Str} (h : NdefX.TabsN TT H) (hm : (P, fun _ _ => q) ∈ TT) (hu : ∀ z ∈ TT, z.1 = P → z.2 = fun _ _ => q) (f : Fr P H H') (t : LamX.TabS H' P q) : NdefX.TabsN TT H' := fun z hz => by
  by_cases e : z.1 = P
  · rw [hu z hz e, e]
    exact NdefX.TabN.of t
  · obtain ⟨ps, h1, h2, h3⟩ := h z hz
    refine ⟨ps, f _ _ e h1, h2, fun pos cv hc => ?_⟩
    obtain ⟨c, e1, h4⟩ := h3 pos cv hc
    obtain ⟨ps0, g1, _⟩ := h _ hm
    exact ⟨c, e1, f _ _ (fun e2 => by rw [e2, g1] at h4; unfold LamX.CodeO at h4; cases h4) h4⟩
theorem extN_of_frP {H H' : Hp} {P : Addr} {TT : List NdefX.NTab} {q : Str} (h : NdefX.TabsN TT H) (hm : (P, fun _ _ => q) ∈ TT) (f : Fr P H H') : LamX.ExtN H H' := fun b o e n => f b o (fun e2 => by
  obtain ⟨ps0, g1, _⟩ := h _ hm
  rw [e2, g1] at e
  cases e
  exact n _ rfl) e
theorem lent_extN {cs : Lent} {H H' : Hp} (f : LamX.ExtN (lend H cs) H') : LentAt cs H' := fun c o e => f c _ (lend_in e) (fun ps z => by unfold CellO at z; cases z)
theorem same_lend {cs : Lent} {H H2 : Hp} (l : LentAt cs H) (s : Same (unl H cs) H2) : Same H (lend H2 cs) := fun b o e => by
  cases hb : cs.lookup b with
  | some ob => rw [lend_in hb, ← l b ob hb]; exact e
  | none => rw [lend_out hb]; exact s b o (by rw [unl_out hb]; exact e)
theorem extN_unl {cs : Lent} {H H' : Hp} (hn : Fresh cs H) (f : LamX.ExtN (lend H cs) H') : LamX.ExtN H (unl H' cs) := fun b o e n => by
  rw [unl_out (hn.out e)]
  exact f b o (lend_some hn e) n
theorem tabsN_unl {cs : Lent} {TT : List NdefX.NTab} {H H' : Hp} (hn : Fresh cs H) (h : NdefX.TabsN TT H') (l : LentAt cs H') (hcel : Cells cs) : NdefX.TabsN TT (unl H' cs) := fun z hz => by
  obtain ⟨ps, h1, h2, h3⟩ := h z hz
  refine ⟨ps, unl_keep l h1 (fun _ e => by cases e), h2, fun pos cv hc => ?_⟩
  obtain ⟨c, e, h4⟩ := h3 pos cv hc
  refine ⟨c, e, ?_⟩
  cases hb : cs.lookup c with
  | none => rw [unl_out hb]; exact h4
  | some ob =>
    obtain ⟨v, hv⟩ := hcel _ _ hb
    rw [l c ob hb] at h4
    exact absurd (Option.some.inj h4).symm (codeO_cell hv)

theorem neS {x y : V} {i : Decidable (x = y)} {A B : Prop} (h : x = y) (k : B) : if (!@decide (x = y) i) = true then A else B := by
  rw [decide_eq_true h]
  exact iteF k
def FrD (d : Addr) (H H' : Hp) : Prop := ∀ b o, b ≠ d → H b = some o → H' b = some o
theorem keysOf_len (L : Str) (n k : Nat) : (keysOf L n k).length = L.length * k ^ n := by
  have e : (keysOf L n k).length = L.cps.toList.length * (rowsTo n k).length := by
    unfold keysOf
    generalize L.cps.toList = l
    induction l with
    | nil => simp
    | cons a t ih => rw [List.flatMap_cons, List.length_append, List.length_map, ih, List.length_cons, Nat.succ_mul, Nat.add_comm]
  rw [e, rowsTo_len, Array.length_toList]
  rfl
theorem keysOf_mem {L : Str} {n k : Nat} {key : Nat × List Nat} (h : key ∈ keysOf L n k) : key.1 ∈ L.cps.toList ∧ key.2.length = n ∧ ∀ x ∈ key.2, x < k := by
  simp only [keysOf, List.mem_flatMap, List.mem_map] at h
  obtain ⟨c, hc, row, hrow, rfl⟩ := h
  exact ⟨hc, rowsTo_mem hrow⟩
theorem nks_nums {H : Hp} : ∀ {r : List Nat} {vs : List V}, NKs H (r.map fun x : Nat => .num (x : Int)) vs → vs = r.map nI
  | [], _, h => by cases h; rfl
  | x :: r, _, h => by
    cases h with
    | cons a b =>
      cases a
      rw [nks_nums b]
      rfl
theorem nk_inv {H : Hp} {b : Addr} {c : Nat} {r : List Nat} (h : NK H (keyN c r) (.ref b)) : ∃ a, H b = some (.tup [.str (ch c), .ref a]) ∧ H a = some (.tup (r.map nI)) := by
  unfold keyN at h
  cases h with
  | tup h1 h2 =>
    cases h2 with
    | cons a1 a2 =>
    cases a1
    cases a2 with
    | cons b1 b2 =>
    cases b2
    cases b1 with
    | tup c1 c2 =>
    rw [nks_nums c2] at c1
    exact ⟨_, h1, c1⟩

def clsN (few turn x : Nat) : Nat := if x < few + turn then x else few + (x - few) % turn
theorem clsN_lt {few turn : Nat} (h : 1 ≤ turn) (x : Nat) : clsN few turn x < few + turn := by
  unfold clsN
  split
  · assumption
  · have := Nat.mod_lt (x - few) (show turn > 0 by omega)
    omega
theorem clsN_low {few turn x : Nat} (h : x < few + turn) : clsN few turn x = x := by
  unfold clsN
  rw [if_pos h]
theorem clsN_few {few turn x : Nat} (h : few ≤ x) : few ≤ clsN few turn x := by
  unfold clsN
  split <;> omega
theorem clsN_dvd {few turn m : Nat} (hm : m ∣ turn) (x : Nat) : ((clsN few turn x : Nat) : Int) % (m : Int) = ((x : Nat) : Int) % (m : Int) := by
  unfold clsN
  split
  · rfl
  · obtain ⟨q, rfl⟩ := hm
    have e := Nat.div_add_mod (x - few) (m * q)
    have e2 : x = (few + (x - few) % (m * q)) + m * (q * ((x - few) / (m * q))) := by
      rw [← Nat.mul_assoc]
      omega
    have e3 : ((x : Nat) : Int) = ((few + (x - few) % (m * q) : Nat) : Int) + (m : Int) * ((q * ((x - few) / (m * q)) : Nat) : Int) := by
      rw [← Int.natCast_mul, ← Int.natCast_add, ← e2]
    rw [e3, Int.add_mul_emod_self_left]

theorem atN_rows {c : Nat} {row : List Nat} {fs : Nat → List Nat → Nat} : ∀ {xs : List NRow} {keys : List (Nat × List Nat)}, RowsJ xs keys fs → (c, row) ∈ keys → atN xs (keyN c row) = some (nI (fs c row))
  | _, _, .nil, h => by cases h
  | x :: xs, (c', row') :: keys, .cons r t, h => by
    obtain ⟨e1, e2⟩ := r
    by_cases e : (c', row') = (c, row)
    · cases e
      simp [atN, e1, e2]
    · have hm : (c, row) ∈ keys := (List.mem_cons.mp h).resolve_left fun z => e z.symm
      have ne : ¬ x.1 = keyN c row := fun z => e (by
        obtain ⟨a, b⟩ := keyN_inj (e1.symm.trans z)
        dsimp only at a b
        rw [a, b])
      have : atN (x :: xs) (keyN c row) = atN xs (keyN c row) := by simp [atN, List.find?_cons, ne]
      rw [this]
      exact atN_rows t hm


structure JD where
  L : Str
  n : Nat
  few : Nat
  turn : Nat
  fs : Nat → List Nat → Nat
  good : List Nat
def JD.keys (J : JD) : List (Nat × List Nat) := keysOf J.L J.n (J.few + J.turn)
def JD.sf (J : JD) (c : Nat) (row : List Nat) : Nat := J.fs c (row.map (clsN J.few J.turn))
structure JD.ok (J : JD) : Prop where
  L : Lets J.L
  n1 : 1 ≤ J.n
  n6 : J.n ≤ 6
  f4 : J.few ≤ 4
  t1 : 1 ≤ J.turn
  t4 : J.turn ≤ 4
  h600 : J.L.length * (J.few + J.turn) ^ J.n ≤ 600
  lt : ∀ key ∈ J.keys, J.fs key.1 key.2 < J.n
  g6 : J.good.length ≤ 6
  gn : ∀ g ∈ J.good, g < J.n
def JAt (P : Program) (w : World) (H : Hp) (v : V) (J : JD) : Prop := ∃ (j d g : Addr) (xs : List NRow) (keys : List (Nat × List Nat)), v = .ref j ∧ H j = some (.tup [.str J.L, nI J.n, nI J.few, nI J.turn, .ref d, .ref g]) ∧ H d = some (DictN P w d xs) ∧ RowsN H xs ∧ RowsJ xs keys J.fs ∧ keys.Perm J.keys ∧ H g = some (.lst (J.good.map nI))
theorem not_tbl {P : Program} {w : World} {d : Addr} {xs : List NRow} : ∀ ps, DictN P w d xs ≠ .tbl ps := fun ps z => by unfold DictN at z; cases z
theorem JAt.extN {P : Program} {w : World} {H H' : Hp} {v : V} {J : JD} (x : JAt P w H v J) (f : LamX.ExtN H H') : JAt P w H' v J := by
  obtain ⟨j, d, g, xs, keys, rfl, h1, h2, h3, h4, h5, h6⟩ := x
  exact ⟨j, d, g, xs, keys, rfl, f _ _ h1 (fun _ z => by cases z), f _ _ h2 not_tbl, h3.keep fun b ys e => f _ _ e (fun _ z => by cases z), h4, h5, f _ _ h6 (fun _ z => by cases z)⟩
theorem JAt.same {P : Program} {w : World} {H H' : Hp} {v : V} {J : JD} (x : JAt P w H v J) (f : Same H H') : JAt P w H' v J := x.extN (.of f)
theorem rowsTo_all {k : Nat} : ∀ {n : Nat} {r : List Nat}, r.length = n → (∀ x ∈ r, x < k) → r ∈ rowsTo n k
  | 0, r, h, _ => by
    rw [List.length_eq_zero_iff] at h
    subst h
    simp [rowsTo]
  | n + 1, r, h, hx => by
    obtain ⟨a, b, rfl⟩ := concat_of (l := r) (by intro z; rw [z] at h; cases h)
    rw [List.length_append, List.length_singleton] at h
    simp only [rowsTo, List.mem_flatMap, List.mem_map, List.mem_range]
    exact ⟨a, rowsTo_all (by omega) fun x hm => hx x (List.mem_append_left _ hm), b, hx b (List.mem_append_right _ (List.mem_singleton.mpr rfl)), rfl⟩
theorem keysOf_all {L : Str} {n k c : Nat} {row : List Nat} (hc : c ∈ L.cps.toList) (hl : row.length = n) (hx : ∀ x ∈ row, x < k) : (c, row) ∈ keysOf L n k :=
  List.mem_flatMap.mpr ⟨c, hc, List.mem_map.mpr ⟨row, rowsTo_all hl hx, rfl⟩⟩
theorem JD.ok.key {J : JD} (h : J.ok) {c : Nat} {row : List Nat} (hc : c ∈ J.L.cps.toList) (hl : row.length = J.n) : (c, row.map (clsN J.few J.turn)) ∈ J.keys :=
  keysOf_all hc (by rw [List.length_map, hl]) fun x hx => by
    obtain ⟨y, _, rfl⟩ := List.mem_map.mp hx
    exact clsN_lt h.t1 y
theorem JD.ok.sf_lt {J : JD} (h : J.ok) {c : Nat} {row : List Nat} (hc : c ∈ J.L.cps.toList) (hl : row.length = J.n) : J.sf c row < J.n := h.lt _ (h.key hc hl)
def NewN (H : Hp) (r : Addr) : Prop := ∀ o, H r = some o → ∃ ps, o = .tbl ps
def sp_class_of : Sp := fun vs H Q _ => ∃ x few turn : Nat, vs = [nI x, nI few, nI turn] ∧ 1 ≤ turn ∧ Q (nI (clsN few turn x)) H
def sp_state_by_numbers (P : Program) (w : World) : Sp := fun vs H Q _ => ∃ (v : V) (J : JD) (c : Nat) (b : Addr) (row : List Nat), vs = [v, .str (ch c), .ref b] ∧ JAt P w H v J ∧ J.ok ∧ c ∈ J.L.cps.toList ∧ row.length = J.n ∧ H b = some (.lst (row.map nI)) ∧ ∀ H', Same H H' → Q (nI (J.sf c row)) H'
def sp_part_states (P : Program) (w : World) (TT : List NdefX.NTab) : Sp := fun vs H Q _ => ∃ (v u : V) (J : JD) (t : Tr), vs = [v, u] ∧ JAt P w H v J ∧ J.ok ∧ TrAt (fun _ => True) H u t ∧ t.size ≤ 1000000 ∧ t.lets (fun c => c ∈ J.L.cps.toList) ∧ NdefX.TabsN TT H ∧
  ∀ r H', LamX.ExtN H H' → NdefX.TabsN TT H' → NewN H r → H' r = some (.lst ((t.post.map (St J.sf J.n)).map nI)) → Q (.ref r) H'
def sp_state_of (P : Program) (w : World) (TT : List NdefX.NTab) : Sp := fun vs H Q _ => ∃ (v u : V) (J : JD) (t : Tr), vs = [v, u] ∧ JAt P w H v J ∧ J.ok ∧ TrAt (fun _ => True) H u t ∧ t.size ≤ 1000000 ∧ t.lets (fun c => c ∈ J.L.cps.toList) ∧ NdefX.TabsN TT H ∧
  ∀ H', LamX.ExtN H H' → NdefX.TabsN TT H' → Q (nI (St J.sf J.n t)) H'
def sp_lets_by (P : Program) (w : World) (TT : List NdefX.NTab) : Sp := fun vs H Q _ => ∃ (v u : V) (J : JD) (t : Tr), vs = [v, u] ∧ JAt P w H v J ∧ J.ok ∧ TrAt (fun _ => True) H u t ∧ t.size ≤ 1000000 ∧ t.lets (fun c => c ∈ J.L.cps.toList) ∧ NdefX.TabsN TT H ∧
  ∀ H', LamX.ExtN H H' → NdefX.TabsN TT H' → Q (.bl (decide (St J.sf J.n t ∈ J.good))) H'
section
variable {P : Program} {w : World} {K : PySem.W.Frag} {mg : Str → Option Value} {base : Heap}
theorem ok_class_of (T : Txt K mg) : FnOk P w K mg base CX0 1 T.f_class_of T.d_class_of ["number", "few", "turn"] sp_class_of := by
  refine T.F_class_of.ok sc_class_of (fun vs H Q E h => ?_) (fun cdv A outer s H vs Q E hr h => ?_)
  · obtain ⟨x, few, turn, rfl, _⟩ := h
    rfl
  obtain ⟨x, few, turn, rfl, ht, q⟩ := h
  refine ⟨_, (pss_cons (ps_if (pt_cmpR op_lt (pv 0) (pe_op op_add (pv 1) (pv 2)) (nomark _)) (pss_one (ps_ret (pv 0))) pss_nil) (pss_one (ps_ret (pe_op op_add (pv 1) (pe_op op_mod (pe_op op_sub (pv 0) (pv 1)) (pv 2)))))), ?_⟩
  refine ⟨_, rfl, _, rfl, _, rfl, _, _, rfl, rfl, _, _, rfl, rfl, _, rfl, ?_⟩
  by_cases hx : x < few + turn
  · rw [clsN_low hx] at q
    exact dT (by omega) ⟨_, rfl, q⟩
  · refine dF (by omega) ⟨_, rfl, _, rfl, _, rfl, _, _, rfl, rfl, _, rfl, _, _, rfl, rfl, by omega, _, _, rfl, rfl, ?_⟩
    have e : (few : Int) + ((x : Int) - (few : Int)) % (turn : Int) = ((clsN few turn x : Nat) : Int) := by
      unfold clsN
      rw [if_neg hx]
      have : ((x : Int) - (few : Int)) = ((x - few : Nat) : Int) := by omega
      rw [this]
      push_cast
      rfl
    show Q (V.int ((few : Int) + ((x : Int) - (few : Int)) % (turn : Int))) H
    rw [e]
    exact q
end

section
variable {X : Cx}
def rListN (P : Program) (w : World) : List V → Hp → VK → Prop := fun vs H Q => ∃ (d : Addr) (xs : List NRow), vs = [.ref d] ∧ H d = some (DictN P w d xs) ∧ ∀ q, H q = none → Q (.ref q) (upd H q (.lst (xs.map fun x => V.ref x.2.1)))
theorem call_listN (hc : X.calm = true) : CallR X (.type "list") (rListN X.prog X.w) := by
  intro pins s σ H vs ws Q I r h
  obtain ⟨d, xs, rfl, hd, q⟩ := h
  obtain ⟨u, rfl, rx⟩ := vals1 r
  cases rx
  obtain ⟨⟨h1, h2, us, h3, o, es, ep, e1, e2, e3, e4, e5⟩, _, _⟩ := I.hok _ _ hd
  have hl : us.length = es.size := by
    have := congrArg List.length e4
    rw [List.length_map, Array.length_toList] at this
    exact this.symm
  have ln : xs.length = us.length := Paired.length h3
  refine PySem.W.kdl_call (kdl_raw h1 e2 e3) (I.ok.hd hc) e1 (by omega) fun h' tk acc' c' hkeep hS hacc => ?_
  refine ⟨.ref s.heap.objs.size, _, I.laid hkeep (Nat.le_refl _) (show ObjOk X.prog X.w _ _ _ (.lst (xs.map fun x => V.ref x.2.1)) from ⟨?_, acc'.toList, c', ?_, ?_⟩), rfl, q _ (I.hok.fresh (Nat.le_refl _))⟩
  · rw [List.length_map]; exact h2
  · have el : acc'.toList.length = acc'.size := by simp
    refine vals_of_at (by rw [List.length_map, el, hacc.1, ← hl, ln]) fun j x w h1 h2 => ?_
    obtain ⟨en, hen, hw⟩ := hacc.2 j w (by rw [← Array.getElem?_toList]; exact h2)
    rw [← Array.getElem?_toList, e4, List.getElem?_map] at hen
    rw [List.getElem?_map] at h1
    cases hx : xs[j]? with
    | none => rw [hx] at h1; cases h1
    | some row =>
      rw [hx] at h1
      cases h1
      obtain ⟨u, hu, k1, k2, k3⟩ := prd_at h3 hx
      rw [hu] at hen
      cases hen
      rw [hw]
      show Value.ref u.2.1 = Value.ref row.2.1
      rw [← k2]
  · rw [Array.toArray_toList]; exact hS
theorem storedAll_new {ps : List (NestedKey × Addr × Value)} (nd : (ps.map (·.1)).Nodup) : storedAllH [] ps = ps := by
  have : ∀ (n : Nat), n ≤ ps.length → storedAllH [] (ps.take n) = ps.take n := by
    intro n
    induction n with
    | zero => intro _; rfl
    | succ n ih =>
      intro hn
      have hp : ps[n]? = some ps[n] := List.getElem?_eq_getElem hn
      rw [storedAllH_take_succ [] ps n _ hp, ih (by omega), List.take_add_one, hp]
      have none : atKey (ps.take n) ps[n].1 = none := by
        cases e : atKey (ps.take n) ps[n].1 with
        | none => rfl
        | some v =>
          exfalso
          have hm : ∃ x ∈ ps.take n, x.1 = ps[n].1 := by
            unfold atKey at e
            cases f : (ps.take n).find? fun x => decide (x.1 = ps[n].1) with
            | none => rw [f] at e; cases e
            | some x => exact ⟨x, List.mem_of_find?_eq_some f, by simpa using List.find?_some f⟩
          obtain ⟨x, hx, ex⟩ := hm
          obtain ⟨j, hj⟩ := List.getElem?_of_mem hx
          have hjn : j < n := by
            have := (List.getElem?_eq_some_iff.mp hj).1
            rw [List.length_take] at this
            omega
          rw [List.getElem?_take_of_lt hjn] at hj
          have g1 : (ps.map (·.1))[j]? = some ps[n].1 := by rw [List.getElem?_map, hj]; exact congrArg some ex
          have g2 : (ps.map (·.1))[n]? = some ps[n].1 := by rw [List.getElem?_map, hp]; rfl
          have := (List.getElem?_inj (List.getElem?_eq_some_iff.mp g1).1 nd).mp (g1.trans g2.symm)
          omega
      unfold storedH
      rw [none]
      rfl
  have := this ps.length (Nat.le_refl _)
  rwa [List.take_length] at this
def rDictP (P : Program) (w : World) : List V → Hp → VK → Prop := fun vs H Q => ∃ (l : Addr) (bs : List Addr) (ps : List NRow), vs = [.ref l] ∧ H l = some (.lst (bs.map V.ref)) ∧ Paired (fun (b : Addr) (p : NRow) => H b = some (.tup [.ref p.2.1, p.2.2])) bs ps ∧ RowsN H ps ∧ (ps.map (·.1)).Nodup ∧ ps.length ≤ sizeLine ∧
  ∀ d, H d = none → Q (.ref d) (upd H d (DictN P w d ps))
theorem call_dictP (hc : X.calm = true) (hu : X.A.units + 12 < cLine) : CallR X (.type "dict") (rDictP X.prog X.w) := by
  intro pins s σ H vs ws Q I r h
  obtain ⟨l, bs, ps, rfl, hl, hp, hr, nd, hz, q⟩ := h
  obtain ⟨u, rfl, rx⟩ := vals1 r
  cases rx
  obtain ⟨its, ri, ⟨o, m, g1, g2, g3, g4⟩, _⟩ := I.list (SqL.of hl)
  have pick : ∀ (bs : List Addr) (ps : List NRow), Paired (fun (b : Addr) (p : NRow) => H b = some (.tup [.ref p.2.1, p.2.2])) bs ps → ∃ us : List (NestedKey × Addr × Value), RowsP ps us ∧ Paired (fun (b : Addr) (u : NestedKey × Addr × Value) => s.heap.IsTuple b #[.ref u.2.1, u.2.2]) bs us := by
    intro bs ps p
    induction p with
    | nil => exact ⟨[], .nil, .nil⟩
    | @cons b x bs ps e t ih =>
      obtain ⟨us, a1, a2⟩ := ih
      obtain ⟨vs2, r1, k1, _⟩ := I.tuple (SqT.of e)
      cases r1 with
      | cons c1 c2 =>
      cases c2 with
      | cons c3 c4 =>
      cases c4
      cases c1
      exact ⟨(x.1, x.2.1, _) :: us, .cons ⟨rfl, rfl, c3⟩ a1, .cons k1 a2⟩
  obtain ⟨us, a1, a2⟩ := pick bs ps hp
  have lb : bs.length = us.length := Paired.length a2
  have lp : ps.length = us.length := Paired.length a1
  have li := ri.length
  rw [List.length_map] at li
  have keys : ps.map (·.1) = us.map (·.1) := by
    have : ∀ (ps : List NRow) (us : List (NestedKey × Addr × Value)), RowsP ps us → ps.map (·.1) = us.map (·.1) := by
      intro ps us p
      induction p with
      | nil => rfl
      | cons r t ih => rw [List.map_cons, List.map_cons, r.1, ih]
    exact this _ _ a1
  have nds : ((us.map (·.1))).Nodup := by rw [← keys]; exact nd
  have isk : ∀ x ∈ us, (nestedKind X.prog X.w).is s.heap x.1 x.2.1 := by
    have : ∀ (xs : List NRow) (us : List (NestedKey × Addr × Value)), RowsP xs us → RowsN H xs → ∀ u ∈ us, (nestedKind X.prog X.w).is s.heap u.1 u.2.1 := by
      intro xs us p
      induction p with
      | nil => intro _ u hu; cases hu
      | cons r t ih =>
        intro hk u hu
        rcases List.mem_cons.mp hu with rfl | hu
        · obtain ⟨n1, n2⟩ := hk _ List.mem_cons_self
          refine ⟨?_, ?_⟩
          · rw [← r.1, ← r.2.1]
            exact NK.is I n1 rfl
          · rw [← r.1]
            exact n2
        · exact ih (fun x hx => hk x (List.mem_cons_of_mem _ hx)) u hu
    exact this _ _ a1 hr
  have lo : s.heap.objs.size ≠ sysModules := Ne.symm (Nat.ne_of_lt I.big)
  refine call_dict_pairsH (knd := nestedKind X.prog X.w) (ps := us) (PairArg.list l its.toArray (fun j => bs.getD j 0) (us.map fun u => (Value.ref u.2.1, u.2.2))) (I.ok.hd hc) (show X.A.units + 1 + 1 + 8 < cLine by omega) ?_ ?_ (fun h' hk x hx => ?_) (by rw [List.length_map, ← lp]; exact hz) fun h' tk hd' hk => ?_
  · refine ⟨⟨o, m, g1, g2, g3, g4⟩, ?_, fun j k v hj => ?_⟩
    · rw [List.size_toArray, List.length_map]; omega
    · rw [List.getElem?_map] at hj
      cases hu : us[j]? with
      | none => rw [hu] at hj; cases hj
      | some u =>
        rw [hu] at hj
        cases hj
        have hjb : j < bs.length := by rw [lb]; exact (List.getElem?_eq_some_iff.mp hu).1
        have hb : bs[j]? = some bs[j] := List.getElem?_eq_getElem hjb
        have ed : bs.getD j 0 = bs[j] := by rw [List.getD_eq_getElem?_getD, hb]; rfl
        obtain ⟨u2, hu2, k1⟩ := prd_at a2 hb
        have e2 := Option.some.inj (hu2.symm.trans hu)
        subst e2
        dsimp only
        rw [ed]
        refine ⟨?_, .inl k1⟩
        obtain ⟨u3, hu3, r3⟩ := ri.get (show (bs.map V.ref)[j]? = some (V.ref bs[j]) by rw [List.getElem?_map, hb]; rfl)
        cases r3
        rw [List.getElem?_toArray]
        exact hu3
  · refine ⟨by rw [List.length_map], fun i key v hi => ?_⟩
    have hi : (us.map fun u => (Value.ref u.2.1, u.2.2))[i]? = some (key, v) := hi
    rw [List.getElem?_map] at hi
    cases hu : us[i]? with
    | none => rw [hu] at hi; cases hi
    | some u =>
      rw [hu] at hi
      cases hi
      exact ⟨u.1, u.2.1, rfl, rfl⟩
  · exact nestedKind_stays.stays (fun b o vs m e q => hk b o (Nat.ne_of_lt (Heap.lt_size e)) (fun z => nomatch z) e) (isk x hx)
  · rw [storedAll_new nds] at hd'
    obtain ⟨ob, es, ep, e1, e2, e3, e4, _, e5⟩ := hd'
    exact ⟨.ref s.heap.objs.size, _, I.laid (t' := tk) (fun b o e => hk b o (fun z => nomatch z) e) (Nat.le_refl _) (dictN_ok (beq_eq_false_iff_ne.mpr lo) hz a1 ⟨ob, es, ep, e1, e2, e3, e4, e5⟩), rfl, q _ (I.hok.fresh (Nat.le_refl _))⟩
end

def everyV {α : Type} (k a : Nat) (xs : List α) : List α := (List.range (if a < xs.length then (xs.length - a - 1) / k + 1 else 0)).filterMap fun m => xs[a + m * k]?
section
open HT
variable {prog : Program} {w : World} {A : Around} {E : Value → Shared → Prop} {s : Shared}
theorem applied_step {sl : Addr} {vl vs : Value} {a k n : Nat} {Q : Int × Int × Nat → Shared → Prop} (hs : s.heap.IsSliceOf sl vl .none vs) (pl : IsPart vl (some (a : Int))) (ps : IsPart vs (some (k : Int))) (hk : 1 ≤ k) (ha : a ≤ n)
    (h : Q (((a : Nat) : Int), ((k : Nat) : Int), if a < n then (n - a - 1) / k + 1 else 0) s) : wpAny (model prog w) A (Builtin.Slice.sliceApplied (.ref sl) (pure (n : Int))) Q E s := by
  obtain ⟨os, hos, hcs, hds⟩ := id hs
  unfold Builtin.Slice.sliceApplied Builtin.Slice.sliceFields
  refine wpAny_bind (wpAny_bind (wpAny_field hos hds (x := vl) rfl (wpAny_bind (wpAny_field hos hds (x := .none) rfl (wpAny_bind (wpAny_field hos hds (x := vs) rfl (wpAny_pure ?_)))))))
  refine wpAny_bind (slicePart_ ps ?_)
  show wpAny _ _ (if ((k : Int) == 0) = true then _ else _) _ _ s
  rw [if_neg (by simp; omega)]
  refine wpAny_bind (slicePart_ pl (wpAny_bind (slicePart_none (wpAny_bind (wpAny_pure ?_)))))
  have e1 : Builtin.Slice.sliceAdjust (some (a : Int)) none (k : Int) (n : Int) = ((a : Int), (n : Int)) := by
    have h1 : ¬ ((k : Int) < 0) := by omega
    unfold Builtin.Slice.sliceAdjust
    simp only [h1, if_false]
    refine Prod.ext ?_ rfl
    show (if (a : Int) < 0 then max ((a : Int) + (n : Int)) 0 else min (a : Int) (n : Int)) = (a : Int)
    rw [if_neg (by omega)]
    omega
  show wpAny _ _ (match Builtin.Slice.sliceAdjust (some (a : Int)) none (k : Int) (n : Int) with | (lo, hi) => pure (lo, (k : Int), Builtin.Slice.slicePlaces lo hi (k : Int))) _ _ s
  rw [e1]
  show wpAny _ _ (pure (((a : Nat) : Int), ((k : Nat) : Int), Builtin.Slice.slicePlaces (a : Int) (n : Int) (k : Int))) _ _ s
  have e2 : Builtin.Slice.slicePlaces (a : Int) (n : Int) (k : Int) = if a < n then (n - a - 1) / k + 1 else 0 := by
    unfold Builtin.Slice.slicePlaces
    rw [if_pos (show (k : Int) > 0 by omega)]
    by_cases hl : a < n
    · rw [if_pos (by omega), if_pos hl]
      have e3 : ((n : Int) - (a : Int) - 1) = ((n - a - 1 : Nat) : Int) := by omega
      rw [e3, ← Int.natCast_ediv, ← Int.natCast_succ, Int.toNat_natCast]
    · rw [if_neg (by omega), if_neg hl]
      rfl
  rw [e2]
  exact wpAny_pure h
theorem getItem_tuple_step {t sl : Addr} {items : Array Value} {vl vs : Value} {a k : Nat} {Q : Value → Shared → Prop} (ht : IsTup s.heap t items) (hs : s.heap.IsSliceOf sl vl .none vs) (pl : IsPart vl (some (a : Int))) (ps : IsPart vs (some (k : Int))) (hk : 1 ≤ k) (ha : a ≤ items.size)
    (h1 : a = 0 ∧ k = 1 → Q (.ref t) s) (h2 : ¬ (a = 0 ∧ k = 1) → Q (.ref s.heap.objs.size) { s with heap := s.heap.push { cls := .type "tuple", data := .seq (everyV k a items.toList).toArray } })
    (hsz : items.size ≤ sizeLine) : wpAny (model prog w) A (getItem (.ref t) (.ref sl)) Q E s := by
  obtain ⟨os, hos, hcs, hds⟩ := id hs
  have hTs : s.TypeIs (.ref sl) "slice" := ⟨os, hos, hcs⟩
  have few : (everyV k a items.toList).length ≤ items.size := by
    unfold everyV
    refine Nat.le_trans (List.length_filterMap_le _ _) ?_
    rw [List.length_range, Array.length_toList]
    split
    · have : (items.size - a - 1) / k ≤ items.size - a - 1 := Nat.div_le_self _ _
      omega
    · omega
  have htake : sizeOk (.seq (everyV k a items.toList).toArray) := by
    show (everyV k a items.toList).toArray.size ≤ sizeLine
    rw [List.size_toArray]
    omega
  unfold getItem
  try with_reducible refine wpAny_holding ?_
  first | refine wpAny_bind (wpAny_pure ?_) | skip
  refine wpAny_bind (wpAny_sequenceKey ht.typeIs (by decide) ?_)
  refine wpAny_bind (wpAny_callSpecial?_slot (name := Str.ofString "__getitem__") ht.typeIs PyProof.Rows.slot_tuple_getitem
    (wpAny_call_entry PyProof.Rows.slot_tuple_getitem ht.typeIs entry_tuple_getitem ?_ (args_tuple_getitem _ _)))
  show wpAny _ _ (Builtin.Tuple.tupleItemsOf (.ref t) >>= _) _ _ s
  refine wpAny_bind (tupleItemsOf_ ht ?_)
  refine wpAny_bind (wpAny_typeOf hTs ?_)
  rw [if_pos (by decide)]
  refine wpAny_bind (applied_step hs pl ps hk ha ?_)
  show wpAny _ _ (if (((a : Nat) : Int) == 0 && ((k : Nat) : Int) == 1 && (if a < items.size then (items.size - a - 1) / k + 1 else 0) == items.size) = true then _ else _) _ _ s
  by_cases whole : a = 0 ∧ k = 1
  · obtain ⟨rfl, rfl⟩ := whole
    have hyes : ((((0 : Nat) : Nat) : Int) == 0 && ((1 : Nat) : Int) == 1 && (if 0 < items.size then (items.size - 0 - 1) / 1 + 1 else 0) == items.size) = true := by
      have : (if 0 < items.size then (items.size - 0 - 1) / 1 + 1 else 0) = items.size := by
        split
        · rw [Nat.div_one]; omega
        · omega
      rw [this]
      simp
    rw [if_pos hyes]
    refine wpAny_bind ?_
    show wpAny _ _ (typeOf (.ref t) >>= fun T => pure (T == .type "tuple")) _ _ s
    refine wpAny_bind (wpAny_typeOf ht.typeIs (wpAny_pure ?_))
    first
      | rw [if_pos (by decide)]
      | simp only [beq_self_eq_true, if_true]
    first
      | exact wpAny_bind (wpAny_rule (wpAny_pure ⟨_, rfl, wpAny_pure (h1 ⟨rfl, rfl⟩)⟩))
      | exact wpAny_bind (wpAny_rule (wpAny_bind (wpAny_pure (wpAny_pure ⟨_, rfl, wpAny_pure (h1 ⟨rfl, rfl⟩)⟩))))
  · have hno : ¬ ((((a : Nat) : Int) == 0 && ((k : Nat) : Int) == 1 && (if a < items.size then (items.size - a - 1) / k + 1 else 0) == items.size) = true) := by
      intro q
      rw [Bool.and_eq_true, Bool.and_eq_true] at q
      have q1 : ((a : Nat) : Int) = 0 := eq_of_beq q.1.1
      have q2 : ((k : Nat) : Int) = 1 := eq_of_beq q.1.2
      exact whole ⟨by omega, by omega⟩
    rw [if_neg hno]
    have ep : ((List.range (if a < items.size then (items.size - a - 1) / k + 1 else 0)).filterMap fun (m : Nat) => items[((a : Int) + (m : Int) * (k : Int)).toNat]?).toArray = (everyV k a items.toList).toArray := by
      unfold everyV
      rw [Array.length_toList]
      have : (fun (m : Nat) => items[((a : Int) + (m : Int) * (k : Int)).toNat]?) = fun m => items.toList[a + m * k]? := by
        funext m
        have : ((a : Int) + (m : Int) * (k : Int)).toNat = a + m * k := by
          rw [← Int.natCast_mul, ← Int.natCast_add, Int.toNat_natCast]
        rw [this, Array.getElem?_toList]
      rw [this]
    rw [ep]
    have h := h2 whole
    first
      | exact wpAny_bind (m := Builtin.Tuple.tupleExact _) (wpAny_newObj_type (wpAny_pure ⟨_, rfl, wpAny_pure h⟩) htake)
      | exact wpAny_bind (m := Builtin.Tuple.tupleExact _) (wpAny_newObj_type (wpAny_bind (wpAny_pure (wpAny_pure ⟨_, rfl, wpAny_pure h⟩))) htake)
      | exact wpAny_bind (wpAny_bind (m := Builtin.Tuple.tupleExact _) (wpAny_newObj_type (wpAny_pure (wpAny_pure ⟨_, rfl, wpAny_pure h⟩)) htake))
      | exact wpAny_bind (wpAny_bind (m := Builtin.Tuple.tupleExact _) (wpAny_newObj_type (wpAny_pure ⟨_, rfl, wpAny_pure h⟩) htake))
end
theorem vals_every {xs : List V} {us : List Value} (r : Vals xs us) (k a : Nat) : Vals (everyV k a xs) (everyV k a us) := by
  unfold everyV
  rw [r.length]
  generalize List.range (if a < us.length then (us.length - a - 1) / k + 1 else 0) = l
  induction l with
  | nil => exact .nil
  | cons m t ih =>
    rw [List.filterMap_cons, List.filterMap_cons]
    cases hx : xs[a + m * k]? with
    | none =>
      have : us[a + m * k]? = none := List.getElem?_eq_none (by rw [← r.length]; exact List.getElem?_eq_none_iff.mp hx)
      rw [this]
      exact ih
    | some x =>
      obtain ⟨u, hu, ru⟩ := r.get hx
      rw [hu]
      exact .cons ru ih
section
variable {X : Cx} {e f g : PySem.Expr} {te tf tg : TE} {p3 pos : Pos}
def tStepT (K : PySem.W.Frag) (te tf tg : TE) : TE := fun σ H Q => te σ H fun x H1 => tPart tf σ H1 fun o H2 => tPart tg σ H2 fun o2 H3 => ∃ (p : Addr) (xs : List V) (a k : Nat), x = .ref p ∧ o = some (a : Int) ∧ o2 = some (k : Int) ∧ SqT K H3 p xs ∧ 1 ≤ k ∧ a ≤ xs.length ∧
  (a = 0 ∧ k = 1 → Q (.ref p) H3) ∧ (¬ (a = 0 ∧ k = 1) → ∀ q, H3 q = none → Q (.ref q) (upd H3 q (.tup (everyV k a xs))))
theorem pe_stepT (he : PE X e te) (hf : PE X f tf) (hg : PE X g tg) : PE X (.Subscript e (.Slice (some f) none (some g) p3) pos) (tStepT X.K te tf tg) := by
  refine ⟨fun pins s σ H Q I h => ?_⟩
  refine Subscript_ (thn (he.run pins s σ H _ I h) fun v s1 ⟨x, H1, I1, r1, q1⟩ => ?_)
  refine wpAny_Slice (thn ((po_some hf).run pins s1 σ H1 _ I1 q1) fun vl s2 ⟨o1, H2, I2, pl, q2⟩ => ?_)
  refine thn (po_none.run pins s2 σ H2 (fun o H3 => o = none ∧ H3 = H2) I2 ⟨rfl, rfl⟩) fun vu s3 ⟨u, H3, I3, pu, eu, e3⟩ => ?_
  subst eu e3
  refine thn ((po_some hg).run pins s3 σ H3 _ I3 q2) fun vs s4 ⟨o2, H4, I4, ps, p, xs, a, k, ex, e1, e2, hx, hk, ha, c1, c2⟩ => ?_
  subst ex e1 e2
  cases r1
  cases pu
  have I5 : Inv X pins σ H4 { s4 with heap := s4.heap.push { cls := .type "slice", data := .fields #[vl, .none, vs] } } := I4.kept (t' := s4.toks) fun b ob q => Heap.get?_push_of_some _ q
  obtain ⟨its, r, ht, hz⟩ := I5.tuple hx
  have hlen := r.length
  show wpAny (model X.prog X.w) X.A (subscriptTail e (.Slice (some f) none (some g) p3) (.ref p) (.ref s4.heap.objs.size)) (EP X pins σ Q) X.xe { s4 with heap := s4.heap.push { cls := .type "slice", data := .fields #[vl, .none, vs] } }
  refine tail_any (ops := [.ref p, .ref s4.heap.objs.size]) ht.typeIs (PyProof.Rows.slot_tuple_getitem.lookup) ?_ (by with_unfolding_all rfl)
  refine getItem_tuple_step ht (Heap.IsSliceOf.new _ vl .none vs) pl ps hk (by rw [List.size_toArray, ← hlen]; exact ha) (fun c => ⟨.ref p, H4, I5, rfl, c1 c⟩) (fun c => ?_) (by rw [List.size_toArray]; omega)
  have rr := vals_every r k a
  have few : (everyV k a xs).length ≤ xs.length := by
    unfold everyV
    refine Nat.le_trans (List.length_filterMap_le _ _) ?_
    rw [List.length_range]
    split
    · have : (xs.length - a - 1) / k ≤ xs.length - a - 1 := Nat.div_le_self _ _
      omega
    · omega
  refine ⟨.ref _, _, I5.laid (t' := s4.toks) (o := .tup (everyV k a xs)) (fun b ob q => Heap.get?_push_of_some _ q) (Nat.le_refl _) (show ObjOk X.prog X.w _ _ _ (.tup (everyV k a xs)) from ⟨Nat.le_trans few hz, everyV k a its, rr, IsTup.new _ _⟩), rfl, c2 c _ (I5.hok.fresh (Nat.le_refl _))⟩
def tStepL (K : PySem.W.Frag) (te tg : TE) : TE := fun σ H Q => te σ H fun x H1 => tPart tg σ H1 fun o H2 => ∃ (p : Addr) (xs : List V) (back : Bool), x = .ref p ∧ o = some (if back then -1 else 1) ∧ SqL K H2 p xs ∧ ∀ q, H2 q = none → Q (.ref q) (upd H2 q (.lst (if back then xs.reverse else xs)))
theorem pick_one (items : Array Value) : slicePick items none none (some 1) = items.toList.toArray := by
  unfold slicePick
  show ((sliceRange 0 (items.size : Int) 1).filterMap (items[·]?)).toArray = _
  have e : sliceRange 0 (items.size : Int) 1 = List.range items.size := by
    unfold sliceRange
    have h1 : (if (1 : Int) > 0 then (if (0 : Int) < (items.size : Int) then ((items.size : Int) - 0 + 1 - 1) / 1 else 0) else (if (0 : Int) > (items.size : Int) then (0 - (items.size : Int) - 1 - 1) / (-1) else 0)) = (items.size : Int) := by
      rw [if_pos (by decide)]
      split
      · rw [Int.ediv_one]; omega
      · omega
    dsimp only
    rw [h1, Int.toNat_natCast]
    have : (fun (k : Nat) => ((0 : Int) + 1 * (k : Int)).toNat) = id := by
      funext k
      show ((0 : Int) + 1 * (k : Int)).toNat = k
      omega
    rw [this, List.map_id]
  rw [e, PySem.W.krv_all]
theorem pe_stepL (he : PE X e te) (hg : PE X g tg) : PE X (.Subscript e (.Slice none none (some g) p3) pos) (tStepL X.K te tg) := by
  refine ⟨fun pins s σ H Q I h => ?_⟩
  refine Subscript_ (thn (he.run pins s σ H _ I h) fun v s1 ⟨x, H1, I1, r1, q1⟩ => ?_)
  refine wpAny_Slice (thn (po_none.run pins s1 σ H1 (fun o H2 => o = none ∧ H2 = H1) I1 ⟨rfl, rfl⟩) fun vl s2 ⟨l, H2, I2, pl, el, e2⟩ => ?_)
  subst el e2
  refine thn (po_none.run pins s2 σ H2 (fun o H3 => o = none ∧ H3 = H2) I2 ⟨rfl, rfl⟩) fun vu s3 ⟨u, H3, I3, pu, eu, e3⟩ => ?_
  subst eu e3
  refine thn ((po_some hg).run pins s3 σ H3 _ I3 q1) fun vs s4 ⟨o, H4, I4, ps, p, xs, back, ex, eo, hx, q⟩ => ?_
  subst ex eo
  cases r1
  have I5 : Inv X pins σ H4 { s4 with heap := s4.heap.push { cls := .type "slice", data := .fields #[vl, vu, vs] } } := I4.kept (t' := s4.toks) fun b ob q => Heap.get?_push_of_some _ q
  obtain ⟨its, r, ht, hz⟩ := I5.list hx
  have hlen := r.length
  show wpAny (model X.prog X.w) X.A (subscriptTail e (.Slice none none (some g) p3) (.ref p) (.ref s4.heap.objs.size)) (EP X pins σ Q) X.xe { s4 with heap := s4.heap.push { cls := .type "slice", data := .fields #[vl, vu, vs] } }
  refine tail_any (ops := [.ref p, .ref s4.heap.objs.size]) ht.isList.typeIs (PySem.slot_list_getitem.lookup) ?_ (by with_unfolding_all rfl)
  refine wpAny_getItem_list_slice ht.isList (Heap.IsSliceOf.new _ vl vu vs) pl pu ps (by cases back <;> decide) ?_ (by rw [List.size_toArray]; omega)
  cases back with
  | true =>
    rw [if_pos rfl] at q ⊢
    rw [PySem.W.krv_pick]
    refine ⟨.ref _, _, I5.laid (t' := s4.toks) (o := .lst xs.reverse) (fun b ob q => Heap.get?_push_of_some _ q) (Nat.le_refl _) ?_, rfl, q _ (I5.hok.fresh (Nat.le_refl _))⟩
    exact ⟨by rw [List.length_reverse]; exact hz, _, 0, r.reverse, Heap.get?_push_size _ rfl⟩
  | false =>
    rw [if_neg (by decide)] at q ⊢
    rw [pick_one]
    refine ⟨.ref _, _, I5.laid (t' := s4.toks) (o := .lst xs) (fun b ob q => Heap.get?_push_of_some _ q) (Nat.le_refl _) ?_, rfl, q _ (I5.hok.fresh (Nat.le_refl _))⟩
    exact ⟨hz, _, 0, r, Heap.get?_push_size _ rfl⟩
end
theorem everyV_map {α β : Type} (f : α → β) (k a : Nat) (xs : List α) : everyV k a (xs.map f) = (everyV k a xs).map f := by
  unfold everyV
  rw [List.length_map]
  generalize List.range (if a < xs.length then (xs.length - a - 1) / k + 1 else 0) = l
  induction l with
  | nil => rfl
  | cons m t ih =>
    rw [List.filterMap_cons, List.filterMap_cons, List.getElem?_map]
    cases xs[a + m * k]? with
    | none => exact ih
    | some x => rw [Option.map_some, List.map_cons, ih]

def ItzM (K : PySem.W.Frag) (a b : Addr) : It := ⟨fun n H => ∃ xs ys : List V, SqL K H a xs ∧ SqT K H b ys ∧ n < xs.length ∧ n < ys.length,
  fun n H v H' => ∃ (p : Addr) (x y : V), v = .ref p ∧ H p = none ∧ H' = upd H p (.tup [x, y]) ∧ (∀ xs, SqL K H a xs → xs[n]? = some x) ∧ ∀ ys, SqT K H b ys → ys[n]? = some y,
  fun n H => ∃ xs ys : List V, SqL K H a xs ∧ SqT K H b ys ∧ n ≤ xs.length ∧ n ≤ ys.length ∧ (n = xs.length ∨ n = ys.length)⟩
theorem fiveM {z TI TO i1 i2 b : Addr} (h : b ∈ [z, TI, TO, i1, i2]) : b = z ∨ b = TI ∨ b = TO ∨ b = i1 ∨ b = i2 := by simpa using h
theorem turn_zipM {P : Program} {w : World} {K : PySem.W.Frag} {parts : List PySem.Expr} {many : Nat} {at_ : Pos} {a b z TI TO i1 i2 : Addr} (S : ZipSep2 z TI TO i1 i2 [i1, a] [i2, b]) (na : a ≠ i1) (nb : b ≠ i2) :
    Turn P w K (.Tuple parts many at_) (ItzM K a b) [z, TI, TO, i1, i2] z (fun n h => IsZip h z TI TO .none ∧ IsTupOf2 h TI (.ref i1) (.ref i2) ∧ (∃ x y, IsTupOf2 h TO x y) ∧ h.IsListIter i1 a n ∧ h.IsTupleIter i2 b n) where
  mem := List.mem_cons_self
  obj := by
    rintro n h ⟨hz, hTI, ⟨x, y, hTO⟩, ⟨o1, e1, _, d1⟩, ⟨o2, e2, _, d2⟩⟩ c hc
    rcases fiveM hc with rfl | rfl | rfl | rfl | rfl
    · exact ⟨_, hz, fun v q => nomatch q⟩
    · exact ⟨_, hTI, fun v q => nomatch q⟩
    · exact ⟨_, hTO, fun v q => nomatch q⟩
    · exact ⟨o1, e1, fun v q => by rw [d1] at q; cases q⟩
    · exact ⟨o2, e2, fun v q => by rw [d2] at q; cases q⟩
  keep := by
    rintro n h h' ⟨hz, hTI, ⟨x, y, hTO⟩, ⟨o1, e1, r1⟩, ⟨o2, e2, r2⟩⟩ k
    exact ⟨k z (by simp) _ hz, k TI (by simp) _ hTI, ⟨x, y, k TO (by simp) _ hTO⟩, ⟨o1, k i1 (by simp) _ e1, r1⟩, ⟨o2, k i2 (by simp) _ e2, r2⟩⟩
  item := by
    rintro X rfl rfl rfl calm n pins s σ H E I free ⟨hz, hTI, ⟨x0, y0, hTO⟩, h1, h2⟩ ⟨xs, ys, hqx, hqy, lt1, lt2⟩
    obtain ⟨its, rv, p1, _⟩ := I.list hqx
    obtain ⟨its2, rv2, p2, _⟩ := I.tuple hqy
    have D1 := Draws.list (prog := X.prog) (w := X.w) (A := X.A.in1) (I.ok.hd calm) i1 a na its.toArray
    have D2 := Draws.tuple (prog := X.prog) (w := X.w) (A := X.A.in1) (I.ok.hd calm) i2 b nb its2.toArray
    have low : z < s.heap.objs.size := Heap.lt_size hz
    refine wpAny_pyNext_zipD2_item S D1 D2 hz hTI hTO ⟨h1, p1.isList⟩ ⟨h2, p2⟩ (by rw [List.size_toArray, ← rv.length]; exact lt1) (by rw [List.size_toArray, ← rv2.length]; exact lt2) ?_
    rintro u u2 h3 tk hu hu2 out pair n1 n2 made _ stays
    refine ⟨_, rfl, wpAny_letOwnedTupleGo_zip (s := { s with heap := h3, toks := tk }) out fun h4 back but => ?_⟩
    have made4 : h4.get? s.heap.objs.size = some { cls := .type "tuple", data := .seq #[u, u2] } := (but.2 _ (Nat.ne_of_gt low)).trans made
    have hx : xs[n]? = some xs[n] := List.getElem?_eq_getElem lt1
    have hy : ys[n]? = some ys[n] := List.getElem?_eq_getElem lt2
    obtain ⟨v1, e1, r1⟩ := rv.get hx
    obtain ⟨v2, e2, r2⟩ := rv2.get hy
    rw [List.getElem?_toArray] at hu hu2
    rw [e1] at hu
    rw [e2] at hu2
    cases hu
    cases hu2
    have new : ObjOk X.prog X.w (upd H s.heap.objs.size (.tup [xs[n], ys[n]])) h4 s.heap.objs.size (.tup [xs[n], ys[n]]) :=
      ⟨by show 2 ≤ sizeLine; decide, [u, u2], .cons r1 (.cons r2 .nil), _, made4, rfl, _, rfl⟩
    have J : Inv X pins σ (upd H s.heap.objs.size (.tup [xs[n], ys[n]])) { s with heap := h4, toks := tk } :=
      I.turnedNew (t' := tk) (ch := [z, TI, TO, i1, i2]) (fun c ob hb e => by
        have ne : c ≠ z ∧ c ≠ TO ∧ c ≠ i1 ∧ c ≠ i2 := ⟨fun q => hb (by simp [q]), fun q => hb (by simp [q]), fun q => hb (by simp [q]), fun q => hb (by simp [q])⟩
        exact (but.2 c ne.1).trans (stays c ob ne.1 ne.2.1 ne.2.2.1 ne.2.2.2 e)) free (Nat.le_refl _) new
    refine ⟨.ref s.heap.objs.size, _, J, rfl, ⟨_, xs[n], ys[n], rfl, I.hok.fresh (Nat.le_refl _), rfl, fun l hl => by rw [I.list_inj hl hqx]; exact hx, fun l hl => by rw [I.tuple_inj hl hqy]; exact hy⟩, ⟨back, ?_, ⟨_, _, (but.2 _ S.TOz).trans pair⟩, (D1.over n1 but S.zf1).1, (D2.over n2 but S.zf2).1⟩, fun c hb => ?_⟩
    · exact (but.2 _ S.TIz).trans (stays _ _ S.TIz S.TITO S.TIi1 S.TIi2 hTI)
    · have lt : c < s.heap.objs.size := by
        rcases fiveM hb with rfl | rfl | rfl | rfl | rfl
        · exact low
        · exact Heap.lt_size hTI
        · exact Heap.lt_size hTO
        · obtain ⟨_, e, _⟩ := h1; exact Heap.lt_size e
        · obtain ⟨_, e, _⟩ := h2; exact Heap.lt_size e
      rw [upd_ne (Nat.ne_of_lt lt)]
      exact (free c hb).1
  done := by
    rintro X rfl rfl rfl calm n pins s σ H E I free ⟨hz, hTI, ⟨x0, y0, hTO⟩, h1, h2⟩ ⟨xs, ys, hqx, hqy, le1, le2, over⟩
    obtain ⟨its, rv, p1, _⟩ := I.list hqx
    obtain ⟨its2, rv2, p2, _⟩ := I.tuple hqy
    have D1 := Draws.list (prog := X.prog) (w := X.w) (A := X.A.in1) (I.ok.hd calm) i1 a na its.toArray
    have D2 := Draws.tuple (prog := X.prog) (w := X.w) (A := X.A.in1) (I.ok.hd calm) i2 b nb its2.toArray
    have l1 := rv.length
    have l2 := rv2.length
    exact wpAny_pyNext_zipD2_end S D1 D2 hz hTI hTO ⟨h1, p1.isList⟩ ⟨h2, p2⟩ (by rw [List.size_toArray]; omega) (by rw [List.size_toArray]; omega) (by rw [List.size_toArray, List.size_toArray]; omega) fun h' tk stays => ⟨rfl, I.turnedL (t' := tk) (ch := [z, TI, TO, i1, i2]) (fun c ob hb e =>
      stays c ob (fun q => hb (by simp [q])) (fun q => hb (by simp [q])) (fun q => hb (by simp [q])) (fun q => hb (by simp [q])) e) free⟩
  self := fun A n s Q E st h => wpAny_pyIter_zip st.1 h
def iZipM (K : PySem.W.Frag) (ta : TA) : TI := fun σ H R => ta σ H fun vs H1 => ∃ (a b : Addr) (xs ys : List V), vs = [.ref a, .ref b] ∧ SqL K H1 a xs ∧ SqT K H1 b ys ∧ R (ItzM K a b) H1
theorem sep_newM {n a b : Nat} (ha : a < n) (hb : b < n) : ZipSep2 (n + 4) (n + 2) (n + 3) n (n + 1) [n, a] [n + 1, b] := by
  have z1 : a ≠ n + 4 := by omega
  have z2 : b ≠ n + 4 := by omega
  have z3 : a ≠ n + 3 := by omega
  have z4 : b ≠ n + 3 := by omega
  have z5 : b ≠ n := by omega
  have z6 : a ≠ n + 1 := by omega
  constructor <;> simp [z1, z2, z3, z4, z5, z6, z1.symm, z2.symm, z3.symm, z4.symm, z5.symm, z6.symm]
theorem pi_zipM {X : Cx} {e e2 : PySem.Expr} {ta : TA} {p pos at_ : Pos} {parts : List PySem.Expr} {many : Nat} (hg : Gl X "zip") (hm : X.mg "zip" = none) (ha : PA X [e, e2] ta)
    (hs : starEach [e, e2] X.env = (false, eval e X.env) :: starEach [e2] X.env := by rfl) (hpl : (backTo pos (starEach [e2] X.env)).any (·.1) = false := by rfl) :
    PI X (.Tuple parts many at_) (.Call (.Name "zip" p) [e, e2] [] pos) (iZipM X.K ta) := by
  refine ⟨fun pins s σ H R I h => Call_ (ld_blt I hg hm PyProof.Rows.boot_zip (PyProof.Rows.callWith_type1 (thn (ha.run pos pins s σ H _ I h) ?_) hs hpl))⟩
  rintro us s1 ⟨_, H1, I1, r1, a, b, xs, ys, rfl, hqx, hqy, q⟩
  obtain ⟨u1, u2, rfl, e1, e2⟩ := Vals.two r1
  cases e1
  cases e2
  obtain ⟨its, rv, p1, _⟩ := I1.list hqx
  obtain ⟨its2, rv2, p2, _⟩ := I1.tuple hqy
  have la : a < s1.heap.objs.size := p1.lt
  have lb : b < s1.heap.objs.size := p2.lt
  refine zip_begins2 (begins_list a its.toArray) (begins_tuple b its2.toArray) p1.isList p2 fun h' hz hTI hTO g1 g2 _ keep => wpAny_pyIter_zip hz ?_
  refine ⟨s1.heap.objs.size + 4, [s1.heap.objs.size + 4, s1.heap.objs.size + 2, s1.heap.objs.size + 3, s1.heap.objs.size, s1.heap.objs.size + 1], _, _, H1, rfl, I1.kept (t' := s1.toks) keep, turn_zipM (sep_newM la lb) (Nat.ne_of_lt la) (Nat.ne_of_lt (Nat.lt_succ_of_lt lb)), ⟨hz, hTI, ⟨_, _, hTO⟩, ⟨_, g1, rfl, rfl⟩, ⟨_, g2, rfl, rfl⟩⟩, fun b hb => ?_, q⟩
  have hle : s1.heap.objs.size ≤ b := by rcases fiveM hb with rfl | rfl | rfl | rfl | rfl <;> omega
  exact I1.fpOk hle (I1.hok.fresh hle)
theorem lc_zipM {K : PySem.W.Frag} {a b : Addr} {xs ys : List V} {Bd : V → Hp → (Hp → Prop) → Prop} {Qd : Hp → Prop} {H0 : Hp} (hlen : xs.length = ys.length) (Pv : Nat → Hp → Prop) (h0 : Pv 0 H0) (hl : ∀ i H, i ≤ xs.length → Pv i H → SqL K H a xs ∧ SqT K H b ys)
    (hs : ∀ i x y T H, xs[i]? = some x → ys[i]? = some y → Pv i H → H T = none → Bd (.ref T) (upd H T (.tup [x, y])) (Pv (i + 1))) (hd : ∀ H, Pv xs.length H → Qd H) :
    ∃ W : Nat → Nat → Hp → Prop, (∃ m, W 0 m H0) ∧ ∀ i m H, W i m H → ((ItzM K a b).stop i H ∧ Qd H) ∨ ((ItzM K a b).go i H ∧ ∃ Nx : Hp → Prop, (∀ H', Nx H' → ∃ m', m' < m ∧ W (i + 1) m' H') ∧ ∀ x H', (ItzM K a b).yld i H x H' → Bd x H' Nx) := by
  refine ⟨fun i m H => m = xs.length - i ∧ i ≤ xs.length ∧ Pv i H, ⟨xs.length, by simp, Nat.zero_le _, h0⟩, ?_⟩
  rintro i m H ⟨rfl, hi, p⟩
  obtain ⟨q1, q2⟩ := hl i H hi p
  by_cases hlt : i < xs.length
  · have hlt2 : i < ys.length := by omega
    refine .inr ⟨⟨xs, ys, q1, q2, hlt, hlt2⟩, Pv (i + 1), fun H' p' => ⟨xs.length - (i + 1), by omega, rfl, hlt, p'⟩, fun x H' y => ?_⟩
    obtain ⟨T, x1, y1, rfl, hT, rfl, g1, g2⟩ := y
    exact hs i x1 y1 T H (g1 xs q1) (g2 ys q2) p hT
  · have e : i = xs.length := by omega
    subst e
    exact .inl ⟨⟨xs, ys, q1, q2, Nat.le_refl _, by omega, .inl rfl⟩, hd H p⟩

theorem perm_nodup {α : Type} [DecidableEq α] : ∀ {xs ys : List α}, xs.Nodup → ys.Nodup → (∀ a, a ∈ xs ↔ a ∈ ys) → xs.Perm ys
  | [], ys, _, _, h => by
    cases ys with
    | nil => exact .nil
    | cons y r => exact absurd ((h y).mpr List.mem_cons_self) (by simp)
  | x :: r, ys, n1, n2, h => by
    have hx : x ∈ ys := (h x).mp List.mem_cons_self
    rw [List.nodup_cons] at n1
    have p := List.perm_cons_erase hx
    have n3 : (ys.erase x).Nodup := n2.erase x
    refine (List.Perm.cons x (perm_nodup n1.2 n3 fun a => ?_)).trans p.symm
    rw [n2.mem_erase_iff]
    constructor
    · intro ha
      exact ⟨fun e => n1.1 (by rw [← e]; exact ha), (h a).mp (List.mem_cons_of_mem _ ha)⟩
    · rintro ⟨ne, ha⟩
      exact (List.mem_cons.mp ((h a).mpr ha)).resolve_left ne
theorem prd_perm {α β : Type} {F : α → β → Prop} {as cs : List α} (p : as.Perm cs) : ∀ {bs : List β}, Paired F as bs → ∃ ds, bs.Perm ds ∧ Paired F cs ds := by
  induction p with
  | nil => intro bs h; cases h; exact ⟨[], .nil, .nil⟩
  | cons x _ ih =>
    intro bs h
    cases h with
    | cons r t =>
    obtain ⟨ds, h1, h2⟩ := ih t
    exact ⟨_ :: ds, h1.cons _, .cons r h2⟩
  | swap x y l =>
    intro bs h
    cases h with
    | cons r t =>
    cases t with
    | cons r2 t =>
    exact ⟨_ :: _ :: _, .swap _ _ _, .cons r2 (.cons r t)⟩
  | trans _ _ ih1 ih2 =>
    intro bs h
    obtain ⟨d1, p1, h1⟩ := ih1 h
    obtain ⟨d2, p2, h2⟩ := ih2 h1
    exact ⟨d2, p1.trans p2, h2⟩
def RowsB (n : Nat) (xs : List NRow) (keys : List (Nat × List Nat)) : Prop := Paired (fun (x : NRow) (key : Nat × List Nat) => x.1 = keyN key.1 key.2 ∧ ∃ v : Nat, v < n ∧ x.2.2 = nI v) xs keys
theorem rows_fun {n : Nat} : ∀ {xs : List NRow} {keys : List (Nat × List Nat)}, RowsB n xs keys → keys.Nodup → ∃ fs : Nat → List Nat → Nat, RowsJ xs keys fs ∧ ∀ key ∈ keys, fs key.1 key.2 < n
  | _, _, .nil, _ => ⟨fun _ _ => 0, .nil, fun _ h => by cases h⟩
  | x :: xs, (c, row) :: keys, .cons ⟨e1, v, hv, e2⟩ t, nd => by
    rw [List.nodup_cons] at nd
    obtain ⟨fs, h1, h2⟩ := rows_fun t nd.2
    have same : ∀ {xs : List NRow} {ks : List (Nat × List Nat)}, RowsJ xs ks fs → (∀ k ∈ ks, k ∈ keys) → RowsJ xs ks (fun c' r' => if (c', r') = (c, row) then v else fs c' r') := by
      intro xs ks h
      induction h with
      | nil => intro _; exact .nil
      | @cons x1 k1 _ _ r _ ih =>
        intro hk
        refine .cons ⟨r.1, ?_⟩ (ih fun k h => hk k (List.mem_cons_of_mem _ h))
        have ne : ¬ ((k1.1, k1.2) = (c, row)) := fun e => nd.1 (by rw [← e]; exact hk k1 List.mem_cons_self)
        show x1.2.2 = nI (if (k1.1, k1.2) = (c, row) then v else fs k1.1 k1.2)
        rw [if_neg ne]
        exact r.2
    refine ⟨fun c' r' => if (c', r') = (c, row) then v else fs c' r', .cons ⟨e1, ?_⟩ (same h1 fun _ h => h), fun key hk => ?_⟩
    · show x.2.2 = nI (if (c, row) = (c, row) then v else fs c row)
      rw [if_pos rfl]
      exact e2
    · show (if (key.1, key.2) = (c, row) then v else fs key.1 key.2) < n
      split
      · exact hv
      · rename_i ne
        exact h2 key ((List.mem_cons.mp hk).resolve_left ne)
theorem atN_isb {n : Nat} {c : Nat} {row : List Nat} : ∀ {xs : List NRow} {keys : List (Nat × List Nat)}, RowsB n xs keys → (c, row) ∈ keys → ∃ v : Nat, v < n ∧ atN xs (keyN c row) = some (nI v)
  | _, _, .nil, h => by cases h
  | x :: xs, (c', row') :: keys, .cons r t, h => by
    obtain ⟨e1, v, hv, e2⟩ := r
    by_cases e : (c', row') = (c, row)
    · cases e
      exact ⟨v, hv, by simp [atN, e1, e2]⟩
    · have hm : (c, row) ∈ keys := (List.mem_cons.mp h).resolve_left fun z => e z.symm
      have ne : ¬ x.1 = keyN c row := fun z => e (by
        obtain ⟨a, b⟩ := keyN_inj (e1.symm.trans z)
        dsimp only at a b
        rw [a, b])
      have : atN (x :: xs) (keyN c row) = atN xs (keyN c row) := by simp [atN, List.find?_cons, ne]
      rw [this]
      exact atN_isb t hm
theorem storedN_old {n : Nat} {c v : Nat} {row : List Nat} {b : Addr} (hv : v < n) {xs : List NRow} {keys : List (Nat × List Nat)} (h : RowsB n xs keys) (hm : (c, row) ∈ keys) : RowsB n (storedN xs (keyN c row) b (nI v)) keys ∧ (storedN xs (keyN c row) b (nI v)).map (fun x => x.2.1) = xs.map fun x => x.2.1 := by
  obtain ⟨v0, _, e0⟩ := atN_isb h hm
  unfold storedN
  rw [e0, Option.isSome_some, if_pos rfl]
  constructor
  · have : ∀ {xs : List NRow} {ks : List (Nat × List Nat)}, RowsB n xs ks → RowsB n (xs.map fun x => if x.1 = keyN c row then (x.1, x.2.1, nI v) else x) ks := by
      intro xs ks h
      induction h with
      | nil => exact .nil
      | @cons x1 k1 _ _ r _ ih =>
        refine .cons ?_ ih
        dsimp only
        split
        · exact ⟨r.1, v, hv, rfl⟩
        · exact r
    exact this h
  · rw [List.map_map]
    refine List.map_congr_left fun x _ => ?_
    show (if x.1 = keyN c row then (x.1, x.2.1, nI v) else x).2.1 = x.2.1
    split <;> rfl
theorem keys_len {n : Nat} {xs : List NRow} {keys : List (Nat × List Nat)} (h : RowsB n xs keys) : xs.length = keys.length := Paired.length h
def keysC (L : Str) (n k : Nat) : List (Nat × List Nat) := (rowsTo n k).flatMap fun r => L.cps.toList.map fun c => (c, r)
theorem keysC_mem {L : Str} {n k c : Nat} {r : List Nat} : (c, r) ∈ keysC L n k ↔ (c, r) ∈ keysOf L n k := by
  simp only [keysC, keysOf, List.mem_flatMap, List.mem_map, Prod.mk.injEq]
  constructor
  · rintro ⟨r0, h1, c0, h2, rfl, rfl⟩
    exact ⟨c0, h2, r0, h1, rfl, rfl⟩
  · rintro ⟨c0, h2, r0, h1, rfl, rfl⟩
    exact ⟨r0, h1, c0, h2, rfl, rfl⟩
theorem nodup_flat {α β : Type} {f : α → List β} {g : β → α} (hg : ∀ a b, b ∈ f a → g b = a) (hf : ∀ a, (f a).Nodup) : ∀ {l : List α}, l.Nodup → (l.flatMap f).Nodup
  | [], _ => by simp
  | a :: r, nd => by
    rw [List.nodup_cons] at nd
    rw [List.flatMap_cons, List.nodup_append]
    refine ⟨hf a, nodup_flat hg hf nd.2, fun x h1 y h2 e => ?_⟩
    subst e
    obtain ⟨a2, m2, h3⟩ := List.mem_flatMap.mp h2
    have := (hg a x h1).symm.trans (hg a2 x h3)
    exact nd.1 (by rw [this]; exact m2)
theorem nodup_map {α β : Type} {f : α → β} (hf : ∀ a b, f a = f b → a = b) : ∀ {l : List α}, l.Nodup → (l.map f).Nodup
  | [], _ => by simp
  | a :: r, nd => by
    rw [List.nodup_cons] at nd
    rw [List.map_cons, List.nodup_cons]
    refine ⟨fun h => ?_, nodup_map hf nd.2⟩
    obtain ⟨b, hb, e⟩ := List.mem_map.mp h
    exact nd.1 (by rw [← hf b a e]; exact hb)
theorem keysC_nd {L : Str} (hL : Rises L) (n k : Nat) : (keysC L n k).Nodup :=
  nodup_flat (g := fun p => p.2) (fun a b h => by obtain ⟨c, _, rfl⟩ := List.mem_map.mp h; rfl) (fun a => nodup_map (fun x y e => by cases e; rfl) (hL.imp fun h => Nat.ne_of_lt h)) (rowsTo_nd k n)
theorem keysC_perm {L : Str} (hL : Rises L) (n k : Nat) : (keysC L n k).Perm (keysOf L n k) := perm_nodup (keysC_nd hL n k) (keysOf_nd hL n k) fun (_, _) => keysC_mem
theorem atN_self {row : NRow} : ∀ {xs : List NRow}, (xs.map (·.1)).Nodup → row ∈ xs → atN xs row.1 = some row.2.2
  | [], _, h => by cases h
  | x :: r, nd, h => by
    rw [List.map_cons, List.nodup_cons] at nd
    rcases List.mem_cons.mp h with e | h
    · rw [e]
      simp [atN]
    · have ne : ¬ x.1 = row.1 := fun e => nd.1 (List.mem_map.mpr ⟨row, h, e.symm⟩)
      have : atN (x :: r) row.1 = atN r row.1 := by simp [atN, List.find?_cons, ne]
      rw [this]
      exact atN_self nd.2 h
theorem rowsB_nd {n : Nat} : ∀ {xs : List NRow} {keys : List (Nat × List Nat)}, RowsB n xs keys → keys.Nodup → (xs.map (·.1)).Nodup
  | _, _, .nil, _ => by simp
  | x :: xs, key :: keys, .cons ⟨e, _⟩ t, nd => by
    rw [List.nodup_cons] at nd
    rw [List.map_cons, List.nodup_cons]
    refine ⟨fun h => ?_, rowsB_nd t nd.2⟩
    obtain ⟨y, hy, e1⟩ := List.mem_map.mp h
    obtain ⟨k2, hk2, e2, _⟩ := prd_mem t hy
    have e3 := e2.symm.trans (e1.trans e)
    obtain ⟨a, b⟩ := keyN_inj e3
    exact nd.1 (by rw [show key = k2 from Prod.ext a.symm b.symm]; exact hk2)

def JAtO (P : Program) (w : World) (ok : Addr → Prop) (H : Hp) (v : V) (J : JD) : Prop := ∃ (j d g : Addr) (xs : List NRow) (keys : List (Nat × List Nat)), v = .ref j ∧ H j = some (.tup [.str J.L, nI J.n, nI J.few, nI J.turn, .ref d, .ref g]) ∧ H d = some (DictN P w d xs) ∧ RowsN H xs ∧ RowsJ xs keys J.fs ∧ keys.Perm J.keys ∧ H g = some (.lst (J.good.map nI)) ∧ ok g
section
variable {P : Program} {w : World} {ok ok' : Addr → Prop} {H H' : Hp} {v : V} {J : JD}
theorem JAtO.at (x : JAtO P w ok H v J) : JAt P w H v J := by
  obtain ⟨j, d, g, xs, keys, rfl, h1, h2, h3, h4, h5, h6, _⟩ := x
  exact ⟨j, d, g, xs, keys, rfl, h1, h2, h3, h4, h5, h6⟩
theorem JAtO.weak (x : JAtO P w ok H v J) (h : ∀ b, ok b → ok' b) : JAtO P w ok' H v J := by
  obtain ⟨j, d, g, xs, keys, rfl, h1, h2, h3, h4, h5, h6, h7⟩ := x
  exact ⟨j, d, g, xs, keys, rfl, h1, h2, h3, h4, h5, h6, h _ h7⟩
theorem JAtO.extN (x : JAtO P w ok H v J) (f : LamX.ExtN H H') : JAtO P w ok H' v J := by
  obtain ⟨j, d, g, xs, keys, rfl, h1, h2, h3, h4, h5, h6, h7⟩ := x
  exact ⟨j, d, g, xs, keys, rfl, f _ _ h1 (fun _ z => by cases z), f _ _ h2 not_tbl, h3.keep fun b ys e => f _ _ e (fun _ z => by cases z), h4, h5, f _ _ h6 (fun _ z => by cases z), h7⟩
theorem JAtO.same (x : JAtO P w ok H v J) (f : Same H H') : JAtO P w ok H' v J := x.extN (.of f)
theorem JAtO.fr {p : Addr} {ys : List V} (x : JAtO P w ok H v J) (ho : ∀ b, ok b → b ≠ p) (hp : H p = some (.lst ys)) (f : Fr p H H') : JAtO P w ok H' v J := by
  obtain ⟨j, d, g, xs, keys, rfl, h1, h2, h3, h4, h5, h6, h7⟩ := x
  exact ⟨j, d, g, xs, keys, rfl, f _ _ (fun e => by rw [e, hp] at h1; cases h1) h1, f _ _ (fun e => by rw [e, hp] at h2; unfold DictN at h2; cases h2) h2, h3.keep fun b zs e => f _ _ (fun z => by rw [z, hp] at e; cases e) e, h4, h5, f _ _ (ho _ h7) h6, h7⟩
theorem JAt.o (x : JAt P w H v J) : JAtO P w (fun _ => True) H v J := by
  obtain ⟨j, d, g, xs, keys, rfl, h1, h2, h3, h4, h5, h6⟩ := x
  exact ⟨j, d, g, xs, keys, rfl, h1, h2, h3, h4, h5, h6, trivial⟩
end

def JAtK (P : Program) (w : World) (ok : Addr → Prop) (H : Hp) (v : V) (J : JD) : Prop := ∃ (j d g : Addr) (xs : List NRow), v = .ref j ∧ H j = some (.tup [.str J.L, nI J.n, nI J.few, nI J.turn, .ref d, .ref g]) ∧ H d = some (DictN P w d xs) ∧ RowsN H xs ∧ RowsJ xs J.keys J.fs ∧ H g = some (.lst (J.good.map nI)) ∧ ok g
theorem JAtK.o {P : Program} {w : World} {ok : Addr → Prop} {H : Hp} {v : V} {J : JD} (x : JAtK P w ok H v J) : JAtO P w ok H v J := by
  obtain ⟨j, d, g, xs, rfl, h1, h2, h3, h4, h5, h6⟩ := x
  exact ⟨j, d, g, xs, _, rfl, h1, h2, h3, h4, .refl _, h5, h6⟩

section
variable {ok : Addr → Prop} {H H' : Hp}
theorem DtAll.take : ∀ {vs : List V} {ds : List PyData} (n : Nat), DtAll ok H vs ds → DtAll ok H (vs.take n) (ds.take n)
  | _, _, 0, _ => .nil
  | _, _, n + 1, .nil => .nil
  | _, _, n + 1, .cons a b => .cons a (DtAll.take n b)
theorem DtAll.drop : ∀ {vs : List V} {ds : List PyData} (n : Nat), DtAll ok H vs ds → DtAll ok H (vs.drop n) (ds.drop n)
  | _, _, 0, h => h
  | _, _, n + 1, .nil => .nil
  | _, _, n + 1, .cons a b => DtAll.drop n b
theorem DtAll.app : ∀ {vs us : List V} {ds es : List PyData}, DtAll ok H vs ds → DtAll ok H us es → DtAll ok H (vs ++ us) (ds ++ es)
  | _, _, _, _, .nil, y => y
  | _, _, _, _, .cons a b, y => .cons a (DtAll.app b y)
theorem DtAll.at {vs : List V} {ds : List PyData} {r : Int} (h : DtAll ok H vs ds) (h0 : 0 ≤ r) (h1 : r < ds.length) : ∃ v d, atI vs r = some v ∧ ds[r.toNat]? = some d ∧ Dt ok H v d := by
  have hl := h.len
  have hn : r.toNat < vs.length := by omega
  obtain ⟨d, hd, hv⟩ := h.getV (List.getElem?_eq_getElem hn)
  exact ⟨_, d, at_of (j := r.toNat) (by omega) (List.getElem?_eq_getElem hn), hd, hv⟩
end
theorem cut_hi {xs : List V} {k : Nat} (h : k ≤ xs.length) : cutV xs none (some (k : Int)) = xs.take k := by
  unfold cutV
  rw [HT.sIx_none, HT.sIx_nat, List.drop_zero, Nat.sub_zero, Nat.min_eq_left h]
theorem cut_lo {xs : List V} {k : Nat} (h : k ≤ xs.length) : cutV xs (some (k : Int)) none = xs.drop k := by
  unfold cutV
  rw [HT.sIx_nat, HT.sIx_none, Nat.min_eq_left h, List.take_of_length_le (by rw [List.length_drop]; omega)]
theorem cut_m1 {xs : List V} : cutV xs none (some (-1)) = xs.take (xs.length - 1) := by
  have h : HT.sIx xs.length xs.length (some (-1)) = xs.length - 1 := by
    show (if (-1 : Int) < 0 then ((-1 : Int) + (xs.length : Int)).toNat else min (-1 : Int).toNat xs.length) = xs.length - 1
    rw [if_pos (by decide)]
    omega
  unfold cutV
  rw [HT.sIx_none, h, List.drop_zero, Nat.sub_zero]
theorem cut_whole {xs : List V} {lo hi : Option Int} (h : HT.sIx xs.length 0 lo = 0 ∧ HT.sIx xs.length xs.length hi = xs.length) : cutV xs lo hi = xs := by
  unfold cutV
  rw [h.1, h.2, List.drop_zero, Nat.sub_zero, List.take_length]
theorem slA {K : PySem.W.Frag} {H : Hp} {a : Addr} {xs : List V} {lo hi : Option Int} {Q : VK} (hx : H a = some (.tup xs))
    (q : ∀ t H', Same H H' → H' t = some (.tup (cutV xs lo hi)) → (t = a ∨ H t = none) → Q (.ref t) H') : rSlA K (.ref a) lo hi H Q :=
  ⟨a, xs, rfl, SqT.of hx, fun hw => q a H (Same.refl _) (by rw [cut_whole hw]; exact hx) (.inl rfl), fun _ p hp => q p _ (same_new hp) upd_same (.inr hp)⟩
theorem catA {K : PySem.W.Frag} {H : Hp} {a b : Addr} {xs ys : List V} {Q : VK} (ha : H a = some (.tup xs)) (hb : H b = some (.tup ys)) (hz : xs.length + ys.length ≤ 3000)
    (q : ∀ t H', Same H H' → H' t = some (.tup (xs ++ ys)) → (t = a ∨ t = b ∨ H t = none) → Q (.ref t) H') : rCatA K (.ref a) (.ref b) H Q :=
  ⟨a, b, xs, ys, rfl, rfl, SqT.of ha, SqT.of hb, Nat.le_trans hz (by decide), fun e => q b H (Same.refl _) (by rw [e]; exact hb) (.inr (.inl rfl)), fun _ e => q a H (Same.refl _) (by rw [e, List.append_nil]; exact ha) (.inl rfl),
    fun _ _ p hp => q p _ (same_new hp) upd_same (.inr (.inr hp))⟩

def FT (H : Hp) (a : Addr) (xs : List V) : Prop := ∃ o : Obj, H a = some (.frz o (.tup xs)) ∧ o.dict = none
theorem FT.seq {K : PySem.W.Frag} {H : Hp} {a : Addr} {xs : List V} (h : FT H a xs) : SqT K H a xs := by
  obtain ⟨o, e, _⟩ := h
  exact .inl (.inr ⟨o, e⟩)
theorem FT.keep {H H' : Hp} {a : Addr} {xs : List V} (h : FT H a xs) (s : Same H H') : FT H' a xs := by
  obtain ⟨o, e, d⟩ := h
  exact ⟨o, s _ _ e, d⟩
theorem FT.new {H : Hp} {a : Addr} {o : Obj} {xs : List V} (d : o.dict = none) : FT (upd H a (.frz o (.tup xs))) a xs := ⟨o, upd_same, d⟩
def GhOk (X : Cx) (H H' : Hp) : Prop := ∀ pins σ s, Inv X pins σ H s → Inv X pins σ H' s
def tGh (X : Cx) (t : TS) : TS := fun D σ H => ∃ H', GhOk X H H' ∧ t D σ H'
theorem ps_gh {X : Cx} {st : Stmt} {t : TS} (h : PS X st t) : PS X st (tGh X t) :=
  ⟨fun pins s σ H D I hw => by
    obtain ⟨H', g, hw⟩ := hw
    exact h.run pins s σ H' D (g pins σ s I) hw⟩
theorem GhOk.refl {X : Cx} {H : Hp} : GhOk X H H := fun _ _ _ I => I
theorem GhOk.trans {X : Cx} {H H1 H2 : Hp} (a : GhOk X H H1) (b : GhOk X H1 H2) : GhOk X H H2 := fun p σ s I => b p σ s (a p σ s I)
theorem gh_melt {X : Cx} {H : Hp} {a : Addr} {o : Obj} {xs : List V} (h : H a = some (.frz o (.tup xs))) (n : X.H_0 a = none) : GhOk X H (upd H a (.tup xs)) := fun pins σ s I =>
  I.unlock h fun o' u' e => by rw [n] at e; cases e
section
variable {X : Cx}
def tTupF (t : TA) : TE := fun σ H Q => t σ H fun xs G => xs.length ≤ sizeLine ∧ ∀ p (o : Obj), G p = none → o.dict = none → Q (.ref p) (upd G p (.frz o (.tup xs)))
theorem pe_tupF {x1} {es : List Expr} {t : TA} {pos : Pos} (h : PA X es t) : PE X (.Tuple es x1 pos) (tTupF t) := by
  refine ⟨fun fr s σ H Q I go => ?_⟩
  refine wpAny_Tuple_spliced (thn (h.run pos fr s σ H _ I go) fun vals t1 ⟨xs, G, J, r, z, q⟩ => ⟨by rw [← r.length]; exact z, ?_⟩)
  have fresh : G t1.heap.objs.size = none := J.hok.fresh (Nat.le_refl _)
  refine ⟨.ref t1.heap.objs.size, _, J.laid (t' := t1.toks) (o := .frz { cls := .type "tuple", data := .seq vals.toArray } (.tup xs)) (fun b u e => Heap.get?_push_of_some _ e) (Nat.le_refl _) ?_, rfl, q _ _ fresh rfl⟩
  exact ⟨Heap.get?_push_size _ rfl, z, vals, r, ⟨_, Heap.get?_push_size _ rfl, rfl, _, rfl⟩⟩
def rCatF : R2 := fun x y H Q => ∃ a b xs ys, x = .ref a ∧ y = .ref b ∧ FT H a xs ∧ FT H b ys ∧ xs.length + ys.length ≤ sizeLine ∧ ys ≠ [] ∧
  (xs = [] → Q (.ref b) H) ∧ (xs ≠ [] → ∀ p (o : Obj), H p = none → o.dict = none → Q (.ref p) (upd H p (.frz o (.tup (xs ++ ys)))))
theorem op_catF : OpR X (binaryOp .Add) rCatF := by
  intro fr s σ H x y vx vy Q I kx ky h
  obtain ⟨a, b, xs, ys, rfl, rfl, ha, hb, hz, hy, w0, w1⟩ := h
  cases kx
  cases ky
  obtain ⟨as1, r1, tx, _⟩ := I.tuple ha.seq
  obtain ⟨as2, r2, ty, _⟩ := I.tuple hb.seq
  by_cases hx : xs = []
  · subst hx
    cases r1
    exact cat_tup0 tx ty ⟨.ref b, H, I, rfl, w0 rfl⟩
  · refine HT.cat_tup tx ty (fun z => hx (r1.nil_iff.mp z)) (fun z => absurd (r2.nil_iff.mp z) hy) (fun z => ?_) (by rw [← r1.length, ← r2.length]; exact hz)
    refine ⟨.ref s.heap.objs.size, _, I.laid (t' := s.toks) (o := .frz { cls := .type "tuple", data := .seq (as1 ++ as2).toArray } (.tup (xs ++ ys))) (fun b ob q => Heap.get?_push_of_some _ q) (Nat.le_refl _) ?_, rfl, w1 hx _ _ (I.hok.fresh (Nat.le_refl _)) rfl⟩
    exact ⟨Heap.get?_push_size _ rfl, by rw [List.length_append]; exact hz, _, r1.append r2, IsTup.new _ _⟩
def FTv (x0 : V) (H : Hp) : Prop := ∃ p xs, x0 = .ref p ∧ FT H p xs
def tBMF (r : V → List V → Hp → VK → Prop) (tf : TE) (ta : TA) : TE := fun σ H Q => tf σ H fun x0 G => FTv x0 G ∧ ta σ G fun xs G2 => r x0 xs G2 Q
theorem pe_bmF {meth : Str} {bid : String} {r : V → List V → Hp → VK → Prop} {ob0 arg : Expr} {more : List Expr} {tf : TE} {ta : TA} {pos1 pos2 : Pos} (plain : PlainAttrs "tuple") (sl0 : Slot "tuple" meth bid) (kind : typeOf (.builtin bid) = pure (.type "method_descriptor")) (rule : MtR X bid r) (po : PE X ob0 tf) (pa1 : PA X (arg :: more) ta)
    (b0 : attributeBase ob0 meth X.env (eval ob0 X.env) = eval ob0 X.env := by rfl)
    (b1 : ((backTo pos2 (starEach (arg :: more) X.env)).all (fun x0 => !x0.1) && (backToKw pos2 (keywordEach [] X.env)).all (fun x0 => x0.1.isSome)
      && decide ((arg :: more).length + ([] : List Keyword).length + (if ([] : List Keyword).isEmpty then 0 else 1) < 30)) = true := by rfl)
    (b2 : (pos1.endLine == pos2.line) = true := by rfl) (b3 : starEach (arg :: more) X.env = (false, eval arg X.env) :: starEach more X.env := by rfl) (b4 : (backTo pos2 (starEach more X.env)).any (·.1) = false := by rfl) :
    PE X (.Call (.Attribute ob0 meth pos1) (arg :: more) [] pos2) (tBMF r tf ta) := by
  refine ⟨fun fr s σ H Q I got => ?_⟩
  refine wpAny_Call_method_late b0 b1 b2 rfl (thn (po.run fr s σ H _ I got) fun v t1 ⟨x0, G, J, r1, ty, q1⟩ => ?_)
  obtain ⟨p, zs, rfl, ob, eo, ed⟩ := ty
  cases r1
  obtain ⟨g, _, _, _, o2, h1, h2, _⟩ := J.hok p _ eo
  rw [g] at h1
  cases h1
  refine ⟨"tuple", bid, plain, sl0, kind, ⟨ob, g, h2⟩, fun a arg => by cases arg; exact ⟨ob, g, ed⟩, ?_⟩
  have run := pa1.run pos2 fr t1 σ G _ J q1
  rw [b3] at run ⊢
  refine Calls.callWith_builtin (by show (false || (backTo pos2 (starEach more X.env)).any (·.1)) = false; rw [b4] <;> rfl) (Calls.evalArgs_plain ?_)
  exact thn run fun vals t2 ⟨vs, G2, J2, r2, q2⟩ => rule fr t2 σ G2 (.ref p) vs _ vals Q J2 rfl r2 q2
theorem flat_ints (ys : List Int) : (ys.map V.int).all flatV = true := by
  rw [List.all_map]
  exact List.all_eq_true.mpr fun _ _ => rfl
theorem mt_tup_indexI : MtR X "tuple.index" (fun x xs H Q => ∃ p, ∃ ys : List Int, ∃ z j, x = .ref p ∧ xs = [.int z] ∧ SqT X.K H p (ys.map V.int) ∧ ys[j]? = some z ∧ (∀ m, m < j → ys[m]? ≠ some z) ∧ Q (.int (j : Nat)) H) := by
  intro fr s σ H x xs vx vals Q I kx ky h
  obtain ⟨p, ys, z, j, rfl, rfl, seq, hit, out, q⟩ := h
  cases kx
  obtain ⟨u, rfl, t, rfl⟩ := vals1 ky
  obtain ⟨as1, r, isT, len0⟩ := I.tuple seq
  obtain ⟨⟨cls, dict0, data0, slots0⟩, obj, cl, n, dt0⟩ := isT
  simp only at cl dt0
  subst cl
  subst dt0
  have sz : as1.toArray.size = ys.length := by rw [List.size_toArray, ← r.length, List.length_map]
  have lt : j < as1.toArray.size := by rw [sz]; exact (List.getElem?_eq_some_iff.mp hit).1
  have each : ∀ (m : Nat) (lm : m < as1.toArray.size), ∃ y t', ys[m]? = some y ∧ as1.toArray[m] = Value.int y t' := fun m lm => by
    have lm2 : m < ys.length := by rw [← sz]; exact lm
    obtain ⟨w0, ew, t', ew2⟩ := r.get (i := m) (x := .int ys[m]) (by simp [lm2])
    refine ⟨ys[m], t', List.getElem?_eq_getElem lm2, ?_⟩
    have e := (List.getElem?_eq_some_iff.mp ew).2
    rw [← ew2, ← e]
    simp
  refine call_meets PySem.F.slot_tuple_index ⟨_, obj, rfl⟩ PySem.F.entry_tuple_index (PySem.F.args_tuple_index_2 _ _) (TI.tuple_indexAt p as1.toArray n dict0 slots0 (.int z t) (eqU (.int z)) j lt ?_ ?_)
    ⟨obj, fun w0 ew => mem_eqAt (x := .int z) ⟨t, rfl⟩ rfl r (flat_ints ys) w0 (by simpa using ew), ⟨.int (j : Nat), H, I.tok _, ⟨_, rfl⟩, q⟩⟩
  · obtain ⟨y, t', h1, h2⟩ := each j lt
    rw [hit] at h1
    cases h1
    rw [h2]
    show (z == z) = true
    exact beq_self_eq_true z
  · intro m lm lmj
    obtain ⟨y, t', h1, h2⟩ := each m lm
    rw [h2]
    show (y == z) = false
    exact beq_eq_false_iff_ne.mpr fun e => out m lmj (e ▸ h1)
end

def revS (z : Str) : Str := ⟨z.cps.toList.reverse.toArray⟩
def tRevS (te : TE) : TE := fun σ H Q => te σ H fun x H1 => ∃ z : Str, x = .str z ∧ z.length ≤ sizeLine ∧ Q (.str (revS z)) H1
theorem pe_revS {X : Cx} {e : PySem.Expr} {te : TE} {k : Nat} {p1 p2 p3 pos : Pos} (he : PE X e te) : PE X (.Subscript e (.Slice none none (some (.UnaryOp .USub (.Constant (.int 1) k p1) p2)) p3) pos) (tRevS te) := by
  refine ⟨fun pins s σ H Q I h => ?_⟩
  refine Subscript_ (thn (he.run pins s σ H _ I h) fun v s1 ⟨x, H1, I1, r1, z, ex, hz, q⟩ => ?_)
  subst ex
  obtain ⟨t, rfl⟩ := r1
  have step : PO X (some (.UnaryOp .USub (.Constant (.int 1) k p1) p2)) (tPart (tUn (rU fun i => .int (-i)) (tC (.int 1)))) := po_some (pe_un un_neg pe_int)
  refine wpAny_Slice (thn (po_none.run pins s1 σ H1 (fun o H2 => o = none ∧ H2 = H1) I1 ⟨rfl, rfl⟩) fun v1 s2 ⟨o1, H2, I2, g1, f1, f2⟩ => ?_)
  subst f1 f2
  refine thn (po_none.run pins s2 σ H2 (fun o H3 => o = none ∧ H3 = H2) I2 ⟨rfl, rfl⟩) fun v2 s3 ⟨o2, H3, I3, g2, f3, f4⟩ => ?_
  subst f3 f4
  refine thn (step.run pins s3 σ H3 (fun o H4 => o = some (-1) ∧ H4 = H3) I3 ⟨1, rfl, -1, rfl, rfl, rfl⟩) fun v3 s4 ⟨o3, H4, I4, g3, f5, f6⟩ => ?_
  subst f5 f6
  obtain ⟨l, rfl, el⟩ := IsPart.raw g1
  obtain ⟨u, rfl, eu⟩ := IsPart.raw g2
  obtain ⟨st, rfl, es⟩ := IsPart.raw g3
  have I5 : Inv X pins σ H4 { s4 with heap := s4.heap.push { cls := .type "slice", data := .fields #[partValue l, partValue u, partValue st] } } := I4.kept (t' := s4.toks) fun b ob q => Heap.get?_push_of_some _ q
  show wpAny (model X.prog X.w) X.A (subscriptTail e (.Slice none none (some (.UnaryOp .USub (.Constant (.int 1) k p1) p2)) p3) (.str z t) (.ref s4.heap.objs.size)) (EP X pins σ Q) X.xe { s4 with heap := s4.heap.push { cls := .type "slice", data := .fields #[partValue l, partValue u, partValue st] } }
  refine tail_any (ops := [.str z t, .ref s4.heap.objs.size]) (typeIs_str _ _ _) PySem.F.slot_str_getitem.lookup ?_ (by with_unfolding_all rfl)
  refine wpAny_getItem_str_slice (l := l) (u := u) (st := st) ⟨_, Heap.get?_push_size _ rfl, rfl, rfl⟩ (by rw [es]; rfl) ?_
  have ep : slicePicked z l u st = (List.range z.length).reverse := by
    unfold slicePicked
    rw [el, eu, es]
    show Builtin.Str.strSliceIndices none none (-1) z.length = _
    rw [PyProof.Rows.picked_rev, PySem.W.krv_range]
  have em : sliceMade z t l u st = .str (revS z) := by
    unfold sliceMade
    rw [es, ep, if_neg (by simp), List.filterMap_reverse]
    have e : (List.range z.length).filterMap (z.cps[·]?) = z.cps.toList := PySem.W.krv_all z.cps
    rw [e]
    rfl
  rw [em]
  have hl : (revS z).length ≤ sizeLine := by
    show (z.cps.toList.reverse.toArray).size ≤ sizeLine
    rw [List.size_toArray, List.length_reverse, Array.length_toList]
    exact hz
  exact ⟨hl, .str _, H4, I5.tok _, ⟨_, rfl⟩, q⟩

def IteS (x : Str) : It := ⟨fun i _ => i < x.cps.size, fun i H v H' => ∃ (T : Addr) (c : Nat), v = .ref T ∧ H T = none ∧ H' = upd H T (.tup [.int (i : Nat), .str (ch c)]) ∧ x.cps[i]? = some c, fun i _ => x.cps.size = i⟩
theorem drawsS {prog : Program} {w : World} {A : Around} (hh : A.handled = none) (it : Addr) (x : Str) (t : Tok) :
    Draws prog w A it [it] x.cps.size (fun i v => ∃ c u, x.cps[i]? = some c ∧ v = .str ⟨#[c]⟩ u) (fun i h => h.IsStrIter it (strIterType x) x t i) := by
  unfold strIterType
  split
  · exact Draws.strAscii hh it x t
  · exact Draws.strWide hh it x t
theorem turn_enumS {P : Program} {w : World} {K : PySem.W.Frag} {elts : List PySem.Expr} {kk : Nat} {tpos : Pos} (x : Str) (t : Tok) (en it : Addr) :
    Turn P w K (.Tuple elts kk tpos) (IteS x) [en, it] en (fun i h => (∃ old, IsEnum h en it ((i : Nat) : Int) old) ∧ h.IsStrIter it (strIterType x) x t i ∧ en ≠ it) where
  mem := by simp
  obj := fun i h st b hb => by
    obtain ⟨⟨old, h1⟩, ⟨o, ho, _, hd⟩, _⟩ := st
    rcases (by simpa using hb : b = en ∨ b = it) with z | z
    · subst z; exact ⟨_, h1, fun v q => nomatch q⟩
    · subst z; exact ⟨o, ho, fun v q => by rw [hd] at q; cases q⟩
  keep := fun i h h' st k => by
    obtain ⟨⟨old, h1⟩, ⟨o, ho, r⟩, ne⟩ := st
    exact ⟨⟨old, k en (by simp) _ h1⟩, ⟨o, k it (by simp) _ ho, r⟩, ne⟩
  item := by
    intro X e1 e2 e3 hc i pins s σ H E I hf st hg
    subst e1 e2 e3
    obtain ⟨⟨old, h1⟩, h2, ne⟩ := st
    have D := drawsS (prog := X.prog) (w := X.w) (A := X.A.in1) (I.ok.hd hc) it x t
    have hel : en < s.heap.objs.size := Heap.lt_size h1
    have hil : it < s.heap.objs.size := by obtain ⟨_, q⟩ := D.live _ _ h2; exact Heap.lt_size q
    refine wpAny_pyNext_enum_itemD D h1 h2 hg ne (fun z => ne (List.mem_singleton.mp z)) fun u h' tk hP ho hit' hT hsz hk => ?_
    obtain ⟨c, tu, hcx, rfl⟩ := hP
    refine ⟨_, rfl, wpAny_letOwnedTupleGo_enum (s := { s with heap := h', toks := tk + 1 }) ho fun h'' he' sb => ?_⟩
    have hT2 : h''.get? s.heap.objs.size = some { cls := .type "tuple", data := .seq #[.int i tk, .str ⟨#[c]⟩ tu] } := (sb.2 _ (Nat.ne_of_gt hel)).trans hT
    have nw : ObjOk X.prog X.w (upd H s.heap.objs.size (.tup [.int (i : Nat), .str (ch c)])) h'' s.heap.objs.size (.tup [.int (i : Nat), .str (ch c)]) :=
      ⟨(show 2 ≤ sizeLine by decide), [.int i tk, .str ⟨#[c]⟩ tu], .cons ⟨_, rfl⟩ (.cons ⟨_, rfl⟩ .nil), _, hT2, rfl, _, rfl⟩
    have I1 : Inv X pins σ (upd H s.heap.objs.size (.tup [.int (i : Nat), .str (ch c)])) { s with heap := h'', toks := tk + 1 } :=
      I.turnedNew (ch := [en, it]) (fun b ob hb q => (sb.2 b (fun z => hb (by simp [z]))).trans (hk b ob (fun z => hb (by simp [z])) (fun z => hb (by simp [z])) q)) hf (Nat.le_refl _) nw
    refine ⟨.ref s.heap.objs.size, _, I1, rfl, ⟨_, c, rfl, I.hok.fresh (Nat.le_refl _), rfl, hcx⟩, ⟨⟨.str ⟨#[c]⟩ tu, ?_⟩, D.frame (i + 1) h' h'' hit' (fun b hb o q => (sb.2 b (fun z => ne (by rw [← z]; exact List.mem_singleton.mp hb))).trans q), ne⟩, fun b hb => ?_⟩
    · have e9 : ((i + 1 : Nat) : Int) = (i : Int) + 1 := by omega
      rw [e9]; exact he'
    · have hb' : b < s.heap.objs.size := by
        rcases (by simpa using hb : b = en ∨ b = it) with z | z
        · rw [z]; exact hel
        · rw [z]; exact hil
      rw [upd_ne (Nat.ne_of_lt hb')]
      exact (hf b hb).1
  done := by
    intro X e1 e2 e3 hc i pins s σ H E I hf st hg
    subst e1 e2 e3
    obtain ⟨⟨old, h1⟩, h2, ne⟩ := st
    obtain ⟨f0, f1, f2, f3, f4, f5⟩ := hf it (by simp)
    have D := drawsS (prog := X.prog) (w := X.w) (A := X.A.in1) (I.ok.hd hc) it x t
    have hg' : x.cps.size = i := hg
    subst hg'
    exact wpAny_pyNext_enum_endD D h1 h2 fun h' eb => ⟨rfl, I.turned (t' := s.toks) (fun b o hb q => eb b o hb q) f0 f1 f3 f4 f5⟩
  self := fun A i s Q E st h => let ⟨⟨_, h1⟩, _⟩ := st; wpAny_pyIter_enum h1 h
def iEnumS (ta : TA) : TI := fun σ H R => ta σ H fun vs H1 => ∃ x, vs = [.str x] ∧ R (IteS x) H1
theorem pi_enumS {X : Cx} {e : PySem.Expr} {ta : TA} {p pos tpos : Pos} {elts : List PySem.Expr} {kk : Nat} (hg : Gl X "enumerate") (hm : X.mg "enumerate" = none) (ha : PA X [e] ta) (hs : starEach [e] X.env = [(false, eval e X.env)] := by rfl) :
    PI X (.Tuple elts kk tpos) (.Call (.Name "enumerate" p) [e] [] pos) (iEnumS ta) := by
  refine ⟨fun pins s σ H R I h => ?_⟩
  refine Call_ (ld_blt I hg hm boot_enumerate (PyProof.Rows.callWith_type1 (thn (ha.run pos pins s σ H _ I h) fun us s1 ⟨vs, H1, I1, r1, q1⟩ => ?_) hs rfl))
  obtain ⟨x, ex, q⟩ := q1
  subst ex
  obtain ⟨u, rfl, ru⟩ := r1.one
  obtain ⟨t, rfl⟩ := ru
  refine call_enumerate_str fun h' he hit hsz hk => wpAny_pyIter_enum he ?_
  have I2 : Inv X pins σ H1 { s1 with heap := h' } := I1.kept (t' := s1.toks) hk
  refine ⟨s1.heap.objs.size + 1, [s1.heap.objs.size + 1, s1.heap.objs.size], _, _, H1, rfl, I2, turn_enumS x t (s1.heap.objs.size + 1) s1.heap.objs.size, ⟨⟨.none, he⟩, hit, Nat.succ_ne_self _⟩, fun b hb => ?_, q⟩
  have hle : s1.heap.objs.size ≤ b := by
    rcases (by simpa using hb : b = s1.heap.objs.size + 1 ∨ b = s1.heap.objs.size) with z | z
    · rw [z]; exact Nat.le_add_right _ _
    · rw [z]; exact Nat.le_refl _
  exact I1.fpOk hle (I1.hok.fresh hle)
theorem walk_enumS {x : Str} : Walk (IteS x) x.cps.size (fun _ => True) (fun i H v H' => ∃ (T : Addr) (c : Nat), v = .ref T ∧ H T = none ∧ H' = upd H T (.tup [.int (i : Nat), .str (ch c)]) ∧ x.cps[i]? = some c) :=
  ⟨fun _ _ hi _ => hi, fun _ _ => rfl, fun _ _ _ _ _ _ y => y⟩

section
open AutoSeq1 (wpAny_loadPart')
theorem meets_enumT (t : Addr) (vs : Array Value) (m : Nat) (od : Option Addr) (os : Array (Option Value)) :
    Meets (Builtin.«enumerate.__new__» ⟨[.type "enumerate", .ref t], []⟩) (fun _ R s => s.heap.get? t = some { cls := .type "tuple", dict := od, data := .seq vs m, slots := os } ∧
      R (.ok (.ret (.ref (s.heap.push { cls := .type "tuple_iterator", data := .fields #[.ref t, .int 0 0] }).objs.size)))
        { s with heap := (s.heap.push { cls := .type "tuple_iterator", data := .fields #[.ref t, .int 0 0] }).push { cls := .type "enumerate", data := .fields #[.none, .bool false, .ref s.heap.objs.size, rawInt 0, .none, .none] } }) :=
  .of_wp fun prog w A R s both => by
    obtain ⟨h0, h1, h2, h3, h4⟩ := s
    obtain ⟨here, fin⟩ := both
    have kin := sub_enumerate
    have isT : Heap.IsTuple (Shared.heap ⟨h0, h1, h2, h3, h4⟩) t vs := ⟨_, here, rfl, m, rfl⟩
    wp_walk using wpAny_loadPart' here
    refine wpAny_stack_any fun top => wpAny_pure ?_
    split
    · rename_i c1 _ _ _ _ _
      cases (c1 == Value.type "enumerate") <;> (wp_walk using wpAny_loadPart' here, wpAny_pyIter_tuple isT; exact ⟨_, rfl, fin⟩)
    · wp_walk using wpAny_loadPart' here, wpAny_pyIter_tuple isT
      exact ⟨_, rfl, fin⟩
end
theorem call_enumT {prog : Program} {w : World} {A : Around} {E : Value → Shared → Prop} {s : Shared} {t : Addr} {vs : Array Value} {Q : Value → Shared → Prop} (isT : s.heap.IsTuple t vs)
    (go : ∀ h2, IsEnum h2 (s.heap.objs.size + 1) s.heap.objs.size 0 .none → h2.IsTupleIter s.heap.objs.size t 0 → (∀ b o, s.heap.get? b = some o → h2.get? b = some o) → Q (.ref (s.heap.objs.size + 1)) { s with heap := h2 }) :
    wpAny (model prog w) A (call (.type "enumerate") [.ref t]) Q E s := by
  obtain ⟨⟨kl, dd, da, sl⟩, here, e1, m, e2⟩ := isT
  dsimp only at e1 e2
  subst e1 e2
  refine callType_new F.called_enumerate (by decide) (F.typeCall_enumerate_1 _) (F.newCall_enumerate_1 _) (fun obj => F.args_object_init_2 obj _) F.entry_enumerate_new (meets_enumT t vs m dd sl) ⟨here, ?_⟩
  have sz : (s.heap.push { cls := .type "tuple_iterator", data := .fields #[.ref t, .int 0 0] }).objs.size = s.heap.objs.size + 1 := Heap.size_push ..
  have at_ := Heap.get?_push_size (s.heap.push { cls := .type "tuple_iterator", data := .fields #[.ref t, .int 0 0] })
    (o := { cls := .type "enumerate", data := .fields #[.none, .bool false, .ref s.heap.objs.size, rawInt 0, .none, .none] }) rfl
  rw [sz] at at_
  show _ ∧ _
  rw [sz]
  exact ⟨⟨_, at_, rfl⟩, go _ at_ ⟨_, Heap.get?_push_of_some _ (Heap.get?_push_size _ rfl), rfl, rfl⟩ fun b o e => Heap.get?_push_of_some _ (Heap.get?_push_of_some _ e)⟩
def IteT (K : PySem.W.Frag) (a : Addr) : It := ⟨fun i H => ∃ xs : List V, SqT K H a xs ∧ i < xs.length, fun i H v H' => ∃ (T : Addr) (x : V), v = .ref T ∧ H T = none ∧ H' = upd H T (.tup [.int (i : Nat), x]) ∧ ∀ xs, SqT K H a xs → xs[i]? = some x, fun i H => ∃ xs : List V, SqT K H a xs ∧ xs.length = i⟩
theorem enum_off {h : Heap} {en it a : Addr} {n : Int} {old : Value} {vs : Array Value} (x : IsEnum h en it n old) (y : h.IsTuple a vs) : en ≠ a := fun e => by
  obtain ⟨o, h1, h2, _⟩ := y
  have x : h.get? en = some _ := x
  rw [e, h1] at x
  cases x
  exact absurd (Value.type.inj h2) (by decide)
theorem turn_enumT {P : Program} {w : World} {K : PySem.W.Frag} {elts : List PySem.Expr} {kk : Nat} {tpos : Pos} (a en it : Addr) (na : a ≠ it) :
    Turn P w K (.Tuple elts kk tpos) (IteT K a) [en, it] en (fun i h => (∃ old, IsEnum h en it ((i : Nat) : Int) old) ∧ h.IsTupleIter it a i ∧ en ≠ it) where
  mem := by simp
  obj := fun i h st b hb => by
    obtain ⟨⟨old, h1⟩, ⟨o, ho, _, hd⟩, _⟩ := st
    rcases (by simpa using hb : b = en ∨ b = it) with z | z
    · subst z; exact ⟨_, h1, fun v q => nomatch q⟩
    · subst z; exact ⟨o, ho, fun v q => by rw [hd] at q; cases q⟩
  keep := fun i h h' st k => by
    obtain ⟨⟨old, h1⟩, ⟨o, ho, r⟩, ne⟩ := st
    exact ⟨⟨old, k en (by simp) _ h1⟩, ⟨o, k it (by simp) _ ho, r⟩, ne⟩
  item := by
    intro X e1 e2 e3 hc i pins s σ H E I hf st hg
    subst e1 e2 e3
    obtain ⟨⟨old, h1⟩, h2, ne⟩ := st
    obtain ⟨xs, hq, lt⟩ := hg
    obtain ⟨its, rv, p, _⟩ := I.tuple hq
    have D := Draws.tuple (prog := X.prog) (w := X.w) (A := X.A.in1) (I.ok.hd hc) it a na its.toArray
    have hel : en < s.heap.objs.size := Heap.lt_size h1
    have hil : it < s.heap.objs.size := by obtain ⟨_, q, _⟩ := h2; exact Heap.lt_size q
    have nea := enum_off h1 p
    refine wpAny_pyNext_enum_itemD D h1 ⟨h2, p⟩ (by rw [List.size_toArray, ← rv.length]; exact lt) ne (fun z => by
      rcases (by simpa using z : en = it ∨ en = a) with z | z
      · exact ne z
      · exact nea z) fun u h' tk hP ho hit' hT hsz hk => ?_
    have hx : xs[i]? = some xs[i] := List.getElem?_eq_getElem lt
    obtain ⟨u2, eu, ru⟩ := rv.get hx
    rw [List.getElem?_toArray] at hP
    rw [eu] at hP
    cases hP
    refine ⟨_, rfl, wpAny_letOwnedTupleGo_enum (s := { s with heap := h', toks := tk + 1 }) ho fun h'' he' sb => ?_⟩
    have hT2 : h''.get? s.heap.objs.size = some { cls := .type "tuple", data := .seq #[.int i tk, u] } := (sb.2 _ (Nat.ne_of_gt hel)).trans hT
    have nw : ObjOk X.prog X.w (upd H s.heap.objs.size (.tup [.int (i : Nat), xs[i]])) h'' s.heap.objs.size (.tup [.int (i : Nat), xs[i]]) :=
      ⟨(show 2 ≤ sizeLine by decide), [.int i tk, u], .cons ⟨_, rfl⟩ (.cons ru .nil), _, hT2, rfl, _, rfl⟩
    have I1 : Inv X pins σ (upd H s.heap.objs.size (.tup [.int (i : Nat), xs[i]])) { s with heap := h'', toks := tk + 1 } :=
      I.turnedNew (ch := [en, it]) (fun b ob hb q => (sb.2 b (fun z => hb (by simp [z]))).trans (hk b ob (fun z => hb (by simp [z])) (fun z => hb (by simp [z])) q)) hf (Nat.le_refl _) nw
    refine ⟨.ref s.heap.objs.size, _, I1, rfl, ⟨_, xs[i], rfl, I.hok.fresh (Nat.le_refl _), rfl, fun ys hy => by rw [I.tuple_inj hy hq]; exact hx⟩, ⟨⟨u, ?_⟩, (D.frame (i + 1) h' h'' hit' (fun b hb o q => (sb.2 b (fun z => ?_)).trans q)).1, ne⟩, fun b hb => ?_⟩
    · have e9 : ((i + 1 : Nat) : Int) = (i : Int) + 1 := by omega
      rw [e9]; exact he'
    · rcases (by simpa using hb : b = it ∨ b = a) with y | y
      · exact ne (by rw [← z, y])
      · exact nea (by rw [← z, y])
    · have low : b ≠ s.heap.objs.size := by
        rcases (by simpa using hb : b = en ∨ b = it) with z | z
        · rw [z]; exact Nat.ne_of_lt hel
        · rw [z]; exact Nat.ne_of_lt hil
      rw [upd_ne low]
      exact (hf b hb).1
  done := by
    intro X e1 e2 e3 hc i pins s σ H E I hf st hg
    subst e1 e2 e3
    obtain ⟨⟨old, h1⟩, h2, ne⟩ := st
    obtain ⟨xs, hq, lt⟩ := hg
    obtain ⟨its, rv, p, _⟩ := I.tuple hq
    obtain ⟨z0, z1, _, z3, z4, z5⟩ := hf it (by simp)
    have D := Draws.tuple (prog := X.prog) (w := X.w) (A := X.A.in1) (I.ok.hd hc) it a na its.toArray
    have hg' : its.toArray.size = i := by rw [List.size_toArray, ← rv.length]; exact lt
    subst hg'
    exact wpAny_pyNext_enum_endD D h1 ⟨h2, p⟩ fun h' eb => ⟨rfl, I.turned (t' := s.toks) (fun b o hb q => eb b o hb q) z0 z1 z3 z4 z5⟩
  self := fun A i s Q E st h => let ⟨⟨_, h1⟩, _⟩ := st; wpAny_pyIter_enum h1 h
def iEnumT (K : PySem.W.Frag) (ta : TA) : TI := fun σ H R => ta σ H fun vs H1 => ∃ a xs, vs = [.ref a] ∧ SqT K H1 a xs ∧ R (IteT K a) H1
theorem pi_enumT {X : Cx} {e : PySem.Expr} {ta : TA} {p pos tpos : Pos} {elts : List PySem.Expr} {kk : Nat} (hg : Gl X "enumerate") (hm : X.mg "enumerate" = none) (ha : PA X [e] ta) (hs : starEach [e] X.env = [(false, eval e X.env)] := by rfl) :
    PI X (.Tuple elts kk tpos) (.Call (.Name "enumerate" p) [e] [] pos) (iEnumT X.K ta) := by
  constructor
  intro pins s σ H R I h
  refine Call_ (ld_blt I hg hm boot_enumerate (PyProof.Rows.callWith_type1 (thn (ha.run pos pins s σ H _ I h) fun us t1 got => ?_) hs rfl))
  obtain ⟨vs, H1, J, r1, a, xs, rfl, hq, q⟩ := got
  obtain ⟨u, rfl, ru⟩ := r1.one
  cases ru
  obtain ⟨its, rv, p2, _⟩ := J.tuple hq
  have la : a < t1.heap.objs.size := p2.lt
  refine call_enumT p2 fun h2 isE isI stays => wpAny_pyIter_enum isE ?_
  refine ⟨t1.heap.objs.size + 1, [t1.heap.objs.size + 1, t1.heap.objs.size], _, _, H1, rfl, J.kept (t' := t1.toks) stays, turn_enumT a (t1.heap.objs.size + 1) t1.heap.objs.size (Nat.ne_of_lt la), ⟨⟨.none, isE⟩, isI, Nat.succ_ne_self _⟩, fun b hb => ?_, q⟩
  have far : t1.heap.objs.size ≤ b := by
    have two : b = t1.heap.objs.size + 1 ∨ b = t1.heap.objs.size := by simpa using hb
    rcases two with rfl | rfl
    · exact Nat.le_succ _
    · exact Nat.le_refl _
  exact J.fpOk far (J.hok.fresh far)
theorem walk_enumT {K : PySem.W.Frag} {a : Addr} {xs : List V} : Walk (IteT K a) xs.length (fun H => SqT K H a xs) (fun i H v H' => ∃ (T : Addr) (x : V), v = .ref T ∧ H T = none ∧ H' = upd H T (.tup [.int (i : Nat), x]) ∧ xs[i]? = some x) :=
  ⟨fun _ _ hi q => ⟨xs, q, hi⟩, fun _ q => ⟨xs, q, rfl⟩, fun _ _ _ _ _ q ⟨T, x, h1, h2, h3, h4⟩ => ⟨T, x, h1, h2, h3, h4 xs q⟩⟩


def RowsF (H : Hp) (as : List Addr) (rows : List (List Nat)) : Prop := Paired (fun (a : Addr) (row : List Nat) => FT H a (row.map nI)) as rows
theorem RowsF.keep {H H' : Hp} {as : List Addr} {rows : List (List Nat)} (x : RowsF H as rows) (s : Same H H') : RowsF H' as rows := Paired.mapP x fun _ _ e => e.keep s
def NewAll (H : Hp) (as : List Addr) : Prop := ∀ a ∈ as, H a = none
def sp__law_rows : Sp := fun vs H Q _ => ∃ (n k : Nat), vs = [nI n, nI k] ∧ n ≤ 6 ∧ 1 ≤ k ∧ k ≤ 20 ∧ k ^ n ≤ 600 ∧ ∀ r as H', Same H H' → H r = none → H' r = some (.lst (as.map V.ref)) → RowsF H' as (rowsTo n k) → NewAll H as → as.Nodup → Q (.ref r) H'
section
variable {P : Program} {w : World} {K : PySem.W.Frag} {mg : Str → Option Value} {base : Heap}
theorem ok__law_rows (T : Txt K mg) : FnOk P w K mg base CX0 1 T.f__law_rows T.d__law_rows ["states", "classes"] sp__law_rows := by
  refine T.F__law_rows.ok sc__law_rows (fun vs H Q E h => ?_) (fun cdv A outer s H vs Q E hr h => ?_)
  · obtain ⟨n, k, rfl, _⟩ := h
    rfl
  obtain ⟨n, k, rfl, n6, k1, k20, h600, q⟩ := h
  refine ⟨_, (pss_cons (ps_set (i := 2) sc__law_rows.nd rfl (Or.inl rfl) (pe_lst (pa_cons (pe_tupF pa_nil) pa_nil))) (pss_cons (ps_for PassesOwn.never rfl (pi_range1 (by rfl) T.z_range (pa_cons (pv 0) pa_nil)) (pg_name (i := 3) sc__law_rows.nd rfl (Or.inl rfl)) (pss_cons (ps_set (i := 4) sc__law_rows.nd rfl (Or.inl rfl) (pe_lst pa_nil)) (pss_cons (ps_for PassesOwn.never rfl (pi_list (pv 2)) (pg_name (i := 5) sc__law_rows.nd rfl (Or.inr rfl)) (pss_one (ps_set (i := 4) sc__law_rows.nd rfl (Or.inl rfl) (pe_op op_cat (pv 4) (pe_lc (own := [("one", 6)]) (g := gName 6) (te := tOp rCatF (tVar 5) (tTupF (tCons (tVar 6) tNil))) (tt := tYes) rfl sc__law_rows.nd (pi_range1 (by rfl) T.z_range (pa_cons (pv 1) pa_nil)) (blkOk_by (own := [("one", 6)]) (N := ["states", "classes", "found", "k", "longer", "row", "one"]) (sc := (defScope s__law_rows)) (by decide +kernel)) (fun _ _ _ _ _ => (pg_name (i := 6) sc__law_rows.nd rfl (Or.inl rfl))) (fun _ _ _ _ _ => pts_nil) (fun _ _ _ _ _ => (pe_op op_catF (pv 5) (pe_tupF (pa_cons (pv 6) pa_nil))))))))) (pss_one (ps_set (i := 2) sc__law_rows.nd rfl (Or.inl rfl) (pv 4)))))) (pss_one (ps_ret (pv 2))))), ?_⟩
  refine ⟨(by show 0 ≤ sizeLine; decide), fun p0 o0 hp0 d0 => ⟨(by show 1 ≤ sizeLine; decide), fun r0 hr0 => ?_⟩⟩
  have s0 := (same_new (o := .frz o0 (.tup [])) hp0).trans (same_new (o := .lst [V.ref p0]) hr0)
  have kp0 : FT _ p0 [] := (FT.new d0).keep (same_new (o := .lst [V.ref p0]) hr0)
  have kr0 := upd_same (H := upd H p0 (.frz o0 (.tup []))) (a := r0) (o := .lst [V.ref p0])
  have nr0 : H r0 = none := (same_new (o := .frz o0 (.tup [])) hp0).free hr0
  generalize upd (upd H p0 (.frz o0 (.tup []))) r0 (.lst [V.ref p0]) = H2 at *
  refine ⟨_, rfl, n, rfl, by omega, by omega, for_range (lo := 0) (n := n) (fun i σ H' => ∃ (r : Addr) (as : List Addr) (y3 y4 y5 : Option V), σ = [some (nI n), some (nI k), some (.ref r), y3, y4, y5, none] ∧ H' r = some (.lst (as.map V.ref)) ∧ RowsF H' as (rowsTo i k) ∧ Same H H' ∧ H r = none ∧ NewAll H as ∧ as.Nodup) ⟨r0, [p0], none, none, none, rfl, kr0, .cons kp0 .nil, s0, nr0, fun a ha => by rw [List.mem_singleton.mp ha]; exact hp0, List.pairwise_singleton _ _⟩ ?_ ?_⟩
  · rintro i σ H3 hi ⟨r, as, y3, y4, y5, rfl, hr3, ha3, s3, nr, fa, da⟩
    have la : as.length = k ^ i := by rw [Paired.length ha3, rowsTo_len]
    have pw : k ^ i ≤ 600 := Nat.le_trans (Nat.pow_le_pow_right k1 (by omega)) h600
    refine ⟨(by show 0 ≤ sizeLine; decide), fun f0 hf0 => ?_⟩
    have s4 := same_new (o := .lst []) hf0
    have kf0 := upd_same (H := H3) (a := f0) (o := .lst [])
    generalize upd H3 f0 (.lst []) = H4 at *
    refine ⟨_, rfl, r, rfl, ⟨_, SqL.of (s4 _ _ hr3)⟩, for_list (xs := as.map V.ref) (fun j σ H' => ∃ (f1 : Addr) (bs : List Addr) (y5 : Option V), σ = [some (nI n), some (nI k), some (.ref r), some (.int (0 + i)), some (.ref f1), y5, none] ∧ H' f1 = some (.lst (bs.map V.ref)) ∧ RowsF H' bs (((rowsTo i k).take j).flatMap fun r => (List.range k).map fun x => r ++ [x]) ∧ Same H3 H' ∧ H3 f1 = none ∧ NewAll H bs ∧ bs.Nodup) ⟨f0, [], _, rfl, kf0, .nil, s4, hf0, (fun a ha => by cases ha), .nil⟩ (fun j σ H' _ ⟨_, _, _, _, _, _, s5, _, _, _⟩ => SqL.of (s5 _ _ hr3)) ?_ ?_⟩
    · rintro j x σ H5 hx ⟨f1, bs, y5, rfl, hf5, hb5, s5, nf1, fb, db⟩
      rw [List.getElem?_map] at hx
      cases haj : as[j]? with
      | none => rw [haj] at hx; cases hx
      | some aj =>
      rw [haj] at hx
      cases hx
      obtain ⟨row, hrow, kaj⟩ := prd_at ha3 haj
      have kaj5 := FT.keep kaj s5
      have hj := (List.getElem?_eq_some_iff.mp haj).1
      have lb := Paired.length hb5
      rw [ext_len, List.length_take, rowsTo_len] at lb
      have lb2 : bs.length ≤ 600 * 20 := by rw [lb]; exact Nat.mul_le_mul (Nat.le_trans (Nat.min_le_right _ _) pw) k20
      refine ⟨_, rfl, _, rfl, k, rfl, by omega, by omega, fun D hD => ?_⟩
      refine lc_range (lo := 0) (n := k) (fun m H6 => ∃ cs : List Addr, H6 D = some (.lst (cs.map V.ref)) ∧ RowsF H6 cs ((List.range m).map fun x => row ++ [x]) ∧ Same H5 H6 ∧ NewAll H5 cs ∧ cs.Nodup) ⟨[], upd_same, .nil, same_new hD, (fun a ha => by cases ha), .nil⟩ ?_ ?_
      · rintro m H6 hm ⟨cs, g1, g2, g3, g4, g5⟩
        have lc := Paired.length g2
        rw [List.length_map, List.length_range] at lc
        refine ⟨rfl, _, rfl, _, rfl, (by show 1 ≤ sizeLine; decide), fun t ot ht dt => ?_⟩
        have st := same_new (o := .frz ot (.tup [V.int (0 + (m : Int))])) ht
        have hD6 : H5 D = none := hD
        have kt : FT (upd H6 t (.frz ot (.tup [V.int (0 + (m : Int))]))) t [V.int (0 + (m : Int))] := FT.new dt
        have S6 := ((s3.trans s5).trans g3)
        have go : ∀ b H7, Same (upd H6 t (.frz ot (.tup [V.int (0 + (m : Int))]))) H7 → FT H7 b ((row ++ [m]).map nI) → H6 b = none →
            ∃ cs', upd H7 D (.lst (cs.map V.ref ++ [V.ref b])) D = some (.lst (cs'.map V.ref)) ∧ RowsF (upd H7 D (.lst (cs.map V.ref ++ [V.ref b]))) cs' ((List.range (m + 1)).map fun x => row ++ [x]) ∧ Same H5 (upd H7 D (.lst (cs.map V.ref ++ [V.ref b]))) ∧ NewAll H5 cs' ∧ cs'.Nodup := fun b H7 s7 kb nb => by
          have nD : ∀ {a xs}, FT H7 a xs → FT (upd H7 D (.lst (cs.map V.ref ++ [V.ref b]))) a xs := fun {a xs} x => by
            obtain ⟨o, e, d⟩ := x
            exact ⟨o, by rw [upd_ne (fun z => by rw [z, s7 _ _ (st _ _ g1)] at e; cases e)]; exact e, d⟩
          refine ⟨cs ++ [b], ?_, ?_, same_add ((g3.trans st).trans s7) hD6, fun a ha => ?_, ?_⟩
          · rw [upd_same, List.map_append (l₂ := [b])]
            rfl
          · rw [List.range_succ, List.map_append (f := fun x => row ++ [x])]
            exact prd_app (Paired.mapP ((g2.keep st).keep s7) fun _ _ e => nD e) (.cons (nD kb) .nil)
          · rcases List.mem_append.mp ha with ha | ha
            · exact g4 a ha
            · rw [List.mem_singleton.mp ha]; exact g3.free nb
          · refine List.nodup_append.mpr ⟨g5, List.pairwise_singleton _ _, fun a ha c hc e => ?_⟩
            rw [List.mem_singleton.mp hc] at e
            obtain ⟨_, _, o, e2, _⟩ := prd_mem g2 ha
            rw [e, nb] at e2
            cases e2
        have er : row.map nI ++ [V.int (0 + (m : Int))] = (row ++ [m]).map nI := by rw [List.map_append, Int.zero_add]; rfl
        have hl1000 : (cs.map V.ref).length < sizeLine := by
          rw [List.length_map, lc]
          exact Nat.lt_of_le_of_lt (show _ ≤ 1000000 by omega) (by decide)
        have kD := st _ _ g1
        refine ⟨aj, t, _, _, rfl, rfl, (kaj5.keep g3).keep st, kt, ?_, by simp, fun z => ⟨_, kD, hl1000, go t _ (Same.refl _) ?_ ht⟩, fun z b ob hb db => ?_⟩
        · rw [List.length_map, (rowsTo_mem (List.mem_of_getElem? hrow)).1, List.length_singleton]
          exact Nat.le_of_lt (Nat.lt_of_le_of_lt (show _ ≤ 1000000 by omega) (by decide))
        · rw [← er, z]; exact kt
        · have s7 := same_new (o := .frz ob (.tup (row.map nI ++ [V.int (0 + (m : Int))]))) hb
          refine ⟨_, s7 _ _ kD, hl1000, go b _ s7 ?_ (st.free hb)⟩
          rw [← er]
          exact FT.new db
      · rintro H6 ⟨cs, g1, g2, g3, g4, g5⟩
        have lc := Paired.length g2
        rw [List.length_map, List.length_range] at lc
        have kf6 := g3 _ _ hf5
        refine ⟨f1, D, _, _, rfl, rfl, kf6, g1, ?_, fun f2 hf2 => ?_⟩
        · rw [List.length_map, List.length_map]
          exact Nat.le_of_lt (Nat.lt_of_le_of_lt (show _ ≤ 1000000 by omega) (by decide))
        have sf := same_new (o := .lst (bs.map V.ref ++ cs.map V.ref)) hf2
        have S := (s5.trans g3)
        refine ⟨f2, bs ++ cs, _, rfl, by rw [upd_same, List.map_append], ?_, S.trans sf, S.free hf2, fun a ha => (List.mem_append.mp ha).elim (fb a) fun h => (s3.trans s5).free (g4 a h), ?_⟩
        · rw [flat_take _ hrow]
          exact prd_app ((hb5.keep g3).keep sf) (g2.keep sf)
        · refine List.nodup_append.mpr ⟨db, g5, fun a ha c hc e => ?_⟩
          obtain ⟨_, _, o, e2, _⟩ := prd_mem hb5 ha
          rw [e, g4 c hc] at e2
          cases e2
    · rintro σ H5 ⟨f1, bs, y5, rfl, hf5, hb5, s5, nf1, fb, db⟩
      rw [List.length_map, la, ← rowsTo_len k i, List.take_length] at hb5
      exact ⟨_, rfl, f1, bs, _, _, _, rfl, hf5, hb5, s3.trans s5, s3.free nf1, fb, db⟩
  · rintro σ H3 ⟨r, as, y3, y4, y5, rfl, hr3, ha3, s3, nr, fa, da⟩
    exact ⟨_, rfl, q r as H3 s3 nr hr3 ha3 fa da⟩
end


def IxF (L : Str) : Prop := (L.cps.toList.zipIdx.all fun x => decide ((Builtin.Str.occurrences L (ch x.1) 0 L.length 1).head? = some x.2)) = true
def OkSh (L : Str) (n few turn : Nat) : Prop := Lets L ∧ Rises L ∧ IxF L ∧ 1 ≤ n ∧ n ≤ 6 ∧ few ≤ 4 ∧ 1 ≤ turn ∧ turn ≤ 4 ∧ L.length * (few + turn) ^ n ≤ 600
def GdT (H : Hp) (a : Addr) : Prop := ∃ (L : Str) (n few turn : Nat), H a = some (.tup [.str L, nI n, nI few, nI turn]) ∧ OkSh L n few turn
def GdL (H : Hp) (as : List Addr) : Prop := ∀ a ∈ as, GdT H a
theorem GdT.same {H H' : Hp} {a : Addr} (x : GdT H a) (s : Same H H') : GdT H' a := by obtain ⟨L, n, f, t, e, r⟩ := x; exact ⟨L, n, f, t, s _ _ e, r⟩
theorem GdL.same {H H' : Hp} {as : List Addr} (x : GdL H as) (s : Same H H') : GdL H' as := fun a ha => (x a ha).same s
theorem GdL.put {H : Hp} {as : List Addr} (x : GdL H as) {a : Addr} {L : Str} {n few turn : Nat} (ha : H a = none) (ok : OkSh L n few turn) : GdL (upd H a (.tup [.str L, nI n, nI few, nI turn])) (as ++ [a]) := fun b hb => by
  rcases List.mem_append.mp hb with hb | hb
  · exact (x b hb).same (same_new ha)
  · rw [List.mem_singleton.mp hb]
    exact ⟨L, n, few, turn, upd_same, ok⟩
def sp__law_shape : Sp := fun vs H Q _ => ∃ (x : Nat), vs = [nI x] ∧ ∀ r L n few turn H', Same H H' → H' r = some (.tup [.str L, nI n, nI few, nI turn]) → OkSh L n few turn → Q (.ref r) H'
section
variable {P : Program} {w : World} {K : PySem.W.Frag} {mg : Str → Option Value} {base : Heap}
theorem ok__law_shape (T : Txt K mg) : FnOk P w K mg base CX0 1 T.f__law_shape T.d__law_shape ["x"] sp__law_shape := by
  refine T.F__law_shape.ok sc__law_shape (fun vs H Q E h => ?_) (fun cdv A outer s H vs Q E hr h => ?_)
  · obtain ⟨x, rfl, _⟩ := h
    rfl
  obtain ⟨x, rfl, q⟩ := h
  refine ⟨_, (pss_cons (ps_set (i := 1) sc__law_shape.nd rfl (Or.inl rfl) (pe_lst (pa_cons (pe_tup (pa_cons pe_str (pa_cons pe_int (pa_cons pe_int (pa_cons pe_int pa_nil))))) (pa_cons (pe_tup (pa_cons pe_str (pa_cons pe_int (pa_cons pe_int (pa_cons pe_int pa_nil))))) (pa_cons (pe_tup (pa_cons pe_str (pa_cons pe_int (pa_cons pe_int (pa_cons pe_int pa_nil))))) (pa_cons (pe_tup (pa_cons pe_str (pa_cons pe_int (pa_cons pe_int (pa_cons pe_int pa_nil))))) pa_nil)))))) (pss_cons (ps_set (i := 1) sc__law_shape.nd rfl (Or.inl rfl) (pe_op op_cat (pv 1) (pe_lst (pa_cons (pe_tup (pa_cons pe_str (pa_cons pe_int (pa_cons pe_int (pa_cons pe_int pa_nil))))) (pa_cons (pe_tup (pa_cons pe_str (pa_cons pe_int (pa_cons pe_int (pa_cons pe_int pa_nil))))) (pa_cons (pe_tup (pa_cons pe_str (pa_cons pe_int (pa_cons pe_int (pa_cons pe_int pa_nil))))) (pa_cons (pe_tup (pa_cons pe_str (pa_cons pe_int (pa_cons pe_int (pa_cons pe_int pa_nil))))) pa_nil))))))) (pss_cons (ps_set (i := 1) sc__law_shape.nd rfl (Or.inl rfl) (pe_op op_cat (pv 1) (pe_lst (pa_cons (pe_tup (pa_cons pe_str (pa_cons pe_int (pa_cons pe_int (pa_cons pe_int pa_nil))))) (pa_cons (pe_tup (pa_cons pe_str (pa_cons pe_int (pa_cons pe_int (pa_cons pe_int pa_nil))))) (pa_cons (pe_tup (pa_cons pe_str (pa_cons pe_int (pa_cons pe_int (pa_cons pe_int pa_nil))))) (pa_cons (pe_tup (pa_cons pe_str (pa_cons pe_int (pa_cons pe_int (pa_cons pe_int pa_nil))))) pa_nil))))))) (pss_cons (ps_set (i := 1) sc__law_shape.nd rfl (Or.inl rfl) (pe_op op_cat (pv 1) (pe_lst (pa_cons (pe_tup (pa_cons pe_str (pa_cons pe_int (pa_cons pe_int (pa_cons pe_int pa_nil))))) (pa_cons (pe_tup (pa_cons pe_str (pa_cons pe_int (pa_cons pe_int (pa_cons pe_int pa_nil))))) (pa_cons (pe_tup (pa_cons pe_str (pa_cons pe_int (pa_cons pe_int (pa_cons pe_int pa_nil))))) (pa_cons (pe_tup (pa_cons pe_str (pa_cons pe_int (pa_cons pe_int (pa_cons pe_int pa_nil))))) pa_nil))))))) (pss_cons (ps_set (i := 1) sc__law_shape.nd rfl (Or.inl rfl) (pe_op op_cat (pv 1) (pe_lst (pa_cons (pe_tup (pa_cons pe_str (pa_cons pe_int (pa_cons pe_int (pa_cons pe_int pa_nil))))) (pa_cons (pe_tup (pa_cons pe_str (pa_cons pe_int (pa_cons pe_int (pa_cons pe_int pa_nil))))) (pa_cons (pe_tup (pa_cons pe_str (pa_cons pe_int (pa_cons pe_int (pa_cons pe_int pa_nil))))) (pa_cons (pe_tup (pa_cons pe_str (pa_cons pe_int (pa_cons pe_int (pa_cons pe_int pa_nil))))) (pa_cons (pe_tup (pa_cons pe_str (pa_cons pe_int (pa_cons pe_int (pa_cons pe_int pa_nil))))) pa_nil)))))))) (pss_one (ps_ret (pe_ix ix_list (pv 1) (pe_op op_mod (pv 0) pe_int) (fun _ _ => rfl))))))))), ?_⟩
  have g0 : GdL H [] := fun _ h => by cases h
  have S0 : Same H H := Same.refl H
  refine ⟨(by show 4 ≤ sizeLine; decide), fun t1 h1 => ?_⟩
  have g1 := g0.put (L := Str.ofString "a") (n := 1) (few := 2) (turn := 2) h1 ⟨by unfold Lets; decide +kernel, by unfold Rises; decide +kernel, by unfold IxF; decide +kernel, by decide, by decide, by decide, by decide, by decide, by decide +kernel⟩
  have s1 := same_new h1 (o := .tup [.str (Str.ofString "a"), V.int 1, V.int 2, V.int 2])
  have S1 := S0.trans s1
  replace g1 : GdL (upd H t1 (.tup [.str (Str.ofString "a"), V.int 1, V.int 2, V.int 2])) ([t1]) := g1
  generalize upd H t1 (.tup [.str (Str.ofString "a"), V.int 1, V.int 2, V.int 2]) = H1 at *
  clear g0 s1 S0
  refine ⟨(by show 4 ≤ sizeLine; decide), fun t2 h2 => ?_⟩
  have g2 := g1.put (L := Str.ofString "ab") (n := 2) (few := 1) (turn := 1) h2 ⟨by unfold Lets; decide +kernel, by unfold Rises; decide +kernel, by unfold IxF; decide +kernel, by decide, by decide, by decide, by decide, by decide, by decide +kernel⟩
  have s2 := same_new h2 (o := .tup [.str (Str.ofString "ab"), V.int 2, V.int 1, V.int 1])
  have S2 := S1.trans s2
  replace g2 : GdL (upd H1 t2 (.tup [.str (Str.ofString "ab"), V.int 2, V.int 1, V.int 1])) ([t1, t2]) := g2
  generalize upd H1 t2 (.tup [.str (Str.ofString "ab"), V.int 2, V.int 1, V.int 1]) = H2 at *
  clear g1 s2 S1
  refine ⟨(by show 4 ≤ sizeLine; decide), fun t3 h3 => ?_⟩
  have g3 := g2.put (L := Str.ofString "ab") (n := 2) (few := 1) (turn := 2) h3 ⟨by unfold Lets; decide +kernel, by unfold Rises; decide +kernel, by unfold IxF; decide +kernel, by decide, by decide, by decide, by decide, by decide, by decide +kernel⟩
  have s3 := same_new h3 (o := .tup [.str (Str.ofString "ab"), V.int 2, V.int 1, V.int 2])
  have S3 := S2.trans s3
  replace g3 : GdL (upd H2 t3 (.tup [.str (Str.ofString "ab"), V.int 2, V.int 1, V.int 2])) ([t1, t2, t3]) := g3
  generalize upd H2 t3 (.tup [.str (Str.ofString "ab"), V.int 2, V.int 1, V.int 2]) = H3 at *
  clear g2 s3 S2
  refine ⟨(by show 4 ≤ sizeLine; decide), fun t4 h4 => ?_⟩
  have g4 := g3.put (L := Str.ofString "ab") (n := 2) (few := 0) (turn := 3) h4 ⟨by unfold Lets; decide +kernel, by unfold Rises; decide +kernel, by unfold IxF; decide +kernel, by decide, by decide, by decide, by decide, by decide, by decide +kernel⟩
  have s4 := same_new h4 (o := .tup [.str (Str.ofString "ab"), V.int 2, V.int 0, V.int 3])
  have S4 := S3.trans s4
  replace g4 : GdL (upd H3 t4 (.tup [.str (Str.ofString "ab"), V.int 2, V.int 0, V.int 3])) ([t1, t2, t3, t4]) := g4
  generalize upd H3 t4 (.tup [.str (Str.ofString "ab"), V.int 2, V.int 0, V.int 3]) = H4 at *
  clear g3 s4 S3
  refine ⟨(by show 4 ≤ sizeLine; decide), fun l5 h5 => ?_⟩
  have s5 := same_new h5 (o := .lst [V.ref t1, V.ref t2, V.ref t3, V.ref t4])
  have g5 := g4.same s5
  have S5 := S4.trans s5
  have u5 := upd_same (H := H4) (a := l5) (o := .lst [V.ref t1, V.ref t2, V.ref t3, V.ref t4])
  generalize upd H4 l5 (.lst [V.ref t1, V.ref t2, V.ref t3, V.ref t4]) = H5 at *
  clear g4 s5 S4
  have e1 := u5
  refine ⟨_, rfl, ?_⟩
  refine ⟨(by show 4 ≤ sizeLine; decide), fun t6 h6 => ?_⟩
  have g6 := g5.put (L := Str.ofString "abc") (n := 2) (few := 2) (turn := 1) h6 ⟨by unfold Lets; decide +kernel, by unfold Rises; decide +kernel, by unfold IxF; decide +kernel, by decide, by decide, by decide, by decide, by decide, by decide +kernel⟩
  have s6 := same_new h6 (o := .tup [.str (Str.ofString "abc"), V.int 2, V.int 2, V.int 1])
  have S6 := S5.trans s6
  have e1 := s6 _ _ e1
  replace g6 : GdL (upd H5 t6 (.tup [.str (Str.ofString "abc"), V.int 2, V.int 2, V.int 1])) ([t1, t2, t3, t4, t6]) := g6
  generalize upd H5 t6 (.tup [.str (Str.ofString "abc"), V.int 2, V.int 2, V.int 1]) = H6 at *
  clear g5 s6 S5
  refine ⟨(by show 4 ≤ sizeLine; decide), fun t7 h7 => ?_⟩
  have g7 := g6.put (L := Str.ofString "a") (n := 3) (few := 1) (turn := 1) h7 ⟨by unfold Lets; decide +kernel, by unfold Rises; decide +kernel, by unfold IxF; decide +kernel, by decide, by decide, by decide, by decide, by decide, by decide +kernel⟩
  have s7 := same_new h7 (o := .tup [.str (Str.ofString "a"), V.int 3, V.int 1, V.int 1])
  have S7 := S6.trans s7
  have e1 := s7 _ _ e1
  replace g7 : GdL (upd H6 t7 (.tup [.str (Str.ofString "a"), V.int 3, V.int 1, V.int 1])) ([t1, t2, t3, t4, t6, t7]) := g7
  generalize upd H6 t7 (.tup [.str (Str.ofString "a"), V.int 3, V.int 1, V.int 1]) = H7 at *
  clear g6 s7 S6
  refine ⟨(by show 4 ≤ sizeLine; decide), fun t8 h8 => ?_⟩
  have g8 := g7.put (L := Str.ofString "ab") (n := 3) (few := 0) (turn := 2) h8 ⟨by unfold Lets; decide +kernel, by unfold Rises; decide +kernel, by unfold IxF; decide +kernel, by decide, by decide, by decide, by decide, by decide, by decide +kernel⟩
  have s8 := same_new h8 (o := .tup [.str (Str.ofString "ab"), V.int 3, V.int 0, V.int 2])
  have S8 := S7.trans s8
  have e1 := s8 _ _ e1
  replace g8 : GdL (upd H7 t8 (.tup [.str (Str.ofString "ab"), V.int 3, V.int 0, V.int 2])) ([t1, t2, t3, t4, t6, t7, t8]) := g8
  generalize upd H7 t8 (.tup [.str (Str.ofString "ab"), V.int 3, V.int 0, V.int 2]) = H8 at *
  clear g7 s8 S7
  refine ⟨(by show 4 ≤ sizeLine; decide), fun t9 h9 => ?_⟩
  have g9 := g8.put (L := Str.ofString "xz") (n := 3) (few := 1) (turn := 1) h9 ⟨by unfold Lets; decide +kernel, by unfold Rises; decide +kernel, by unfold IxF; decide +kernel, by decide, by decide, by decide, by decide, by decide, by decide +kernel⟩
  have s9 := same_new h9 (o := .tup [.str (Str.ofString "xz"), V.int 3, V.int 1, V.int 1])
  have S9 := S8.trans s9
  have e1 := s9 _ _ e1
  replace g9 : GdL (upd H8 t9 (.tup [.str (Str.ofString "xz"), V.int 3, V.int 1, V.int 1])) ([t1, t2, t3, t4, t6, t7, t8, t9]) := g9
  generalize upd H8 t9 (.tup [.str (Str.ofString "xz"), V.int 3, V.int 1, V.int 1]) = H9 at *
  clear g8 s9 S8
  refine ⟨(by show 4 ≤ sizeLine; decide), fun l10 h10 => ?_⟩
  have s10 := same_new h10 (o := .lst [V.ref t6, V.ref t7, V.ref t8, V.ref t9])
  have g10 := g9.same s10
  have S10 := S9.trans s10
  have u10 := upd_same (H := H9) (a := l10) (o := .lst [V.ref t6, V.ref t7, V.ref t8, V.ref t9])
  have e1 := s10 _ _ e1
  generalize upd H9 l10 (.lst [V.ref t6, V.ref t7, V.ref t8, V.ref t9]) = H10 at *
  clear g9 s10 S9
  refine ⟨l5, l10, _, _, rfl, rfl, e1, u10, (by show 8 ≤ sizeLine; decide), fun l11 h11 => ?_⟩
  have s11 := same_new h11 (o := .lst [V.ref t1, V.ref t2, V.ref t3, V.ref t4, V.ref t6, V.ref t7, V.ref t8, V.ref t9])
  have g11 := g10.same s11
  have S11 := S10.trans s11
  have e2 : (upd H10 l11 (.lst [V.ref t1, V.ref t2, V.ref t3, V.ref t4, V.ref t6, V.ref t7, V.ref t8, V.ref t9])) l11 = some (.lst [V.ref t1, V.ref t2, V.ref t3, V.ref t4, V.ref t6, V.ref t7, V.ref t8, V.ref t9]) := upd_same
  show gName 1 (.ref l11) _ (upd H10 l11 (.lst [V.ref t1, V.ref t2, V.ref t3, V.ref t4, V.ref t6, V.ref t7, V.ref t8, V.ref t9])) _
  generalize upd H10 l11 (.lst [V.ref t1, V.ref t2, V.ref t3, V.ref t4, V.ref t6, V.ref t7, V.ref t8, V.ref t9]) = H11 at *
  clear g10 s11 S10
  refine ⟨_, rfl, ?_⟩
  refine ⟨(by show 4 ≤ sizeLine; decide), fun t12 h12 => ?_⟩
  have g12 := g11.put (L := Str.ofString "a") (n := 3) (few := 1) (turn := 2) h12 ⟨by unfold Lets; decide +kernel, by unfold Rises; decide +kernel, by unfold IxF; decide +kernel, by decide, by decide, by decide, by decide, by decide, by decide +kernel⟩
  have s12 := same_new h12 (o := .tup [.str (Str.ofString "a"), V.int 3, V.int 1, V.int 2])
  have S12 := S11.trans s12
  have e2 := s12 _ _ e2
  replace g12 : GdL (upd H11 t12 (.tup [.str (Str.ofString "a"), V.int 3, V.int 1, V.int 2])) ([t1, t2, t3, t4, t6, t7, t8, t9, t12]) := g12
  generalize upd H11 t12 (.tup [.str (Str.ofString "a"), V.int 3, V.int 1, V.int 2]) = H12 at *
  clear g11 s12 S11
  refine ⟨(by show 4 ≤ sizeLine; decide), fun t13 h13 => ?_⟩
  have g13 := g12.put (L := Str.ofString "m") (n := 4) (few := 1) (turn := 1) h13 ⟨by unfold Lets; decide +kernel, by unfold Rises; decide +kernel, by unfold IxF; decide +kernel, by decide, by decide, by decide, by decide, by decide, by decide +kernel⟩
  have s13 := same_new h13 (o := .tup [.str (Str.ofString "m"), V.int 4, V.int 1, V.int 1])
  have S13 := S12.trans s13
  have e2 := s13 _ _ e2
  replace g13 : GdL (upd H12 t13 (.tup [.str (Str.ofString "m"), V.int 4, V.int 1, V.int 1])) ([t1, t2, t3, t4, t6, t7, t8, t9, t12, t13]) := g13
  generalize upd H12 t13 (.tup [.str (Str.ofString "m"), V.int 4, V.int 1, V.int 1]) = H13 at *
  clear g12 s13 S12
  refine ⟨(by show 4 ≤ sizeLine; decide), fun t14 h14 => ?_⟩
  have g14 := g13.put (L := Str.ofString "ab") (n := 4) (few := 0) (turn := 2) h14 ⟨by unfold Lets; decide +kernel, by unfold Rises; decide +kernel, by unfold IxF; decide +kernel, by decide, by decide, by decide, by decide, by decide, by decide +kernel⟩
  have s14 := same_new h14 (o := .tup [.str (Str.ofString "ab"), V.int 4, V.int 0, V.int 2])
  have S14 := S13.trans s14
  have e2 := s14 _ _ e2
  replace g14 : GdL (upd H13 t14 (.tup [.str (Str.ofString "ab"), V.int 4, V.int 0, V.int 2])) ([t1, t2, t3, t4, t6, t7, t8, t9, t12, t13, t14]) := g14
  generalize upd H13 t14 (.tup [.str (Str.ofString "ab"), V.int 4, V.int 0, V.int 2]) = H14 at *
  clear g13 s14 S13
  refine ⟨(by show 4 ≤ sizeLine; decide), fun t15 h15 => ?_⟩
  have g15 := g14.put (L := Str.ofString "xyz") (n := 2) (few := 2) (turn := 2) h15 ⟨by unfold Lets; decide +kernel, by unfold Rises; decide +kernel, by unfold IxF; decide +kernel, by decide, by decide, by decide, by decide, by decide, by decide +kernel⟩
  have s15 := same_new h15 (o := .tup [.str (Str.ofString "xyz"), V.int 2, V.int 2, V.int 2])
  have S15 := S14.trans s15
  have e2 := s15 _ _ e2
  replace g15 : GdL (upd H14 t15 (.tup [.str (Str.ofString "xyz"), V.int 2, V.int 2, V.int 2])) ([t1, t2, t3, t4, t6, t7, t8, t9, t12, t13, t14, t15]) := g15
  generalize upd H14 t15 (.tup [.str (Str.ofString "xyz"), V.int 2, V.int 2, V.int 2]) = H15 at *
  clear g14 s15 S14
  refine ⟨(by show 4 ≤ sizeLine; decide), fun l16 h16 => ?_⟩
  have s16 := same_new h16 (o := .lst [V.ref t12, V.ref t13, V.ref t14, V.ref t15])
  have g16 := g15.same s16
  have S16 := S15.trans s16
  have u16 := upd_same (H := H15) (a := l16) (o := .lst [V.ref t12, V.ref t13, V.ref t14, V.ref t15])
  have e2 := s16 _ _ e2
  generalize upd H15 l16 (.lst [V.ref t12, V.ref t13, V.ref t14, V.ref t15]) = H16 at *
  clear g15 s16 S15
  refine ⟨l11, l16, _, _, rfl, rfl, e2, u16, (by show 12 ≤ sizeLine; decide), fun l17 h17 => ?_⟩
  have s17 := same_new h17 (o := .lst [V.ref t1, V.ref t2, V.ref t3, V.ref t4, V.ref t6, V.ref t7, V.ref t8, V.ref t9, V.ref t12, V.ref t13, V.ref t14, V.ref t15])
  have g17 := g16.same s17
  have S17 := S16.trans s17
  have e3 : (upd H16 l17 (.lst [V.ref t1, V.ref t2, V.ref t3, V.ref t4, V.ref t6, V.ref t7, V.ref t8, V.ref t9, V.ref t12, V.ref t13, V.ref t14, V.ref t15])) l17 = some (.lst [V.ref t1, V.ref t2, V.ref t3, V.ref t4, V.ref t6, V.ref t7, V.ref t8, V.ref t9, V.ref t12, V.ref t13, V.ref t14, V.ref t15]) := upd_same
  show gName 1 (.ref l17) _ (upd H16 l17 (.lst [V.ref t1, V.ref t2, V.ref t3, V.ref t4, V.ref t6, V.ref t7, V.ref t8, V.ref t9, V.ref t12, V.ref t13, V.ref t14, V.ref t15])) _
  generalize upd H16 l17 (.lst [V.ref t1, V.ref t2, V.ref t3, V.ref t4, V.ref t6, V.ref t7, V.ref t8, V.ref t9, V.ref t12, V.ref t13, V.ref t14, V.ref t15]) = H17 at *
  clear g16 s17 S16
  refine ⟨_, rfl, ?_⟩
  refine ⟨(by show 4 ≤ sizeLine; decide), fun t18 h18 => ?_⟩
  have g18 := g17.put (L := Str.ofString "a") (n := 2) (few := 4) (turn := 4) h18 ⟨by unfold Lets; decide +kernel, by unfold Rises; decide +kernel, by unfold IxF; decide +kernel, by decide, by decide, by decide, by decide, by decide, by decide +kernel⟩
  have s18 := same_new h18 (o := .tup [.str (Str.ofString "a"), V.int 2, V.int 4, V.int 4])
  have S18 := S17.trans s18
  have e3 := s18 _ _ e3
  replace g18 : GdL (upd H17 t18 (.tup [.str (Str.ofString "a"), V.int 2, V.int 4, V.int 4])) ([t1, t2, t3, t4, t6, t7, t8, t9, t12, t13, t14, t15, t18]) := g18
  generalize upd H17 t18 (.tup [.str (Str.ofString "a"), V.int 2, V.int 4, V.int 4]) = H18 at *
  clear g17 s18 S17
  refine ⟨(by show 4 ≤ sizeLine; decide), fun t19 h19 => ?_⟩
  have g19 := g18.put (L := Str.ofString "abc") (n := 1) (few := 4) (turn := 3) h19 ⟨by unfold Lets; decide +kernel, by unfold Rises; decide +kernel, by unfold IxF; decide +kernel, by decide, by decide, by decide, by decide, by decide, by decide +kernel⟩
  have s19 := same_new h19 (o := .tup [.str (Str.ofString "abc"), V.int 1, V.int 4, V.int 3])
  have S19 := S18.trans s19
  have e3 := s19 _ _ e3
  replace g19 : GdL (upd H18 t19 (.tup [.str (Str.ofString "abc"), V.int 1, V.int 4, V.int 3])) ([t1, t2, t3, t4, t6, t7, t8, t9, t12, t13, t14, t15, t18, t19]) := g19
  generalize upd H18 t19 (.tup [.str (Str.ofString "abc"), V.int 1, V.int 4, V.int 3]) = H19 at *
  clear g18 s19 S18
  refine ⟨(by show 4 ≤ sizeLine; decide), fun t20 h20 => ?_⟩
  have g20 := g19.put (L := Str.ofString "ab") (n := 5) (few := 1) (turn := 1) h20 ⟨by unfold Lets; decide +kernel, by unfold Rises; decide +kernel, by unfold IxF; decide +kernel, by decide, by decide, by decide, by decide, by decide, by decide +kernel⟩
  have s20 := same_new h20 (o := .tup [.str (Str.ofString "ab"), V.int 5, V.int 1, V.int 1])
  have S20 := S19.trans s20
  have e3 := s20 _ _ e3
  replace g20 : GdL (upd H19 t20 (.tup [.str (Str.ofString "ab"), V.int 5, V.int 1, V.int 1])) ([t1, t2, t3, t4, t6, t7, t8, t9, t12, t13, t14, t15, t18, t19, t20]) := g20
  generalize upd H19 t20 (.tup [.str (Str.ofString "ab"), V.int 5, V.int 1, V.int 1]) = H20 at *
  clear g19 s20 S19
  refine ⟨(by show 4 ≤ sizeLine; decide), fun t21 h21 => ?_⟩
  have g21 := g20.put (L := Str.ofString "q") (n := 6) (few := 0) (turn := 2) h21 ⟨by unfold Lets; decide +kernel, by unfold Rises; decide +kernel, by unfold IxF; decide +kernel, by decide, by decide, by decide, by decide, by decide, by decide +kernel⟩
  have s21 := same_new h21 (o := .tup [.str (Str.ofString "q"), V.int 6, V.int 0, V.int 2])
  have S21 := S20.trans s21
  have e3 := s21 _ _ e3
  replace g21 : GdL (upd H20 t21 (.tup [.str (Str.ofString "q"), V.int 6, V.int 0, V.int 2])) ([t1, t2, t3, t4, t6, t7, t8, t9, t12, t13, t14, t15, t18, t19, t20, t21]) := g21
  generalize upd H20 t21 (.tup [.str (Str.ofString "q"), V.int 6, V.int 0, V.int 2]) = H21 at *
  clear g20 s21 S20
  refine ⟨(by show 4 ≤ sizeLine; decide), fun l22 h22 => ?_⟩
  have s22 := same_new h22 (o := .lst [V.ref t18, V.ref t19, V.ref t20, V.ref t21])
  have g22 := g21.same s22
  have S22 := S21.trans s22
  have u22 := upd_same (H := H21) (a := l22) (o := .lst [V.ref t18, V.ref t19, V.ref t20, V.ref t21])
  have e3 := s22 _ _ e3
  generalize upd H21 l22 (.lst [V.ref t18, V.ref t19, V.ref t20, V.ref t21]) = H22 at *
  clear g21 s22 S21
  refine ⟨l17, l22, _, _, rfl, rfl, e3, u22, (by show 16 ≤ sizeLine; decide), fun l23 h23 => ?_⟩
  have s23 := same_new h23 (o := .lst [V.ref t1, V.ref t2, V.ref t3, V.ref t4, V.ref t6, V.ref t7, V.ref t8, V.ref t9, V.ref t12, V.ref t13, V.ref t14, V.ref t15, V.ref t18, V.ref t19, V.ref t20, V.ref t21])
  have g23 := g22.same s23
  have S23 := S22.trans s23
  have e4 : (upd H22 l23 (.lst [V.ref t1, V.ref t2, V.ref t3, V.ref t4, V.ref t6, V.ref t7, V.ref t8, V.ref t9, V.ref t12, V.ref t13, V.ref t14, V.ref t15, V.ref t18, V.ref t19, V.ref t20, V.ref t21])) l23 = some (.lst [V.ref t1, V.ref t2, V.ref t3, V.ref t4, V.ref t6, V.ref t7, V.ref t8, V.ref t9, V.ref t12, V.ref t13, V.ref t14, V.ref t15, V.ref t18, V.ref t19, V.ref t20, V.ref t21]) := upd_same
  show gName 1 (.ref l23) _ (upd H22 l23 (.lst [V.ref t1, V.ref t2, V.ref t3, V.ref t4, V.ref t6, V.ref t7, V.ref t8, V.ref t9, V.ref t12, V.ref t13, V.ref t14, V.ref t15, V.ref t18, V.ref t19, V.ref t20, V.ref t21])) _
  generalize upd H22 l23 (.lst [V.ref t1, V.ref t2, V.ref t3, V.ref t4, V.ref t6, V.ref t7, V.ref t8, V.ref t9, V.ref t12, V.ref t13, V.ref t14, V.ref t15, V.ref t18, V.ref t19, V.ref t20, V.ref t21]) = H23 at *
  clear g22 s23 S22
  refine ⟨_, rfl, ?_⟩
  refine ⟨(by show 4 ≤ sizeLine; decide), fun t24 h24 => ?_⟩
  have g24 := g23.put (L := Str.ofString "z") (n := 2) (few := 0) (turn := 4) h24 ⟨by unfold Lets; decide +kernel, by unfold Rises; decide +kernel, by unfold IxF; decide +kernel, by decide, by decide, by decide, by decide, by decide, by decide +kernel⟩
  have s24 := same_new h24 (o := .tup [.str (Str.ofString "z"), V.int 2, V.int 0, V.int 4])
  have S24 := S23.trans s24
  have e4 := s24 _ _ e4
  replace g24 : GdL (upd H23 t24 (.tup [.str (Str.ofString "z"), V.int 2, V.int 0, V.int 4])) ([t1, t2, t3, t4, t6, t7, t8, t9, t12, t13, t14, t15, t18, t19, t20, t21, t24]) := g24
  generalize upd H23 t24 (.tup [.str (Str.ofString "z"), V.int 2, V.int 0, V.int 4]) = H24 at *
  clear g23 s24 S23
  refine ⟨(by show 4 ≤ sizeLine; decide), fun t25 h25 => ?_⟩
  have g25 := g24.put (L := Str.ofString "ab") (n := 3) (few := 2) (turn := 1) h25 ⟨by unfold Lets; decide +kernel, by unfold Rises; decide +kernel, by unfold IxF; decide +kernel, by decide, by decide, by decide, by decide, by decide, by decide +kernel⟩
  have s25 := same_new h25 (o := .tup [.str (Str.ofString "ab"), V.int 3, V.int 2, V.int 1])
  have S25 := S24.trans s25
  have e4 := s25 _ _ e4
  replace g25 : GdL (upd H24 t25 (.tup [.str (Str.ofString "ab"), V.int 3, V.int 2, V.int 1])) ([t1, t2, t3, t4, t6, t7, t8, t9, t12, t13, t14, t15, t18, t19, t20, t21, t24, t25]) := g25
  generalize upd H24 t25 (.tup [.str (Str.ofString "ab"), V.int 3, V.int 2, V.int 1]) = H25 at *
  clear g24 s25 S24
  refine ⟨(by show 4 ≤ sizeLine; decide), fun t26 h26 => ?_⟩
  have g26 := g25.put (L := Str.ofString "a") (n := 2) (few := 3) (turn := 1) h26 ⟨by unfold Lets; decide +kernel, by unfold Rises; decide +kernel, by unfold IxF; decide +kernel, by decide, by decide, by decide, by decide, by decide, by decide +kernel⟩
  have s26 := same_new h26 (o := .tup [.str (Str.ofString "a"), V.int 2, V.int 3, V.int 1])
  have S26 := S25.trans s26
  have e4 := s26 _ _ e4
  replace g26 : GdL (upd H25 t26 (.tup [.str (Str.ofString "a"), V.int 2, V.int 3, V.int 1])) ([t1, t2, t3, t4, t6, t7, t8, t9, t12, t13, t14, t15, t18, t19, t20, t21, t24, t25, t26]) := g26
  generalize upd H25 t26 (.tup [.str (Str.ofString "a"), V.int 2, V.int 3, V.int 1]) = H26 at *
  clear g25 s26 S25
  refine ⟨(by show 4 ≤ sizeLine; decide), fun t27 h27 => ?_⟩
  have g27 := g26.put (L := Str.ofString "ab") (n := 2) (few := 3) (turn := 2) h27 ⟨by unfold Lets; decide +kernel, by unfold Rises; decide +kernel, by unfold IxF; decide +kernel, by decide, by decide, by decide, by decide, by decide, by decide +kernel⟩
  have s27 := same_new h27 (o := .tup [.str (Str.ofString "ab"), V.int 2, V.int 3, V.int 2])
  have S27 := S26.trans s27
  have e4 := s27 _ _ e4
  replace g27 : GdL (upd H26 t27 (.tup [.str (Str.ofString "ab"), V.int 2, V.int 3, V.int 2])) ([t1, t2, t3, t4, t6, t7, t8, t9, t12, t13, t14, t15, t18, t19, t20, t21, t24, t25, t26, t27]) := g27
  generalize upd H26 t27 (.tup [.str (Str.ofString "ab"), V.int 2, V.int 3, V.int 2]) = H27 at *
  clear g26 s27 S26
  refine ⟨(by show 4 ≤ sizeLine; decide), fun t28 h28 => ?_⟩
  have g28 := g27.put (L := Str.ofString "bdfhkmpr") (n := 2) (few := 1) (turn := 1) h28 ⟨by unfold Lets; decide +kernel, by unfold Rises; decide +kernel, by unfold IxF; decide +kernel, by decide, by decide, by decide, by decide, by decide, by decide +kernel⟩
  have s28 := same_new h28 (o := .tup [.str (Str.ofString "bdfhkmpr"), V.int 2, V.int 1, V.int 1])
  have S28 := S27.trans s28
  have e4 := s28 _ _ e4
  replace g28 : GdL (upd H27 t28 (.tup [.str (Str.ofString "bdfhkmpr"), V.int 2, V.int 1, V.int 1])) ([t1, t2, t3, t4, t6, t7, t8, t9, t12, t13, t14, t15, t18, t19, t20, t21, t24, t25, t26, t27, t28]) := g28
  generalize upd H27 t28 (.tup [.str (Str.ofString "bdfhkmpr"), V.int 2, V.int 1, V.int 1]) = H28 at *
  clear g27 s28 S27
  refine ⟨(by show 5 ≤ sizeLine; decide), fun l29 h29 => ?_⟩
  have s29 := same_new h29 (o := .lst [V.ref t24, V.ref t25, V.ref t26, V.ref t27, V.ref t28])
  have g29 := g28.same s29
  have S29 := S28.trans s29
  have u29 := upd_same (H := H28) (a := l29) (o := .lst [V.ref t24, V.ref t25, V.ref t26, V.ref t27, V.ref t28])
  have e4 := s29 _ _ e4
  generalize upd H28 l29 (.lst [V.ref t24, V.ref t25, V.ref t26, V.ref t27, V.ref t28]) = H29 at *
  clear g28 s29 S28
  refine ⟨l23, l29, _, _, rfl, rfl, e4, u29, (by show 21 ≤ sizeLine; decide), fun l30 h30 => ?_⟩
  have s30 := same_new h30 (o := .lst [V.ref t1, V.ref t2, V.ref t3, V.ref t4, V.ref t6, V.ref t7, V.ref t8, V.ref t9, V.ref t12, V.ref t13, V.ref t14, V.ref t15, V.ref t18, V.ref t19, V.ref t20, V.ref t21, V.ref t24, V.ref t25, V.ref t26, V.ref t27, V.ref t28])
  have g30 := g29.same s30
  have S30 := S29.trans s30
  have e5 : (upd H29 l30 (.lst [V.ref t1, V.ref t2, V.ref t3, V.ref t4, V.ref t6, V.ref t7, V.ref t8, V.ref t9, V.ref t12, V.ref t13, V.ref t14, V.ref t15, V.ref t18, V.ref t19, V.ref t20, V.ref t21, V.ref t24, V.ref t25, V.ref t26, V.ref t27, V.ref t28])) l30 = some (.lst [V.ref t1, V.ref t2, V.ref t3, V.ref t4, V.ref t6, V.ref t7, V.ref t8, V.ref t9, V.ref t12, V.ref t13, V.ref t14, V.ref t15, V.ref t18, V.ref t19, V.ref t20, V.ref t21, V.ref t24, V.ref t25, V.ref t26, V.ref t27, V.ref t28]) := upd_same
  show gName 1 (.ref l30) _ (upd H29 l30 (.lst [V.ref t1, V.ref t2, V.ref t3, V.ref t4, V.ref t6, V.ref t7, V.ref t8, V.ref t9, V.ref t12, V.ref t13, V.ref t14, V.ref t15, V.ref t18, V.ref t19, V.ref t20, V.ref t21, V.ref t24, V.ref t25, V.ref t26, V.ref t27, V.ref t28])) _
  generalize upd H29 l30 (.lst [V.ref t1, V.ref t2, V.ref t3, V.ref t4, V.ref t6, V.ref t7, V.ref t8, V.ref t9, V.ref t12, V.ref t13, V.ref t14, V.ref t15, V.ref t18, V.ref t19, V.ref t20, V.ref t21, V.ref t24, V.ref t25, V.ref t26, V.ref t27, V.ref t28]) = H30 at *
  clear g29 s30 S29
  have r0 : 0 ≤ (x : Int) % 21 := Int.emod_nonneg _ (by decide)
  have r1 : (x : Int) % 21 < 21 := Int.emod_lt_of_pos _ (by decide)
  obtain ⟨j, hj, hj2⟩ : ∃ j : Nat, (x : Int) % 21 = (j : Int) ∧ j < 21 := ⟨((x : Int) % 21).toNat, by omega, by omega⟩
  have hlen : [t1, t2, t3, t4, t6, t7, t8, t9, t12, t13, t14, t15, t18, t19, t20, t21, t24, t25, t26, t27, t28].length = 21 := rfl
  have hb : [t1, t2, t3, t4, t6, t7, t8, t9, t12, t13, t14, t15, t18, t19, t20, t21, t24, t25, t26, t27, t28][j]? = some ([t1, t2, t3, t4, t6, t7, t8, t9, t12, t13, t14, t15, t18, t19, t20, t21, t24, t25, t26, t27, t28][j]'(by rw [hlen]; exact hj2)) := List.getElem?_eq_getElem _
  obtain ⟨L, n, few, turn, ea, ok⟩ := g30 _ (List.getElem_mem (by rw [hlen]; exact hj2))
  refine ⟨_, rfl, _, rfl, _, _, rfl, rfl, (by show (0 : Int) < 21; decide), l30, _, (x : Int) % 21, _, rfl, rfl, SqL.of e5, ?_, q _ L n few turn H30 S30 ea ok⟩
  rw [hj]
  refine atI_nat ?_
  show ([t1, t2, t3, t4, t6, t7, t8, t9, t12, t13, t14, t15, t18, t19, t20, t21, t24, t25, t26, t27, t28].map V.ref)[j]? = _
  rw [List.getElem?_map, hb]
  rfl
end

section
variable {X : Cx}
def rBestT (K : PySem.W.Frag) : List V → Hp → VK → Prop := fun vs H Q => ∃ (a : Addr) (ns : List Int), vs = [.ref a] ∧ SqT K H a (ns.map V.int) ∧ 0 < ns.length ∧ ∀ m, m ∈ ns → Q (.int m) H
theorem depth_allInts : ∀ ns : List Int, PyData.depthAll (ns.map PyData.int) ≤ 1
  | [] => by simp [PyData.depthAll]
  | n :: r => by
    have := depth_allInts r
    simp only [List.map_cons, PyData.depthAll, PyData.depth]
    omega
theorem alike_allInts (ns : List Int) : PySem.W.AlikeAll (ns.map PyData.int) :=
  ⟨fun x hx y hy => by
    obtain ⟨a, _, rfl⟩ := List.mem_map.mp hx
    obtain ⟨b, _, rfl⟩ := List.mem_map.mp hy
    rfl, fun x hx e => by
    obtain ⟨a, _, rfl⟩ := List.mem_map.mp hx
    cases e⟩
theorem vals_getT {vs : List V} {us : List Value} (r : Vals vs us) {i : Nat} {u : Value} (h : us[i]? = some u) : ∃ v, vs[i]? = some v ∧ RelV v u := by
  induction r generalizing i with
  | nil => simp at h
  | cons a b ih =>
    cases i with
    | zero => simp at h; subst h; exact ⟨_, rfl, a⟩
    | succ i =>
      obtain ⟨v, h1, h2⟩ := ih (i := i) (by simpa using h)
      exact ⟨v, by simpa using h1, h2⟩
theorem cr_maxT (hu : X.A.units + 200 < cLine) (hc : X.calm = true) : CallR X (.builtin "max") (rBestT X.K) := by
  intro pins s σ H vs us Q I r h
  obtain ⟨a, ns, rfl, hs, hne, q⟩ := h
  obtain ⟨its, rv, hl, _⟩ := I.tuple hs
  rw [Vals.ref1 r]
  obtain ⟨as, hra⟩ := Dp.readsAll I _ _ _ (dp_ints ns) rv
  cases ns with
  | nil => cases hne
  | cons n r0 =>
  refine PySem.W.max_tuple_data (vs := its.toArray) (x := .int n) (xs := r0.map PyData.int) (I.ok.hd hc) hl (by simpa using hra) (alike_allInts (n :: r0)) (by have := depth_allInts (n :: r0); simp only [List.map_cons] at this; omega) fun i v h' tk bs hi hrd hk => ?_
  rw [List.getElem?_toArray] at hi
  obtain ⟨x, hx, rx⟩ := vals_getT rv hi
  rw [List.getElem?_map] at hx
  cases hb : (n :: r0)[i]? with
  | none => rw [hb] at hx; cases hx
  | some m =>
  rw [hb] at hx
  cases hx
  exact ⟨_, H, I.kept (t' := tk) hk, rx, q m (List.mem_of_getElem? hb)⟩
theorem cr_minT (hu : X.A.units + 200 < cLine) (hc : X.calm = true) : CallR X (.builtin "min") (rBestT X.K) := by
  intro pins s σ H vs us Q I r h
  obtain ⟨a, ns, rfl, hs, hne, q⟩ := h
  obtain ⟨its, rv, hl, _⟩ := I.tuple hs
  rw [Vals.ref1 r]
  obtain ⟨as, hra⟩ := Dp.readsAll I _ _ _ (dp_ints ns) rv
  cases ns with
  | nil => cases hne
  | cons n r0 =>
  refine PySem.W.min_tuple_data (vs := its.toArray) (x := .int n) (xs := r0.map PyData.int) (I.ok.hd hc) hl (by simpa using hra) (alike_allInts (n :: r0)) (by have := depth_allInts (n :: r0); simp only [List.map_cons] at this; omega) fun i v h' tk bs hi hrd hk => ?_
  rw [List.getElem?_toArray] at hi
  obtain ⟨x, hx, rx⟩ := vals_getT rv hi
  rw [List.getElem?_map] at hx
  cases hb : (n :: r0)[i]? with
  | none => rw [hb] at hx; cases hx
  | some m =>
  rw [hb] at hx
  cases hx
  exact ⟨_, H, I.kept (t' := tk) hk, rx, q m (List.mem_of_getElem? hb)⟩
end
theorem roomT {k : Nat} {A : Around} (r : Room k A) : A.units + 200 < cLine := by have := r.un; omega


def sp__law_judge (P : Program) (w : World) (K : PySem.W.Frag) : Sp := fun vs H Q _ => ∃ (a : Addr) (ds : List Nat) (spot : Nat), vs = [.ref a, nI spot] ∧ SqL K H a (ds.map nI) ∧ spot + 40 ≤ ds.length ∧ ds.length ≤ 3000 ∧ ∀ v (J : JD) H', Same H H' → J.ok → Rises J.L → J.good.Pairwise (· < ·) → JAtK P w (fun b => H b = none) H' v J → Q v H'
theorem first_at : ∀ {ys : List Int} {m : Int}, m ∈ ys → ∃ j : Nat, ys[j]? = some m ∧ ∀ k : Nat, k < j → ys[k]? ≠ some m
  | y :: ys, m, h => by
    by_cases e : y = m
    · exact ⟨0, by rw [e]; rfl, fun k hk => absurd hk (Nat.not_lt_zero _)⟩
    · rcases List.mem_cons.mp h with h | h
      · exact absurd h.symm e
      · obtain ⟨j, h1, h2⟩ := first_at h
        refine ⟨j + 1, by simpa using h1, fun k hk => ?_⟩
        cases k with
        | zero => simpa using e
        | succ k => simpa using h2 k (by omega)
theorem prd_mapM {α β : Type} {F G : α → β → Prop} : ∀ {as : List α} {bs : List β}, Paired F as bs → (∀ a ∈ as, ∀ b, F a b → G a b) → Paired G as bs
  | _, _, .nil, _ => .nil
  | _, _, .cons r t, h => .cons (h _ (List.mem_cons_self) _ r) (prd_mapM t fun a ha => h a (List.mem_cons_of_mem _ ha))
def Mid58 (P : Program) (w : World) (H : Hp) (a dl r ab : Addr) (spot n few turn : Nat) (L : Str) (c : Nat) (wy : Int) (xs : List NRow) (as : List Addr) (row : List Nat) (as1 : List Addr) (rows1 : List (List Nat)) (σ : L2.St) (H' : Hp) : Prop :=
  ∃ (x : Int) (y10 : Option V), σ = [some (.ref a), some (nI spot), some (.str L), some (nI n), some (nI few), some (nI turn), some (.int wy), some (.ref dl), some (.str (ch c)), some (.ref ab), y10, some (.int x), none, none, none] ∧ H' dl = some (DictN P w dl xs) ∧ RowsN H' xs ∧ Same H H' ∧ H' r = some (.lst (as.map V.ref)) ∧ FT H' ab (row.map nI) ∧ RowsF H' as1 rows1
section
variable {P : Program} {w : World} {K : PySem.W.Frag} {mg : Str → Option Value} {base : Heap}
theorem ok__law_judge (T : Txt K mg) : FnOk P w K mg base CX0 2 T.f__law_judge T.d__law_judge ["d", "spot"] (sp__law_judge P w K) := by
  have G__law_shape : FnOk P w K mg base CX0 1 T.f__law_shape T.d__law_shape ["x"] sp__law_shape := ok__law_shape T
  have G__law_rows : FnOk P w K mg base CX0 1 T.f__law_rows T.d__law_rows ["states", "classes"] sp__law_rows := ok__law_rows T
  refine T.F__law_judge.ok sc__law_judge (fun vs H Q E h => ?_) (fun cdv A outer s H vs Q E hr h => ?_)
  · obtain ⟨a, ds, spot, rfl, _⟩ := h
    rfl
  obtain ⟨a, ds, spot, rfl, hd, hl1, hl2, q⟩ := h
  have hdat : ∀ i : Nat, i < ds.length → ∃ x : Nat, ds[i]? = some x ∧ atI (ds.map nI) (i : Int) = some (nI x) := fun i hi => by
    have e : ds[i]? = some ds[i] := List.getElem?_eq_getElem hi
    exact ⟨ds[i], e, atI_nat (by rw [List.getElem?_map, e]; rfl)⟩
  have hdS : ∀ H', Same H H' → SqL K H' a (ds.map nI) := fun H' s => by
    rcases hd with (h | ⟨o, h⟩) | h
    · exact .inl (.inl (s _ _ h))
    · exact .inl (.inr ⟨o, s _ _ h⟩)
    · exact .inr h
  refine ⟨_, (pss_cons (ps_asg (pe_call G__law_shape (hr.mono (by omega)) (by rfl) T.m__law_shape T.F__law_shape.kp T.b__law_shape .nil pass0 (pa_cons (pe_ix ix_list (pv 0) (pv 1) (fun _ _ => rfl)) pa_nil)) (pg_tup rfl (pgs_cons (pg_name (i := 2) sc__law_judge.nd rfl (Or.inl rfl)) (pgs_cons (pg_name (i := 3) sc__law_judge.nd rfl (Or.inl rfl)) (pgs_cons (pg_name (i := 4) sc__law_judge.nd rfl (Or.inl rfl)) (pgs_cons (pg_name (i := 5) sc__law_judge.nd rfl (Or.inl rfl)) pgs_nil)))))) (pss_cons (ps_set (i := 6) sc__law_judge.nd rfl (Or.inl rfl) (pe_op op_mod (pe_op op_fdivW (pe_ix ix_list (pv 0) (pv 1) (fun _ _ => rfl)) pe_int) pe_int)) (pss_cons (ps_set (i := 7) sc__law_judge.nd rfl (Or.inl rfl) pe_dnewN) (pss_cons (ps_for PassesOwn.never rfl (pi_str (pv 2)) (pg_name (i := 8) sc__law_judge.nd rfl (Or.inl rfl)) (pss_one (ps_for PassesOwn.never rfl (pi_list (pe_call G__law_rows (hr.mono (by omega)) (by rfl) T.m__law_rows T.F__law_rows.kp T.b__law_rows .nil pass0 (pa_cons (pv 3) (pa_cons (pe_op op_add (pv 4) (pv 5)) pa_nil)))) (pg_name (i := 9) sc__law_judge.nd rfl (Or.inl rfl)) (pss_cons (ps_set (i := 10) sc__law_judge.nd rfl (Or.inl rfl) (pe_callB call_lenN (by rfl) T.z_len PySem.boot_len (pa_cons (pv 7) pa_nil))) (pss_cons (ps_set (i := 11) sc__law_judge.nd rfl (Or.inl rfl) (pe_op op_fdivW (pe_ix ix_list (pv 0) (pe_op op_add (pe_op op_add (pv 1) pe_int) (pe_op op_mod (pv 10) pe_int)) (fun _ _ => rfl)) (pe_op op_add pe_int (pe_op op_fdivW (pv 10) pe_int)))) (C8.pss_cut (ps_if (pt_cmpR op_eq (pv 6) pe_int (nomark _)) (pss_cons (ps_set (i := 11) sc__law_judge.nd rfl (Or.inl rfl) (pe_ix ix_list (pv 0) (pe_op op_add (pe_op op_add (pv 1) pe_int) (pe_bm PySem.F.plainAttrs_str PySem.F.slot_str_index PySem.F.type_str_index mt_sindex (pv 2) (pa_cons (pv 8) pa_nil))) (fun _ _ => rfl))) (pss_one (ps_set (i := 11) sc__law_judge.nd rfl (Or.inl rfl) (pe_op op_add (pv 11) (pe_callB (cr_sum rfl) (by rfl) T.z_sum (by decide +kernel) (pa_cons (pe_lc (own := [("k", 10), ("one", 13)]) (g := gTup K 2 (gCons (gName 10) (gCons (gName 13) gNil))) (te := tOp _ (tOp _ (tVar 10) (tC (.int 1))) (tVar 13)) (tt := tYes) rfl sc__law_judge.nd (pi_enumT (by rfl) T.z_enumerate (pa_cons (pv 9) pa_nil)) (blkOk_by (own := [("k", 10), ("one", 13)]) (N := ["d", "spot", "letters", "states", "few", "turn", "way", "table", "letter", "row", "k", "x", "good", "one", "state"]) (sc := (defScope s__law_judge)) (by decide +kernel)) (fun _ _ _ _ _ => (pg_tup rfl (pgs_cons (pg_name (i := 10) sc__law_judge.nd rfl (Or.inl rfl)) (pgs_cons (pg_name (i := 13) sc__law_judge.nd rfl (Or.inl rfl)) pgs_nil)))) (fun _ _ _ _ _ => pts_nil) (fun _ _ _ _ _ => (pe_op op_mul (pe_op op_add (pv 10) pe_int) (pv 13)))) pa_nil)))))) pss_nil) (C8.pss_cut (ps_if (PW.pt (pw_and (pt_cmpR op_eq (pv 6) pe_int (nomark _)) (pw_and1 (pt_cmpR op_gt (pe_op op_mod (pv 11) pe_int) pe_int (nomark _))))) (pss_one (ps_set (i := 11) sc__law_judge.nd rfl (Or.inl rfl) (pe_op op_add (pe_bm PySem.F.plainAttrs_str PySem.F.slot_str_index PySem.F.type_str_index mt_sindex (pv 2) (pa_cons (pv 8) pa_nil)) (pe_callB (cr_maxT (roomT hr) rfl) (by rfl) T.z_max (by decide +kernel) (pa_cons (pv 9) pa_nil))))) pss_nil) (C8.pss_cut (ps_if (PW.pt (pw_and (pt_cmpR op_eq (pv 6) pe_int (nomark _)) (pw_and1 (pt_cmpR op_gt (pe_op op_mod (pv 11) pe_int) pe_int (nomark _))))) (pss_one (ps_set (i := 11) sc__law_judge.nd rfl (Or.inl rfl) (pe_op op_add (pe_bmF PySem.F.plainAttrs_tuple PySem.F.slot_tuple_index PySem.F.type_tuple_index mt_tup_indexI (pv 9) (pa_cons (pe_callB (cr_minT (roomT hr) rfl) (by rfl) T.z_min (by decide +kernel) (pa_cons (pv 9) pa_nil)) pa_nil)) pe_int))) pss_nil) (pss_one (ps_gh (ps_dputN (roomN hr) (pv 7) (pe_tup (pa_cons (pv 8) (pa_cons (pv 9) pa_nil))) (pe_op op_mod (pv 11) (pv 3)) rfl))))))))))) (pss_cons (ps_setLc (i := 12) (own := [("state", 14)]) (g := gName 14) (te := tVar 14) (tt := tTest (tOp rEq (tOp _ (tOp _ (tOp (rIxL K) (tVar 0) (tOp _ (tVar 1) (tC (.int 1)))) (tVar 14)) (tC (.int 1))) (tC (.int 1)))) rfl sc__law_judge.nd rfl rfl (sw_true rfl rfl rfl (by decide +kernel)) (pi_range1 (by rfl) T.z_range (pa_cons (pv 3) pa_nil)) (blkOk_by (own := [("state", 14)]) (N := ["d", "spot", "letters", "states", "few", "turn", "way", "table", "letter", "row", "k", "x", "good", "one", "state"]) (sc := (defScope s__law_judge)) (by decide +kernel)) (fun _ _ _ _ _ => (pg_name (i := 14) sc__law_judge.nd rfl (Or.inl rfl))) (fun _ _ _ _ _ => pts_one (pt_cmpR op_eq (pe_op op_and (pe_op op_shr (pe_ix ix_list (pv 0) (pe_op op_add (pv 1) pe_int) (fun _ _ => rfl)) (pv 14)) pe_int) pe_int (nomark _))) (fun _ _ _ _ _ => (pv 14))) (pss_one (ps_ret (pe_tup (pa_cons (pv 2) (pa_cons (pv 3) (pa_cons (pv 4) (pa_cons (pv 5) (pa_cons (pv 7) (pa_cons (pv 12) pa_nil)))))))))))))), ?_⟩
  obtain ⟨x0, _, hx0⟩ := hdat spot (by omega)
  refine ⟨_, rfl, _, rfl, a, _, _, _, rfl, rfl, hd, hx0, ?_⟩
  refine ⟨x0, rfl, fun t L n few turn H1 S1 ht ok => ?_⟩
  obtain ⟨hL, hri, hix, o1, o2, o3, o4, o5, h600⟩ := ok
  refine ⟨t, _, rfl, SqT.of ht, rfl, _, _, rfl, _, _, rfl, _, _, rfl, _, _, rfl, rfl, ?_⟩
  refine ⟨_, rfl, _, rfl, a, _, _, _, rfl, rfl, hdS _ S1, hx0, _, _, rfl, rfl, divW (by decide) (by decide), _, _, rfl, rfl, (by show (0 : Int) < 4; decide), fun dl hdl => ?_⟩
  have sd := same_new hdl (o := DictN P w dl [])
  have kd0 := upd_same (H := H1) (a := dl) (o := DictN P w dl [])
  have hdl0 : H dl = none := S1.free hdl
  have S2 := S1.trans sd
  obtain ⟨H2, hH2⟩ : ∃ H2, upd H1 dl (DictN P w dl []) = H2 := ⟨_, rfl⟩
  rw [hH2] at sd kd0 S2
  generalize hW : (few + turn) ^ n = W at *
  obtain ⟨l1, l26, _⟩ := id hL
  have hW6 : W ≤ 600 := Nat.le_trans (Nat.le_mul_of_pos_left W l1) h600
  have hlen : ∀ l : List Nat, (l.flatMap fun c => (rowsTo n (few + turn)).map fun r => (c, r)).length = l.length * W := by
    intro l
    induction l with
    | nil => simp
    | cons a t ih => rw [List.flatMap_cons, List.length_append, List.length_map, ih, List.length_cons, Nat.succ_mul, Nat.add_comm, rowsTo_len, hW]
  have hLl : L.cps.toList.length = L.length := Array.length_toList
  refine ⟨_, rfl, L, rfl, for_it (walk_str (z := L)) (fun i σ H' => ∃ (wy : Int) (xs : List NRow) (y8 y9 y10 y11 : Option V), σ = [some (.ref a), some (nI spot), some (.str L), some (nI n), some (nI few), some (nI turn), some (.int wy), some (.ref dl), y8, y9, y10, y11, none, none, none] ∧ H' dl = some (DictN P w dl xs) ∧ RowsN H' xs ∧ RowsB n xs ((L.cps.toList.take i).flatMap fun c => (rowsTo n (few + turn)).map fun r => (c, r)) ∧ Same H H') ⟨_, [], _, _, _, _, rfl, by rw [← hH2] at kd0; exact kd0, (fun x h => by cases h), .nil, by rw [← hH2] at S2; exact S2⟩ (fun _ _ _ _ _ => trivial) ?_ ?_⟩
  · rintro i x σ H3 H3' hi ⟨wy, xs, y8, y9, y10, y11, rfl, g1, g2, g3, g4⟩ ⟨rfl, c, hc, rfl⟩
    have hc2 : L.cps.toList[i]? = some c := by rw [Array.getElem?_toList]; exact hc
    have hi2 : i < L.length := hi
    have hiW : i * W + W ≤ 600 := by
      have := Nat.mul_le_mul_right W (show i + 1 ≤ L.length by omega)
      rw [Nat.succ_mul] at this
      omega
    refine ⟨_, rfl, _, rfl, _, rfl, _, _, rfl, rfl, n, few + turn, rfl, o2, by omega, by omega, by rw [hW]; exact hW6, fun r as H4 s4 nr4 hr4 hrows nas das => ?_⟩
    have la : as.length = W := by rw [Paired.length hrows, rowsTo_len, hW]
    have lr : (rowsTo n (few + turn)).length = W := by rw [rowsTo_len, hW]
    have hr0 : H r = none := g4.free nr4
    have ndr : r ≠ dl := fun e => by rw [← e, nr4] at g1; cases g1
    have nas0 : NewAll H as := fun b hb => g4.free (nas b hb)
    have nrd : ∀ b ∈ as, b ≠ dl := fun b hb e => by rw [← e, nas b hb] at g1; cases g1
    have nrr : ∀ b ∈ as, b ≠ r := fun b hb e => by
      obtain ⟨_, _, o, e2, _⟩ := prd_mem hrows hb
      rw [e, hr4] at e2
      cases e2
    refine ⟨r, rfl, ⟨_, SqL.of hr4⟩, for_list (xs := as.map V.ref) (fun j σ H' => ∃ (wy : Int) (xs : List NRow) (y9 y10 y11 : Option V), σ = [some (.ref a), some (nI spot), some (.str L), some (nI n), some (nI few), some (nI turn), some (.int wy), some (.ref dl), some (.str (ch c)), y9, y10, y11, none, none, none] ∧ H' dl = some (DictN P w dl xs) ∧ RowsN H' xs ∧ RowsB n xs (((L.cps.toList.take i).flatMap fun c => (rowsTo n (few + turn)).map fun r => (c, r)) ++ ((rowsTo n (few + turn)).take j).map fun r => (c, r)) ∧ Same H H' ∧ H' r = some (.lst (as.map V.ref)) ∧ RowsF H' (as.drop j) ((rowsTo n (few + turn)).drop j)) ⟨wy, xs, _, _, _, rfl, s4 _ _ g1, g2.keep (fun b ys e => s4 _ _ e), by simpa using g3, g4.trans s4, hr4, hrows⟩ (fun j σ H' _ ⟨_, _, _, _, _, _, _, _, _, _, g, _⟩ => SqL.of g) ?_ ?_⟩
    · clear g1 g2 g3 g4 hrows xs wy
      rintro j x σ H5 hx ⟨wy, xs, y9, y10, y11, rfl, g1, g2, g3, g4, g5, g6⟩
      rw [List.getElem?_map] at hx
      cases haj : as[j]? with
      | none => rw [haj] at hx; cases hx
      | some ab =>
      rw [haj] at hx
      cases hx
      have hj := (List.getElem?_eq_some_iff.mp haj).1
      have hjr : j < (rowsTo n (few + turn)).length := by rw [lr, ← la]; exact hj
      obtain ⟨row, hrow⟩ : ∃ row, (rowsTo n (few + turn))[j]? = some row := ⟨_, List.getElem?_eq_getElem hjr⟩
      have ea : as.drop j = ab :: as.drop (j + 1) := by rw [List.drop_eq_getElem_cons hj, (List.getElem?_eq_some_iff.mp haj).2]
      have er : (rowsTo n (few + turn)).drop j = row :: (rowsTo n (few + turn)).drop (j + 1) := by rw [List.drop_eq_getElem_cons hjr, (List.getElem?_eq_some_iff.mp hrow).2]
      rw [ea, er] at g6
      cases g6 with
      | cons kab g6 =>
      have lx := keys_len g3
      rw [List.length_append, hlen, List.length_map, List.length_take, List.length_take, rowsTo_len, hW, hLl] at lx
      have jW : min j W ≤ 600 := Nat.le_trans (Nat.min_le_right _ _) (by omega)
      have iW : min i L.length * W ≤ 600 := Nat.le_trans (Nat.mul_le_mul_right W (Nat.min_le_right _ _)) h600
      obtain ⟨x1, _, hx1⟩ := hdat (spot + 2 + xs.length % 38) (by have := Nat.mod_lt xs.length (show 0 < 38 by decide); omega)
      have ex1 : ((spot + 2 + xs.length % 38 : Nat) : Int) = (spot : Int) + 2 + (xs.length : Int) % 38 := by omega
      rw [ex1] at hx1
      have lx2 : xs.length ≤ 1200 := by omega
      refine ⟨_, rfl, dl, xs, rfl, g1, g2, ?_⟩
      refine ⟨_, rfl, _, rfl, _, _, rfl, rfl, _, rfl, _, _, rfl, rfl, (by show (0 : Int) < 38; decide), _, _, rfl, rfl, a, _, _, _, rfl, rfl, hdS _ g4, hx1, _, rfl, _, _, rfl, rfl, divW (by decide) (by decide), _, _, rfl, rfl, _, _, rfl, rfl, divW (by omega) (by omega), ?_⟩
      obtain ⟨rest, hocc⟩ : ∃ rest, Builtin.Str.occurrences L (ch c) 0 L.length 1 = i :: rest := by
        have h1 := of_decide_eq_true (List.all_eq_true.mp hix (c, i) (List.mem_zipIdx_iff_getElem?.mpr hc2))
        cases ho : Builtin.Str.occurrences L (ch c) 0 L.length 1 with
        | nil => rw [ho] at h1; cases h1
        | cons a b =>
          rw [ho] at h1
          cases h1
          exact ⟨b, rfl⟩
      have hi26 : i < 26 := by omega
      obtain ⟨x2, _, hx2⟩ := hdat (spot + 2 + i) (by omega)
      have ex2 : ((spot + 2 + i : Nat) : Int) = (spot : Int) + 2 + (i : Int) := by omega
      rw [ex2] at hx2
      have row6 : row.length = n := (rowsTo_mem (List.mem_of_getElem? hrow)).1
      have kI : row.map nI = (row.map fun x : Nat => (x : Int)).map V.int := nI_map row
      have rne : 0 < (row.map fun x : Nat => (x : Int)).length := by rw [List.length_map]; omega
      refine ⟨Mid58 P w H a dl r ab spot n few turn L c wy xs as row (as.drop (j + 1)) ((rowsTo n (few + turn)).drop (j + 1)), ?_, ?_⟩
      · refine ⟨_, rfl, rfl, _, rfl, ite2 (fun hh => ?_) (fun hh => ?_)⟩
        · refine ⟨_, rfl, _, rfl, _, _, rfl, rfl, _, rfl, rfl, _, rfl, L, ch c, i, rest, rfl, rfl, hocc, _, _, rfl, rfl, a, _, _, _, rfl, rfl, hdS _ g4, hx2, _, rfl, _, rfl, ab, _, rfl, kab.seq, fun D hD => ?_⟩
          refine lc_walk (len := (row.map nI).length) walk_enumT (fun m H2 => ∃ zs : List Int, H2 D = some (.lst (zs.map V.int)) ∧ zs.length ≤ m ∧ Same H5 H2) ⟨[], upd_same, Nat.le_refl _, same_new hD⟩ (fun m H2 _ ⟨_, _, _, h⟩ => (kab.keep h).seq) ?_ ?_
          · rintro m x H6 H7 hm ⟨zs, e1, e2, e3⟩ ⟨Tt, v1, rfl, hT, rfl, hv⟩
            rw [List.length_map] at hm
            rw [List.getElem?_map, List.getElem?_eq_getElem hm] at hv
            cases hv
            have sT := same_new hT (o := .tup [.int (m : Nat), nI row[m]])
            have kD := sT _ _ e1
            refine ⟨_, _, rfl, SqT.of upd_same, rfl, _, _, rfl, _, _, rfl, rfl, rfl, _, rfl, _, _, rfl, rfl, _, rfl, _, _, rfl, rfl, .inl ⟨by omega, by omega⟩, _, kD, ?_, zs ++ [((m : Int) + 1) * (row[m] : Int)], ?_, ?_, same_add (e3.trans sT) hD⟩
            · rw [List.length_map]
              exact Nat.lt_of_le_of_lt (show _ ≤ 1000000 by omega) (by decide)
            · rw [upd_same, List.map_append]
              rfl
            · rw [List.length_append, List.length_singleton]; omega
          rintro H2 ⟨zs, e1, e2, e3⟩
          refine ⟨D, zs, rfl, SqL.of e1, _, _, rfl, rfl, _, _, rfl, e3 _ _ g1, g2.keep fun b ys e => e3 _ _ e, g4.trans e3, e3 _ _ g5, kab.keep e3, RowsF.keep g6 e3⟩
        · exact ⟨_, _, rfl, g1, g2, g4, g5, kab, g6⟩
      clear g1 g2 g4 g5 g6 kab
      rintro σ H6 ⟨x, y10, rfl, g1, g2, g4, g5, kab, g6⟩
      have kT : SqT K H6 ab ((row.map fun x : Nat => (x : Int)).map V.int) := by rw [← kI]; exact kab.seq
      refine ⟨Mid58 P w H a dl r ab spot n few turn L c wy xs as row (as.drop (j + 1)) ((rowsTo n (few + turn)).drop (j + 1)), ?_, ?_⟩
      · refine ⟨_, rfl, rfl, _, rfl, ite2 (fun h1 => ⟨_, rfl, _, _, rfl, rfl, (by show (0 : Int) < 5; decide), _, _, rfl, rfl, _, rfl, ite2 (fun h2 => ?_) fun h2 => ?_⟩) fun h1 => ite2 (fun h2 => Bool.noConfusion h2) fun h2 => ?_⟩
        · exact ⟨_, rfl, rfl, _, rfl, L, ch c, i, rest, rfl, rfl, hocc, _, rfl, ab, _, rfl, kT, rne, fun m hm => ⟨_, _, rfl, rfl, _, _, rfl, g1, g2, g4, g5, kab, g6⟩⟩
        · exact ⟨_, _, rfl, g1, g2, g4, g5, kab, g6⟩
        · exact ⟨_, _, rfl, g1, g2, g4, g5, kab, g6⟩
      clear g1 g2 g4 g5 g6 kab kT
      rintro σ H6 ⟨x, y10, rfl, g1, g2, g4, g5, kab, g6⟩
      have kT : SqT K H6 ab ((row.map fun x : Nat => (x : Int)).map V.int) := by rw [← kI]; exact kab.seq
      refine ⟨Mid58 P w H a dl r ab spot n few turn L c wy xs as row (as.drop (j + 1)) ((rowsTo n (few + turn)).drop (j + 1)), ?_, ?_⟩
      · refine ⟨_, rfl, rfl, _, rfl, ite2 (fun h1 => ⟨_, rfl, _, _, rfl, rfl, (by show (0 : Int) < 3; decide), _, _, rfl, rfl, _, rfl, ite2 (fun h2 => ?_) fun h2 => ?_⟩) fun h1 => ite2 (fun h2 => Bool.noConfusion h2) fun h2 => ?_⟩
        · refine ⟨_, rfl, ⟨ab, _, rfl, kab⟩, _, rfl, ab, _, rfl, kT, rne, fun m hm => ?_⟩
          obtain ⟨j2, e1, e2⟩ := first_at hm
          exact ⟨ab, _, m, j2, rfl, rfl, kT, e1, e2, _, _, rfl, rfl, _, _, rfl, g1, g2, g4, g5, kab, g6⟩
        · exact ⟨_, _, rfl, g1, g2, g4, g5, kab, g6⟩
        · exact ⟨_, _, rfl, g1, g2, g4, g5, kab, g6⟩
      clear g1 g2 g4 g5 g6 kab kT
      rintro σ H6 ⟨x, y10, rfl, g1, g2, g4, g5, kab, g6⟩
      obtain ⟨ob, eo, ed⟩ := kab
      have hab := List.mem_of_getElem? haj
      refine ⟨upd H6 ab (.tup (row.map nI)), gh_melt eo (nas0 ab hab), ?_⟩
      have keepT : ∀ b ys, H6 b = some (.tup ys) → upd H6 ab (.tup (row.map nI)) b = some (.tup ys) := fun b ys e => by
        rw [upd_ne (fun z => by rw [z, eo] at e; cases e)]
        exact e
      have k1 : upd H6 ab (.tup (row.map nI)) dl = some (DictN P w dl xs) := by rw [upd_ne (nrd ab hab).symm]; exact g1
      have k2 : RowsN (upd H6 ab (.tup (row.map nI))) xs := g2.keep keepT
      have k4 : Same H (upd H6 ab (.tup (row.map nI))) := same_add g4 (nas0 ab hab)
      have k5 : upd H6 ab (.tup (row.map nI)) r = some (.lst (as.map V.ref)) := by rw [upd_ne (nrr ab hab).symm]; exact g5
      have k6 : RowsF (upd H6 ab (.tup (row.map nI))) (as.drop (j + 1)) ((rowsTo n (few + turn)).drop (j + 1)) := prd_mapM g6 fun b hb rw0 ⟨o, e, d⟩ => ⟨o, by
        rw [upd_ne (fun z => ?_)]
        · exact e
        · have dn := das.sublist (List.drop_sublist j as)
          rw [ea] at dn
          rw [z] at hb
          exact (List.nodup_cons.mp dn).1 hb, d⟩
      have k7 : upd H6 ab (.tup (row.map nI)) ab = some (.tup (row.map nI)) := upd_same
      generalize upd H6 ab (.tup (row.map nI)) = H7 at *
      clear g1 g2 g4 g5 g6 eo ed ob keepT
      obtain ⟨v, hvn, ev⟩ : ∃ v : Nat, v < n ∧ x % (n : Int) = (v : Int) := by
        have m0 : 0 ≤ x % (n : Int) := Int.emod_nonneg _ (by omega)
        have m1 : x % (n : Int) < (n : Int) := Int.emod_lt_of_pos _ (by omega)
        exact ⟨(x % (n : Int)).toNat, by omega, by omega⟩
      refine ⟨_, rfl, _, rfl, _, _, rfl, rfl, (by show (0 : Int) < (n : Int); omega), _, rfl, _, rfl, _, rfl, (by show 2 ≤ sizeLine; decide), fun b2 hb2 => ?_⟩
      have s2 := same_new (o := .tup [.str (ch c), V.ref ab]) hb2
      have kb2 := upd_same (H := H7) (a := b2) (o := .tup [.str (ch c), V.ref ab])
      have hd3 := s2 _ _ k1
      have rn3 : RowsN _ xs := k2.keep fun b ys e => s2 b _ e
      have k12 := s2 _ _ k7
      have s3 := k4.trans s2
      have r3 := s2 _ _ k5
      have f3 := RowsF.keep k6 s2
      generalize upd H7 b2 (.tup [.str (ch c), V.ref ab]) = H8 at *
      have fresh : ∀ x ∈ xs, x.1 ≠ keyN c row := fun x hx e => by
        obtain ⟨key, hm, e1, _⟩ := prd_mem g3 hx
        rw [e1] at e
        obtain ⟨e2, e3⟩ := keyN_inj e
        rcases List.mem_append.mp hm with hm | hm
        · simp only [List.mem_flatMap, List.mem_map] at hm
          obtain ⟨c0, hc0, r0, _, rfl⟩ := hm
          exact ahead_ne (hri.imp fun h => Nat.ne_of_lt h) hc2 c0 hc0 e2
        · simp only [List.mem_map] at hm
          obtain ⟨r0, hr0, rfl⟩ := hm
          exact ahead_ne (rowsTo_nd (few + turn) n) hrow r0 hr0 e3
      have tk := fun b ys e => upd_tupN (o := DictN P w dl (storedN xs (keyN c row) b2 (V.int (x % (n : Int))))) hd3 b ys e
      refine ⟨dl, b2, xs, keyN c row, rfl, rfl, hd3, rn3, nk_key kb2 k12, keyN_depth c row, Nat.lt_of_le_of_lt (show _ ≤ 1000000 by omega) (by decide), ?_⟩
      show ∃ (wy : Int) (zs1 : List NRow) (y9 y10 y11 : Option V), _ ∧ (upd H8 dl (DictN P w dl (storedN xs (keyN c row) b2 (V.int (x % (n : Int)))))) dl = some (DictN P w dl zs1) ∧ _
      rw [storedN_new fresh] at tk ⊢
      refine ⟨_, _, _, _, _, rfl, upd_same, ?_, ?_, same_add s3 hdl0, by rw [upd_ne ndr]; exact r3, prd_mapM f3 fun b hb _ ⟨o, e, d⟩ => ⟨o, by rw [upd_ne (nrd b (List.mem_of_mem_drop hb))]; exact e, d⟩⟩
      · intro x hx
        rcases List.mem_append.mp hx with hx | hx
        · exact (rn3.keep tk) x hx
        · rw [List.mem_singleton.mp hx]
          exact ⟨nk_key (tk _ _ kb2) (tk _ _ k12), keyN_depth c row⟩
      · rw [take_succ_of hrow, List.map_append, ← List.append_assoc]
        exact prd_app g3 (.cons ⟨rfl, v, hvn, by rw [ev]⟩ .nil)
    · rintro σ H9 ⟨wy, xs, y9, y10, y11, rfl, g1, g2, g3, g4, g5, g6⟩
      rw [List.length_map, la, ← lr, List.take_length] at g3
      refine ⟨wy, xs, _, _, _, _, rfl, g1, g2, ?_, g4⟩
      rw [flat_take _ hc2]
      exact g3
  rintro σ H7 ⟨wy, xs, y8, y9, y10, y11, rfl, g1, g2, g3, g4⟩
  have whole : L.cps.toList.take L.cps.size = L.cps.toList := by rw [← Array.length_toList, List.take_length]
  rw [whole] at g3
  have g3 : RowsB n xs (keysOf L n (few + turn)) := g3
  have knd := keysOf_nd hri n (few + turn)
  obtain ⟨fs, rj, flt⟩ := rows_fun g3 knd
  obtain ⟨x3, _, hx3⟩ := hdat (spot + 1) (by omega)
  have ex3 : ((spot + 1 : Nat) : Int) = (spot : Int) + 1 := by omega
  rw [ex3] at hx3
  refine ⟨_, rfl, n, rfl, by omega, by omega, fun D3 hD3 => ?_⟩
  have hD30 : H D3 = none := g4.free hD3
  refine lc_range (lo := 0) (n := n) (fun i H' => ∃ gs : List Nat, H' D3 = some (.lst (gs.map nI)) ∧ gs.Pairwise (· < ·) ∧ (∀ g ∈ gs, g < i) ∧ gs.length ≤ i ∧ Same H7 H') ⟨[], upd_same, .nil, (fun _ h => by cases h), Nat.le_refl _, same_new hD3⟩ ?_ ?_
  · rintro i H22 hi ⟨gs, k1, k2, k3, k4, k5⟩
    refine ⟨rfl, _, rfl, _, rfl, _, _, rfl, rfl, a, _, _, _, rfl, rfl, hdS _ (g4.trans k5), hx3, _, rfl, _, _, rfl, rfl, (by show (0 : Int) ≤ 0 + (i : Int); omega), _, _, rfl, rfl, rfl, _, rfl, ite2 (fun hh => ?_) (fun hh => ?_)⟩
    · have e0 : V.int (0 + (i : Int)) = nI i := by rw [Int.zero_add]
      refine ⟨_, rfl, _, k1, ?_, gs ++ [i], ?_, ?_, ?_, by rw [List.length_append]; simp; omega, same_add k5 hD3⟩
      · rw [List.length_map]
        exact Nat.lt_of_le_of_lt (show _ ≤ 1000000 by omega) (by decide)
      · rw [upd_same, e0, List.map_append]
        rfl
      · rw [List.pairwise_append]
        refine ⟨k2, List.pairwise_singleton _ _, fun a ha b hb => ?_⟩
        rw [List.mem_singleton.mp hb]
        exact k3 a ha
      · intro g hg
        rcases List.mem_append.mp hg with hg | hg
        · have := k3 g hg; omega
        · rw [List.mem_singleton.mp hg]; omega
    · exact ⟨gs, k1, k2, (fun g hg => by have := k3 g hg; omega), by omega, k5⟩
  rintro H8 ⟨gs, k1, k2, k3, k4, k5⟩
  have hd8 := k5 _ _ g1
  have rn8 : RowsN H8 xs := g2.keep fun b ys e => k5 b _ e
  refine ⟨_, rfl, _, rfl, _, rfl, _, rfl, _, rfl, _, rfl, (by show 6 ≤ sizeLine; decide), fun j hj => ?_⟩
  have sj := same_new hj (o := .tup [.str L, nI n, nI few, nI turn, .ref dl, .ref D3])
  have hok : (JD.mk L n few turn fs gs).ok := ⟨hL, o1, o2, o3, o4, o5, by show L.length * (few + turn) ^ n ≤ 600; rw [hW]; exact h600, fun key hk => flt key hk, by show gs.length ≤ 6; omega, fun g hg => k3 g hg⟩
  exact q _ ⟨L, n, few, turn, fs, gs⟩ _ ((g4.trans k5).trans sj) hok hri k2 ⟨j, dl, D3, xs, rfl, upd_same, sj _ _ hd8, rn8.keep fun b ys e => sj _ _ e, rj, sj _ _ k1, hD30⟩
end

theorem pick_every (items : Array Value) {lo : Option Int} {a k : Nat} (hl : (lo = none ∧ a = 0) ∨ lo = some (a : Int)) (hk : 1 ≤ k) (ha : a ≤ items.size) : slicePick items lo none (some (k : Int)) = (everyV k a items.toList).toArray := by
  have hb : sliceBounds lo none (some (k : Int)) items.size = ((a : Int), (items.size : Int), (k : Int)) := by
    rcases hl with ⟨rfl, rfl⟩ | rfl
    · unfold sliceBounds
      have h1 : (k : Int) > 0 := by omega
      simp [h1]
      exact ⟨fun h => by omega, by omega⟩
    · unfold sliceBounds
      have h1 : (k : Int) > 0 := by omega
      simp [h1]
      omega
  unfold slicePick everyV
  rw [hb, Array.length_toList]
  dsimp only
  have e : sliceRange (a : Int) (items.size : Int) (k : Int) = (List.range (if a < items.size then (items.size - a - 1) / k + 1 else 0)).map fun m => a + m * k := by
    unfold sliceRange
    have h1 : (k : Int) > 0 := by omega
    have h2 : (if (k : Int) > 0 then (if (a : Int) < (items.size : Int) then ((items.size : Int) - (a : Int) + (k : Int) - 1) / (k : Int) else 0) else (if (a : Int) > (items.size : Int) then ((a : Int) - (items.size : Int) - (k : Int) - 1) / (-(k : Int)) else 0)) = ((if a < items.size then (items.size - a - 1) / k + 1 else 0 : Nat) : Int) := by
      rw [if_pos h1]
      by_cases h : a < items.size
      · rw [if_pos (by omega), if_pos h]
        have e3 : (items.size : Int) - (a : Int) + (k : Int) - 1 = ((items.size - a - 1 : Nat) : Int) + 1 * (k : Int) := by omega
        rw [e3, Int.add_mul_ediv_right _ _ (by omega)]
        push_cast
        rfl
      · rw [if_neg (by omega), if_neg h]
        rfl
    dsimp only
    rw [h2, Int.toNat_natCast]
    refine List.map_congr_left fun m _ => ?_
    show ((a : Int) + (k : Int) * (m : Int)).toNat = a + m * k
    rw [← Int.natCast_mul, ← Int.natCast_add, Int.toNat_natCast, Nat.mul_comm]
  rw [e, List.filterMap_map]
  refine congrArg List.toArray ?_
  congr 1
  funext m
  show items[a + m * k]? = items.toList[a + m * k]?
  rw [Array.getElem?_toList]
def tStepE (K : PySem.W.Frag) (te : TE) (tl : TO) (tg : TE) : TE := fun σ H Q => te σ H fun x H1 => tl σ H1 fun lo H2 => tPart tg σ H2 fun o H3 => ∃ (p : Addr) (xs : List V) (a k : Nat), x = .ref p ∧ ((lo = none ∧ a = 0) ∨ lo = some (a : Int)) ∧ o = some (k : Int) ∧ SqL K H3 p xs ∧ 1 ≤ k ∧ a ≤ xs.length ∧ ∀ q, H3 q = none → Q (.ref q) (upd H3 q (.lst (everyV k a xs)))
theorem pe_stepE {X : Cx} {e g : PySem.Expr} {lo : Option PySem.Expr} {te tg : TE} {tl : TO} {p3 pos : Pos} (he : PE X e te) (hl : PO X lo tl) (hg : PE X g tg) : PE X (.Subscript e (.Slice lo none (some g) p3) pos) (tStepE X.K te tl tg) := by
  constructor
  intro pins s σ H Q I h
  refine Subscript_ (thn (he.run pins s σ H _ I h) fun v s1 ⟨x, H1, I1, ra, q1⟩ => ?_)
  refine wpAny_Slice (thn (hl.run pins s1 σ H1 _ I1 q1) fun vl s2 ⟨l, H2, I2, pl, q2⟩ => ?_)
  refine thn (po_none.run pins s2 σ H2 (fun y H3 => y = none ∧ H3 = H2) I2 ⟨rfl, rfl⟩) fun vu s3 ⟨u, H3, I3, pu, eu, e3⟩ => ?_
  subst eu e3
  refine thn ((po_some hg).run pins s3 σ H3 _ I3 q2) fun vs s4 ⟨o, H4, I4, ps, p, xs, a, k, ex, el, eo, hx, hk, ha, q⟩ => ?_
  subst ex eo
  cases ra
  have J : Inv X pins σ H4 { s4 with heap := s4.heap.push { cls := .type "slice", data := .fields #[vl, vu, vs] } } := I4.kept (t' := s4.toks) fun b ob q => Heap.get?_push_of_some _ q
  obtain ⟨its, r, ht, hz⟩ := J.list hx
  have hlen := r.length
  show wpAny (model X.prog X.w) X.A (subscriptTail e (.Slice lo none (some g) p3) (.ref p) (.ref s4.heap.objs.size)) (EP X pins σ Q) X.xe { s4 with heap := s4.heap.push { cls := .type "slice", data := .fields #[vl, vu, vs] } }
  refine tail_any (ops := [.ref p, .ref s4.heap.objs.size]) ht.isList.typeIs (PySem.slot_list_getitem.lookup) ?_ (by with_unfolding_all rfl)
  refine wpAny_getItem_list_slice ht.isList (Heap.IsSliceOf.new _ vl vu vs) pl pu ps (by simp; omega) ?_ (by rw [List.size_toArray]; omega)
  rw [pick_every _ el hk (by rw [List.size_toArray, ← hlen]; exact ha)]
  have few : (everyV k a xs).length ≤ xs.length := by
    unfold everyV
    refine Nat.le_trans (List.length_filterMap_le _ _) ?_
    rw [List.length_range]
    split
    · have : (xs.length - a - 1) / k ≤ xs.length - a - 1 := Nat.div_le_self _ _
      omega
    · omega
  exact ⟨.ref _, _, J.laid (t' := s4.toks) (o := .lst (everyV k a xs)) (fun b ob q => Heap.get?_push_of_some _ q) (Nat.le_refl _) ⟨Nat.le_trans few hz, _, 0, vals_every r k a, Heap.get?_push_size _ rfl⟩, rfl, q _ (J.hok.fresh (Nat.le_refl _))⟩
theorem everyV_get {α : Type} {k a : Nat} (hk : 1 ≤ k) (xs : List α) (m : Nat) : (everyV k a xs)[m]? = xs[a + m * k]? := by
  unfold everyV
  have full : ∀ n, (∀ m, m < n → a + m * k < xs.length) → (List.range n).filterMap (fun m => xs[a + m * k]?) = (List.range n).filterMap (fun m => xs[a + m * k]?) ∧ ((List.range n).filterMap (fun m => xs[a + m * k]?)).length = n ∧ ∀ m, m < n → ((List.range n).filterMap (fun m => xs[a + m * k]?))[m]? = xs[a + m * k]? := by
    intro n
    induction n with
    | zero => intro _; exact ⟨rfl, rfl, fun m h => absurd h (Nat.not_lt_zero _)⟩
    | succ n ih =>
      intro h
      obtain ⟨_, h2, h3⟩ := ih fun m hm => h m (by omega)
      have hn := h n (Nat.lt_succ_self _)
      have hx : xs[a + n * k]? = some xs[a + n * k] := List.getElem?_eq_getElem hn
      refine ⟨rfl, ?_, fun m hm => ?_⟩
      · rw [List.range_succ, List.filterMap_append, List.length_append, h2, List.filterMap_cons, hx]
        rfl
      · rw [List.range_succ, List.filterMap_append]
        by_cases e : m < n
        · rw [List.getElem?_append_left (by rw [h2]; exact e)]
          exact h3 m e
        · have e2 : m = n := by omega
          subst e2
          rw [List.getElem?_append_right (by rw [h2]; exact Nat.le_refl _), h2, Nat.sub_self, List.filterMap_cons, hx]
          rfl
  by_cases ha : a < xs.length
  · rw [if_pos ha]
    have bound : ∀ m, m < (xs.length - a - 1) / k + 1 → a + m * k < xs.length := fun m hm => by
      have h1 : m ≤ (xs.length - a - 1) / k := by omega
      have h2 : m * k ≤ xs.length - a - 1 := (Nat.le_div_iff_mul_le (by omega)).mp h1
      omega
    obtain ⟨_, h2, h3⟩ := full _ bound
    by_cases hm : m < (xs.length - a - 1) / k + 1
    · exact h3 m hm
    · rw [List.getElem?_eq_none (by rw [h2]; omega)]
      have : (xs.length - a - 1) / k < m := by omega
      have h4 : xs.length - a - 1 < m * k := (Nat.div_lt_iff_lt_mul (by omega)).mp this
      rw [List.getElem?_eq_none (by omega)]
  · rw [if_neg ha]
    rw [List.getElem?_eq_none (by simp), List.getElem?_eq_none (by omega)]
theorem every2_cons {α : Type} (x y : α) (r : List α) : everyV 2 0 (x :: y :: r) = x :: everyV 2 0 r ∧ everyV 2 1 (x :: y :: r) = y :: everyV 2 1 r := by
  constructor
  · refine List.ext_getElem? fun m => ?_
    rw [everyV_get (by decide)]
    cases m with
    | zero => rfl
    | succ m =>
      rw [List.getElem?_cons_succ, everyV_get (by decide), show 0 + (m + 1) * 2 = (0 + m * 2) + 1 + 1 by omega, List.getElem?_cons_succ, List.getElem?_cons_succ]
  · refine List.ext_getElem? fun m => ?_
    rw [everyV_get (by decide)]
    cases m with
    | zero => rfl
    | succ m =>
      rw [List.getElem?_cons_succ, everyV_get (by decide), show 1 + (m + 1) * 2 = (1 + m * 2) + 1 + 1 by omega, List.getElem?_cons_succ, List.getElem?_cons_succ]
theorem every2_perm {α : Type} : ∀ xs : List α, xs.Perm (everyV 2 0 xs ++ everyV 2 1 xs)
  | [] => .nil
  | [x] => by
    have e : everyV 2 0 [x] ++ everyV 2 1 [x] = [x] := by simp [everyV]
    rw [e]
  | x :: y :: r => by
    obtain ⟨e1, e2⟩ := every2_cons x y r
    rw [e1, e2]
    exact ((every2_perm r).cons y |>.trans (List.perm_middle.symm)).cons x


theorem roomP {k : Nat} {A : Around} (r : Room k A) : A.units + 12 < cLine := by have := r.un; omega
theorem rowsJ_nd {fs : Nat → List Nat → Nat} : ∀ {xs : List NRow} {keys : List (Nat × List Nat)}, RowsJ xs keys fs → keys.Pairwise (· ≠ ·) → (xs.map (·.1)).Nodup := by
  intro xs keys h nd
  have e : xs.map (·.1) = keys.map fun key => keyN key.1 key.2 := by
    unfold RowsJ at h
    induction h with
    | nil => rfl
    | cons h1 _ ih => rw [List.map_cons, List.map_cons, h1.1, ih (List.pairwise_cons.mp nd).2]
  rw [e]
  unfold List.Nodup
  rw [List.pairwise_map]
  refine nd.imp fun {a b} hab e => hab ?_
  obtain ⟨e1, e2⟩ := keyN_inj e
  exact Prod.ext e1 e2
def Mid58k (j ql d g : Addr) (H : Hp) (x : Nat) (xs : List NRow) (σ : L2.St) (H' : Hp) : Prop :=
  ∃ (y3 : Option V) (ql : Addr) (ys : List NRow), σ = [some (.ref j), some (nI x), some (.ref ql), y3, none] ∧ H' ql = some (.lst (ys.map fun x => V.ref x.2.1)) ∧ xs.Perm ys ∧ Same H H'
def sp__law_laid (P : Program) (w : World) : Sp := fun vs H Q _ => ∃ (v : V) (x : Nat) (J : JD) (ok : Addr → Prop), vs = [v, nI x] ∧ JAtO P w ok H v J ∧ J.ok ∧ Rises J.L ∧ ∀ u H', Same H H' → JAtO P w (fun b => H b = none) H' u J → Q u H'
section
variable {P : Program} {w : World} {K : PySem.W.Frag} {mg : Str → Option Value} {base : Heap}
theorem ok__law_laid (T : Txt K mg) : FnOk P w K mg base CX0 1 T.f__law_laid T.d__law_laid ["judge", "x"] (sp__law_laid P w) := by
  refine T.F__law_laid.ok sc__law_laid (fun vs H Q E h => ?_) (fun cdv A outer s H vs Q E hr h => ?_)
  · obtain ⟨v, x, J, ok, rfl, _⟩ := h
    rfl
  obtain ⟨v, x, J, ok, rfl, hJ, hok, hR, q⟩ := h
  refine ⟨_, (pss_cons (ps_set (i := 2) sc__law_laid.nd rfl (Or.inl rfl) (pe_callTy (call_listN rfl) (by rfl) T.z_list (by decide +kernel) (pa_cons (pe_ix ix_tup (pv 0) pe_int (fun _ _ => rfl)) pa_nil))) (C8.pss_cut (ps_set (i := 3) sc__law_laid.nd rfl (Or.inl rfl) (pe_op op_mod (pv 1) (pe_callB call_len_seq (by rfl) T.z_len PySem.boot_len (pa_cons (pv 2) pa_nil)))) (pss_cons (ps_set (i := 2) sc__law_laid.nd rfl (Or.inl rfl) (pe_op op_cat (pe_slice sl_list (pv 2) (po_some (pv 3)) po_none) (pe_slice sl_list (pv 2) po_none (po_some (pv 3))))) (C8.pss_cut (ps_if (pt_cmpR op_eq (pe_op op_mod (pe_op op_fdivW (pv 1) pe_int) pe_int) pe_int (nomark _)) (pss_one (ps_set (i := 2) sc__law_laid.nd rfl (Or.inl rfl) (pe_revL (pv 2)))) pss_nil) (C8.pss_cut (ps_if (pt_cmpR op_eq (pe_op op_mod (pe_op op_fdivW (pv 1) pe_int) pe_int) pe_int (nomark _)) (pss_one (ps_set (i := 2) sc__law_laid.nd rfl (Or.inl rfl) (pe_op op_cat (pe_stepE (pv 2) po_none pe_int) (pe_stepE (pv 2) (po_some pe_int) pe_int)))) pss_nil) (pss_one (ps_ret (pe_op op_catT (pe_slice sl_tup (pv 0) po_none (po_some pe_int)) (pe_tup (pa_cons (pe_callTy (call_dictP rfl (roomP hr)) (by rfl) T.z_dict (by decide +kernel) (pa_cons (pe_lc (own := [("key", 4)]) (g := gName 4) (te := tTup (tCons (tVar 4) (tCons (tDGetN P w (tOp (rIxT K) (tVar 0) (tC (.int 4))) (tVar 4)) tNil))) (tt := tYes) rfl sc__law_laid.nd (pi_list (pv 2)) (blkOk_by (own := [("key", 4)]) (N := ["judge", "x", "keys", "at", "key"]) (sc := (defScope s__law_laid)) (by decide +kernel)) (fun _ _ _ _ _ => (pg_name (i := 4) sc__law_laid.nd rfl (Or.inl rfl))) (fun _ _ _ _ _ => pts_nil) (fun _ _ _ _ _ => (pe_tup (pa_cons (pv 4) (pa_cons (pe_dgetN (roomN hr) (pe_ix ix_tup (pv 0) pe_int (fun _ _ => rfl)) (pv 4) (fun _ _ => rfl)) pa_nil))))) pa_nil)) (pa_cons (pe_callTy call_list_of (by rfl) T.z_list (by decide +kernel) (pa_cons (pe_ix ix_tup (pv 0) pe_int (fun _ _ => rfl)) pa_nil)) pa_nil))))))))))), ?_⟩
  obtain ⟨j, d, g, xs, keys, rfl, hj, hd, hrn, hrj, hper, hg, _⟩ := hJ
  have knd : keys.Pairwise (· ≠ ·) := (hper.pairwise_iff (fun {a b} h e => h e.symm)).mpr (keysOf_nd hR _ _)
  have xnd := rowsJ_nd hrj knd
  have lx : xs.length = J.L.length * (J.few + J.turn) ^ J.n := by
    rw [Paired.length hrj, hper.length_eq]
    unfold JD.keys
    rw [keysOf_len]
  have l1 : 1 ≤ xs.length := by
    rw [lx]
    exact Nat.mul_pos hok.L.1 (Nat.pow_pos (by have := hok.t1; omega))
  have l600 : xs.length ≤ 600 := by rw [lx]; exact hok.h600
  refine ⟨_, rfl, j, _, 4, .ref d, rfl, rfl, SqT.of hj, at_of (j := 4) rfl rfl, d, xs, rfl, hd, fun ql hql => ?_⟩
  have sq := same_new hql (o := .lst (xs.map fun x => V.ref x.2.1))
  have kq := upd_same (H := H) (a := ql) (o := .lst (xs.map fun x => V.ref x.2.1))
  generalize upd H ql (.lst (xs.map fun x => V.ref x.2.1)) = H1 at *
  have lq : (xs.map fun x => V.ref x.2.1).length = xs.length := List.length_map _
  refine ⟨fun σ' H' => ∃ a0 : Nat, a0 ≤ xs.length ∧ σ' = [some (.ref j), some (nI x), some (.ref ql), some (nI a0), none] ∧ H' = H1, ?_, ?_⟩
  · refine ⟨_, rfl, _, rfl, ql, _, rfl, .inl (SqL.of kq), _, _, rfl, rfl, by rw [lq]; omega, x % xs.length, Nat.le_of_lt (Nat.mod_lt _ l1), ?_, rfl⟩
    have e : (x : Int) % (((xs.map fun x => V.ref x.2.1).length : Nat) : Int) = ((x % xs.length : Nat) : Int) := by rw [lq]; omega
    exact congrArg (fun z : Int => [some (V.ref j), some (nI x), some (V.ref ql), some (V.int z), none]) e
  rintro σ' H1' ⟨at0, ha0, rfl, rfl⟩
  have la0 : at0 ≤ (xs.map fun x => V.ref x.2.1).length := by rw [lq]; omega
  refine ⟨_, rfl, _, rfl, _, rfl, ql, _, rfl, SqL.of kq, fun c1 hc1 => ?_⟩
  rw [cut_lo la0]
  have s1 := same_new hc1 (o := .lst ((xs.map fun x => V.ref x.2.1).drop at0))
  have k1 := upd_same (H := H1') (a := c1) (o := .lst ((xs.map fun x => V.ref x.2.1).drop at0))
  generalize upd H1' c1 (.lst ((xs.map fun x => V.ref x.2.1).drop at0)) = H3 at *
  refine ⟨_, rfl, _, rfl, _, rfl, ql, _, rfl, SqL.of (s1 _ _ kq), fun c2' hc2 => ?_⟩
  rw [cut_hi la0]
  have s2 := same_new hc2 (o := .lst ((xs.map fun x => V.ref x.2.1).take at0))
  have k2 := upd_same (H := H3) (a := c2') (o := .lst ((xs.map fun x => V.ref x.2.1).take at0))
  generalize upd H3 c2' (.lst ((xs.map fun x => V.ref x.2.1).take at0)) = H4 at *
  refine ⟨c1, c2', _, _, rfl, rfl, s2 _ _ k1, k2, ?_, fun c3 hc3 => ?_⟩
  · rw [List.length_drop, List.length_take, lq]
    exact Nat.le_of_lt (Nat.lt_of_le_of_lt (show _ ≤ 1000000 by omega) (by decide))
  rw [← List.map_drop, ← List.map_take, ← List.map_append]
  have s3 := same_new hc3 (o := .lst ((xs.drop at0 ++ xs.take at0).map fun x => V.ref x.2.1))
  have k3 := upd_same (H := H4) (a := c3) (o := .lst ((xs.drop at0 ++ xs.take at0).map fun x => V.ref x.2.1))
  generalize upd H4 c3 (.lst ((xs.drop at0 ++ xs.take at0).map fun x => V.ref x.2.1)) = H5 at *
  have rot : xs.Perm (xs.drop at0 ++ xs.take at0) := by
    have := List.perm_append_comm (l₁ := xs.take at0) (l₂ := xs.drop at0)
    rwa [List.take_append_drop] at this
  have S5 := sq.trans ((s1.trans s2).trans s3)
  generalize (xs.drop at0 ++ xs.take at0) = ys at *
  clear s1 s2 s3 k1 k2 sq kq hc1 hc2 hc3
  refine ⟨Mid58k j ql d g H x xs, ?_, ?_⟩
  · refine ⟨_, rfl, _, _, rfl, rfl, divW (by decide) (by decide), _, _, rfl, rfl, (by show (0 : Int) < 2; decide), rfl, _, rfl, ite2 (fun k1 => ?_) (fun k1 => ?_)⟩
    · refine ⟨_, rfl, c3, _, rfl, SqL.of k3, fun e1 he1 => ⟨_, e1, ys.reverse, rfl, by rw [upd_same, List.map_reverse], rot.trans (List.reverse_perm _).symm, S5.trans (same_new he1)⟩⟩
    · exact ⟨_, c3, ys, rfl, k3, rot, S5⟩
  clear k3 rot S5
  rintro σ' H6 ⟨y3, c4, zs, rfl, k4, p4, S6⟩
  have lz : zs.length = xs.length := p4.length_eq.symm
  have lzm : (zs.map fun x => V.ref x.2.1).length = xs.length := by rw [List.length_map, lz]
  refine ⟨Mid58k j ql d g H x xs, ?_, ?_⟩
  · refine ⟨_, rfl, _, _, rfl, rfl, divW (by decide) (by decide), _, _, rfl, rfl, (by show (0 : Int) < 3; decide), rfl, _, rfl, ite2 (fun k1 => ?_) (fun k1 => ?_)⟩
    · have evl := (every2_perm (zs.map fun x => V.ref x.2.1)).length_eq
      rw [List.length_append, lzm] at evl
      refine ⟨_, rfl, _, rfl, c4, _, 0, 2, rfl, .inl ⟨rfl, rfl⟩, rfl, SqL.of k4, by decide, Nat.zero_le _, fun e2 he2 => ?_⟩
      have t2 := same_new he2 (o := .lst (everyV 2 0 (zs.map fun x => V.ref x.2.1)))
      have w2 := upd_same (H := H6) (a := e2) (o := .lst (everyV 2 0 (zs.map fun x => V.ref x.2.1)))
      generalize upd H6 e2 (.lst (everyV 2 0 (zs.map fun x => V.ref x.2.1))) = H7 at *
      refine ⟨_, rfl, _, rfl, _, rfl, c4, _, 1, 2, rfl, .inr rfl, rfl, SqL.of (t2 _ _ k4), by decide, by omega, fun e3 he3 => ?_⟩
      have t3 := same_new he3 (o := .lst (everyV 2 1 (zs.map fun x => V.ref x.2.1)))
      have w3 := upd_same (H := H7) (a := e3) (o := .lst (everyV 2 1 (zs.map fun x => V.ref x.2.1)))
      generalize upd H7 e3 (.lst (everyV 2 1 (zs.map fun x => V.ref x.2.1))) = H8 at *
      refine ⟨e2, e3, _, _, rfl, rfl, t3 _ _ w2, w3, ?_, fun e4 he4 => ?_⟩
      · exact Nat.le_of_lt (Nat.lt_of_le_of_lt (show _ ≤ 1000000 by omega) (by decide))
      exact ⟨_, e4, everyV 2 0 zs ++ everyV 2 1 zs, rfl, by rw [upd_same, everyV_map, everyV_map, List.map_append], p4.trans (every2_perm zs), ((S6.trans t2).trans t3).trans (same_new he4)⟩
    · exact ⟨_, c4, zs, rfl, k4, p4, S6⟩
  clear k4 p4 S6 lz lzm zs
  rintro σ' H6 ⟨y3, c4, zs, rfl, k4, p4, S6⟩
  have lz : zs.length = xs.length := p4.length_eq.symm
  have znd : (zs.map (·.1)).Nodup := (p4.map _).nodup_iff.mp xnd
  refine ⟨_, rfl, _, rfl, j, _, rfl, SqT.of (S6 _ _ hj), fun h => absurd h.2 (by show ¬ (4 = 6); decide), fun a ha => ?_⟩
  have s7 := same_new ha (o := .tup [.str J.L, nI J.n, nI J.few, nI J.turn])
  have k7 := upd_same (H := H6) (a := a) (o := .tup [.str J.L, nI J.n, nI J.few, nI J.turn])
  have S7 := S6.trans s7
  have k47 := s7 _ _ k4
  obtain ⟨H7, hH7⟩ : ∃ H7, upd H6 a (.tup [.str J.L, nI J.n, nI J.few, nI J.turn]) = H7 := ⟨_, rfl⟩
  rw [hH7] at s7 k7 S7 k47
  refine ⟨_, rfl, c4, rfl, ⟨_, SqL.of (by rw [← hH7] at k47; exact k47)⟩, fun D2 hD2 => ?_⟩
  refine lc_list (xs := zs.map fun x => V.ref x.2.1) (fun i H' => ∃ bs : List Addr, H' D2 = some (.lst (bs.map V.ref)) ∧ Paired (fun (b : Addr) (r : NRow) => H' b = some (.tup [.ref r.2.1, r.2.2])) bs (zs.take i) ∧ Same H7 H') ⟨[], upd_same, .nil, by rw [← hH7]; exact same_new hD2⟩ (fun i H' _ ⟨_, _, _, s⟩ => SqL.of (s _ _ k47)) ?_ ?_
  · rintro i x' H20 hx ⟨bs, g1, g2, g3⟩
    rw [List.getElem?_map] at hx
    cases hz : zs[i]? with
    | none => rw [hz] at hx; cases hx
    | some row =>
    rw [hz] at hx
    cases hx
    have hm := p4.mem_iff.mpr (List.mem_of_getElem? hz)
    have S20 := S7.trans g3
    have hrn20 := hrn.keep fun b ys e => S20 b _ e
    obtain ⟨hn1, hn2⟩ := hrn20 row hm
    have lb := Paired.length g2
    rw [List.length_take] at lb
    have hD7 : H7 D2 = none := by rw [← hH7]; exact hD2
    refine ⟨rfl, _, rfl, _, rfl, j, _, 4, .ref d, rfl, rfl, SqT.of (S20 _ _ hj), at_of (j := 4) rfl rfl, _, rfl, d, row.2.1, xs, row.1, row.2.2, rfl, rfl, S20 _ _ hd, hrn20, hn1, hn2, atN_self xnd hm, (by show 2 ≤ sizeLine; decide), fun t ht => ?_⟩
    have st := same_new ht (o := .tup [.ref row.2.1, row.2.2])
    have kt := upd_same (H := H20) (a := t) (o := .tup [.ref row.2.1, row.2.2])
    have kD := st _ _ g1
    have tk := upd_tup (o := .lst (bs.map V.ref ++ [V.ref t])) kD
    refine ⟨_, kD, ?_, bs ++ [t], by rw [upd_same, List.map_append]; rfl, ?_, same_add (g3.trans st) hD7⟩
    · rw [List.length_map]
      exact Nat.lt_of_le_of_lt (show _ ≤ 1000000 by omega) (by decide)
    · rw [take_succ_of hz]
      exact prd_app (Paired.mapP g2 fun _ _ e => tk _ _ (st _ _ e)) (.cons (tk _ _ kt) .nil)
  rintro H20 ⟨bs, g1, g2, g3⟩
  rw [List.length_map, List.take_length] at g2
  have S20 := S7.trans g3
  have hrn20 := hrn.keep fun b ys e => S20 b _ e
  refine ⟨D2, bs, zs, rfl, g1, g2, (fun r hr => hrn20 r (p4.mem_iff.mpr hr)), znd, Nat.le_of_lt (Nat.lt_of_le_of_lt (show _ ≤ 1000000 by omega) (by decide)), fun d2 hd2 => ?_⟩
  have s21 := same_new hd2 (o := DictN P w d2 zs)
  have kd2 := upd_same (H := H20) (a := d2) (o := DictN P w d2 zs)
  have S21 := S20.trans s21
  have k721 := s21 _ _ (g3 _ _ k7)
  refine ⟨_, rfl, j, _, 5, .ref g, rfl, rfl, SqT.of (S21 _ _ hj), at_of (j := 5) rfl rfl, g, _, rfl, .inl (SqL.of (S21 _ _ hg)), fun l hl => ?_⟩
  have s8 := same_new hl (o := .lst (J.good.map nI))
  have k8 := upd_same (H := upd H20 d2 (DictN P w d2 zs)) (a := l) (o := .lst (J.good.map nI))
  refine ⟨(by show 2 ≤ sizeLine; decide), fun b hb => ?_⟩
  have s9 := same_new hb (o := .tup [.ref d2, .ref l])
  have k9 := upd_same (H := upd (upd H20 d2 (DictN P w d2 zs)) l (.lst (J.good.map nI))) (a := b) (o := .tup [.ref d2, .ref l])
  refine ⟨a, b, _, _, rfl, rfl, SqT.of (s9 _ _ (s8 _ _ k721)), SqT.of k9, (fun e => nomatch e), (by show 6 ≤ sizeLine; decide), (fun e => nomatch e), fun _ r hr => ?_⟩
  have s10 := same_new hr (o := .tup [.str J.L, nI J.n, nI J.few, nI J.turn, .ref d2, .ref l])
  have S := ((S21.trans s8).trans s9).trans s10
  obtain ⟨keys2, pk, rj2⟩ := prd_perm p4 hrj
  refine q _ _ S ⟨r, d2, l, zs, keys2, rfl, upd_same, s10 _ _ (s9 _ _ (s8 _ _ kd2)), fun x hx => ?_, rj2, pk.symm.trans hper, s10 _ _ (s9 _ _ k8), S21.free hl⟩
  exact (hrn.keep fun b ys e => S _ _ e) x (p4.mem_iff.mpr hx)
end


theorem none_of {sp : Sp} {P : Program} {w : World} {K : PySem.W.Frag} {mg : Str → Option Value} {base : Heap} {f : Addr} {fd : FuncData} {ps : List Str} {k : Nat} (no : ∀ vs H Q E, ¬ sp vs H Q E) : FnOk P w K mg base CX0 k f fd ps sp :=
  ⟨fun vs H Q E h => absurd h (no vs H Q E), fun A outer s H args us vs Q E _ _ _ _ h => absurd h (no vs H Q E)⟩
theorem depth_pos : ∀ t : Tr, 1 ≤ t.depth
  | .node c ks => by simp only [Tr.depth]; omega
theorem cls_sub {few turn y : Nat} (h : few + turn ≤ y) : clsN few turn (y - turn) = clsN few turn y := by
  have e : (y - few) % turn = (y - turn - few) % turn := by
    rw [Nat.mod_eq_sub_mod (by omega)]
    congr 1
    omega
  unfold clsN
  rw [if_neg (show ¬ y < few + turn by omega), e]
  by_cases h1 : y - turn < few + turn
  · rw [if_pos h1]
    by_cases h2 : few ≤ y - turn
    · rw [Nat.mod_eq_of_lt (by omega)]; omega
    · omega
  · rw [if_neg h1]
def sp__law_class : Sp := fun vs H Q _ => ∃ x few turn : Nat, vs = [nI x, nI few, nI turn] ∧ 1 ≤ turn ∧ Q (nI (clsN few turn x)) H
def sp__law_over (P : Program) (w : World) : Sp := fun vs H Q _ => ∃ (v : V) (J : JD) (c : Nat) (l : Addr) (ss : List Nat), vs = [v, .str (ch c), .ref l] ∧ JAt P w H v J ∧ J.ok ∧ c ∈ J.L.cps.toList ∧ H l = some (.lst (ss.map nI)) ∧ ∀ H', Same H H' → Q (nI (J.sf c (cnts J.n ss))) H'
def sp__law_state (P : Program) (w : World) (d : Nat) : Sp := fun vs H Q _ => ∃ (v u : V) (J : JD) (t : Tr), vs = [v, u] ∧ JAt P w H v J ∧ J.ok ∧ TrAt (fun _ => True) H u t ∧ t.depth ≤ d ∧ t.size ≤ 1000000 ∧ t.lets (fun c => c ∈ J.L.cps.toList) ∧ ∀ H', Same H H' → Q (nI (St J.sf J.n t)) H'
section
variable {P : Program} {w : World} {K : PySem.W.Frag} {mg : Str → Option Value} {base : Heap}
theorem ok__law_class (T : Txt K mg) : FnOk P w K mg base CX0 1 T.f__law_class T.d__law_class ["number", "few", "turn"] sp__law_class := by
  refine T.F__law_class.ok sc__law_class (fun vs H Q E h => ?_) (fun cdv A outer s H vs Q E hr h => ?_)
  · obtain ⟨x, few, turn, rfl, _⟩ := h
    rfl
  obtain ⟨x, few, turn, rfl, t1, q⟩ := h
  refine ⟨_, (pss_cons (ps_while PassesOwn.never (pt_cmpR op_ge (pv 0) (pe_op op_add (pv 1) (pv 2)) (nomark _)) (pss_one (ps_set (i := 0) sc__law_class.nd rfl (Or.inl rfl) (pe_op op_sub (pv 0) (pv 2))))) (pss_one (ps_ret (pv 0)))), ?_⟩
  refine ⟨fun k σ' H' => k = k ∧ ∃ y : Nat, k = y ∧ σ' = [some (nI y), some (nI few), some (nI turn)] ∧ clsN few turn y = clsN few turn x ∧ H' = H, ⟨x, rfl, x, rfl, rfl, rfl, rfl⟩, ?_⟩
  rintro k σ' H' ⟨_, y, rfl, rfl, e, rfl⟩
  refine ⟨_, rfl, _, rfl, _, rfl, _, _, rfl, rfl, _, _, rfl, rfl, _, rfl, ite2 (fun h1 => ?_) (fun h1 => ?_)⟩
  · have h1 : ((few : Int) + (turn : Int)) ≤ (k : Int) := of_decide_eq_true h1
    have e1 : ((k : Int) - (turn : Int)) = ((k - turn : Nat) : Int) := by omega
    refine ⟨fun σ' H'' => ∃ m', m' < k ∧ (m' = m' ∧ ∃ y : Nat, m' = y ∧ σ' = [some (nI y), some (nI few), some (nI turn)] ∧ clsN few turn y = clsN few turn x ∧ H'' = H'), fun _ _ h => h, _, rfl, _, rfl, _, _, rfl, rfl, k - turn, by omega, rfl, k - turn, rfl, ?_, (cls_sub (by omega)).trans e, rfl⟩
    exact congrArg (fun z : Int => [some (V.int z), some (nI few), some (nI turn)]) e1
  · have h1 : ¬ ((few : Int) + (turn : Int)) ≤ (k : Int) := fun h => h1 (decide_eq_true h)
    have e2 : clsN few turn x = k := by rw [← e, clsN_low (by omega)]
    rw [e2] at q
    exact ⟨_, rfl, q⟩
end

def brk : List Nat → List Nat
  | [] => []
  | x :: l => 40 :: ((x :: l) ++ [41])
mutual
def Tr.wr : Tr → List Nat
  | .node c ks => c :: brk (wrs ks)
def wrs : List Tr → List Nat
  | [] => []
  | t :: r => t.wr ++ wrs r
end
def leW (a b : Tr) : Bool := decide (a.wr ≤ b.wr)
mutual
def Tr.told : Tr → Tr
  | .node c ks => .node c ((tolds ks).mergeSort leW)
def tolds : List Tr → List Tr
  | [] => []
  | t :: r => t.told :: tolds r
end
theorem tolds_map : ∀ ts : List Tr, tolds ts = ts.map Tr.told
  | [] => rfl
  | t :: r => by simp only [tolds, List.map_cons, tolds_map r]
theorem tolds_len (ts : List Tr) : (tolds ts).length = ts.length := by rw [tolds_map, List.length_map]
theorem wrs_append : ∀ a b : List Tr, wrs (a ++ b) = wrs a ++ wrs b
  | [], b => rfl
  | t :: r, b => by simp only [List.cons_append, wrs, wrs_append r b, List.append_assoc]
theorem leW_trans (a b c : Tr) (h : leW a b = true) (g : leW b c = true) : leW a c = true :=
  decide_eq_true (List.le_trans (of_decide_eq_true h) (of_decide_eq_true g))
theorem leW_total (a b : Tr) : (leW a b || leW b a) = true := by
  rcases List.le_total a.wr b.wr with h | h
  · simp [leW, h]
  · simp [leW, h]
abbrev Ltr (c : Nat) : Prop := 97 ≤ c ∧ c ≤ 122
theorem wr_ne (t : Tr) : t.wr ≠ [] := by
  cases t
  simp [Tr.wr]
theorem wr_head {t : Tr} (h : t.lets Ltr) : ∃ c l, t.wr = c :: l ∧ 97 ≤ c := by
  cases t with
  | node c ks =>
    simp only [Tr.lets] at h
    exact ⟨c, _, rfl, h.1.1⟩
theorem wrs_ne {t : Tr} {r : List Tr} : ∃ x l, wrs (t :: r) = x :: l := by
  cases t
  simp [wrs, Tr.wr]
theorem brk_wrs (t : Tr) (r : List Tr) : brk (wrs (t :: r)) = 40 :: (wrs (t :: r) ++ [41]) := by
  obtain ⟨x, l, e⟩ := wrs_ne (t := t) (r := r)
  rw [e]
  rfl
def nb (u : List Nat) : Prop := u.head? ≠ some 40
mutual
theorem wr_inj : ∀ (a b : Tr) (u v : List Nat), a.lets Ltr → b.lets Ltr → a.wr ++ u = b.wr ++ v → nb u → nb v → a = b ∧ u = v
  | .node c ks, .node d js, u, v, ha, hb, h, hu, hv => by
    simp only [Tr.lets] at ha hb
    simp only [Tr.wr, List.cons_append, List.cons.injEq] at h
    obtain ⟨rfl, h⟩ := h
    cases ks with
    | nil =>
      cases js with
      | nil => exact ⟨rfl, h⟩
      | cons j js =>
        obtain ⟨x, l, e⟩ := wrs_ne (t := j) (r := js)
        rw [e] at h
        simp only [wrs, brk, List.nil_append, List.cons_append] at h
        rw [h] at hu
        exact absurd rfl hu
    | cons k ks =>
      rw [brk_wrs k ks] at h
      cases js with
      | nil =>
        simp only [wrs, brk, List.nil_append, List.cons_append] at h
        rw [← h] at hv
        exact absurd rfl hv
      | cons j js =>
        rw [brk_wrs j js] at h
        simp only [List.cons_append, List.append_assoc, List.cons.injEq, true_and, List.singleton_append] at h
        obtain ⟨e1, e2⟩ := wrs_inj (k :: ks) (j :: js) u v ha.2 hb.2 h
        exact ⟨by rw [e1], e2⟩
theorem wrs_inj : ∀ (ks js : List Tr) (u v : List Nat), letss Ltr ks → letss Ltr js → wrs ks ++ 41 :: u = wrs js ++ 41 :: v → ks = js ∧ u = v
  | [], [], u, v, _, _, h => ⟨rfl, by simpa [wrs] using h⟩
  | [], j :: js, u, v, _, hb, h => by
    simp only [letss] at hb
    obtain ⟨c, l, e, hc⟩ := wr_head hb.1
    simp only [wrs, e, List.nil_append, List.cons_append, List.cons.injEq] at h
    omega
  | k :: ks, [], u, v, ha, _, h => by
    simp only [letss] at ha
    obtain ⟨c, l, e, hc⟩ := wr_head ha.1
    simp only [wrs, e, List.nil_append, List.cons_append, List.cons.injEq] at h
    omega
  | k :: ks, j :: js, u, v, ha, hb, h => by
    simp only [letss] at ha hb
    simp only [wrs, List.append_assoc] at h
    have nbk : ∀ (l : List Tr) (w : List Nat), letss Ltr l → nb (wrs l ++ 41 :: w) := by
      intro l w hl
      cases l with
      | nil => simp [nb, wrs]
      | cons a b =>
        simp only [letss] at hl
        obtain ⟨c, m, e, hc⟩ := wr_head hl.1
        simp only [nb, wrs, e, List.cons_append, List.head?_cons]
        intro h
        cases h
        omega
    have := wr_inj k j _ _ ha.1 hb.1 h (nbk _ _ ha.2) (nbk _ _ hb.2)
    obtain ⟨rfl, h2⟩ := this
    obtain ⟨rfl, h3⟩ := wrs_inj ks js u v ha.2 hb.2 h2
    exact ⟨rfl, h3⟩
end
theorem wr_eq {a b : Tr} (ha : a.lets Ltr) (hb : b.lets Ltr) (h : a.wr = b.wr) : a = b :=
  (wr_inj a b [] [] ha hb (by rw [h]) (by simp [nb]) (by simp [nb])).1
mutual
theorem told_lets {p : Nat → Prop} : ∀ t : Tr, t.lets p → t.told.lets p
  | .node c ks, h => by
    simp only [Tr.lets, Tr.told] at h ⊢
    exact ⟨h.1, letss_perm (List.mergeSort_perm _ _).symm (tolds_lets ks h.2)⟩
theorem tolds_lets {p : Nat → Prop} : ∀ ts : List Tr, letss p ts → letss p (tolds ts)
  | [], _ => trivial
  | t :: r, h => by
    simp only [letss, tolds] at h ⊢
    exact ⟨told_lets t h.1, tolds_lets r h.2⟩
end
theorem sorted_is {a b : List Tr} (ha : letss Ltr b) (hp : a.Perm b) (hs : a.Pairwise fun x y => leW x y = true) : a = b.mergeSort leW := by
  refine List.Perm.eq_of_pairwise (le := fun x y => leW x y = true) ?_ hs (List.pairwise_mergeSort leW_trans leW_total _) (hp.trans (List.mergeSort_perm _ _).symm)
  intro x y hx hy h g
  have hx2 := letss_mem ha (hp.mem_iff.mp hx)
  have hy2 := letss_mem ha ((List.mergeSort_perm _ _).mem_iff.mp hy)
  exact wr_eq hx2 hy2 (List.le_antisymm (of_decide_eq_true h) (of_decide_eq_true g))
theorem sort_perm {a b : List Tr} (ha : letss Ltr b) (hp : a.Perm b) : a.mergeSort leW = b.mergeSort leW :=
  sorted_is ha ((List.mergeSort_perm _ _).trans hp) (List.pairwise_mergeSort leW_trans leW_total _)
theorem tolds_perm {a b : List Tr} (h : a.Perm b) : (tolds a).Perm (tolds b) := by
  rw [tolds_map, tolds_map]
  exact h.map _
mutual
theorem Sh.told : ∀ {t u : Tr}, Sh t u → t.lets Ltr → t.told = u.told
  | _, _, .node (ks := ks) (us := us) (ls := ls) p h, hl => by
    simp only [Tr.lets] at hl
    simp only [Tr.told]
    have e := Shs.told h (letss_perm p hl.2)
    rw [sort_perm (tolds_lets _ (letss_perm p hl.2)) (tolds_perm p), e]
theorem Shs.told : ∀ {ts us : List Tr}, Shs ts us → My.letss Ltr ts → tolds ts = tolds us
  | _, _, .nil, _ => rfl
  | _, _, .cons a b, hl => by
    simp only [My.letss] at hl
    simp only [tolds, Sh.told a hl.1, Shs.told b hl.2]
end
theorem sizes_sort (ts : List Tr) : sizes (ts.mergeSort leW) = sizes ts := sizes_perm (List.mergeSort_perm _ _)
theorem depths_sort (ts : List Tr) : depths (ts.mergeSort leW) = depths ts := depths_perm (List.mergeSort_perm _ _)
mutual
theorem told_size : ∀ t : Tr, t.told.size = t.size
  | .node c ks => by simp only [Tr.told, Tr.size, sizes_sort, tolds_sizes ks]
theorem tolds_sizes : ∀ ts : List Tr, sizes (tolds ts) = sizes ts
  | [] => rfl
  | t :: r => by simp only [tolds, sizes, told_size t, tolds_sizes r]
end
mutual
theorem told_depth : ∀ t : Tr, t.told.depth = t.depth
  | .node c ks => by simp only [Tr.told, Tr.depth, depths_sort, tolds_depths ks]
theorem tolds_depths : ∀ ts : List Tr, depths (tolds ts) = depths ts
  | [] => rfl
  | t :: r => by simp only [tolds, depths, told_depth t, tolds_depths r]
end
mutual
theorem wr_len : ∀ t : Tr, t.wr.length ≤ 3 * t.size
  | .node c ks => by
    have := wrs_len ks
    have e : (brk (wrs ks)).length ≤ (wrs ks).length + 2 := by
      cases wrs ks with
      | nil => simp [brk]
      | cons x l => simp [brk]
    simp only [Tr.wr, Tr.size, List.length_cons]
    omega
theorem wrs_len : ∀ ts : List Tr, (wrs ts).length ≤ 3 * sizes ts
  | [] => by simp [wrs]
  | t :: r => by
    have a := wr_len t
    have b := wrs_len r
    simp only [wrs, sizes, List.length_append]
    omega
end
def steps : List Tr → List Tr → Option (List Tr)
  | s, [] => some s
  | s, .node c ks :: r => if ks.length ≤ s.length then steps (s.take (s.length - ks.length) ++ [.node c ((s.drop (s.length - ks.length)).mergeSort leW)]) r else none
mutual
theorem steps_post : ∀ (t : Tr) (s r : List Tr), steps s (t.post ++ r) = steps (s ++ [t.told]) r
  | .node c ks, s, r => by
    have e := steps_posts ks s (.node c ks :: r)
    simp only [Tr.post, List.append_assoc, List.singleton_append]
    rw [e]
    have l := tolds_len ks
    simp only [steps, List.length_append, l, Nat.add_sub_cancel, Nat.le_add_left, if_true, Tr.told]
    rw [List.take_left, List.drop_left]
theorem steps_posts : ∀ (ts : List Tr) (s r : List Tr), steps s (posts ts ++ r) = steps (s ++ tolds ts) r
  | [], s, r => by simp only [posts, tolds, List.nil_append, List.append_nil]
  | t :: ts, s, r => by
    simp only [posts, tolds, List.append_assoc]
    rw [steps_post t s (posts ts ++ r), steps_posts ts (s ++ [t.told]) r]
    simp only [List.append_assoc, List.singleton_append]
end
theorem steps_all (t : Tr) : steps [] t.post = some [t.told] := by
  have := steps_post t [] []
  rw [List.append_nil] at this
  rw [this]
  rfl
mutual
theorem told_told : ∀ t : Tr, t.lets Ltr → t.told.told = t.told
  | .node c ks, h => by
    simp only [Tr.lets] at h
    simp only [Tr.told]
    have e : tolds ((tolds ks).mergeSort leW) = (tolds ks).mergeSort leW := by
      rw [tolds_map]
      have : ∀ x ∈ (tolds ks).mergeSort leW, x.told = x := fun x hx => tolds_fix ks h.2 x ((List.mergeSort_perm _ _).mem_iff.mp hx)
      exact (List.map_congr_left this).trans (List.map_id' _)
    rw [e, sort_perm (tolds_lets ks h.2) (List.mergeSort_perm _ _)]
theorem tolds_fix : ∀ ts : List Tr, letss Ltr ts → ∀ x ∈ tolds ts, x.told = x
  | [], _, x, hx => by simp [tolds] at hx
  | t :: r, h, x, hx => by
    simp only [letss] at h
    simp only [tolds, List.mem_cons] at hx
    rcases hx with rfl | hx
    · exact told_told t h.1
    · exact tolds_fix r h.2 x hx
end

def expand (acc : List (Tr × Nat)) : List Tr := (acc.map fun e => List.replicate e.2 e.1).flatten
theorem expand_append (a b : List (Tr × Nat)) : expand (a ++ b) = expand a ++ expand b := by simp [expand]
def HeIn (H : Hp) (e : V × Tr × Nat) : Prop := ∃ p x, e.1 = .ref p ∧ H p = some (.tup [x, .int e.2.2]) ∧ TrAt (fun _ => True) H x e.2.1

theorem depth_pos1 : ∀ t : Tr, 1 ≤ t.depth
  | .node c ks => by simp only [Tr.depth]; omega
theorem cnts_len (n : Nat) (xs : List Nat) : (cnts n xs).length = n := by unfold cnts; rw [List.length_map, List.length_range]
theorem cnts_nil (n : Nat) : cnts n [] = List.replicate n 0 := by
  unfold cnts
  refine List.ext_getElem (by simp) fun i h1 h2 => by simp
theorem cnts_at {n s : Nat} (xs : List Nat) (h : s < n) : (cnts n xs)[s]? = some (xs.count s) := by
  unfold cnts
  rw [List.getElem?_map, List.getElem?_range h]
  rfl
theorem cnts_set {n s : Nat} (xs : List Nat) (h : s < n) : (cnts n xs).set s (xs.count s + 1) = cnts n (xs ++ [s]) := by
  refine List.ext_getElem? fun j => ?_
  rw [List.getElem?_set]
  by_cases hj : j < n
  · rw [cnts_at _ hj]
    by_cases e : s = j
    · subst e
      rw [if_pos rfl, if_pos (by rw [cnts_len]; exact hj), cnts_at _ hj, List.count_append]
      simp
    · rw [if_neg e, cnts_at _ hj, List.count_append, List.count_singleton]
      have : (s == j) = false := by simpa using e
      simp [this]
  · have o1 : (cnts n xs)[j]? = none := List.getElem?_eq_none (by rw [cnts_len]; omega)
    have o2 : (cnts n (xs ++ [s]))[j]? = none := List.getElem?_eq_none (by rw [cnts_len]; omega)
    rw [o1, o2]
    split
    · rw [if_neg (by rw [cnts_len]; omega)]
    · rfl
theorem set_nI {xs : List Nat} {i x : Nat} : (xs.map nI).set i (nI x) = (xs.set i x).map nI := by
  rw [List.map_set]

theorem St_ltJ {J : JD} (hok : J.ok) : ∀ t : Tr, t.lets (fun c => c ∈ J.L.cps.toList) → St J.sf J.n t < J.n
  | .node c ks, h => by
    simp only [Tr.lets] at h
    simp only [St]
    exact hok.sf_lt h.1 (cnts_len _ _)

section
variable {X : Cx}
def rInK (neg : Bool) : R2 := fun x y H Q => ∃ (a : Addr) (kvs : List (Key × V)) (k : Key), x = kV k ∧ y = .ref a ∧ Rd H a (.dK kvs) ∧ Q (.bl (if neg then !(valV kvs k).isSome else (valV kvs k).isSome)) H
theorem op_inK (hu : X.A.units + 1 < cLine) : OpR X (compareOp .In) (rInK false) := by
  intro pins s σ H x y v u Q I rx ry q
  obtain ⟨a, kvs, k, rfl, rfl, hk, q⟩ := q
  obtain rfl : u = Value.ref a := ry
  exact d_in hu I (.inl ⟨kvs, k, hk, rfl, rfl⟩) rx fun s3 I3 => ⟨.bl _, H, I3, rfl, q⟩
theorem op_notInK (hu : X.A.units + 1 < cLine) : OpR X (compareOp .NotIn) (rInK true) := by
  intro pins s σ H x y v u Q I rx ry q
  obtain ⟨a, kvs, k, rfl, rfl, hk, q⟩ := q
  obtain rfl : u = Value.ref a := ry
  exact d_notIn hu I (.inl ⟨kvs, k, hk, rfl, rfl⟩) rx fun s3 I3 => ⟨.bl _, H, I3, rfl, q⟩
def rMinDef (K : PySem.W.Frag) : List V → List V → Hp → VK → Prop := fun vs ws H Q => ∃ (a : Addr) (d : V) (bs : List (V × PyData)), vs = [.ref a] ∧ ws = [d] ∧ H a = some (.lst (bs.map Prod.fst)) ∧ DpAll K H (bs.map Prod.fst) (bs.map Prod.snd) ∧ PySem.W.AlikeAll (bs.map Prod.snd) ∧ PyData.depthAll (bs.map Prod.snd) ≤ 100 ∧
  (bs = [] → Q d H) ∧ ∀ y ys b, bs.map Prod.snd = y :: ys → b ∈ bs → b.2 = PySem.W.minD y ys → Q b.1 H
end
theorem roomM {k : Nat} {A : Around} (r : Room k A) : A.units + 200 < cLine := by have := r.un; omega
section
variable {X : Cx}
theorem dps_keep {K : PySem.W.Frag} {H : Hp} : ∀ {vs : List V} {ds : List PyData}, DpAll K H vs ds → vs.length = ds.length
  | _, _, .nil => rfl
  | _, _, .cons _ b => by simp only [List.length_cons, dps_keep b]
theorem dpAll_get {K : PySem.W.Frag} {H : Hp} : ∀ {bs : List (V × PyData)} {i : Nat} {b : V × PyData}, DpAll K H (bs.map Prod.fst) (bs.map Prod.snd) → bs[i]? = some b → Dp K H b.1 b.2
  | [], i, b, _, e => by simp at e
  | x :: r, 0, b, .cons h _, e => by simp at e; subst e; exact h
  | x :: r, i + 1, b, .cons _ h, e => dpAll_get h (by simpa using e)
theorem vals_get {vs : List V} {us : List Value} (r : Vals vs us) {i : Nat} {u : Value} (h : us[i]? = some u) : ∃ v, vs[i]? = some v ∧ RelV v u := by
  induction r generalizing i with
  | nil => simp at h
  | cons a b ih =>
    cases i with
    | zero => simp at h; subst h; exact ⟨_, rfl, a⟩
    | succ i =>
      obtain ⟨v, h1, h2⟩ := ih (i := i) (by simpa using h)
      exact ⟨v, by simpa using h1, h2⟩
theorem cr_minDef (hu : X.A.units + 200 < cLine) (hc : X.calm = true) : CallRK X (.builtin "min") ["default"] (rMinDef X.K) := by
  intro pins s σ H xs zs us ws Q I hv hw h
  obtain ⟨a, d, bs, rfl, rfl, ha, hdp, hal, hdep, q0, q1⟩ := h
  cases hv with
  | cons g1 g2 =>
  cases g2
  cases hw with
  | cons g3 g4 =>
  cases g4
  cases g1
  obtain ⟨oz, its, n, hits, hao⟩ := I.hok _ _ ha
  obtain ⟨as, hra⟩ := Dp.readsAll I _ _ _ hdp hits
  have hl := hits.length
  refine PySem.W.min_list_default (vs := its.toArray) (I.ok.hd hc) ⟨_, hao, rfl, n, rfl⟩ (by simpa using hra) hal (by show X.A.units + 1 + _ < _; omega) (fun e0 h' tk hk => ?_) (fun y ys i v h' tk cs e1 hi hrd hk => ?_)
  · have eb : bs = [] := by
      cases bs with
      | nil => rfl
      | cons _ _ => cases e0
    exact ⟨d, H, I.kept (t' := tk) hk, g3, q0 eb⟩
  · rw [List.getElem?_toArray] at hi
    obtain ⟨x, hx, rx⟩ := vals_get hits hi
    rw [List.getElem?_map] at hx
    cases hb : bs[i]? with
    | none => rw [hb] at hx; cases hx
    | some b =>
    rw [hb] at hx
    cases hx
    refine ⟨b.1, H, I.kept (t' := tk) hk, rx, q1 y ys b e1 (List.mem_of_getElem? hb) ?_⟩
    obtain ⟨as2, r2⟩ := Dp.reads I b.2 b.1 v (dpAll_get hdp hb) rx
    exact (Reads.unique (Reads.keeps hk r2) _ _ hrd).1
end
theorem lt_first {m n : Int} {xs ys : List PyData} : (PySem.W.dataLt (.tuple (.int m :: xs)) (.tuple (.int n :: ys)) = true → m ≤ n) ∧ (PySem.W.dataLt (.tuple (.int m :: xs)) (.tuple (.int n :: ys)) = false → n ≤ m) := by
  unfold PySem.W.dataLt
  simp only [PySem.W.keyToks, PySem.W.keyToksAll]
  rw [show (Sum.inl 1 : Int ⊕ List Nat) :: ([Sum.inl m] ++ PySem.W.keyToksAll xs) = [Sum.inl 1] ++ (Sum.inl m :: PySem.W.keyToksAll xs) from rfl, show (Sum.inl 1 : Int ⊕ List Nat) :: ([Sum.inl n] ++ PySem.W.keyToksAll ys) = [Sum.inl 1] ++ (Sum.inl n :: PySem.W.keyToksAll ys) from rfl, PySem.W.lex_pre]
  by_cases e : m = n
  · exact ⟨fun _ => Int.le_of_eq e, fun _ => Int.le_of_eq e.symm⟩
  · have hne : (Sum.inl m : Int ⊕ List Nat) ≠ Sum.inl n := fun h => e (Sum.inl.inj h)
    rw [lex_diff (O := itemOrd) hne]
    show (decide (m < n) = true → _) ∧ (decide (m < n) = false → _)
    exact ⟨fun h => Int.le_of_lt (of_decide_eq_true h), fun h => Int.not_lt.mp (of_decide_eq_false h)⟩
theorem minD_first {f : PyData → Int} {P : PyData → Prop} (h1 : ∀ x y, P x → P y → PySem.W.dataLt x y = true → f x ≤ f y) (h2 : ∀ x y, P x → P y → PySem.W.dataLt x y = false → f y ≤ f x) : ∀ (ys : List PyData) (y : PyData), P y → (∀ z ∈ ys, P z) → f (PySem.W.minD y ys) ≤ f y ∧ ∀ z ∈ ys, f (PySem.W.minD y ys) ≤ f z
  | [], y, _, _ => ⟨Int.le_refl _, fun _ h => by cases h⟩
  | z :: r, y, py, pz => by
    have pz0 := pz z List.mem_cons_self
    unfold PySem.W.minD
    rw [List.foldl_cons]
    cases e : PySem.W.dataLt z y with
    | true =>
      have ih := minD_first h1 h2 r z pz0 fun w hw => pz w (List.mem_cons_of_mem _ hw)
      unfold PySem.W.minD at ih
      rw [if_pos rfl]
      have a := h1 _ _ pz0 py e
      refine ⟨Int.le_trans ih.1 a, fun w hw => ?_⟩
      rcases List.mem_cons.mp hw with h | h
      · rw [h]; exact ih.1
      · exact ih.2 w h
    | false =>
      have ih := minD_first h1 h2 r y py fun w hw => pz w (List.mem_cons_of_mem _ hw)
      unfold PySem.W.minD at ih
      rw [if_neg (by decide)]
      have a := h2 _ _ pz0 py e
      refine ⟨ih.1, fun w hw => ?_⟩
      rcases List.mem_cons.mp hw with h | h
      · rw [h]; exact Int.le_trans ih.1 a
      · exact ih.2 w h

def onlyOf (S : List Nat) (row : List Nat) : Prop := ∀ i x, row[i]? = some x → x ≠ 0 → i ∈ S
def szOf (zs : List (Nat × Nat)) (i : Nat) : Nat := ((zs.find? fun p => decide (p.1 = i)).map (·.2)).getD 0
def wtL (f : Nat → Nat) : Nat → List Nat → Nat
  | _, [] => 0
  | k, x :: r => x * f k + wtL f (k + 1) r
def wt (zs : List (Nat × Nat)) (row : List Nat) : Nat := 1 + wtL (szOf zs) 0 row
def stsOf (zs : List (Nat × Nat)) : List Nat := zs.map (·.1)
theorem szOf_old {zs : List (Nat × Nat)} {p : Nat × Nat} {i : Nat} (h : i ∈ stsOf zs) : szOf (zs ++ [p]) i = szOf zs i := by
  unfold szOf
  rw [List.find?_append]
  obtain ⟨q, hq, rfl⟩ := List.mem_map.mp h
  cases e : zs.find? fun p => decide (p.1 = q.1) with
  | none => exact absurd (List.find?_eq_none.mp e q hq) (by simp)
  | some x => rfl
theorem szOf_new {zs : List (Nat × Nat)} {s m : Nat} (h : s ∉ stsOf zs) : szOf (zs ++ [(s, m)]) s = m := by
  unfold szOf
  rw [List.find?_append]
  have : zs.find? (fun p => decide (p.1 = s)) = none := List.find?_eq_none.mpr fun x hx e => h (List.mem_map.mpr ⟨x, hx, by simpa using e⟩)
  rw [this]
  simp
theorem szOf_mem {zs : List (Nat × Nat)} {i : Nat} (h : i ∈ stsOf zs) : (i, szOf zs i) ∈ zs := by
  unfold szOf
  obtain ⟨q, hq, rfl⟩ := List.mem_map.mp h
  cases e : zs.find? fun p => decide (p.1 = q.1) with
  | none => exact absurd (List.find?_eq_none.mp e q hq) (by simp)
  | some x =>
    have h1 := List.mem_of_find?_eq_some e
    have h2 := List.find?_some e
    have h3 : x.1 = q.1 := by simpa using h2
    show (q.1, x.2) ∈ zs
    rw [← h3]
    exact h1
theorem szOf_out {zs : List (Nat × Nat)} {i : Nat} (h : i ∉ stsOf zs) : szOf zs i = 0 := by
  unfold szOf
  have : zs.find? (fun p => decide (p.1 = i)) = none := List.find?_eq_none.mpr fun x hx e => h (List.mem_map.mpr ⟨x, hx, by simpa using e⟩)
  rw [this]
  rfl
theorem wtL_congr {f g : Nat → Nat} : ∀ (row : List Nat) (k : Nat), (∀ i x, row[i]? = some x → x ≠ 0 → f (k + i) = g (k + i)) → wtL f k row = wtL g k row
  | [], _, _ => rfl
  | x :: r, k, h => by
    simp only [wtL]
    rw [wtL_congr (f := f) (g := g) r (k + 1) fun i y hy hn => by have := h (i + 1) y (by simpa using hy) hn; rw [show k + 1 + i = k + (i + 1) by omega]; exact this]
    by_cases hx : x = 0
    · simp only [hx, Nat.zero_mul]
    · have := h 0 x rfl hx
      simp only [Nat.add_zero] at this
      simp only [this]
theorem wtL_ge {f : Nat → Nat} : ∀ (row : List Nat) (k i x : Nat), row[i]? = some x → x ≠ 0 → f (k + i) ≤ wtL f k row
  | [], _, i, x, h, _ => by simp at h
  | y :: r, k, 0, x, h, hn => by
    simp at h
    subst h
    simp only [wtL, Nat.add_zero]
    have : f k ≤ y * f k := Nat.le_mul_of_pos_left _ (by omega)
    omega
  | y :: r, k, i + 1, x, h, hn => by
    have := wtL_ge (f := f) r (k + 1) i x (by simpa using h) hn
    simp only [wtL]
    rw [show k + (i + 1) = k + 1 + i by omega]
    omega
theorem wtL_mono {f g : Nat → Nat} (h : ∀ i, f i ≤ g i) : ∀ (row : List Nat) (k : Nat), wtL f k row ≤ wtL g k row
  | [], _ => Nat.le_refl _
  | x :: r, k => by
    have a := wtL_mono h r (k + 1)
    have b := Nat.mul_le_mul_left x (h k)
    simp only [wtL]
    omega
theorem wtL_add (f g : Nat → Nat) : ∀ (row : List Nat) (k : Nat), wtL (fun i => f i + g i) k row = wtL f k row + wtL g k row
  | [], _ => rfl
  | x :: r, k => by
    simp only [wtL, wtL_add f g r (k + 1), Nat.mul_add]
    omega
theorem wtL_one {s m b : Nat} : ∀ (row : List Nat) (k : Nat), (∀ x ∈ row, x ≤ b) → wtL (fun i => if s = i then m else 0) k row ≤ b * m
  | [], _, _ => Nat.zero_le _
  | x :: r, k, h => by
    have ih := wtL_one (s := s) (m := m) r (k + 1) fun y hy => h y (List.mem_cons_of_mem _ hy)
    have hx := h x List.mem_cons_self
    simp only [wtL]
    by_cases e : s = k
    · have z : ∀ (r : List Nat) (j : Nat), s < j → wtL (fun i => if s = i then m else 0) j r = 0 := by
        intro r
        induction r with
        | nil => intro j _; rfl
        | cons y t ih =>
          intro j hj
          simp only [wtL]
          rw [ih (j + 1) (by omega), if_neg (by omega), Nat.mul_zero]
      rw [if_pos e, z r (k + 1) (by omega)]
      exact Nat.mul_le_mul_right m hx
    · rw [if_neg e, Nat.mul_zero, Nat.zero_add]
      exact ih
theorem wtL_bound {b : Nat} {row : List Nat} (h : ∀ x ∈ row, x ≤ b) : ∀ zs : List (Nat × Nat), wtL (szOf zs) 0 row ≤ b * (zs.map (·.2)).sum
  | [] => by
    have z : ∀ (r : List Nat) (j : Nat), wtL (szOf []) j r = 0 := by
      intro r
      induction r with
      | nil => intro j; rfl
      | cons y t ih =>
        intro j
        simp only [wtL]
        rw [ih]
        rfl
    rw [z]
    exact Nat.zero_le _
  | (s, m) :: zs => by
    have ih := wtL_bound h zs
    have a : wtL (szOf ((s, m) :: zs)) 0 row ≤ wtL (fun i => (if s = i then m else 0) + szOf zs i) 0 row := wtL_mono (fun i => by
      unfold szOf
      by_cases e : s = i
      · simp [e]
      · simp [e]) _ _
    rw [wtL_add] at a
    have c := wtL_one (s := s) (m := m) row 0 h
    rw [List.map_cons, List.sum_cons, Nat.mul_add]
    show _ ≤ b * m + _
    omega
structure LInv (J : JD) (zs : List (Nat × Nat)) (M : Nat) : Prop where
  nd : (stsOf zs).Nodup
  lt : ∀ p ∈ zs, p.1 < J.n
  le : ∀ p ∈ zs, p.2 ≤ M
  pos : ∀ p ∈ zs, 1 ≤ p.2
  T : 7 * (zs.map (·.2)).sum + 1 ≤ 8 ^ zs.length
  A : ∀ key ∈ J.keys, onlyOf (stsOf zs) key.2 → J.fs key.1 key.2 ∈ stsOf zs → szOf zs (J.fs key.1 key.2) ≤ wt zs key.2
  C : ∀ key ∈ J.keys, onlyOf (stsOf zs) key.2 → J.fs key.1 key.2 ∉ stsOf zs → M ≤ wt zs key.2
theorem LInv.nil (J : JD) : LInv J [] 0 := ⟨.nil, (fun _ h => by cases h), (fun _ h => by cases h), (fun _ h => by cases h), by decide, (fun _ _ _ h => by cases h), fun _ _ _ _ => Nat.zero_le _⟩
theorem wt_bound {J : JD} (hok : J.ok) {zs : List (Nat × Nat)} {M : Nat} (h : LInv J zs M) {key : Nat × List Nat} (hk : key ∈ J.keys) : wt zs key.2 ≤ 8 ^ zs.length := by
  have hr := (keysOf_mem hk).2.2
  have := wtL_bound (b := 7) (row := key.2) (fun x hx => by have := hr x hx; have := hok.f4; have := hok.t4; omega) zs
  have := h.T
  unfold wt
  omega
theorem stsOf_app (zs : List (Nat × Nat)) (p : Nat × Nat) : stsOf (zs ++ [p]) = stsOf zs ++ [p.1] := by unfold stsOf; rw [List.map_append]; rfl
theorem LInv.step {J : JD} (hok : J.ok) {zs : List (Nat × Nat)} {M : Nat} (h : LInv J zs M) {key : Nat × List Nat} (hk : key ∈ J.keys) (ho : onlyOf (stsOf zs) key.2) (hn : J.fs key.1 key.2 ∉ stsOf zs)
    (hmin : ∀ k2 ∈ J.keys, onlyOf (stsOf zs) k2.2 → J.fs k2.1 k2.2 ∉ stsOf zs → wt zs key.2 ≤ wt zs k2.2) : LInv J (zs ++ [(J.fs key.1 key.2, wt zs key.2)]) (wt zs key.2) := by
  have hM := h.C key hk ho hn
  have hwt := wt_bound hok h hk
  have hT := h.T
  have hle : ∀ p ∈ zs ++ [(J.fs key.1 key.2, wt zs key.2)], p.2 ≤ wt zs key.2 := fun p hp => by
    rcases List.mem_append.mp hp with hp | hp
    · have := h.le p hp; omega
    · rw [List.mem_singleton.mp hp]; exact Nat.le_refl _
  have old : ∀ row, onlyOf (stsOf zs) row → wt (zs ++ [(J.fs key.1 key.2, wt zs key.2)]) row = wt zs row := fun row hr => by
    unfold wt
    rw [wtL_congr row 0 fun i x hi hx => szOf_old (by rw [Nat.zero_add]; exact hr i x hi hx)]
  have new : ∀ row, onlyOf (stsOf (zs ++ [(J.fs key.1 key.2, wt zs key.2)])) row → ¬ onlyOf (stsOf zs) row → 1 + wt zs key.2 ≤ wt (zs ++ [(J.fs key.1 key.2, wt zs key.2)]) row := fun row hr hr2 => by
    have : ∃ i x, row[i]? = some x ∧ x ≠ 0 ∧ i ∉ stsOf zs := by
      refine Classical.byContradiction fun hc => hr2 fun i x hi hx => Classical.byContradiction fun hm => hc ⟨i, x, hi, hx, hm⟩
    obtain ⟨i, x, hi, hx, hm⟩ := this
    have hi2 := hr i x hi hx
    rw [stsOf_app] at hi2
    rcases List.mem_append.mp hi2 with h2 | h2
    · exact absurd h2 hm
    have e := List.mem_singleton.mp h2
    have g := wtL_ge (f := szOf (zs ++ [(J.fs key.1 key.2, wt zs key.2)])) row 0 i x hi hx
    rw [Nat.zero_add, e] at g
    have g2 := szOf_new (m := wt zs key.2) hn
    rw [g2] at g
    show 1 + wt zs key.2 ≤ 1 + _
    omega
  refine ⟨?_, ?_, hle, ?_, ?_, ?_, ?_⟩
  · rw [stsOf_app, List.nodup_append]
    exact ⟨h.nd, by simp, fun a ha b hb e => by rw [e, List.mem_singleton.mp hb] at ha; exact hn ha⟩
  · intro p hp
    rcases List.mem_append.mp hp with hp | hp
    · exact h.lt p hp
    · rw [List.mem_singleton.mp hp]; exact hok.lt key hk
  · intro p hp
    rcases List.mem_append.mp hp with hp | hp
    · exact h.pos p hp
    · rw [List.mem_singleton.mp hp]
      show 1 ≤ 1 + _
      omega
  · rw [List.map_append, List.sum_append, List.length_append, List.length_singleton, Nat.pow_succ]
    simp only [List.map_cons, List.map_nil, List.sum_cons, List.sum_nil]
    have b := wtL_bound (b := 7) (row := key.2) (fun x hx => by have := (keysOf_mem hk).2.2 x hx; have := hok.f4; have := hok.t4; omega) zs
    have : wt zs key.2 ≤ 1 + 7 * (zs.map (·.2)).sum := by unfold wt; omega
    omega
  · intro k2 hk2 ho2 hm
    by_cases hold : onlyOf (stsOf zs) k2.2
    · rw [old _ hold]
      rw [stsOf_app] at hm
      by_cases hin : J.fs k2.1 k2.2 ∈ stsOf zs
      · rw [szOf_old hin]
        exact h.A k2 hk2 hold hin
      · rcases List.mem_append.mp hm with h2 | h2
        · exact absurd h2 hin
        rw [List.mem_singleton.mp h2, szOf_new hn]
        exact hmin k2 hk2 hold hin
    · have := new _ ho2 hold
      have hm2 := szOf_mem hm
      have := hle _ hm2
      dsimp only at this
      omega
  · intro k2 hk2 ho2 hm
    rw [stsOf_app] at hm
    by_cases hold : onlyOf (stsOf zs) k2.2
    · rw [old _ hold]
      exact hmin k2 hk2 hold fun hin => hm (List.mem_append_left _ hin)
    · have := new _ ho2 hold
      omega
def Closed (J : JD) (S : List Nat) : Prop := ∀ key ∈ J.keys, onlyOf S key.2 → J.fs key.1 key.2 ∈ S
theorem clsN_le {few turn x : Nat} (t : 1 ≤ turn) : clsN few turn x ≤ x := by
  unfold clsN
  split
  · exact Nat.le_refl _
  · have := Nat.mod_le (x - few) turn
    omega
theorem wtL_cls {few turn : Nat} (t : 1 ≤ turn) (f : Nat → Nat) : ∀ (row : List Nat) (k : Nat), wtL f k (row.map (clsN few turn)) ≤ wtL f k row
  | [], _ => Nat.le_refl _
  | x :: r, k => by
    have a := wtL_cls (few := few) t f r (k + 1)
    have b := Nat.mul_le_mul_right (f k) (clsN_le (few := few) (x := x) t)
    simp only [List.map_cons, wtL]
    omega
theorem wtL_set {f : Nat → Nat} : ∀ (row : List Nat) (k i x : Nat), row[i]? = some x → wtL f k (row.set i (x + 1)) = wtL f k row + f (k + i)
  | [], _, i, x, h => by simp at h
  | y :: r, k, 0, x, h => by
    simp at h
    subst h
    simp only [List.set_cons_zero, wtL, Nat.add_zero, Nat.succ_mul]
    omega
  | y :: r, k, i + 1, x, h => by
    have := wtL_set (f := f) r (k + 1) i x (by simpa using h)
    simp only [List.set_cons_succ, wtL]
    rw [this, show k + (i + 1) = k + 1 + i by omega]
    omega
theorem wtL_zero (f : Nat → Nat) : ∀ (n k : Nat), wtL f k (List.replicate n 0) = 0
  | 0, _ => rfl
  | n + 1, k => by rw [List.replicate_succ, wtL, wtL_zero f n, Nat.zero_mul]
theorem wtL_cnts {f : Nat → Nat} {n : Nat} {xs : List Nat} (h : ∀ s ∈ xs, s < n) : wtL f 0 (cnts n xs) = (xs.map f).sum := by
  have : ∀ ys : List Nat, (∀ s ∈ ys, s < n) → wtL f 0 (cnts n ys.reverse) = (ys.map f).sum := by
    intro ys
    induction ys with
    | nil => intro _; rw [List.reverse_nil, cnts_nil, wtL_zero]; rfl
    | cons y r ih =>
      intro hy
      have hyn := hy y List.mem_cons_self
      rw [List.reverse_cons, ← cnts_set _ hyn, wtL_set _ 0 y _ (cnts_at _ hyn), ih fun s hs => hy s (List.mem_cons_of_mem _ hs), List.map_cons, List.sum_cons, Nat.zero_add]
      omega
  have e := this xs.reverse fun s hs => h s (List.mem_reverse.mp hs)
  rw [List.reverse_reverse] at e
  rw [e, List.map_reverse, List.sum_reverse]
theorem only_cnts {J : JD} {S : List Nat} {xs : List Nat} (h : ∀ s ∈ xs, s ∈ S) : onlyOf S ((cnts J.n xs).map (clsN J.few J.turn)) := by
  intro i x hi hx
  rw [List.getElem?_map] at hi
  cases e : (cnts J.n xs)[i]? with
  | none => rw [e] at hi; cases hi
  | some y =>
  rw [e] at hi
  have hil : i < J.n := by
    have := (List.getElem?_eq_some_iff.mp e).1
    rwa [cnts_len] at this
  rw [cnts_at _ hil] at e
  cases e
  refine h i (List.count_pos_iff.mp (Nat.pos_of_ne_zero fun z => ?_))
  rw [z] at hi
  have : clsN J.few J.turn 0 = 0 ∨ clsN J.few J.turn 0 ≠ 0 := Classical.em _
  have h0 : x = clsN J.few J.turn 0 := (Option.some.inj hi).symm
  rw [h0] at hx
  unfold clsN at hx
  split at hx
  · exact hx rfl
  · rename_i hnot
    rw [show 0 - J.few = 0 by omega, Nat.zero_mod] at hx
    omega
theorem mem_Sts {fs : Nat → List Nat → Nat} {n s : Nat} {ks : List Tr} (h : s ∈ Sts fs n ks) : ∃ t ∈ ks, s = St fs n t := by
  rw [Sts_map] at h
  obtain ⟨t, h1, h2⟩ := List.mem_map.mp h
  exact ⟨t, h1, h2.symm⟩
mutual
theorem closed_all {J : JD} (hok : J.ok) {S : List Nat} (hc : Closed J S) : ∀ t : Tr, t.lets (fun c => c ∈ J.L.cps.toList) → St J.sf J.n t ∈ S
  | .node c ks, h => by
    simp only [Tr.lets] at h
    have ih := closed_alls hok hc ks h.2
    simp only [St]
    exact hc _ (hok.key h.1 (cnts_len _ _)) (only_cnts fun s hs => by obtain ⟨t, h1, rfl⟩ := mem_Sts hs; exact ih t h1)
theorem closed_alls {J : JD} (hok : J.ok) {S : List Nat} (hc : Closed J S) : ∀ ts : List Tr, letss (fun c => c ∈ J.L.cps.toList) ts → ∀ t ∈ ts, St J.sf J.n t ∈ S
  | [], _, t, h => by cases h
  | u :: r, hl, t, h => by
    simp only [letss] at hl
    rcases List.mem_cons.mp h with e | h
    · rw [e]; exact closed_all hok hc u hl.1
    · exact closed_alls hok hc r hl.2 t h
end
mutual
theorem least_all {J : JD} (hok : J.ok) {zs : List (Nat × Nat)} {M : Nat} (h : LInv J zs M) (hc : Closed J (stsOf zs)) : ∀ t : Tr, t.lets (fun c => c ∈ J.L.cps.toList) → szOf zs (St J.sf J.n t) ≤ t.size
  | .node c ks, hl => by
    have hin := closed_all hok hc (.node c ks) hl
    simp only [Tr.lets] at hl
    have ih := least_alls hok h hc ks hl.2
    simp only [St] at hin ⊢
    have o := only_cnts (J := J) (S := stsOf zs) (xs := Sts J.sf J.n ks) fun s hs => by obtain ⟨t, h1, rfl⟩ := mem_Sts hs; exact closed_all hok hc t (letss_mem hl.2 h1)
    have a := h.A _ (hok.key hl.1 (cnts_len J.n (Sts J.sf J.n ks))) o hin
    have b := wtL_cls (few := J.few) hok.t1 (szOf zs) (cnts J.n (Sts J.sf J.n ks)) 0
    rw [wtL_cnts (fun s hs => by obtain ⟨t, h1, rfl⟩ := mem_Sts hs; exact St_ltJ hok t (letss_mem hl.2 h1))] at b
    simp only [Tr.size]
    unfold wt at a
    dsimp only at a
    have a : szOf zs (J.sf c (cnts J.n (Sts J.sf J.n ks))) ≤ _ := a
    omega
theorem least_alls {J : JD} (hok : J.ok) {zs : List (Nat × Nat)} {M : Nat} (h : LInv J zs M) (hc : Closed J (stsOf zs)) : ∀ ts : List Tr, letss (fun c => c ∈ J.L.cps.toList) ts → ((Sts J.sf J.n ts).map (szOf zs)).sum ≤ sizes ts
  | [], _ => Nat.le_refl _
  | u :: r, hl => by
    simp only [letss] at hl
    have a := least_all hok h hc u hl.1
    have b := least_alls hok h hc r hl.2
    simp only [Sts, List.map_cons, List.sum_cons, sizes]
    omega
end


def kvZ (zs : List (Nat × Nat)) : List (Key × V) := zs.map fun p => (Sum.inl (p.1 : Int), nI p.2)
theorem valZ (zs : List (Nat × Nat)) (i : Nat) : valV (kvZ zs) (Sum.inl (i : Int)) = if i ∈ stsOf zs then some (nI (szOf zs i)) else none := by
  induction zs with
  | nil => simp [valV, kvZ, stsOf]
  | cons p r ih =>
    by_cases e : p.1 = i
    · subst e
      simp [valV, kvZ, stsOf, szOf]
    · have e2 : ¬ (i = p.1) := fun h => e h.symm
      have e3 : ¬ ((Sum.inl (p.1 : Int) : Key) = Sum.inl (i : Int)) := fun h => e (by have := Sum.inl.inj h; omega)
      have h1 : valV (kvZ (p :: r)) (Sum.inl (i : Int)) = valV (kvZ r) (Sum.inl (i : Int)) := by
        unfold valV kvZ
        rw [List.map_cons, List.find?_cons]
        simp only [e3, decide_false]
      have h2 : szOf (p :: r) i = szOf r i := by
        unfold szOf
        rw [List.find?_cons]
        simp only [e, decide_false]
      have h3 : (i ∈ stsOf (p :: r)) ↔ i ∈ stsOf r := by
        unfold stsOf
        rw [List.map_cons, List.mem_cons]
        simp [e2]
      rw [h1, ih, h2]
      simp only [h3]
def onlyB (S : List Nat) (row : List Nat) : Bool := (row.zipIdx 0).all fun p => decide (p.1 = 0) || decide (p.2 ∈ S)
theorem onlyB_iff {S row : List Nat} : onlyB S row = true ↔ onlyOf S row := by
  unfold onlyB onlyOf
  rw [List.all_eq_true]
  constructor
  · intro h i x hi hx
    have := h (x, i) (List.mem_iff_getElem?.mpr ⟨i, by rw [List.getElem?_zipIdx, hi]; simp⟩)
    simpa [hx] using this
  · intro h p hp
    obtain ⟨j, hj⟩ := List.mem_iff_getElem?.mp hp
    rw [List.getElem?_zipIdx] at hj
    cases e : row[j]? with
    | none => rw [e] at hj; cases hj
    | some x =>
      rw [e] at hj
      cases hj
      by_cases hx : x = 0
      · simp [hx]
      · have := h j x e hx
        simp [this]
theorem all_map_id {α : Type} (f : α → Bool) : ∀ l : List α, (l.map f).all id = l.all f
  | [] => rfl
  | a :: r => by simp only [List.map_cons, List.all_cons, id, all_map_id f r]
theorem wtL_zip (f : Nat → Nat) : ∀ (row : List Nat) (k : Nat), (((row.zipIdx k).filter fun p => decide (0 < p.1)).map fun p => p.1 * f p.2).sum = wtL f k row
  | [], _ => rfl
  | x :: r, k => by
    have ih := wtL_zip f r (k + 1)
    rw [List.zipIdx_cons, List.filter_cons]
    by_cases hx : 0 < x
    · rw [if_pos (decide_eq_true hx), List.map_cons, List.sum_cons, ih]
      rfl
    · rw [if_neg (by simpa using hx), ih]
      simp only [wtL]
      rw [show x = 0 by omega, Nat.zero_mul, Nat.zero_add]
theorem sum_castn (l : List Nat) : (l.map fun x : Nat => (x : Int)).sum = ((l.sum : Nat) : Int) := by
  induction l with
  | nil => rfl
  | cons a t ih =>
    rw [List.map_cons, List.sum_cons, List.sum_cons, ih]
    push_cast
    rfl
def sp_are_only_of_d : Sp := fun vs H Q _ => ∃ (a d : Addr) (row : List Nat) (zs : List (Nat × Nat)), vs = [.ref a, .ref d] ∧ H a = some (.tup (row.map nI)) ∧ H d = some (.dK (kvZ zs)) ∧ row.length ≤ 6 ∧ ∀ H', Same H H' → Q (.bl (onlyB (stsOf zs) row)) H'
def sp__least_size : Sp := fun vs H Q _ => ∃ (a d : Addr) (row : List Nat) (zs : List (Nat × Nat)), vs = [.ref a, .ref d] ∧ H a = some (.tup (row.map nI)) ∧ H d = some (.dK (kvZ zs)) ∧ row.length ≤ 6 ∧ (∀ x ∈ row, x ≤ 7) ∧ onlyOf (stsOf zs) row ∧ (∀ p ∈ zs, p.2 ≤ 1000000) ∧ ∀ H', Same H H' → Q (nI (wt zs row)) H'
section
variable {P : Program} {w : World} {K : PySem.W.Frag} {mg : Str → Option Value} {base : Heap}
theorem ok_are_only_of_d (T : Txt K mg) : FnOk P w K mg base CX0 1 T.f_are_only_of T.d_are_only_of ["classes", "states"] sp_are_only_of_d := by
  refine T.F_are_only_of.ok sc_are_only_of (fun vs H Q E h => ?_) (fun cdv A outer s H vs Q E hr h => ?_)
  · obtain ⟨a, d, row, zs, rfl, _⟩ := h
    rfl
  obtain ⟨a, d, row, zs, rfl, ha, hd, h6, q⟩ := h
  refine ⟨_, (pss_one (ps_ret (pe_callB (cr_all rfl) (by rfl) T.z_all (by decide +kernel) (pa_cons (pe_lc (own := [("state", 2), ("many", 3)]) (g := gTup K 2 (gCons (gName 2) (gCons (gName 3) gNil))) (te := tOrV (tOp rEq (tVar 3) (tC (.int 0))) (tOp (rInK false) (tVar 2) (tVar 1))) (tt := tYes) rfl sc_are_only_of.nd (pi_enumT (by rfl) T.z_enumerate (pa_cons (pv 0) pa_nil)) (blkOk_by (own := [("state", 2), ("many", 3)]) (N := ["classes", "states", "state", "many"]) (sc := (defScope s_are_only_of)) (by decide +kernel)) (fun _ _ _ _ _ => (pg_tup rfl (pgs_cons (pg_name (i := 2) sc_are_only_of.nd rfl (Or.inl rfl)) (pgs_cons (pg_name (i := 3) sc_are_only_of.nd rfl (Or.inl rfl)) pgs_nil)))) (fun _ _ _ _ _ => pts_nil) (fun _ _ _ _ _ => (pe_or (pe_cmpR op_eq (pv 3) pe_int (nomark _)) (pe_one (pe_cmpR (op_inK (hu_of hr)) (pv 2) (pv 1) (by rfl)))))) pa_nil)))), ?_⟩
  refine ⟨_, rfl, a, _, rfl, SqT.of ha, fun D hD => ?_⟩
  refine lc_walk (len := (row.map nI).length) walk_enumT (fun i H2 => H2 D = some (.lst ((((row.zipIdx 0).map fun p => decide (p.1 = 0) || decide (p.2 ∈ stsOf zs)).take i).map V.bl)) ∧ Same H H2) ⟨upd_same, same_new hD⟩ (fun i H2 _ h => SqT.of (h.2 _ _ ha)) ?_ ?_
  · rintro i x H2 H3 hi ⟨g1, g2⟩ ⟨Tt, x1, rfl, hT, rfl, hx⟩
    rw [List.length_map] at hi
    rw [List.getElem?_map, List.getElem?_eq_getElem hi] at hx
    cases hx
    have sT := same_new hT (o := .tup [.int (i : Nat), nI row[i]])
    have hz : ((row.zipIdx 0).map fun p => decide (p.1 = 0) || decide (p.2 ∈ stsOf zs))[i]? = some (decide (row[i] = 0) || decide (i ∈ stsOf zs)) := by
      rw [List.getElem?_map, List.getElem?_zipIdx, List.getElem?_eq_getElem hi]
      simp
    have lt : ((((row.zipIdx 0).map fun p => decide (p.1 = 0) || decide (p.2 ∈ stsOf zs)).take i).map V.bl).length < sizeLine := by
      rw [List.length_map, List.length_take]
      exact Nat.lt_of_le_of_lt (show _ ≤ 1000000 by omega) (by decide)
    have kD := sT _ _ g1
    have sD := same_add (o := .lst ((((row.zipIdx 0).map fun p => decide (p.1 = 0) || decide (p.2 ∈ stsOf zs)).take i).map V.bl ++ [V.bl (decide (row[i] = 0) || decide (i ∈ stsOf zs))])) (g2.trans sT) hD
    have hd3 := (g2.trans sT) _ _ hd
    refine ⟨_, _, rfl, SqT.of upd_same, rfl, _, _, rfl, _, _, rfl, rfl, rfl, _, rfl, rfl, _, rfl, ?_⟩
    by_cases h0 : row[i] = 0
    · refine eqT (congrArg nI h0) ⟨_, kD, lt, ?_, ?_⟩
      · rw [upd_same, take_succ_of hz, List.map_append]
        simp [h0]
      · simpa [h0] using sD
    · refine eqF (fun e => h0 (by have := V.int.inj e; omega)) ⟨_, rfl, _, rfl, d, _, Sum.inl (i : Int), rfl, rfl, .inl hd3, _, kD, lt, ?_, ?_⟩
      · rw [upd_same, take_succ_of hz, List.map_append, valZ]
        by_cases hm : i ∈ stsOf zs
        · simp [h0, hm]
        · simp [h0, hm]
      · rw [valZ]
        by_cases hm : i ∈ stsOf zs
        · simpa [h0, hm] using sD
        · simpa [h0, hm] using sD
  rintro H2 ⟨g1, g2⟩
  rw [List.take_of_length_le (by rw [List.length_map, List.length_zipIdx, List.length_map]; exact Nat.le_refl _)] at g1
  refine ⟨D, _, rfl, SqL.of g1, ?_⟩
  rw [all_map_id]
  exact q H2 g2
end

section
variable {P : Program} {w : World} {K : PySem.W.Frag} {mg : Str → Option Value} {base : Heap}
theorem ok__least_size (T : Txt K mg) : FnOk P w K mg base CX0 1 T.f__least_size T.d__least_size ["classes", "sizes"] sp__least_size := by
  refine T.F__least_size.ok sc__least_size (fun vs H Q E h => ?_) (fun cdv A outer s H vs Q E hr h => ?_)
  · obtain ⟨a, d, row, zs, rfl, _⟩ := h
    rfl
  obtain ⟨a, d, row, zs, rfl, ha, hd, h6, h7, ho, hz, q⟩ := h
  refine ⟨_, (pss_one (ps_ret (pe_op op_add pe_int (pe_callB (cr_sum rfl) (by rfl) T.z_sum (by decide +kernel) (pa_cons (pe_lc (own := [("state", 2), ("many", 3)]) (g := gTup K 2 (gCons (gName 2) (gCons (gName 3) gNil))) (te := tOp _ (tVar 3) (tDGet (tVar 1) (tVar 2))) (tt := tTest (tOp _ (tVar 3) (tC (.int 0)))) rfl sc__least_size.nd (pi_enumT (by rfl) T.z_enumerate (pa_cons (pv 0) pa_nil)) (blkOk_by (own := [("state", 2), ("many", 3)]) (N := ["classes", "sizes", "state", "many"]) (sc := (defScope s__least_size)) (by decide +kernel)) (fun _ _ _ _ _ => (pg_tup rfl (pgs_cons (pg_name (i := 2) sc__least_size.nd rfl (Or.inl rfl)) (pgs_cons (pg_name (i := 3) sc__least_size.nd rfl (Or.inl rfl)) pgs_nil)))) (fun _ _ _ _ _ => pts_one (pt_cmpR op_gt (pv 3) pe_int (nomark _))) (fun _ _ _ _ _ => (pe_op op_mul (pv 3) (pe_dget (hu_of hr) (pv 1) (pv 2) (fun _ _ => rfl))))) pa_nil))))), ?_⟩
  refine ⟨_, rfl, a, _, rfl, SqT.of ha, fun D hD => ?_⟩
  refine lc_walk (len := (row.map nI).length) walk_enumT (fun i H2 => H2 D = some (.lst (((((row.zipIdx 0).take i).filter fun p => decide (0 < p.1)).map fun p => p.1 * szOf zs p.2).map nI)) ∧ Same H H2) ⟨upd_same, same_new hD⟩ (fun i H2 _ h => SqT.of (h.2 _ _ ha)) ?_ ?_
  · rintro i x H2 H3 hi ⟨g1, g2⟩ ⟨Tt, x1, rfl, hT, rfl, hx⟩
    rw [List.length_map] at hi
    rw [List.getElem?_map, List.getElem?_eq_getElem hi] at hx
    cases hx
    have sT := same_new hT (o := .tup [.int (i : Nat), nI row[i]])
    have hzi : (row.zipIdx 0)[i]? = some (row[i], i) := by
      rw [List.getElem?_zipIdx, List.getElem?_eq_getElem hi]
      simp
    have lt : (((((row.zipIdx 0).take i).filter fun p => decide (0 < p.1)).map fun p => p.1 * szOf zs p.2).map nI).length < sizeLine := by
      rw [List.length_map, List.length_map]
      have := List.length_filter_le (fun p : Nat × Nat => decide (0 < p.1)) ((row.zipIdx 0).take i)
      rw [List.length_take] at this
      exact Nat.lt_of_le_of_lt (show _ ≤ 1000000 by omega) (by decide)
    have kD := sT _ _ g1
    have hd3 := (g2.trans sT) _ _ hd
    refine ⟨_, _, rfl, SqT.of upd_same, rfl, _, _, rfl, _, _, rfl, rfl, rfl, _, rfl, _, _, rfl, rfl, _, rfl, ?_⟩
    by_cases h0 : 0 < row[i]
    · have hin := ho i row[i] (List.getElem?_eq_getElem hi) (by omega)
      have r7 := h7 row[i] (List.getElem_mem hi)
      have sz : szOf zs i ≤ 1000000 := hz _ (szOf_mem hin)
      refine dT (by omega) ⟨_, rfl, _, rfl, _, rfl, d, nI (szOf zs i), rfl, .inl ⟨kvZ zs, Sum.inl (i : Int), .inl hd3, rfl, by rw [valZ, if_pos hin]⟩, _, _, rfl, rfl, .inl ⟨by omega, by omega⟩, _, kD, lt, ?_, same_add (g2.trans sT) hD⟩
      rw [upd_same, take_succ_of hzi, List.filter_append, List.map_append, List.map_append]
      simp only [List.filter_cons, h0, decide_true, if_true, List.filter_nil, List.map_cons, List.map_nil]
      have e : (row[i] : Int) * ((szOf zs i : Nat) : Int) = ((row[i] * szOf zs i : Nat) : Int) := by push_cast; rfl
      rw [e]
    · refine dF (by omega) ⟨?_, g2.trans sT⟩
      rw [take_succ_of hzi, List.filter_append]
      simp only [List.filter_cons, h0, decide_false, Bool.false_eq_true, if_false, List.filter_nil, List.append_nil]
      exact kD
  rintro H2 ⟨g1, g2⟩
  rw [List.take_of_length_le (by rw [List.length_zipIdx, List.length_map]; exact Nat.le_refl _), nI_map] at g1
  refine ⟨D, _, rfl, .inl (.inl g1), _, _, rfl, rfl, ?_⟩
  have e : (1 : Int) + (((((row.zipIdx 0).filter fun p => decide (0 < p.1)).map fun p => p.1 * szOf zs p.2)).map fun n : Nat => (n : Int)).sum = ((wt zs row : Nat) : Int) := by
    rw [sum_castn, wtL_zip]
    unfold wt
    push_cast
    rfl
  show Q (V.int _) _
  rw [e]
  exact q _ g2
end

def LR4 (H : Hp) (v : V) (m : Nat) (key : Nat × List Nat) (s : Nat) : Prop := ∃ b a : Addr, v = .ref b ∧ H b = some (.tup [nI m, .str (ch key.1), .ref a, nI s]) ∧ H a = some (.tup (key.2.map nI))
theorem LR4.same {H H' : Hp} {v : V} {m : Nat} {key : Nat × List Nat} {s : Nat} (x : LR4 H v m key s) (f : ∀ b xs, H b = some (.tup xs) → H' b = some (.tup xs)) : LR4 H' v m key s := by
  obtain ⟨b, a, rfl, h1, h2⟩ := x
  exact ⟨b, a, rfl, f _ _ h1, f _ _ h2⟩
def rowD (J : JD) (zs : List (Nat × Nat)) (key : Nat × List Nat) : PyData := .tuple [.int (wt zs key.2), .str (ch key.1), .tuple (key.2.map fun x : Nat => .int (x : Int)), .int (J.fs key.1 key.2)]
theorem alike_ints : ∀ xs ys : List Nat, PySem.W.alikeAll (xs.map fun x : Nat => PyData.int (x : Int)) (ys.map fun x : Nat => PyData.int (x : Int)) = true
  | [], _ => by simp only [List.map_nil, PySem.W.alikeAll]
  | _ :: _, [] => by simp only [List.map_cons, List.map_nil, PySem.W.alikeAll]
  | x :: r, y :: t => by simp only [List.map_cons, PySem.W.alikeAll, PySem.W.alike, alike_ints r t, Bool.and_self]
theorem alike_rowD (J : JD) (zs : List (Nat × Nat)) (k l : Nat × List Nat) : PySem.W.alike (rowD J zs k) (rowD J zs l) = true := by
  simp only [rowD, PySem.W.alike, PySem.W.alikeAll, alike_ints, Bool.and_self]
theorem depth_nats : ∀ xs : List Nat, PyData.depthAll (xs.map fun x : Nat => PyData.int (x : Int)) ≤ 1
  | [] => by simp only [List.map_nil, PyData.depthAll]; omega
  | x :: r => by
    have := depth_nats r
    simp only [List.map_cons, PyData.depthAll, PyData.depth]
    omega
theorem depth_rows (J : JD) (zs : List (Nat × Nat)) : ∀ ks : List (Nat × List Nat), PyData.depthAll (ks.map (rowD J zs)) ≤ 5
  | [] => by simp only [List.map_nil, PyData.depthAll]; omega
  | k :: r => by
    have a := depth_rows J zs r
    have b := depth_nats k.2
    simp only [List.map_cons, PyData.depthAll, rowD, PyData.depth]
    omega
theorem dp_nats {K : PySem.W.Frag} {H : Hp} : ∀ xs : List Nat, DpAll K H (xs.map nI) (xs.map fun x : Nat => PyData.int (x : Int))
  | [] => .nil
  | x :: r => .cons (.int _) (dp_nats r)
theorem dp_row {K : PySem.W.Frag} {H : Hp} {J : JD} {zs : List (Nat × Nat)} {v : V} {key : Nat × List Nat} (x : LR4 H v (wt zs key.2) key (J.fs key.1 key.2)) : Dp K H v (rowD J zs key) := by
  obtain ⟨b, a, rfl, h1, h2⟩ := x
  exact .tup (SqT.of h1) (.cons (.int _) (.cons (.str _) (.cons (.tup (SqT.of h2) (dp_nats _)) (.cons (.int _) .nil))))
theorem dp_rows {K : PySem.W.Frag} {H : Hp} {J : JD} {zs : List (Nat × Nat)} : ∀ ps : List (V × (Nat × List Nat)), (∀ p ∈ ps, LR4 H p.1 (wt zs p.2.2) p.2 (J.fs p.2.1 p.2.2)) → DpAll K H (ps.map (·.1)) ((ps.map (·.2)).map (rowD J zs))
  | [], _ => .nil
  | p :: r, h => .cons (dp_row (h p List.mem_cons_self)) (dp_rows r fun q hq => h q (List.mem_cons_of_mem _ hq))
def candB (J : JD) (zs : List (Nat × Nat)) (key : Nat × List Nat) : Bool := !decide (J.fs key.1 key.2 ∈ stsOf zs) && onlyB (stsOf zs) key.2
def sp__next_least_row (P : Program) (w : World) : Sp := fun vs H Q _ => ∃ (v : V) (J : JD) (d : Addr) (zs : List (Nat × Nat)) (M : Nat), vs = [v, .ref d] ∧ JAt P w H v J ∧ J.ok ∧ H d = some (.dK (kvZ zs)) ∧ LInv J zs M ∧ zs.length ≤ 6 ∧
  (∀ H', Same H H' → Closed J (stsOf zs) → Q .non H') ∧ ∀ u key H', Same H H' → key ∈ J.keys → onlyOf (stsOf zs) key.2 → J.fs key.1 key.2 ∉ stsOf zs → (∀ k2 ∈ J.keys, onlyOf (stsOf zs) k2.2 → J.fs k2.1 k2.2 ∉ stsOf zs → wt zs key.2 ≤ wt zs k2.2) → LR4 H' u (wt zs key.2) key (J.fs key.1 key.2) → Q u H'
theorem LInv.small {J : JD} {zs : List (Nat × Nat)} {M : Nat} (h : LInv J zs M) (hn : J.n ≤ 6) : zs.length ≤ J.n ∧ ∀ p ∈ zs, p.2 ≤ 100000 := by
  have l1 : (stsOf zs).length ≤ J.n := by
    have nd2 : ((List.range J.n).filter fun x => decide (x ∈ stsOf zs)).Nodup := List.Nodup.sublist List.filter_sublist List.nodup_range
    have pp := perm_nodup h.nd nd2 fun a => by
      rw [List.mem_filter, List.mem_range, decide_eq_true_eq]
      refine ⟨fun ha => ⟨?_, ha⟩, fun ha => ha.2⟩
      obtain ⟨p, hp, rfl⟩ := List.mem_map.mp ha
      exact h.lt p hp
    rw [pp.length_eq]
    have := List.length_filter_le (fun x => decide (x ∈ stsOf zs)) (List.range J.n)
    rwa [List.length_range] at this
  unfold stsOf at l1
  rw [List.length_map] at l1
  refine ⟨l1, fun p hp => ?_⟩
  have hT := h.T
  have h8 : 8 ^ zs.length ≤ 8 ^ 6 := Nat.pow_le_pow_right (by decide) (by omega)
  have : p.2 ≤ (zs.map (·.2)).sum := by
    have : ∀ l : List (Nat × Nat), p ∈ l → p.2 ≤ (l.map (·.2)).sum := by
      intro l
      induction l with
      | nil => intro h; cases h
      | cons a r ih =>
        intro h
        rw [List.map_cons, List.sum_cons]
        rcases List.mem_cons.mp h with e | h
        · rw [e]; omega
        · have := ih h; omega
    exact this zs hp
  have e : (8 : Nat) ^ 6 = 262144 := by decide
  omega
section
variable {P : Program} {w : World} {K : PySem.W.Frag} {mg : Str → Option Value} {base : Heap}
theorem ok__next_least_row (T : Txt K mg) : FnOk P w K mg base CX0 2 T.f__next_least_row T.d__next_least_row ["judge", "sizes"] (sp__next_least_row P w) := by
  have G_are_only_of : FnOk P w K mg base CX0 1 T.f_are_only_of T.d_are_only_of ["classes", "states"] sp_are_only_of_d := ok_are_only_of_d T
  have G__least_size : FnOk P w K mg base CX0 1 T.f__least_size T.d__least_size ["classes", "sizes"] sp__least_size := ok__least_size T
  refine T.F__next_least_row.ok sc__next_least_row (fun vs H Q E h => ?_) (fun cdv A outer s H vs Q E hr h => ?_)
  · obtain ⟨v, J, d, zs, M, rfl, _⟩ := h
    rfl
  obtain ⟨v, J, dz, zs, M, rfl, hJ, hok, hdz, hL, hz6, q0, q1⟩ := h
  refine ⟨_, (pss_cons (ps_lock (ps_setLc (i := 2) (own := [("letter", 3), ("classes", 4), ("state", 5)]) (g := gTup K 2 (gCons (gTup K 2 (gCons (gName 3) (gCons (gName 4) gNil))) (gCons (gName 5) gNil))) (te := tTup (tCons (tCall sp__least_size [] E0 (tCons (tVar 4) (tCons (tVar 1) tNil))) (tCons (tVar 3) (tCons (tVar 4) (tCons (tVar 5) tNil))))) (tt := tAnd (tTest (tOp (rInK true) (tVar 5) (tVar 1))) (tB (tCall sp_are_only_of_d [] E0 (tCons (tVar 4) (tCons (tVar 1) tNil))))) rfl sc__next_least_row.nd rfl rfl (sw_true rfl rfl rfl (by decide +kernel)) (pi_itemsN (pe_ix ix_tup (pv 0) pe_int (fun _ _ => rfl))) (blkOk_by (own := [("letter", 3), ("classes", 4), ("state", 5)]) (N := ["judge", "sizes", "rows", "letter", "classes", "state"]) (sc := (defScope s__next_least_row)) (by decide +kernel)) (fun _ _ _ _ _ => (pg_tup rfl (pgs_cons (pg_tup rfl (pgs_cons (pg_name (i := 3) sc__next_least_row.nd rfl (Or.inl rfl)) (pgs_cons (pg_name (i := 4) sc__next_least_row.nd rfl (Or.inl rfl)) pgs_nil))) (pgs_cons (pg_name (i := 5) sc__next_least_row.nd rfl (Or.inl rfl)) pgs_nil)))) (fun _ _ _ _ _ => pts_one (PW.pt (pw_and (pt_cmpR (op_notInK (hu_of hr)) (pv 5) (pv 1) (by rfl)) (pw_and1 (pt_val (pe_call G_are_only_of (hr.mono (by omega)) (by rfl) T.m_are_only_of T.F_are_only_of.kp T.b_are_only_of .nil pass0 (pa_cons (pv 4) (pa_cons (pv 1) pa_nil)))))))) (fun _ _ _ _ _ => (pe_tup (pa_cons (pe_call G__least_size (hr.mono (by omega)) (by rfl) T.m__least_size T.F__least_size.kp T.b__least_size .nil pass0 (pa_cons (pv 4) (pa_cons (pv 1) pa_nil))) (pa_cons (pv 3) (pa_cons (pv 4) (pa_cons (pv 5) pa_nil)))))))) (pss_one (ps_ret (pe_callBK (cr_minDef (roomM hr) rfl) (by rfl) T.z_min (by decide +kernel) (pa_cons (pv 2) pa_nil) (pk_cons pe_non pk_nil))))), ?_⟩
  obtain ⟨j, d, g, xs, keys, rfl, hj, hd, hrn, hrj, hper, hg⟩ := hJ
  have n6 := hok.n6
  have hsm := (hL.small n6).2
  have lk : xs.length ≤ 600 := by
    rw [Paired.length hrj, hper.length_eq]
    unfold JD.keys
    rw [keysOf_len]
    exact hok.h600
  have ndz : dz ≠ d := fun e => by rw [e, hd] at hdz; unfold DictN at hdz; cases hdz
  have ndj : j ≠ d := fun e => by rw [e, hd] at hj; unfold DictN at hj; cases hj
  refine ⟨d, _, hd, trivial, fun od => ?_⟩
  refine ⟨_, rfl, j, _, 4, _, rfl, rfl, SqT.of (by rw [upd_ne ndj]; exact hj), atI_nat (j := 4) rfl, d, od, xs, rfl, upd_same, fun D hD => ?_⟩
  have nDd : D ≠ d := fun e => by rw [e, upd_same] at hD; cases hD
  have hD0 : H D = none := by rw [upd_ne nDd] at hD; exact hD
  refine lc_walk (len := xs.length) walk_itemsN (fun i H' => (∃ ps : List (V × (Nat × List Nat)), H' D = some (.lst (ps.map (·.1))) ∧ (∀ p ∈ ps, LR4 H' p.1 (wt zs p.2.2) p.2 (J.fs p.2.1 p.2.2)) ∧ ps.map (·.2) = (keys.take i).filter (candB J zs)) ∧ H' d = some (.frz od (DictN P w d xs)) ∧ FrD d H H') ⟨⟨[], upd_same, (fun _ h => by cases h), rfl⟩, by rw [upd_ne nDd.symm, upd_same], fun b o n e => by rw [upd_ne (ne_of_none e hD0), upd_ne n]; exact e⟩ (fun i H' _ h => h.2.1) ?_ ?_
  · rintro i x H2 H3 hi ⟨⟨ps, k0, k1, k2⟩, k3, k4⟩ ⟨p, row, hrow, rfl, hp, rfl⟩
    obtain ⟨⟨c, rw0⟩, hkey, e1, e2⟩ := prd_at hrj hrow
    have hm := hper.mem_iff.mp (List.mem_of_getElem? hkey)
    obtain ⟨hc, hlen, hkk⟩ := keysOf_mem hm
    dsimp only at hlen hkk hc
    obtain ⟨hn1, _⟩ := hrn row (List.mem_of_getElem? hrow)
    rw [e1] at hn1
    obtain ⟨a, kb, ka⟩ := nk_inv hn1
    have ntup : ∀ (q : Addr) (ys : List V), H q = some (.tup ys) → q ≠ d := fun q ys e z => by rw [z, hd] at e; unfold DictN at e; cases e
    have sp := same_new (o := .tup [.ref row.2.1, row.2.2]) hp
    have kp := upd_same (H := H2) (a := p) (o := .tup [.ref row.2.1, row.2.2])
    have k0' := sp _ _ k0
    have k3' := sp _ _ k3
    have k4' : FrD d H (upd H2 p (.tup [.ref row.2.1, row.2.2])) := fun b o ne e => sp _ _ (k4 b o ne e)
    have k1' : ∀ q ∈ ps, LR4 (upd H2 p (.tup [.ref row.2.1, row.2.2])) q.1 (wt zs q.2.2) q.2 (J.fs q.2.1 q.2.2) := fun q hq => (k1 q hq).same fun b ys e => sp _ _ e
    generalize upd H2 p (.tup [.ref row.2.1, row.2.2]) = H4 at *
    rw [e2] at kp
    have kb4 := k4' _ _ (ntup _ _ kb) kb
    have ka4 := k4' _ _ (ntup _ _ ka) ka
    have kz4 := k4' _ _ ndz hdz
    have lps : (ps.map (·.1)).length < sizeLine := by
      rw [List.length_map]
      have l1 := congrArg List.length k2
      have l2 := List.length_filter_le (candB J zs) (keys.take i)
      rw [List.length_map] at l1
      rw [List.length_take] at l2
      exact Nat.lt_of_le_of_lt (show _ ≤ 1000000 by omega) (by decide)
    refine ⟨p, _, rfl, SqT.of kp, rfl, _, _, rfl, row.2.1, _, rfl, SqT.of kb4, rfl, _, _, rfl, _, _, rfl, rfl, _, _, rfl, rfl, rfl, ?_⟩
    refine ⟨_, rfl, _, rfl, dz, kvZ zs, Sum.inl (J.fs c rw0 : Int), rfl, rfl, .inl kz4, ?_⟩
    refine ⟨_, rfl, ?_⟩
    have hrow7 : ∀ x ∈ rw0, x ≤ 7 := fun x hx => by have := hkk x hx; have := hok.f4; have := hok.t4; omega
    by_cases hin : J.fs c rw0 ∈ stsOf zs
    · rw [valZ, if_pos hin]
      refine iteF (iteF ⟨⟨ps, k0', k1', ?_⟩, k3', k4'⟩)
      rw [take_succ_of hkey, List.filter_append, k2]
      simp [candB, hin]
    rw [valZ, if_neg hin]
    refine iteT ⟨_, rfl, _, rfl, a, dz, rw0, zs, rfl, ka4, kz4, by omega, fun H5 s5 => ⟨_, rfl, ?_⟩⟩
    cases hb : onlyB (stsOf zs) rw0 with
    | false =>
      refine iteF ⟨⟨ps, s5 _ _ k0', fun q hq => (k1' q hq).same fun b ys e => s5 _ _ e, ?_⟩, s5 _ _ k3', fun b o n e => s5 _ _ (k4' b o n e)⟩
      rw [take_succ_of hkey, List.filter_append, k2]
      simp [candB, hb]
    | true =>
      have ho := onlyB_iff.mp hb
      refine iteT ⟨_, rfl, _, rfl, a, dz, rw0, zs, rfl, s5 _ _ ka4, s5 _ _ kz4, by omega, hrow7, ho, fun p hp => by have := hsm p hp; omega, fun H6 s6 => ⟨_, rfl, _, rfl, _, rfl, (by show 4 ≤ sizeLine; decide), fun q hq => ?_⟩⟩
      have s56 := s5.trans s6
      have sq := same_new hq (o := .tup [nI (wt zs rw0), .str (ch c), .ref a, nI (J.fs c rw0)])
      have kq := upd_same (H := H6) (a := q) (o := .tup [nI (wt zs rw0), .str (ch c), .ref a, nI (J.fs c rw0)])
      have kD6 := sq _ _ (s56 _ _ k0')
      have S6 := s56.trans sq
      refine ⟨_, kD6, lps, ⟨ps ++ [(.ref q, (c, rw0))], by rw [upd_same, List.map_append]; rfl, ?_, ?_⟩, ?_, fun b o n e => ?_⟩
      · have tk := upd_tup (o := .lst (ps.map (·.1) ++ [V.ref q])) kD6
        intro x hx
        rcases List.mem_append.mp hx with hx | hx
        · exact (k1' x hx).same fun b ys e => tk _ _ (S6 _ _ e)
        · rw [List.mem_singleton.mp hx]
          exact ⟨q, a, rfl, tk _ _ kq, tk _ _ (S6 _ _ ka4)⟩
      · rw [take_succ_of hkey, List.filter_append, List.map_append, k2]
        simp [candB, hin, hb]
      · have : d ≠ D := nDd.symm
        rw [upd_ne this]
        exact S6 _ _ k3'
      · rw [upd_ne (ne_of_none e hD0)]
        exact S6 _ _ (k4' b o n e)
  rintro H2 ⟨⟨ps, k0, k1, k2⟩, k3, k4⟩
  rw [show keys.take xs.length = keys from List.take_of_length_le (by rw [← Paired.length hrj]; exact Nat.le_refl _)] at k2
  refine ⟨k3, ?_⟩
  have S2 : Same H (upd H2 d (DictN P w d xs)) := fun b o e => by
    by_cases hb : b = d
    · rw [hb, upd_same, ← e, hb]; exact hd.symm
    · rw [upd_ne hb]; exact k4 b o hb e
  have kD2 : (upd H2 d (DictN P w d xs)) D = some (.lst (ps.map (·.1))) := by rw [upd_ne nDd]; exact k0
  have tup2 : ∀ b ys, H2 b = some (.tup ys) → (upd H2 d (DictN P w d xs)) b = some (.tup ys) := fun b ys e => by
    rw [upd_ne (fun z => by rw [z, k3] at e; cases e)]
    exact e
  have k1' : ∀ q ∈ ps, LR4 (upd H2 d (DictN P w d xs)) q.1 (wt zs q.2.2) q.2 (J.fs q.2.1 q.2.2) := fun q hq => (k1 q hq).same tup2
  have cand : ∀ key, key ∈ ps.map (·.2) ↔ key ∈ J.keys ∧ onlyOf (stsOf zs) key.2 ∧ J.fs key.1 key.2 ∉ stsOf zs := fun key => by
    rw [k2, List.mem_filter, hper.mem_iff]
    unfold candB
    rw [Bool.and_eq_true, onlyB_iff]
    simp only [Bool.not_eq_true', decide_eq_false_iff_not]
    exact ⟨fun ⟨a, b, c⟩ => ⟨a, c, b⟩, fun ⟨a, b, c⟩ => ⟨a, c, b⟩⟩
  refine ⟨_, rfl, D, .non, ps.map (fun p => (p.1, rowD J zs p.2)), rfl, rfl, ?_, ?_, ⟨?_, ?_⟩, ?_, fun e => ?_, fun y ys b e hb hmin => ?_⟩
  · rw [List.map_map]
    exact kD2
  · have := dp_rows (K := K) ps k1'
    rw [List.map_map] at this ⊢
    rw [List.map_map]
    exact this
  · intro x hx y hy
    rw [List.map_map] at hx hy
    obtain ⟨p, _, rfl⟩ := List.mem_map.mp hx
    obtain ⟨p2, _, rfl⟩ := List.mem_map.mp hy
    exact alike_rowD J zs p.2 p2.2
  · intro x hx e
    rw [List.map_map] at hx
    obtain ⟨p, _, rfl⟩ := List.mem_map.mp hx
    cases e
  · have := depth_rows J zs (ps.map (·.2))
    rw [List.map_map] at this ⊢
    exact Nat.le_trans this (by decide)
  · have ep : ps = [] := by
      cases ps with
      | nil => rfl
      | cons _ _ => cases e
    refine q0 _ S2 fun key hk ho => Classical.byContradiction fun hn => ?_
    have := (cand key).mpr ⟨hk, ho, hn⟩
    rw [ep] at this
    cases this
  · obtain ⟨p, hp, rfl⟩ := List.mem_map.mp hb
    dsimp only at hmin
    obtain ⟨c1, c2, c3⟩ := (cand p.2).mp (List.mem_map.mpr ⟨p, hp, rfl⟩)
    refine q1 p.1 p.2 _ S2 c1 c2 c3 (fun k2 a1 a2 a3 => ?_) (k1' p hp)
    obtain ⟨p2, hp2, rfl⟩ := List.mem_map.mp ((cand k2).mpr ⟨a1, a2, a3⟩)
    have key := minD_first (f := fun x => match x with | .tuple (.int m :: _) => m | _ => 0) (P := fun x => ∃ k, x = rowD J zs k) (fun x y ⟨k, ex⟩ ⟨l, ey⟩ hlt => by subst ex ey; exact lt_first.1 hlt) (fun x y ⟨k, ex⟩ ⟨l, ey⟩ hlt => by subst ex ey; exact lt_first.2 hlt) ys y
    rw [List.map_map] at e
    have hall : ∀ z ∈ y :: ys, ∃ k, z = rowD J zs k := fun z hz => by
      rw [← e] at hz
      obtain ⟨p3, _, rfl⟩ := List.mem_map.mp hz
      exact ⟨p3.2, rfl⟩
    have kk := key (hall y List.mem_cons_self) fun z hz => hall z (List.mem_cons_of_mem _ hz)
    rw [← hmin] at kk
    have hin2 : rowD J zs p2.2 ∈ y :: ys := by rw [← e]; exact List.mem_map.mpr ⟨p2, hp2, rfl⟩
    have : ((wt zs p.2.2 : Nat) : Int) ≤ ((wt zs p2.2.2 : Nat) : Int) := by
      rcases List.mem_cons.mp hin2 with h | h
      · have := kk.1
        rw [← h] at this
        exact this
      · exact kk.2 _ h
    omega
end


def zsOf (J : JD) (es : List (Nat × (Nat × List Nat))) : List (Nat × Nat) := es.map fun e => (J.fs e.2.1 e.2.2, e.1)
def Ahead (J : JD) (es : List (Nat × (Nat × List Nat))) : Prop := ∀ pre e post, es = pre ++ e :: post → e.2 ∈ J.keys ∧ onlyOf (stsOf (zsOf J pre)) e.2.2 ∧ J.fs e.2.1 e.2.2 ∉ stsOf (zsOf J pre) ∧ e.1 = wt (zsOf J pre) e.2.2
theorem zsOf_app (J : JD) (es : List (Nat × (Nat × List Nat))) (e : Nat × (Nat × List Nat)) : zsOf J (es ++ [e]) = zsOf J es ++ [(J.fs e.2.1 e.2.2, e.1)] := by unfold zsOf; rw [List.map_append]; rfl
theorem Ahead.nil (J : JD) : Ahead J [] := fun pre e post h => by cases pre <;> cases h
theorem Ahead.snoc {J : JD} {es : List (Nat × (Nat × List Nat))} (h : Ahead J es) {e : Nat × (Nat × List Nat)} (hk : e.2 ∈ J.keys) (ho : onlyOf (stsOf (zsOf J es)) e.2.2) (hn : J.fs e.2.1 e.2.2 ∉ stsOf (zsOf J es)) (hw : e.1 = wt (zsOf J es) e.2.2) : Ahead J (es ++ [e]) := by
  intro pre x post hx
  rcases List.eq_nil_or_concat post with rfl | ⟨p2, y, rfl⟩
  · obtain ⟨h1, h2⟩ := List.append_inj' hx rfl
    cases h2
    subst h1
    exact ⟨hk, ho, hn, hw⟩
  · rw [List.concat_eq_append, ← List.cons_append, ← List.append_assoc] at hx
    obtain ⟨h1, h2⟩ := List.append_inj' hx rfl
    exact h pre x p2 h1
def RowsZ (H : Hp) (J : JD) (vs : List V) (es : List (Nat × (Nat × List Nat))) : Prop := Paired (fun v (e : Nat × (Nat × List Nat)) => LR4 H v e.1 e.2 (J.fs e.2.1 e.2.2)) vs es
theorem RowsZ.keep {H H' : Hp} {J : JD} {vs : List V} {es : List (Nat × (Nat × List Nat))} (x : RowsZ H J vs es) (f : ∀ b xs, H b = some (.tup xs) → H' b = some (.tup xs)) : RowsZ H' J vs es := Paired.mapP x fun _ _ h => LR4.same h f
def sp__least_rows (P : Program) (w : World) : Sp := fun vs H Q _ => ∃ (v : V) (J : JD), vs = [v] ∧ JAt P w H v J ∧ J.ok ∧ ∀ r vs es M H', Same H H' → H r = none → H' r = some (.lst vs) → RowsZ H' J vs es → Ahead J es → LInv J (zsOf J es) M → Closed J (stsOf (zsOf J es)) → Q (.ref r) H'
section
variable {P : Program} {w : World} {K : PySem.W.Frag} {mg : Str → Option Value} {base : Heap}
theorem putZ {zs : List (Nat × Nat)} {s m : Nat} (h : s ∉ stsOf zs) : putK (kvZ zs) (Sum.inl (s : Int)) (nI m) = kvZ (zs ++ [(s, m)]) := by
  unfold putK
  have : ((kvZ zs).any fun kv => decide (kv.1 = Sum.inl (s : Int))) = false := by
    rw [List.any_eq_false]
    intro kv hkv
    obtain ⟨p, hp, rfl⟩ := List.mem_map.mp hkv
    have : ¬ ((Sum.inl (p.1 : Int) : Key) = Sum.inl (s : Int)) := fun e => h (List.mem_map.mpr ⟨p, hp, by have := Sum.inl.inj e; omega⟩)
    simpa using this
  rw [this, if_neg (by decide)]
  unfold kvZ
  rw [List.map_append]
  rfl
theorem ok__least_rows (T : Txt K mg) : FnOk P w K mg base CX0 3 T.f__least_rows T.d__least_rows ["judge"] (sp__least_rows P w) := by
  have G__next_least_row : FnOk P w K mg base CX0 2 T.f__next_least_row T.d__next_least_row ["judge", "sizes"] (sp__next_least_row P w) := ok__next_least_row T
  refine T.F__least_rows.ok sc__least_rows (fun vs H Q E h => ?_) (fun cdv A outer s H vs Q E hr h => ?_)
  · obtain ⟨v, J, rfl, _⟩ := h
    rfl
  obtain ⟨v, J, rfl, hJ, hok, q⟩ := h
  refine ⟨_, (pss_cons (ps_set (i := 1) sc__least_rows.nd rfl (Or.inl rfl) pe_dnewK) (pss_cons (ps_set (i := 2) sc__least_rows.nd rfl (Or.inl rfl) (pe_lst pa_nil)) (C8.pss_cut (ps_set (i := 3) sc__least_rows.nd rfl (Or.inl rfl) (pe_call G__next_least_row (hr.mono (by omega)) (by rfl) T.m__next_least_row T.F__next_least_row.kp T.b__next_least_row .nil pass0 (pa_cons (pv 0) (pa_cons (pv 1) pa_nil)))) (pss_cons (ps_while PassesOwn.never (pt_cmpR op_notN (pv 3) pe_non (nomark _)) (pss_cons (ps_expr (pe_bm PySem.F.plainAttrs_list PySem.F.slot_list_append PySem.F.type_list_append mt_append (pv 2) (pa_cons (pv 3) pa_nil))) (pss_cons (ps_dput (hu_of hr) (pv 1) (pe_ix ix_tup (pv 3) pe_int (fun _ _ => rfl)) (pe_ix ix_tup (pv 3) pe_int (fun _ _ => rfl)) rfl) (pss_one (ps_set (i := 3) sc__least_rows.nd rfl (Or.inl rfl) (pe_call G__next_least_row (hr.mono (by omega)) (by rfl) T.m__next_least_row T.F__next_least_row.kp T.b__next_least_row .nil pass0 (pa_cons (pv 0) (pa_cons (pv 1) pa_nil)))))))) (pss_one (ps_ret (pv 2))))))), ?_⟩
  refine fun dz hdz => ⟨(by show 0 ≤ sizeLine; decide), fun r hr => ?_⟩
  have s1 := same_new hdz (o := .dK [])
  have k1 := upd_same (H := H) (a := dz) (o := .dK [])
  have s2 := same_new hr (o := .lst [])
  have k2 := upd_same (H := upd H dz (.dK [])) (a := r) (o := .lst [])
  have kdz := s2 _ _ k1
  have S2 := s1.trans s2
  have r0 : H r = none := s1.free hr
  have nrd : r ≠ dz := fun e => by rw [e, upd_same] at hr; cases hr
  generalize hINV : (fun (σ : List (Option V)) (H' : Hp) (es : List (Nat × (Nat × List Nat))) => ∃ (vs : List V) (M : Nat) (row : V), σ = [some v, some (.ref dz), some (.ref r), some row] ∧ H' dz = some (.dK (kvZ (zsOf J es))) ∧ H' r = some (.lst vs) ∧ RowsZ H' J vs es ∧ Ahead J es ∧ LInv J (zsOf J es) M ∧ Same H H' ∧ ((row = .non ∧ Closed J (stsOf (zsOf J es))) ∨ ∃ key, key ∈ J.keys ∧ onlyOf (stsOf (zsOf J es)) key.2 ∧ J.fs key.1 key.2 ∉ stsOf (zsOf J es) ∧ (∀ k2 ∈ J.keys, onlyOf (stsOf (zsOf J es)) k2.2 → J.fs k2.1 k2.2 ∉ stsOf (zsOf J es) → wt (zsOf J es) key.2 ≤ wt (zsOf J es) k2.2) ∧ LR4 H' row (wt (zsOf J es) key.2) key (J.fs key.1 key.2))) = INV
  have hI : ∀ (σ : List (Option V)) (H' : Hp) (es : List (Nat × (Nat × List Nat))), INV σ H' es ↔ ∃ (vs : List V) (M : Nat) (row : V), σ = [some v, some (.ref dz), some (.ref r), some row] ∧ H' dz = some (.dK (kvZ (zsOf J es))) ∧ H' r = some (.lst vs) ∧ RowsZ H' J vs es ∧ Ahead J es ∧ LInv J (zsOf J es) M ∧ Same H H' ∧ ((row = .non ∧ Closed J (stsOf (zsOf J es))) ∨ ∃ key, key ∈ J.keys ∧ onlyOf (stsOf (zsOf J es)) key.2 ∧ J.fs key.1 key.2 ∉ stsOf (zsOf J es) ∧ (∀ k2 ∈ J.keys, onlyOf (stsOf (zsOf J es)) k2.2 → J.fs k2.1 k2.2 ∉ stsOf (zsOf J es) → wt (zsOf J es) key.2 ≤ wt (zsOf J es) k2.2) ∧ LR4 H' row (wt (zsOf J es) key.2) key (J.fs key.1 key.2)) := by
    intro σ H' es
    rw [← hINV]
  refine ⟨fun σ H' => INV σ H' [], ?_, ?_⟩
  · refine ⟨_, rfl, _, rfl, v, J, dz, [], 0, rfl, hJ.same S2, hok, kdz, LInv.nil J, by decide, fun H3 s3 hc => ?_, fun u key H3 s3 a1 a2 a3 a4 a5 => ?_⟩
    · exact (hI _ _ _).mpr ⟨[], 0, .non, rfl, s3 _ _ kdz, s3 _ _ k2, .nil, Ahead.nil J, LInv.nil J, S2.trans s3, .inl ⟨rfl, hc⟩⟩
    · exact (hI _ _ _).mpr ⟨[], 0, u, rfl, s3 _ _ kdz, s3 _ _ k2, .nil, Ahead.nil J, LInv.nil J, S2.trans s3, .inr ⟨key, a1, a2, a3, a4, a5⟩⟩
  rintro σ0 H0 hinv0
  refine ⟨fun m σ H' => ∃ es, INV σ H' es ∧ m = 7 - es.length, ⟨_, [], hinv0, rfl⟩, ?_⟩
  rintro m σ H4 ⟨es, hinv, hm⟩
  obtain ⟨vs, M, row, rfl, g1, g2, g3, g4, g5, g6, g7⟩ := (hI _ _ _).mp hinv
  rcases g7 with ⟨rfl, hc⟩ | ⟨key, a1, a2, a3, a4, a5⟩
  · refine ⟨_, rfl, rfl, _, rfl, iteF ?_⟩
    exact ⟨_, rfl, q r vs es M H4 g6 r0 g2 g3 g4 g5 hc⟩
  have st := g5.step hok a1 a2 a3 a4
  have ezs : zsOf J (es ++ [(wt (zsOf J es) key.2, key)]) = zsOf J es ++ [(J.fs key.1 key.2, wt (zsOf J es) key.2)] := zsOf_app J es _
  have les : es.length + 1 ≤ 6 := by
    have := (st.small hok.n6).1
    rw [List.length_append, List.length_singleton] at this
    unfold zsOf at this
    rw [List.length_map] at this
    have := hok.n6
    omega
  have lvs : vs.length = es.length := Paired.length g3
  obtain ⟨b, a, rfl, h1, h2⟩ := a5
  refine ⟨_, rfl, rfl, _, rfl, iteT ?_⟩
  refine ⟨fun σ2 H2 => ∃ es', INV σ2 H2 es' ∧ 7 - es'.length < m, fun σ2 H2 ⟨es', e1, e2⟩ => ⟨_, e2, es', e1, rfl⟩, ?_⟩
  refine ⟨_, rfl, .inl ⟨rfl, _, SqL.of g2⟩, _, rfl, r, vs, .ref b, rfl, rfl, g2, Nat.lt_of_le_of_lt (show _ ≤ 1000000 by omega) (by decide), ?_⟩
  have tk := upd_tup (o := .lst (vs ++ [V.ref b])) g2
  have kz5 : (upd H4 r (.lst (vs ++ [V.ref b]))) dz = some (.dK (kvZ (zsOf J es))) := by rw [upd_ne nrd.symm]; exact g1
  have S5 : Same H (upd H4 r (.lst (vs ++ [V.ref b]))) := same_add g6 r0
  have k5 := upd_same (H := H4) (a := r) (o := .lst (vs ++ [V.ref b]))
  have b5 := tk _ _ h1
  have a5 := tk _ _ h2
  have g35 := g3.keep tk
  refine ⟨_, rfl, b, _, 0, _, rfl, rfl, SqT.of b5, atI_nat (j := 0) rfl, _, rfl, _, rfl, b, _, 3, _, rfl, rfl, SqT.of b5, atI_nat (j := 3) rfl, dz, _, rfl, .inl ⟨kvZ (zsOf J es), Sum.inl (J.fs key.1 key.2 : Int), kz5, rfl, ?_, rfl⟩, ?_⟩
  · have := (st.small hok.n6).1
    rw [List.length_append] at this
    unfold kvZ
    rw [List.length_map]
    have := hok.n6
    exact Nat.lt_of_le_of_lt (show _ ≤ 1000000 by omega) (by decide)
  rw [putZ a3]
  have S6 : Same H (upd (upd H4 r (.lst (vs ++ [V.ref b]))) dz (.dK (kvZ (zsOf J es ++ [(J.fs key.1 key.2, wt (zsOf J es) key.2)])))) := same_add S5 hdz
  have tk6 : ∀ (q : Addr) (ys : List V), (upd H4 r (.lst (vs ++ [V.ref b]))) q = some (.tup ys) → (upd (upd H4 r (.lst (vs ++ [V.ref b]))) dz (.dK (kvZ (zsOf J es ++ [(J.fs key.1 key.2, wt (zsOf J es) key.2)])))) q = some (.tup ys) := fun q ys e => by
    rw [upd_ne (fun z => by rw [z, kz5] at e; cases e)]
    exact e
  have k6 : (upd (upd H4 r (.lst (vs ++ [V.ref b]))) dz (.dK (kvZ (zsOf J es ++ [(J.fs key.1 key.2, wt (zsOf J es) key.2)])))) r = some (.lst (vs ++ [V.ref b])) := by rw [upd_ne nrd]; exact k5
  have kz6 : (upd (upd H4 r (.lst (vs ++ [V.ref b]))) dz (.dK (kvZ (zsOf J es ++ [(J.fs key.1 key.2, wt (zsOf J es) key.2)])))) dz = some (.dK (kvZ (zsOf J es ++ [(J.fs key.1 key.2, wt (zsOf J es) key.2)]))) := upd_same
  have rows6 : RowsZ (upd (upd H4 r (.lst (vs ++ [V.ref b]))) dz (.dK (kvZ (zsOf J es ++ [(J.fs key.1 key.2, wt (zsOf J es) key.2)])))) J (vs ++ [V.ref b]) (es ++ [(wt (zsOf J es) key.2, key)]) := prd_app (g35.keep tk6) (.cons ⟨b, a, rfl, tk6 _ _ b5, tk6 _ _ a5⟩ .nil)
  have ah6 := g4.snoc (e := (wt (zsOf J es) key.2, key)) a1 a2 a3 rfl
  refine ⟨_, rfl, _, rfl, v, J, dz, _, _, rfl, hJ.same S6, hok, kz6, st, ?_, fun H7 s7 hc => ?_, fun u key2 H7 s7 b1 b2 b3 b4 b5 => ?_⟩
  · have := (st.small hok.n6).1
    have := hok.n6
    omega
  · refine ⟨es ++ [(wt (zsOf J es) key.2, key)], (hI _ _ _).mpr ⟨vs ++ [.ref b], _, .non, rfl, by rw [ezs]; exact s7 _ _ kz6, s7 _ _ k6, rows6.keep fun q ys e => s7 _ _ e, ah6, by rw [ezs]; exact st, S6.trans s7, .inl ⟨rfl, by rw [ezs]; exact hc⟩⟩, ?_⟩
    rw [List.length_append, List.length_singleton]
    omega
  · refine ⟨es ++ [(wt (zsOf J es) key.2, key)], (hI _ _ _).mpr ⟨vs ++ [.ref b], _, u, rfl, by rw [ezs]; exact s7 _ _ kz6, s7 _ _ k6, rows6.keep fun q ys e => s7 _ _ e, ah6, by rw [ezs]; exact st, S6.trans s7, .inr ⟨key2, b1, by rw [ezs]; exact b2, by rw [ezs]; exact b3, by rw [ezs]; exact b4, by rw [ezs]; exact b5⟩⟩, ?_⟩
    rw [List.length_append, List.length_singleton]
    omega
end

theorem count_perm {a b : List Nat} (p : a.Perm b) (n : Nat) : cnts n a = cnts n b := by
  unfold cnts
  exact List.map_congr_left fun s _ => p.count_eq s
mutual
theorem Sh.st {fs : Nat → List Nat → Nat} {n : Nat} : ∀ {t u : Tr}, Sh t u → St fs n t = St fs n u
  | _, _, .node (ks := ks) (us := us) (ls := ls) p h => by
    have e := Shs.st (fs := fs) (n := n) h
    have q : (Sts fs n ks).Perm (Sts fs n us) := by rw [Sts_map, Sts_map]; exact p.map _
    simp only [St]
    rw [count_perm q, e]
theorem Shs.st {fs : Nat → List Nat → Nat} {n : Nat} : ∀ {ts us : List Tr}, Shs ts us → Sts fs n ts = Sts fs n us
  | _, _, .nil => rfl
  | _, _, .cons a b => by simp only [Sts, Sh.st a, Shs.st b]
end
theorem posts_flat : ∀ ks : List Tr, posts ks = ks.flatMap Tr.post
  | [] => rfl
  | t :: r => by rw [posts, List.flatMap_cons, posts_flat r]
mutual
theorem Sh.post_perm {fs : Nat → List Nat → Nat} {n : Nat} : ∀ {t u : Tr}, Sh t u → (t.post.map (St fs n)).Perm (u.post.map (St fs n))
  | _, _, .node (c := c) (ks := ks) (us := us) (ls := ls) p h => by
    have e := Shs.post_perm (fs := fs) (n := n) h
    have s : St fs n (.node c ks) = St fs n (.node c ls) := Sh.st (.node p h)
    simp only [Tr.post, List.map_append, List.map_cons, List.map_nil]
    rw [s]
    refine List.Perm.append_right _ (List.Perm.trans ?_ e)
    rw [posts_flat, posts_flat]
    exact (p.flatMap_right _).map _
theorem Shs.post_perm {fs : Nat → List Nat → Nat} {n : Nat} : ∀ {ts us : List Tr}, Shs ts us → ((posts ts).map (St fs n)).Perm ((posts us).map (St fs n))
  | _, _, .nil => .refl _
  | _, _, .cons a b => by
    simp only [posts, List.map_append]
    exact (Sh.post_perm a).append (Shs.post_perm b)
end
theorem Shs.perm {xs ls : List Tr} (p : xs.Perm ls) : ∀ {ts : List Tr}, Shs ts xs → ∃ us, ts.Perm us ∧ Shs us ls := by
  induction p with
  | nil => intro ts h; exact ⟨ts, .refl _, h⟩
  | cons x _ ih =>
    intro ts h
    cases h with
    | cons a b =>
      obtain ⟨us, p1, h1⟩ := ih b
      exact ⟨_ :: us, p1.cons _, .cons a h1⟩
  | swap x y l =>
    intro ts h
    cases h with
    | cons a b =>
      cases b with
      | cons c d => exact ⟨_, .swap _ _ _, .cons c (.cons a d)⟩
  | trans _ _ ih1 ih2 =>
    intro ts h
    obtain ⟨us, p1, h1⟩ := ih1 h
    obtain ⟨ws, p2, h2⟩ := ih2 h1
    exact ⟨ws, p1.trans p2, h2⟩
mutual
theorem Sh.toTold : ∀ t : Tr, Sh t t.told
  | .node c ks => by
    obtain ⟨us, h1, h2⟩ := Shs.perm (List.mergeSort_perm (tolds ks) leW).symm (Shs.toTold ks)
    simp only [Tr.told]
    exact .node h1 h2
theorem Shs.toTold : ∀ ts : List Tr, Shs ts (tolds ts)
  | [] => .nil
  | t :: r => .cons (Sh.toTold t) (Shs.toTold r)
end

def Comes (J : JD) (s : Nat) : Prop := ∃ t : Tr, t.lets (fun c => c ∈ J.L.cps.toList) ∧ St J.sf J.n t = s
def rowH (tr : Nat → Tr) (k : Nat) (row : List Nat) : List (Tr × Nat) := ((row.zipIdx k).filter fun p => decide (0 < p.1)).map fun p => (tr p.2, p.1)
def mkT (c : Nat) (row : List Nat) (tr : Nat → Tr) : Tr := (Tr.node c (expand (rowH tr 0 row))).told
theorem rowH_cons (tr : Nat → Tr) (k x : Nat) (r : List Nat) : expand (rowH tr k (x :: r)) = List.replicate x (tr k) ++ expand (rowH tr (k + 1) r) := by
  unfold rowH
  rw [List.zipIdx_cons, List.filter_cons]
  by_cases hx : 0 < x
  · rw [if_pos (decide_eq_true hx), List.map_cons]
    simp [expand]
  · rw [if_neg (by simpa using hx), show x = 0 by omega]
    rfl
theorem rowH_cnt {fs : Nat → List Nat → Nat} {n : Nat} {tr : Nat → Tr} : ∀ (row : List Nat) (k i : Nat), (∀ j x, row[j]? = some x → x ≠ 0 → St fs n (tr (k + j)) = k + j) → (Sts fs n (expand (rowH tr k row))).count i = if k ≤ i then (row[i - k]?).getD 0 else 0
  | [], k, i, _ => by simp [rowH, expand, Sts]
  | x :: r, k, i, h => by
    have ih := rowH_cnt (fs := fs) (n := n) (tr := tr) r (k + 1) i fun j y hy hn => by
      have := h (j + 1) y (by simpa using hy) hn
      rw [show k + 1 + j = k + (j + 1) by omega]
      exact this
    rw [rowH_cons, Sts_map, List.map_append, List.count_append, ← Sts_map, ← Sts_map, ih]
    have e1 : (Sts fs n (List.replicate x (tr k))).count i = if k = i then x else 0 := by
      rw [Sts_map, List.map_replicate, List.count_replicate]
      by_cases hx : x = 0
      · subst hx; simp
      · have := h 0 x rfl hx
        rw [Nat.add_zero] at this
        rw [this]
        by_cases e : k = i
        · simp [e]
        · simp [e]
    rw [e1]
    by_cases h1 : k ≤ i
    · by_cases h2 : k = i
      · subst h2
        rw [if_pos rfl, if_neg (by omega), if_pos (Nat.le_refl _), Nat.sub_self]
        simp
      · rw [if_neg h2, if_pos (by omega), if_pos h1]
        have e : i - k = (i - (k + 1)) + 1 := by omega
        rw [e, List.getElem?_cons_succ]
        simp
    · rw [if_neg (by omega), if_neg (by omega), if_neg h1]
theorem rowH_sizes {tr : Nat → Tr} {f : Nat → Nat} : ∀ (row : List Nat) (k : Nat), (∀ j x, row[j]? = some x → x ≠ 0 → (tr (k + j)).size = f (k + j)) → sizes (expand (rowH tr k row)) = wtL f k row
  | [], _, _ => rfl
  | x :: r, k, h => by
    have ih := rowH_sizes (f := f) r (k + 1) fun j y hy hn => by
      have := h (j + 1) y (by simpa using hy) hn
      rw [show k + 1 + j = k + (j + 1) by omega]
      exact this
    have rep : ∀ m, sizes (List.replicate m (tr k)) = m * (tr k).size := by
      intro m
      induction m with
      | zero => simp [sizes]
      | succ m ih => rw [List.replicate_succ, sizes, ih, Nat.succ_mul, Nat.add_comm]
    rw [rowH_cons, sizes_append, ih, rep]
    simp only [wtL]
    by_cases hx : x = 0
    · simp [hx]
    · have := h 0 x rfl hx
      rw [Nat.add_zero] at this
      rw [this]
theorem rowH_mem {tr : Nat → Tr} {t : Tr} : ∀ (row : List Nat) (k : Nat), t ∈ expand (rowH tr k row) → ∃ j x, row[j]? = some x ∧ x ≠ 0 ∧ t = tr (k + j)
  | [], k, h => by simp [rowH, expand] at h
  | x :: r, k, h => by
    rw [rowH_cons] at h
    rcases List.mem_append.mp h with h | h
    · rw [List.mem_replicate] at h
      exact ⟨0, x, rfl, h.1, by rw [Nat.add_zero]; exact h.2⟩
    · obtain ⟨j, y, h1, h2, h3⟩ := rowH_mem r (k + 1) h
      exact ⟨j + 1, y, by simpa using h1, h2, by rw [h3, show k + 1 + j = k + (j + 1) by omega]⟩
theorem letss_all {p : Nat → Prop} : ∀ {ts : List Tr}, (∀ t ∈ ts, t.lets p) → letss p ts
  | [], _ => trivial
  | t :: r, h => ⟨h t List.mem_cons_self, letss_all fun u hu => h u (List.mem_cons_of_mem _ hu)⟩
theorem depths_all {d : Nat} : ∀ {ts : List Tr}, (∀ t ∈ ts, t.depth ≤ d) → depths ts ≤ d
  | [], _ => by simp [depths]
  | t :: r, h => by
    have a := h t List.mem_cons_self
    have b := depths_all fun u hu => h u (List.mem_cons_of_mem _ hu)
    simp only [depths]
    omega
structure LT (J : JD) (zs : List (Nat × Nat)) (s : Nat) (t : Tr) : Prop where
  l : t.lets (fun c => c ∈ J.L.cps.toList)
  st : St J.sf J.n t = s
  sz : t.size = szOf zs s
  dp : t.depth ≤ zs.length
theorem mkT_ok {J : JD} (hok : J.ok) {zs : List (Nat × Nat)} {key : Nat × List Nat} {tr : Nat → Tr} (hk : key ∈ J.keys) (ho : onlyOf (stsOf zs) key.2) (hn : J.fs key.1 key.2 ∉ stsOf zs) (htr : ∀ i ∈ stsOf zs, LT J zs i (tr i)) : LT J (zs ++ [(J.fs key.1 key.2, wt zs key.2)]) (J.fs key.1 key.2) (mkT key.1 key.2 tr) := by
  obtain ⟨hc, hlen, hkk⟩ := keysOf_mem hk
  have hmem : ∀ t ∈ expand (rowH tr 0 key.2), t.lets (fun c => c ∈ J.L.cps.toList) ∧ t.depth ≤ zs.length := fun t ht => by
    obtain ⟨j, x, h1, h2, rfl⟩ := rowH_mem _ _ ht
    rw [Nat.zero_add]
    have := htr j (ho j x h1 h2)
    exact ⟨this.l, this.dp⟩
  refine ⟨told_lets _ ⟨hc, letss_all fun t ht => (hmem t ht).1⟩, ?_, ?_, ?_⟩
  · unfold mkT
    rw [← Sh.st (Sh.toTold _)]
    simp only [St]
    show J.fs key.1 ((cnts J.n (Sts J.sf J.n (expand (rowH tr 0 key.2)))).map (clsN J.few J.turn)) = _
    congr 1
    refine List.ext_getElem? fun i => ?_
    rw [List.getElem?_map]
    by_cases hi : i < J.n
    · rw [cnts_at _ hi, rowH_cnt (fs := J.sf) (n := J.n) key.2 0 i fun j x h1 h2 => by rw [Nat.zero_add]; exact (htr j (ho j x h1 h2)).st]
      rw [if_pos (Nat.zero_le _), Nat.sub_zero, List.getElem?_eq_getElem (by rw [hlen]; exact hi)]
      show some (clsN J.few J.turn key.2[i]) = some key.2[i]
      rw [clsN_low (hkk _ (List.getElem_mem _))]
    · rw [List.getElem?_eq_none (by rw [cnts_len]; omega), List.getElem?_eq_none (by rw [hlen]; omega)]
      rfl
  · unfold mkT
    rw [told_size, szOf_new hn]
    simp only [Tr.size]
    rw [rowH_sizes (f := szOf zs) key.2 0 fun j x h1 h2 => by rw [Nat.zero_add]; exact (htr j (ho j x h1 h2)).sz]
    rfl
  · unfold mkT
    rw [told_depth, List.length_append, List.length_singleton]
    simp only [Tr.depth]
    have := depths_all fun t ht => (hmem t ht).2
    omega
theorem LT.old {J : JD} {zs : List (Nat × Nat)} {p : Nat × Nat} {s : Nat} {t : Tr} (h : LT J zs s t) (hs : s ∈ stsOf zs) : LT J (zs ++ [p]) s t := ⟨h.l, h.st, by rw [szOf_old hs]; exact h.sz, by rw [List.length_append]; have := h.dp; omega⟩
theorem ahead_take {J : JD} {es : List (Nat × (Nat × List Nat))} {i : Nat} {e : Nat × (Nat × List Nat)} (h : Ahead J es) (he : es[i]? = some e) : e.2 ∈ J.keys ∧ onlyOf (stsOf (zsOf J (es.take i))) e.2.2 ∧ J.fs e.2.1 e.2.2 ∉ stsOf (zsOf J (es.take i)) ∧ e.1 = wt (zsOf J (es.take i)) e.2.2 := by
  obtain ⟨hlt, h1⟩ := List.getElem?_eq_some_iff.mp he
  refine h (es.take i) e (es.drop (i + 1)) ?_
  rw [← h1, ← List.drop_eq_getElem_cons hlt, List.take_append_drop]
theorem ahead_trees {J : JD} (hok : J.ok) {es : List (Nat × (Nat × List Nat))} (h : Ahead J es) : ∀ i, i ≤ es.length → ∃ tr : Nat → Tr, ∀ s ∈ stsOf (zsOf J (es.take i)), LT J (zsOf J (es.take i)) s (tr s)
  | 0, _ => ⟨fun _ => .node 97 [], fun s hs => by cases hs⟩
  | i + 1, hi => by
    obtain ⟨tr, htr⟩ := ahead_trees hok h i (by omega)
    have he : es[i]? = some es[i] := List.getElem?_eq_getElem (by omega)
    obtain ⟨a1, a2, a3, a4⟩ := ahead_take h he
    refine ⟨fun s => if s = J.fs es[i].2.1 es[i].2.2 then mkT es[i].2.1 es[i].2.2 tr else tr s, fun s hs => ?_⟩
    rw [take_succ_of he, zsOf_app, a4] at hs ⊢
    rw [stsOf_app] at hs
    rcases List.mem_append.mp hs with hs | hs
    · have : ¬ s = J.fs es[i].2.1 es[i].2.2 := fun e => a3 (e ▸ hs)
      dsimp only
      rw [if_neg this]
      exact (htr s hs).old hs
    · rw [List.mem_singleton.mp hs]
      dsimp only
      rw [if_pos rfl]
      exact mkT_ok hok a1 a2 a3 htr
theorem comes_iff {J : JD} (hok : J.ok) {es : List (Nat × (Nat × List Nat))} (h : Ahead J es) (hc : Closed J (stsOf (zsOf J es))) (s : Nat) : s ∈ stsOf (zsOf J es) ↔ Comes J s := by
  constructor
  · intro hs
    obtain ⟨tr, htr⟩ := ahead_trees hok h es.length (Nat.le_refl _)
    rw [List.take_length] at htr
    exact ⟨tr s, (htr s hs).l, (htr s hs).st⟩
  · rintro ⟨t, hl, rfl⟩
    exact closed_all hok hc t hl


def ComeL (J : JD) (S : List Nat) : Prop := S.Pairwise (· < ·) ∧ ∀ s, s ∈ S ↔ Comes J s
def sp_states_that_come (P : Program) (w : World) : Sp := fun vs H Q _ => ∃ (v : V) (J : JD), vs = [v] ∧ JAt P w H v J ∧ J.ok ∧ ∀ r S H', Same H H' → H r = none → H' r = some (.lst (S.map nI)) → ComeL J S → Q (.ref r) H'
def sp__has_good (P : Program) (w : World) : Sp := fun vs H Q _ => ∃ (v : V) (J : JD) (r : Addr) (S : List Nat), vs = [v, .ref r] ∧ JAt P w H v J ∧ J.ok ∧ H r = some (.lst (S.map nI)) ∧ ∀ H', Same H H' → Q (.bl (J.good.any fun s => decide (s ∈ S))) H'
def sp_none_paper (P : Program) (w : World) : Sp := fun vs H Q _ => ∃ (v : V) (J : JD), vs = [v] ∧ JAt P w H v J ∧ J.ok ∧ (∀ H', Same H H' → (∃ s ∈ J.good, Comes J s) → Q .non H') ∧ ∀ r S H', Same H H' → H r = none → H' r = some (.lst (S.map nI)) → ComeL J S → (∀ s ∈ J.good, ¬ Comes J s) → Q (.ref r) H'
section
variable {P : Program} {w : World} {K : PySem.W.Frag} {mg : Str → Option Value} {base : Heap}
theorem rise_of {xs : List Int} {S : List Nat} (h1 : xs.Perm (S.map fun n : Nat => (n : Int))) (h2 : xs.Pairwise (· ≤ ·)) (nd : S.Nodup) : ∃ S' : List Nat, xs = S'.map (fun n : Nat => (n : Int)) ∧ S'.Perm S ∧ S'.Pairwise (· < ·) := by
  have hx : ∀ ys : List Int, (∀ y ∈ ys, 0 ≤ y) → ys = (ys.map Int.toNat).map (fun n : Nat => (n : Int)) := by
    intro ys
    induction ys with
    | nil => intro _; rfl
    | cons y r ih =>
      intro h
      have a := h y List.mem_cons_self
      rw [List.map_cons, List.map_cons, ← ih fun z hz => h z (List.mem_cons_of_mem _ hz)]
      congr 1
      omega
  have pos : ∀ y ∈ xs, 0 ≤ y := fun y hy => by
    obtain ⟨n, _, rfl⟩ := List.mem_map.mp (h1.mem_iff.mp hy)
    omega
  have e := hx xs pos
  have p2 : (xs.map Int.toNat).Perm S := by
    have := h1.map Int.toNat
    rw [List.map_map] at this
    have id : S.map (Int.toNat ∘ fun n : Nat => (n : Int)) = S := by
      have : (Int.toNat ∘ fun n : Nat => (n : Int)) = id := by funext n; simp
      rw [this, List.map_id]
    rwa [id] at this
  refine ⟨xs.map Int.toNat, e, p2, ?_⟩
  have nd2 := p2.nodup_iff.mpr nd
  rw [List.pairwise_map]
  rw [List.Nodup, List.pairwise_map] at nd2
  refine (h2.and nd2).imp_of_mem fun {a b} ha hb h => ?_
  have := pos a ha
  have := pos b hb
  have := h.1
  have := h.2
  omega
theorem ok_states_that_come (T : Txt K mg) : FnOk P w K mg base CX0 4 T.f_states_that_come T.d_states_that_come ["judge"] (sp_states_that_come P w) := by
  have G__least_rows : FnOk P w K mg base CX0 3 T.f__least_rows T.d__least_rows ["judge"] (sp__least_rows P w) := ok__least_rows T
  refine T.F_states_that_come.ok sc_states_that_come (fun vs H Q E h => ?_) (fun cdv A outer s H vs Q E hr h => ?_)
  · obtain ⟨v, J, rfl, _⟩ := h
    rfl
  obtain ⟨v, J, rfl, hJ, hok, q⟩ := h
  refine ⟨_, (pss_one (ps_ret (pe_callB cr_sortedI (by rfl) T.z_sorted (by decide +kernel) (pa_cons (pe_lc (own := [("row", 1)]) (g := gName 1) (te := tOp (rIxT K) (tVar 1) (tC (.int 3))) (tt := tYes) rfl sc_states_that_come.nd (pi_list (pe_call G__least_rows (hr.mono (by omega)) (by rfl) T.m__least_rows T.F__least_rows.kp T.b__least_rows .nil pass0 (pa_cons (pv 0) pa_nil))) (blkOk_by (own := [("row", 1)]) (N := ["judge", "row"]) (sc := (defScope s_states_that_come)) (by decide +kernel)) (fun _ _ _ _ _ => (pg_name (i := 1) sc_states_that_come.nd rfl (Or.inl rfl))) (fun _ _ _ _ _ => pts_nil) (fun _ _ _ _ _ => (pe_ix ix_tup (pv 1) pe_int (fun _ _ => rfl)))) pa_nil)))), ?_⟩
  refine ⟨_, rfl, v, J, rfl, hJ, hok, fun r vs es M H1 s1 hr0 hr1 hrows hah hL hC => ⟨r, rfl, ⟨_, SqL.of hr1⟩, fun D hD => ?_⟩⟩
  have lvs : vs.length = es.length := Paired.length hrows
  have l6 := (hL.small hok.n6).1
  unfold zsOf at l6
  rw [List.length_map] at l6
  have n6 := hok.n6
  refine lc_list (xs := vs) (fun i H2 => H2 D = some (.lst (((stsOf (zsOf J es)).take i).map nI)) ∧ Same H1 H2) ⟨upd_same, same_new hD⟩ (fun i H2 _ ⟨_, s⟩ => SqL.of (s _ _ hr1)) ?_ ?_
  · rintro i x H2 hx ⟨g1, g2⟩
    obtain ⟨e, he, b, a, rfl, h1, h2⟩ := prd_at hrows hx
    have hz : (stsOf (zsOf J es))[i]? = some (J.fs e.2.1 e.2.2) := by
      unfold stsOf zsOf
      rw [List.map_map, List.getElem?_map, he]
      rfl
    refine ⟨rfl, _, rfl, b, _, 3, _, rfl, rfl, SqT.of (g2 _ _ h1), atI_nat (j := 3) rfl, _, g1, ?_, ?_, same_add g2 hD⟩
    · rw [List.length_map, List.length_take]
      unfold stsOf zsOf
      rw [List.length_map, List.length_map]
      exact Nat.lt_of_le_of_lt (show _ ≤ 1000000 by omega) (by decide)
    · rw [upd_same, take_succ_of hz, List.map_append]
      rfl
  rintro H2 ⟨g1, g2⟩
  rw [List.take_of_length_le (by unfold stsOf zsOf; rw [List.length_map, List.length_map]; omega), nI_map] at g1
  refine ⟨D, _, rfl, SqL.of g1, fun ns p pm so hp => ?_⟩
  obtain ⟨S, rfl, pS, rS⟩ := rise_of pm so hL.nd
  have sp := same_new hp (o := .lst ((S.map fun n : Nat => (n : Int)).map V.int))
  have kp := upd_same (H := H2) (a := p) (o := .lst ((S.map fun n : Nat => (n : Int)).map V.int))
  have S3 := (s1.trans g2).trans sp
  exact q p S _ S3 ((s1.trans g2).free hp) (by rw [upd_same, ← nI_map]) ⟨rS, fun s => (pS.mem_iff).trans (comes_iff hok hah hC s)⟩
end

section
variable {P : Program} {w : World} {A : Around} {E : Value → Shared → Prop} {s : Shared}
theorem set_of_ints {at_ : Addr} {its : Array Value} {xs : List Int} {Q : Value → Shared → Prop} (calm : A.handled = none) (isl : s.heap.IsList at_ its) (are : IntsAre its.toList xs) (few : xs.length + 1 < scanBound)
    (q : ∀ (h1 : Heap) (u : Tok) (c : Nat), SetR w h1 s.heap.objs.size (fun j => decide (j ∈ xs)) c → c ≤ xs.length → (∀ b o, s.heap.get? b = some o → h1.get? b = some o) → Q (.ref s.heap.objs.size) { s with heap := h1, toks := u }) :
    wpAny (model P w) A (call (.type "set") [.ref at_]) Q E s := by
  have len : its.size = xs.length := by rw [← Array.length_toList, IntsAre.length are]
  obtain ⟨_, _, mro⟩ := F.called_set.mro
  have made := F.called_set.made
  have sub := F.called_set.sub
  have kind := F.called_set.notType
  have may := F.called_set.canCreate
  have takes := F.typeCall_set_1 (.ref at_)
  refine wpAny_call (codeAny_of_tree (show wpAny _ _ (callAny (.type "set") _) _ _ _ from wpAny_pure ⟨Code.quiet_builtin _ (by decide +kernel), codeAny_builtin F.entry_type_call ?_⟩))
  rw [Around.under_plain (weight_type_call_type "set" [.ref at_] []) rfl]
  repeat (any_goals (first | assumption | wp_step))
  refine codeAny_mono (code_set_led1 (.ref at_) (E := E) (Q₁ := fun v s1 => v = .ref s.heap.objs.size ∧ s1 = { s with heap := s.heap.push (({ cls := .type "set", dict := none, data := .set #[] 0 (.fresh 0 0 (!w.params.followText "set-order")) } : Obj)) }) ⟨rfl, rfl⟩) fun r s1 z => ?_
  generalize hN : ({ cls := .type "set", dict := none, data := .set #[] 0 (.fresh 0 0 (!w.params.followText "set-order")) } : Obj) = N at z
  cases r with
  | error e => exact z
  | ok fl =>
    cases fl with
    | ret v =>
      obtain ⟨rfl, rfl⟩ := z
      have new : (s.heap.push N).get? s.heap.objs.size = some N := Heap.get?_push_size _ (by subst hN; rfl)
      have isS : Shared.TypeIs { s with heap := s.heap.push N } (.ref s.heap.objs.size) "set" := ⟨_, new, by subst hN; rfl⟩
      have look := F.called_set.init.lookup
      have bnd := F.called_set.init.bind (.ref s.heap.objs.size)
      repeat (any_goals (first | assumption | wp_step))
      refine codeAny_mono (codeAny_call_builtin (R := wants (fun v s2 => v = .none ∧ ∃ (h1 : Heap) (u : Tok) (c : Nat), s2 = { s with heap := h1, toks := u } ∧ SetR w h1 s.heap.objs.size (fun j => decide (j ∈ xs)) c ∧ c ≤ xs.length ∧ ∀ b o, s.heap.get? b = some o → h1.get? b = some o) E) F.called_set.init.plain F.entry_set_init (check_set_init_1 isS ?_)) fun r2 s2 z2 => ?_
      · obtain ⟨⟨c1, d1, dt1, sl1⟩, lat, lcl, ln, ldt⟩ := isl
        simp only at lcl ldt
        subst lcl ldt
        have lat1 : (s.heap.push N).get? at_ = some { cls := .type "list", dict := d1, data := .seq its ln, slots := sl1 } := Heap.get?_push_of_some _ lat
        have no1 := F.sub_list_set
        have no2 := F.sub_list_frozenset
        have no3 : (Value.type "list" == Value.type "dict") = false := by decide
        have isl1 : (s.heap.push N).IsList at_ its := ⟨_, lat1, rfl, ln, rfl⟩
        subst hN
        unfold Builtin.«set.__init__» noKeywords Builtin.Frozenset.updateFrom
        generalize hIt : pyIter = It
        wp_walk
        subst hIt
        refine wpAny_pyIter_list isl1 ?_
        refine wpAny_bind (wpAny_runValue ?_)
        have low : at_ < s.heap.objs.size := Heap.lt_size lat
        have calm3 : A.in1.in1.in1.handled = none := by simp [calm]
        have apart : at_ ≠ (s.heap.push { cls := .type "set", data := .set #[] 0 (.fresh 0 0 (!w.params.followText "set-order")) }).objs.size := by rw [Heap.size_push]; exact Nat.ne_of_lt (Nat.lt_succ_of_lt low)
        have off : s.heap.objs.size ∉ [(s.heap.push { cls := .type "set", data := .set #[] 0 (.fresh 0 0 (!w.params.followText "set-order")) }).objs.size, at_] := by
          rw [Heap.size_push]
          simp only [List.mem_cons, List.not_mem_nil, or_false, not_or]
          exact ⟨Nat.ne_of_lt (Nat.lt_succ_self _), Nat.ne_of_gt low⟩
        have each : ∀ (i : Nat) (v : Value), its[i]? = some v → ∃ k u, xs[i]? = some k ∧ v = .int k u := fun i v hv => by
          have hi : i < xs.length := by rw [← len]; exact (Array.getElem?_eq_some_iff.mp hv).1
          obtain ⟨u, e⟩ := PyProof.Rows.IntsAre.int_at are i v (by rw [Array.getElem?_toList]; exact hv)
          refine ⟨xs[i], u, List.getElem?_eq_getElem hi, ?_⟩
          rw [e, List.getD_eq_getElem?_getD, List.getElem?_eq_getElem hi] <;> rfl
        refine set_update_ints ((Walks.list calm3 _ at_ apart its).toS) s.heap.objs.size off xs len few each its.size 0 _ (by omega) (Nat.zero_le _) ⟨⟨_, Heap.get?_push_size _ rfl, rfl, rfl⟩, isl1.push _⟩ ?_ ?_
        · exact ⟨0, Nat.le_refl 0, setR_new_at (Heap.get?_push_of_some _ new)⟩
        · intro s3 c mv lec R3
          obtain ⟨h3, g3, d3, t3, o3⟩ := s3
          have eg : g3 = s.gens := mv.gens
          have ed : d3 = s.drawn := mv.drawn
          have eo : o3 = s.os := mv.os
          subst eg ed eo
          show wpAny _ _ _ _ _ _
          refine wpAny_pure ?_
          show wpAny _ _ (ret Value.none) _ _ _
          rw [len] at lec
          refine wpAny_pure ⟨rfl, h3, t3, c, rfl, R3, lec, fun b o e => ?_⟩
          have lb := Heap.lt_size e
          refine mv.heap b o ?_ (Heap.get?_push_of_some _ (Heap.get?_push_of_some _ e))
          simp only [List.mem_cons, List.not_mem_nil, or_false, not_or]
          refine ⟨Nat.ne_of_lt lb, ?_⟩
          rw [Heap.size_push]
          exact Nat.ne_of_lt (Nat.lt_succ_of_lt lb)
      · cases r2 with
        | error e => exact z2
        | ok f2 =>
          cases f2 with
          | ret v =>
            obtain ⟨rfl, h1, u, c, rfl, R1, lec, keep⟩ := z2
            repeat (any_goals (first | assumption | wp_step))
            exact q _ _ _ R1 lec keep
          | _ => exact z2.elim
    | _ => exact z.elim
end
theorem nd_below : ∀ (B : Nat) (l : List Int), l.Nodup → (∀ x ∈ l, 0 ≤ x ∧ x < (B : Int)) → l.length ≤ B
  | 0, l, _, h => by
    cases l with
    | nil => exact Nat.le_refl _
    | cons a t => have := h a (List.mem_cons_self); omega
  | B + 1, l, nd, h => by
    have h1 := nd_below B (l.filter fun x => decide (x ≠ (B : Int))) (nd.filter _) fun x hx => by
      have hx := List.mem_filter.mp hx
      have h2 := h x hx.1
      have h3 := of_decide_eq_true hx.2
      omega
    have h2 : l.length ≤ (l.filter fun x => decide (x ≠ (B : Int))).length + 1 := by
      clear h1 h
      induction l with
      | nil => exact Nat.zero_le _
      | cons a t ih =>
        obtain ⟨n1, n2⟩ := List.nodup_cons.mp nd
        by_cases e : a = (B : Int)
        · have e2 : t.filter (fun x => decide (x ≠ (B : Int))) = t := List.filter_eq_self.mpr fun x hx => decide_eq_true fun z => n1 (by rw [e, ← z]; exact hx)
          rw [List.filter_cons, if_neg (by rw [decide_eq_false (by simpa using e)]; decide), e2, List.length_cons]
          exact Nat.le_refl _
        · rw [List.filter_cons, if_pos (decide_eq_true e), List.length_cons, List.length_cons]
          have := ih n2
          omega
    omega
theorem setR_few {w : World} {h : Heap} {a : Addr} {xs : List Int} {c B : Nat} (R : SetR w h a (fun j => decide (j ∈ xs)) c) (hx : ∀ x ∈ xs, 0 ≤ x ∧ x < (B : Int)) : c ≤ B := by
  obtain ⟨ob, els, ep1, tb, at1, ex1, dt1, gd, ndk, mem, bnd, fit, num, ris, led⟩ := R
  have h1 := nd_below B _ ndk fun x hx2 => hx x (of_decide_eq_true ((mem x).mpr hx2))
  rw [List.length_map, Array.length_toList, num] at h1
  exact h1
section
variable {X : Cx}
def rSetIn (w : World) (K : PySem.W.Frag) : List V → Hp → VK → Prop := fun vs H Q => ∃ (a : Addr) (xs : List Int), vs = [.ref a] ∧ SqL K H a (xs.map V.int) ∧ xs.length + 1 < scanBound ∧ ∀ r c, H r = none → c ≤ xs.length → (∀ B : Nat, (∀ x ∈ xs, 0 ≤ x ∧ x < (B : Int)) → c ≤ B) → Q (.ref r) (upd H r (SetO w r (fun j => decide (j ∈ xs)) c))
theorem call_setIn (hc : X.calm = true) : CallR X (.type "set") (rSetIn X.w X.K) := by
  intro pins s σ H vs us Q I rv h
  obtain ⟨a, xs, rfl, ha, few, q⟩ := h
  obtain ⟨its, ri, ⟨o, n, g1, g2, _, g4⟩, _⟩ := I.list ha
  rw [Vals.ref1 rv]
  refine set_of_ints (its := its.toArray) (I.ok.hd hc) ⟨o, g1, g2, n, g4⟩ (by simpa using intsAre_of ri) few fun h1 u c R lec keep => ?_
  exact ⟨.ref s.heap.objs.size, _, I.laid (t' := u) keep (Nat.le_refl _) (setO_new R), rfl, q _ c (I.hok.fresh (Nat.le_refl _)) lec fun B hx => setR_few R hx⟩
end


def thereR (row : List Nat) (n : Nat) : List Nat := (List.range n).filter fun i => decide (0 < row.getD i 0)
def onlyR (S : List Nat) (n : Nat) (row : List Nat) : Bool := ((thereR row n).filter fun i => !decide (i ∈ S)).isEmpty
def stepsR (J : JD) (S : List Nat) (rows : List (List Nat)) : List (Nat × List Nat) := (rows.filter (onlyR S J.n)).flatMap fun row => J.L.cps.toList.map fun c => (c, row)
def sp__law_steps (P : Program) (w : World) : Sp := fun vs H Q _ => ∃ (v : V) (J : JD) (r : Addr) (S : List Nat), vs = [v, .ref r] ∧ JAt P w H v J ∧ J.ok ∧ H r = some (.lst (S.map nI)) ∧ ∀ q bs H', Same H H' → H q = none → H' q = some (.lst (bs.map V.ref)) → KeysAt H' bs (stepsR J S (rowsTo J.n (J.few + J.turn))) → Q (.ref q) H'
theorem steps_len {J : JD} (hok : J.ok) (S : List Nat) (j : Nat) : (stepsR J S ((rowsTo J.n (J.few + J.turn)).take j)).length ≤ 600 := by
  have e : ∀ l : List (List Nat), (l.flatMap fun row => J.L.cps.toList.map fun c => (c, row)).length = l.length * J.L.length := by
    intro l
    induction l with
    | nil => simp
    | cons a t ih =>
      rw [List.flatMap_cons, List.length_append, List.length_map, ih, List.length_cons, Nat.succ_mul, Nat.add_comm]
      rfl
  unfold stepsR
  rw [e]
  refine Nat.le_trans (Nat.mul_le_mul_right _ (Nat.le_trans (List.length_filter_le _ _) ?_)) (show (J.few + J.turn) ^ J.n * J.L.length ≤ 600 by rw [Nat.mul_comm]; exact hok.h600)
  rw [List.length_take, rowsTo_len]
  exact Nat.min_le_right _ _
def Lev (J : JD) : Nat → Nat → Prop
  | 0, _ => False
  | k + 1, s => ∃ c row, c ∈ J.L.cps.toList ∧ row ∈ rowsTo J.n (J.few + J.turn) ∧ (∀ i x, row[i]? = some x → x ≠ 0 → Lev J k i) ∧ J.fs c row = s
def sp__law_coming (P : Program) (w : World) : Sp := fun vs H Q _ => ∃ (v : V) (J : JD), vs = [v] ∧ JAt P w H v J ∧ J.ok ∧ ∀ q (S : List Nat) H', Same H H' → H q = none → H' q = some (.lst (S.map nI)) → S.Pairwise (· < ·) → (∀ s, s ∈ S ↔ Lev J J.n s) → Q (.ref q) H'
theorem onlyR_iff {S : List Nat} {n : Nat} {row : List Nat} (hl : row.length = n) : onlyR S n row = true ↔ ∀ i x, row[i]? = some x → x ≠ 0 → i ∈ S := by
  unfold onlyR thereR
  rw [List.isEmpty_iff, List.filter_eq_nil_iff]
  constructor
  · intro h i x hx h0
    have hi := (List.getElem?_eq_some_iff.mp hx).1
    have h1 := h i (List.mem_filter.mpr ⟨List.mem_range.mpr (by omega), decide_eq_true (by rw [List.getD_eq_getElem?_getD, hx]; show 0 < x; omega)⟩)
    simpa using h1
  · intro h i hi
    obtain ⟨h1, h2⟩ := List.mem_filter.mp hi
    have h1 := List.mem_range.mp h1
    have h2 := of_decide_eq_true h2
    have e : row[i]? = some (row.getD i 0) := by
      rw [List.getD_eq_getElem?_getD, List.getElem?_eq_getElem (show i < row.length by omega)]
      rfl
    have := h i _ e (by omega)
    simpa using this
theorem steps_mem {J : JD} {S : List Nat} {key : Nat × List Nat} : key ∈ stepsR J S (rowsTo J.n (J.few + J.turn)) ↔ key.1 ∈ J.L.cps.toList ∧ key.2 ∈ rowsTo J.n (J.few + J.turn) ∧ onlyR S J.n key.2 = true := by
  unfold stepsR
  simp only [List.mem_flatMap, List.mem_filter, List.mem_map]
  constructor
  · rintro ⟨row, ⟨h1, h2⟩, c, hc, rfl⟩
    exact ⟨hc, h1, h2⟩
  · rintro ⟨h1, h2, h3⟩
    exact ⟨key.2, ⟨h2, h3⟩, key.1, h1, rfl⟩
theorem steps_key {J : JD} {S : List Nat} {key : Nat × List Nat} (h : key ∈ stepsR J S (rowsTo J.n (J.few + J.turn))) : key ∈ J.keys := by
  obtain ⟨h1, h2, _⟩ := steps_mem.mp h
  obtain ⟨h3, h4⟩ := rowsTo_mem h2
  exact keysOf_all h1 h3 h4
theorem lev_step {J : JD} {S : List Nat} {k : Nat} (hS : ∀ s, s ∈ S ↔ Lev J k s) {key : Nat × List Nat} (h : key ∈ stepsR J S (rowsTo J.n (J.few + J.turn))) : Lev J (k + 1) (J.fs key.1 key.2) := by
  obtain ⟨h1, h2, h3⟩ := steps_mem.mp h
  exact ⟨key.1, key.2, h1, h2, fun i x hx h0 => (hS i).mp ((onlyR_iff (rowsTo_mem h2).1).mp h3 i x hx h0), rfl⟩
theorem lev_inv {J : JD} {S : List Nat} {k : Nat} (hS : ∀ s, s ∈ S ↔ Lev J k s) {s : Nat} (h : Lev J (k + 1) s) : ∃ key ∈ stepsR J S (rowsTo J.n (J.few + J.turn)), J.fs key.1 key.2 = s := by
  obtain ⟨c, row, h1, h2, h3, e⟩ := h
  exact ⟨(c, row), steps_mem.mpr ⟨h1, h2, (onlyR_iff (rowsTo_mem h2).1).mpr fun i x hx h0 => (hS i).mpr (h3 i x hx h0)⟩, e⟩
section
variable {P : Program} {w : World} {K : PySem.W.Frag} {mg : Str → Option Value} {base : Heap}
theorem ok__law_steps (T : Txt K mg) : FnOk P w K mg base CX0 2 T.f__law_steps T.d__law_steps ["judge", "coming"] (sp__law_steps P w) := by
  have G__law_rows : FnOk P w K mg base CX0 1 T.f__law_rows T.d__law_rows ["states", "classes"] sp__law_rows := ok__law_rows T
  refine T.F__law_steps.ok sc__law_steps (fun vs H Q E h => ?_) (fun cdv A outer s H vs Q E hr h => ?_)
  · obtain ⟨v, J, r, S, rfl, _⟩ := h
    rfl
  obtain ⟨v, J, r, S, rfl, hJ, hok, hS, q⟩ := h
  refine ⟨_, (pss_cons (ps_set (i := 2) sc__law_steps.nd rfl (Or.inl rfl) (pe_lst pa_nil)) (pss_cons (ps_for PassesOwn.never rfl (pi_list (pe_call G__law_rows (hr.mono (by omega)) (by rfl) T.m__law_rows T.F__law_rows.kp T.b__law_rows .nil pass0 (pa_cons (pe_ix ix_tup (pv 0) pe_int (fun _ _ => rfl)) (pa_cons (pe_op op_add (pe_ix ix_tup (pv 0) pe_int (fun _ _ => rfl)) (pe_ix ix_tup (pv 0) pe_int (fun _ _ => rfl))) pa_nil)))) (pg_name (i := 3) sc__law_steps.nd rfl (Or.inr rfl)) (pss_cons (ps_gh (ps_setLc (i := 4) (own := [("state", 5)]) (g := gName 5) (te := tVar 5) (tt := tTest (tOp _ (tOp (rIxT K) (tVar 3) (tVar 5)) (tC (.int 0)))) rfl sc__law_steps.nd rfl rfl (sw_true rfl rfl rfl (by decide +kernel)) (pi_range1 (by rfl) T.z_range (pa_cons (pe_ix ix_tup (pv 0) pe_int (fun _ _ => rfl)) pa_nil)) (blkOk_by (own := [("state", 5)]) (N := ["judge", "coming", "found", "row", "there", "state", "letter"]) (sc := (defScope s__law_steps)) (by decide +kernel)) (fun _ _ _ _ _ => (pg_name (i := 5) sc__law_steps.nd rfl (Or.inl rfl))) (fun _ _ _ _ _ => pts_one (pt_cmpR op_gt (pe_ix ix_tup (pv 3) (pv 5) (fun _ _ => rfl)) pe_int (nomark _))) (fun _ _ _ _ _ => (pv 5)))) (pss_one (ps_if (pt_cmpR (op_eqD hr.units) (pe_lc (own := [("state", 5)]) (g := gName 5) (te := tVar 5) (tt := tTest (tOp (rIn K true) (tVar 5) (tVar 1))) rfl sc__law_steps.nd (pi_list (pv 4)) (blkOk_by (own := [("state", 5)]) (N := ["judge", "coming", "found", "row", "there", "state", "letter"]) (sc := (defScope s__law_steps)) (by decide +kernel)) (fun _ _ _ _ _ => (pg_name (i := 5) sc__law_steps.nd rfl (Or.inl rfl))) (fun _ _ _ _ _ => pts_one (pt_cmpR op_notIn_seq (pv 5) (pv 1) (by rfl))) (fun _ _ _ _ _ => (pv 5))) (pe_lst pa_nil) (nomark _)) (pss_one (ps_set (i := 2) sc__law_steps.nd rfl (Or.inl rfl) (pe_op op_cat (pv 2) (pe_lc (own := [("letter", 6)]) (g := gName 6) (te := tTup (tCons (tVar 6) (tCons (tVar 3) tNil))) (tt := tYes) rfl sc__law_steps.nd (pi_str (pe_ix ix_tup (pv 0) pe_int (fun _ _ => rfl))) (blkOk_by (own := [("letter", 6)]) (N := ["judge", "coming", "found", "row", "there", "state", "letter"]) (sc := (defScope s__law_steps)) (by decide +kernel)) (fun _ _ _ _ _ => (pg_name (i := 6) sc__law_steps.nd rfl (Or.inl rfl))) (fun _ _ _ _ _ => pts_nil) (fun _ _ _ _ _ => (pe_tup (pa_cons (pv 6) (pa_cons (pv 3) pa_nil)))))))) pss_nil)))) (pss_one (ps_ret (pv 2))))), ?_⟩
  have n1 := hok.n1
  have n6 := hok.n6
  have f4 := hok.f4
  have t1 := hok.t1
  have t4 := hok.t4
  have h600 := hok.h600
  have l1 := hok.L.1
  have hW6 : (J.few + J.turn) ^ J.n ≤ 600 := Nat.le_trans (Nat.le_mul_of_pos_left _ l1) h600
  obtain ⟨j, d, g, xs, keys, rfl, hj, _⟩ := hJ
  refine ⟨(by show 0 ≤ sizeLine; decide), fun f0 hf0 => ?_⟩
  have s0 := same_new hf0 (o := .lst [])
  refine ⟨_, rfl, j, _, 1, _, rfl, rfl, SqT.of (s0 _ _ hj), atI_nat (j := 1) rfl, _, rfl, j, _, 2, _, rfl, rfl, SqT.of (s0 _ _ hj), atI_nat (j := 2) rfl, _, rfl, j, _, 3, _, rfl, rfl, SqT.of (s0 _ _ hj), atI_nat (j := 3) rfl, _, _, rfl, rfl, J.n, J.few + J.turn, rfl, n6, by omega, by omega, hW6, fun rl as H2 s2 nr2 hr2 hrows nas das => ?_⟩
  have S2 := s0.trans s2
  have k0 := s2 _ _ (upd_same (H := H) (a := f0) (o := .lst []))
  have nas0 : NewAll H as := fun b hb => s0.free (nas b hb)
  have hrl0 : H rl = none := s0.free nr2
  have la := Paired.length hrows
  have nrl : ∀ b ∈ as, b ≠ rl := fun b hb e => by
    obtain ⟨_, _, o, e2, _⟩ := prd_mem hrows hb
    rw [e, hr2] at e2
    cases e2
  refine ⟨rl, rfl, ⟨_, SqL.of hr2⟩, for_list (xs := as.map V.ref) (fun m σ H' => ∃ (fq : Addr) (bs : List Addr) (y3 y4 : Option V), σ = [some (.ref j), some (.ref r), some (.ref fq), y3, y4, none, none] ∧ H fq = none ∧ H' fq = some (.lst (bs.map V.ref)) ∧ KeysAt H' bs (stepsR J S ((rowsTo J.n (J.few + J.turn)).take m)) ∧ Same H H' ∧ H' rl = some (.lst (as.map V.ref)) ∧ RowsF H' (as.drop m) ((rowsTo J.n (J.few + J.turn)).drop m)) ⟨f0, [], _, _, rfl, hf0, k0, .nil, S2, hr2, hrows⟩ (fun m σ H' _ ⟨_, _, _, _, _, _, _, _, _, g, _⟩ => SqL.of g) ?_ ?_⟩
  · rintro m x σ H3 hx ⟨fq, bs, y3, y4, rfl, hfq0, g1, g2, g3, g4, g5⟩
    rw [List.getElem?_map] at hx
    cases haj : as[m]? with
    | none => rw [haj] at hx; cases hx
    | some ab =>
    rw [haj] at hx
    cases hx
    have hm := (List.getElem?_eq_some_iff.mp haj).1
    have hmr : m < (rowsTo J.n (J.few + J.turn)).length := by rw [← la]; exact hm
    obtain ⟨row, hrow⟩ : ∃ row, (rowsTo J.n (J.few + J.turn))[m]? = some row := ⟨_, List.getElem?_eq_getElem hmr⟩
    have ea : as.drop m = ab :: as.drop (m + 1) := by rw [List.drop_eq_getElem_cons hm, (List.getElem?_eq_some_iff.mp haj).2]
    have er : (rowsTo J.n (J.few + J.turn)).drop m = row :: (rowsTo J.n (J.few + J.turn)).drop (m + 1) := by rw [List.drop_eq_getElem_cons hmr, (List.getElem?_eq_some_iff.mp hrow).2]
    rw [ea, er] at g5
    cases g5 with
    | cons kab g6 =>
    have hab := List.mem_of_getElem? haj
    have rlen : row.length = J.n := (rowsTo_mem (List.mem_of_getElem? hrow)).1
    obtain ⟨ob, eo, ed⟩ := kab
    refine ⟨upd H3 ab (.tup (row.map nI)), gh_melt eo (nas0 ab hab), ?_⟩
    have keepT : ∀ b ys, H3 b = some (.tup ys) → upd H3 ab (.tup (row.map nI)) b = some (.tup ys) := fun b ys e => by
      rw [upd_ne (fun z => by rw [z, eo] at e; cases e)]
      exact e
    have nfa : fq ≠ ab := fun e => by rw [e, eo] at g1; cases g1
    have k1 : upd H3 ab (.tup (row.map nI)) fq = some (.lst (bs.map V.ref)) := by rw [upd_ne nfa]; exact g1
    have k2 : KeysAt (upd H3 ab (.tup (row.map nI))) bs (stepsR J S ((rowsTo J.n (J.few + J.turn)).take m)) := Paired.mapP g2 fun b key ⟨a, e1, e2⟩ => ⟨a, keepT _ _ e1, keepT _ _ e2⟩
    have k3 : Same H (upd H3 ab (.tup (row.map nI))) := same_add g3 (nas0 ab hab)
    have k4 : upd H3 ab (.tup (row.map nI)) rl = some (.lst (as.map V.ref)) := by rw [upd_ne (nrl ab hab).symm]; exact g4
    have k6 : RowsF (upd H3 ab (.tup (row.map nI))) (as.drop (m + 1)) ((rowsTo J.n (J.few + J.turn)).drop (m + 1)) := prd_mapM g6 fun b hb rw0 ⟨o, e, d⟩ => ⟨o, by
      rw [upd_ne (fun z => ?_)]
      · exact e
      · have dn := das.sublist (List.drop_sublist m as)
        rw [ea] at dn
        rw [z] at hb
        exact (List.nodup_cons.mp dn).1 hb, d⟩
    have k7 : upd H3 ab (.tup (row.map nI)) ab = some (.tup (row.map nI)) := upd_same
    generalize upd H3 ab (.tup (row.map nI)) = H4 at *
    clear g1 g2 g3 g4 g6 eo ed ob keepT
    refine ⟨_, rfl, j, _, 1, _, rfl, rfl, SqT.of (k3 _ _ hj), atI_nat (j := 1) rfl, J.n, rfl, by omega, by omega, fun D1 hD1 => ?_⟩
    refine lc_range (lo := 0) (n := J.n) (fun i H' => H' D1 = some (.lst ((thereR row i).map nI)) ∧ Same H4 H') ⟨upd_same, same_new hD1⟩ ?_ ?_
    · rintro i H5 hi ⟨e1, e2⟩
      have hri : row[i]? = some (row.getD i 0) := by
        rw [List.getD_eq_getElem?_getD, List.getElem?_eq_getElem (show i < row.length by omega)]
        rfl
      have lt : (thereR row i).length ≤ 6 := Nat.le_trans (List.length_filter_le _ _) (by rw [List.length_range]; omega)
      have snoc : ∀ b : Bool, decide (0 < row.getD i 0) = b → thereR row (i + 1) = thereR row i ++ (if b then [i] else []) := fun b hb => by
        unfold thereR
        rw [List.range_succ, List.filter_append]
        simp only [List.filter_cons, List.filter_nil, hb]
      refine ⟨rfl, _, rfl, _, rfl, ab, _, _, _, rfl, rfl, SqT.of (e2 _ _ k7), by rw [Int.zero_add]; exact atI_nat (by rw [List.getElem?_map, hri]; rfl), _, _, rfl, rfl, _, rfl, ite2 (fun h => ?_) (fun h => ?_)⟩
      · have h := of_decide_eq_true h
        refine ⟨_, rfl, _, e1, ?_, ?_, same_add e2 hD1⟩
        · rw [List.length_map]
          exact Nat.lt_of_le_of_lt (show _ ≤ 1000000 by omega) (by decide)
        · rw [upd_same, snoc true (decide_eq_true (by omega)), List.map_append, Int.zero_add]
          rfl
      · have h : ¬ (0 : Int) < ((row.getD i 0 : Nat) : Int) := fun z => h (decide_eq_true z)
        refine ⟨?_, e2⟩
        rw [snoc false (decide_eq_false (by omega))]
        simpa using e1
    rintro H5 ⟨e1, e2⟩
    have S5 := k3.trans e2
    have lt : (thereR row J.n).length ≤ 6 := Nat.le_trans (List.length_filter_le _ _) (by rw [List.length_range]; omega)
    refine ⟨_, rfl, D1, rfl, ⟨_, SqL.of e1⟩, fun D2 hD2 => ?_⟩
    refine lc_list (xs := (thereR row J.n).map nI) (fun i H' => H' D2 = some (.lst ((((thereR row J.n).take i).filter fun i => !decide (i ∈ S)).map nI)) ∧ Same H5 H') ⟨upd_same, same_new hD2⟩ (fun i H' _ ⟨_, s⟩ => SqL.of (s _ _ e1)) ?_ ?_
    · rintro i x H6 hx ⟨u1, u2⟩
      rw [List.getElem?_map] at hx
      cases hz : (thereR row J.n)[i]? with
      | none => rw [hz] at hx; cases hx
      | some z =>
      rw [hz] at hx
      cases hx
      have lt2 : (((thereR row J.n).take i).filter fun i => !decide (i ∈ S)).length ≤ 6 := Nat.le_trans (List.length_filter_le _ _) (by rw [List.length_take]; omega)
      refine ⟨rfl, _, rfl, _, rfl, r, _, rfl, .inl (SqL.of ((S5.trans u2) _ _ hS)), rfl, ?_, _, rfl, ite2 (fun h => ?_) (fun h => ?_)⟩
      · rw [List.all_map]
        exact List.all_eq_true.mpr fun _ _ => rfl
      · rw [if_pos rfl, inV_nI] at h
        refine ⟨_, rfl, _, u1, ?_, ?_, same_add u2 hD2⟩
        · rw [List.length_map]
          exact Nat.lt_of_le_of_lt (show _ ≤ 1000000 by omega) (by decide)
        · rw [upd_same, take_succ_of hz, List.filter_append, List.map_append]
          simp only [List.filter_cons, h, if_true, List.filter_nil]
          rfl
      · rw [if_pos rfl, inV_nI] at h
        have h : (!decide (z ∈ S)) = false := by simpa using h
        refine ⟨?_, u2⟩
        rw [take_succ_of hz, List.filter_append]
        simp only [List.filter_cons, h, Bool.false_eq_true, if_false, List.filter_nil, List.append_nil]
        exact u1
    rintro H6 ⟨u1, u2⟩
    rw [List.length_map, List.take_length] at u1
    have S6 := S5.trans u2
    have cut1 : (rowsTo J.n (J.few + J.turn)).take (m + 1) = (rowsTo J.n (J.few + J.turn)).take m ++ [row] := take_succ_of hrow
    refine ⟨(by show 0 ≤ sizeLine; decide), fun e he => ?_⟩
    have s7 := same_new he (o := .lst [])
    have kx := upd_same (H := H6) (a := e) (o := .lst [])
    have u17 := s7 _ _ u1
    generalize upd H6 e (.lst []) = H7 at *
    have S47 := (e2.trans u2).trans s7
    have S7 := k3.trans S47
    have i1 : SqL K H7 D2 ((((thereR row J.n).filter fun i => !decide (i ∈ S)).map fun x : Nat => (x : Int)).map V.int) := by rw [← nI_map]; exact SqL.of u17
    refine ⟨_, _, dp_intsL i1, dp_intsL (xs := []) (SqL.of kx), shaped_ints _, shaped_ints _, _, rfl, ite2 (fun h => ?_) (fun h => ?_)⟩
    · have yes : onlyR S J.n row = true := by
        unfold onlyR
        cases hl : (thereR row J.n).filter fun i => !decide (i ∈ S) with
        | nil => rfl
        | cons a t => rw [hl] at h; exact absurd h (by simp [PyData.eqv, PyData.eqvAll])
      have e3 : stepsR J S ((rowsTo J.n (J.few + J.turn)).take (m + 1)) = stepsR J S ((rowsTo J.n (J.few + J.turn)).take m) ++ J.L.cps.toList.map fun c => (c, row) := by
        unfold stepsR
        rw [cut1, List.filter_append]
        simp [List.filter_cons, yes]
      have lb := Paired.length k2
      have lb2 := steps_len hok S m
      have l26 := hok.L.2.1
      refine ⟨_, rfl, _, rfl, j, _, 0, _, rfl, rfl, SqT.of (S7 _ _ hj), atI_nat (j := 0) rfl, J.L, rfl, fun D3 hD3 => ?_⟩
      refine lc_walk (len := J.L.cps.size) (walk_str (z := J.L)) (fun i H' => ∃ cs : List Addr, H' D3 = some (.lst (cs.map V.ref)) ∧ KeysAt H' cs ((J.L.cps.toList.take i).map fun c => (c, row)) ∧ Same H7 H') ⟨[], upd_same, .nil, same_new hD3⟩ (fun _ _ _ _ => trivial) ?_ ?_
      · rintro i x H8 H8' hi ⟨cs, w1, w2, w3⟩ ⟨rfl, c, hc, rfl⟩
        have hc2 : J.L.cps.toList[i]? = some c := by rw [Array.getElem?_toList]; exact hc
        have lc := Paired.length w2
        rw [List.length_map, List.length_take] at lc
        have hi26 : i < 26 := Nat.lt_of_lt_of_le hi l26
        refine ⟨rfl, _, rfl, _, rfl, (by show 2 ≤ sizeLine; decide), fun t ht => ?_⟩
        have st := same_new ht (o := .tup [.str (ch c), V.ref ab])
        have kt := upd_same (H := H8') (a := t) (o := .tup [.str (ch c), V.ref ab])
        have kD := st _ _ w1
        have tk := upd_tup (o := .lst (cs.map V.ref ++ [V.ref t])) kD
        refine ⟨_, kD, ?_, cs ++ [t], by rw [upd_same, List.map_append]; rfl, ?_, same_add (w3.trans st) hD3⟩
        · rw [List.length_map]
          exact Nat.lt_of_le_of_lt (show _ ≤ 1000000 by omega) (by decide)
        · rw [take_succ_of hc2, List.map_append]
          exact prd_app (Paired.mapP w2 fun b key ⟨a, e1, e2⟩ => ⟨a, tk _ _ (st _ _ e1), tk _ _ (st _ _ e2)⟩) (.cons ⟨ab, tk _ _ kt, tk _ _ (st _ _ (w3 _ _ (S47 _ _ k7)))⟩ .nil)
      rintro H8 ⟨cs, w1, w2, w3⟩
      have whole : J.L.cps.toList.take J.L.cps.size = J.L.cps.toList := by rw [← Array.length_toList, List.take_length]
      rw [whole] at w2
      have lc := Paired.length w2
      rw [List.length_map, Array.length_toList] at lc
      have lc26 : cs.length ≤ 26 := Nat.le_trans (Nat.le_of_eq lc) l26
      have S48 := S47.trans w3
      refine ⟨fq, D3, _, _, rfl, rfl, S48 _ _ k1, w1, ?_, fun f2 hf2 => ?_⟩
      · rw [List.length_map, List.length_map]
        exact Nat.le_of_lt (Nat.lt_of_le_of_lt (show _ ≤ 1000000 by omega) (by decide))
      have sf := same_new hf2 (o := .lst (bs.map V.ref ++ cs.map V.ref))
      have S49 := S48.trans sf
      refine ⟨f2, bs ++ cs, _, _, rfl, (k3.trans S48).free hf2, by rw [upd_same, List.map_append], ?_, k3.trans S49, S49 _ _ k4, RowsF.keep k6 S49⟩
      rw [e3]
      exact prd_app (Paired.mapP k2 fun b key ⟨a, e1, e2⟩ => ⟨a, S49 _ _ e1, S49 _ _ e2⟩) (Paired.mapP w2 fun b key ⟨a, e1, e2⟩ => ⟨a, sf _ _ e1, sf _ _ e2⟩)
    · have no : onlyR S J.n row = false := by
        unfold onlyR
        cases hl : (thereR row J.n).filter fun i => !decide (i ∈ S) with
        | nil => rw [hl] at h; exact absurd rfl h
        | cons a t => rfl
      refine ⟨fq, bs, _, _, rfl, hfq0, S47 _ _ k1, ?_, S7, S47 _ _ k4, RowsF.keep k6 S47⟩
      have e3 : stepsR J S ((rowsTo J.n (J.few + J.turn)).take (m + 1)) = stepsR J S ((rowsTo J.n (J.few + J.turn)).take m) := by
        unfold stepsR
        rw [cut1, List.filter_append]
        simp [List.filter_cons, no]
      rw [e3]
      exact Paired.mapP k2 fun b key ⟨a, e1, e2⟩ => ⟨a, S47 _ _ e1, S47 _ _ e2⟩
  · rintro σ H3 ⟨fq, bs, y3, y4, rfl, hfq0, g1, g2, g3, g4, g5⟩
    rw [List.length_map, la, List.take_length] at g2
    exact ⟨_, rfl, q fq bs H3 g3 hfq0 g1 g2⟩
theorem ok__law_coming (T : Txt K mg) : FnOk P w K mg base CX0 3 T.f__law_coming T.d__law_coming ["judge"] (sp__law_coming P w) := by
  have G__law_steps : FnOk P w K mg base CX0 2 T.f__law_steps T.d__law_steps ["judge", "coming"] (sp__law_steps P w) := ok__law_steps T
  refine T.F__law_coming.ok sc__law_coming (fun vs H Q E h => ?_) (fun cdv A outer s H vs Q E hr h => ?_)
  · obtain ⟨v, J, rfl, _⟩ := h
    rfl
  obtain ⟨v, J, rfl, hJ, hok, q⟩ := h
  refine ⟨_, (pss_cons (ps_set (i := 1) sc__law_coming.nd rfl (Or.inl rfl) (pe_lst pa_nil)) (pss_cons (ps_for PassesOwn.never rfl (pi_range1 (by rfl) T.z_range (pa_cons (pe_ix ix_tup (pv 0) pe_int (fun _ _ => rfl)) pa_nil)) (pg_name (i := 2) sc__law_coming.nd rfl (Or.inl rfl)) (pss_one (ps_set (i := 1) sc__law_coming.nd rfl (Or.inl rfl) (pe_callB (cr_sortedSet rfl) (by rfl) T.z_sorted (by decide +kernel) (pa_cons (pe_callTy (call_setIn rfl) (by rfl) T.z_set (by decide +kernel) (pa_cons (pe_lc (own := [("step", 3)]) (g := gName 3) (te := tDGetN P w (tOp (rIxT K) (tVar 0) (tC (.int 4))) (tVar 3)) (tt := tYes) rfl sc__law_coming.nd (pi_list (pe_call G__law_steps (hr.mono (by omega)) (by rfl) T.m__law_steps T.F__law_steps.kp T.b__law_steps .nil pass0 (pa_cons (pv 0) (pa_cons (pv 1) pa_nil)))) (blkOk_by (own := [("step", 3)]) (N := ["judge", "found", "k", "step"]) (sc := (defScope s__law_coming)) (by decide +kernel)) (fun _ _ _ _ _ => (pg_name (i := 3) sc__law_coming.nd rfl (Or.inl rfl))) (fun _ _ _ _ _ => pts_nil) (fun _ _ _ _ _ => (pe_dgetN (roomN hr) (pe_ix ix_tup (pv 0) pe_int (fun _ _ => rfl)) (pv 3) (fun _ _ => rfl)))) pa_nil)) pa_nil))))) (pss_one (ps_ret (pv 1))))), ?_⟩
  have n1 := hok.n1
  have n6 := hok.n6
  have hJ0 := hJ
  obtain ⟨j, d, g, xs, keys, rfl, hj, hd, hrn, hrj, hper, hg⟩ := hJ
  refine ⟨(by show 0 ≤ sizeLine; decide), fun f0 hf0 => ?_⟩
  have s0 := same_new hf0 (o := .lst [])
  refine ⟨_, rfl, j, _, 1, _, rfl, rfl, SqT.of (s0 _ _ hj), atI_nat (j := 1) rfl, J.n, rfl, by omega, by omega, ?_⟩
  refine for_range (lo := 0) (n := J.n) (fun i σ H' => ∃ (r : Addr) (S : List Nat) (y2 : Option V), σ = [some (.ref j), some (.ref r), y2, none] ∧ H r = none ∧ H' r = some (.lst (S.map nI)) ∧ S.Pairwise (· < ·) ∧ (∀ s, s ∈ S ↔ Lev J i s) ∧ Same H H') ⟨f0, [], _, rfl, hf0, upd_same, .nil, (fun s => ⟨fun h => (by cases h), fun h => h.elim⟩), s0⟩ ?_ ?_
  · rintro i σ H2 hi ⟨r, S, y2, rfl, hr0, g1, g2, g3, g4⟩
    refine ⟨_, rfl, _, rfl, _, J, r, S, rfl, hJ0.same g4, hok, g1, fun q bs H3 s3 nq kq hk => ⟨q, rfl, ⟨_, SqL.of kq⟩, fun D hD => ?_⟩⟩
    have S3 := g4.trans s3
    have lk : (stepsR J S (rowsTo J.n (J.few + J.turn))).length ≤ 600 := by
      have := steps_len hok S (rowsTo J.n (J.few + J.turn)).length
      rwa [List.take_length] at this
    have lb := Paired.length hk
    refine lc_list (xs := bs.map V.ref) (fun i H' => H' D = some (.lst ((((stepsR J S (rowsTo J.n (J.few + J.turn))).take i).map fun key => J.fs key.1 key.2).map nI)) ∧ Same H3 H') ⟨upd_same, same_new hD⟩ (fun i H' _ ⟨_, s⟩ => SqL.of (s _ _ kq)) ?_ ?_
    · rintro i x H4 hx ⟨e1, e2⟩
      rw [List.getElem?_map] at hx
      cases hb : bs[i]? with
      | none => rw [hb] at hx; cases hx
      | some b =>
      rw [hb] at hx
      cases hx
      obtain ⟨key, hkey, a, u1, u2⟩ := prd_at hk hb
      have S4 := S3.trans e2
      have hm := steps_key (List.mem_of_getElem? hkey)
      have hat := atN_rows hrj (hper.mem_iff.mpr hm)
      refine ⟨rfl, _, rfl, j, _, 4, .ref d, rfl, rfl, SqT.of (S4 _ _ hj), atI_nat (j := 4) rfl, _, rfl, d, b, xs, keyN key.1 key.2, _, rfl, rfl, S4 _ _ hd, hrn.keep fun b ys e => S4 _ _ e, nk_key (e2 _ _ u1) (e2 _ _ u2), keyN_depth _ _, hat, _, e1, ?_, ?_, same_add e2 hD⟩
      · rw [List.length_map, List.length_map, List.length_take]
        exact Nat.lt_of_le_of_lt (show _ ≤ 1000000 by omega) (by decide)
      · rw [upd_same, take_succ_of hkey, List.map_append, List.map_append]
        rfl
    rintro H4 ⟨e1, e2⟩
    rw [List.length_map, lb, List.take_length] at e1
    have S4 := S3.trans e2
    have i1 : SqL K H4 D ((((stepsR J S (rowsTo J.n (J.few + J.turn))).map fun key => J.fs key.1 key.2).map fun x : Nat => (x : Int)).map V.int) := by rw [← nI_map]; exact SqL.of e1
    refine ⟨D, _, rfl, i1, ?_, fun st c hst lc fewc => ?_⟩
    · rw [List.length_map, List.length_map]
      exact Nat.lt_of_le_of_lt (show _ ≤ 601 by omega) (by decide)
    have st5 := same_new hst (o := SetO w st (fun j => decide (j ∈ ((stepsR J S (rowsTo J.n (J.few + J.turn))).map fun key => J.fs key.1 key.2).map fun x : Nat => (x : Int))) c)
    have c6 : c ≤ 6 := fewc 6 fun x hx => by
      simp only [List.mem_map] at hx
      obtain ⟨y, ⟨key, hk2, rfl⟩, rfl⟩ := hx
      have := hok.lt key (steps_key hk2)
      omega
    refine ⟨st, _, c, rfl, upd_same, by omega, fun ns p np hmem hlen hp => ?_⟩
    have S6 := (S4.trans st5).trans (same_new hp (o := .lst (ns.map V.int)))
    have nn : ∀ x ∈ ns, ∃ y : Nat, x = (y : Int) ∧ Lev J (i + 1) y := fun x hx => by
      have h1 := of_decide_eq_true ((hmem x).mp hx)
      simp only [List.mem_map] at h1
      obtain ⟨y, ⟨key, hk2, rfl⟩, rfl⟩ := h1
      exact ⟨_, rfl, lev_step g3 hk2⟩
    have ens : ns = (ns.map Int.toNat).map fun y : Nat => (y : Int) := by
      have all : ∀ l : List Int, (∀ x ∈ l, ∃ y : Nat, x = (y : Int)) → l = (l.map Int.toNat).map fun y : Nat => (y : Int) := by
        intro l hl
        induction l with
        | nil => rfl
        | cons a t ih =>
          obtain ⟨y, rfl⟩ := hl a (List.mem_cons_self)
          rw [List.map_cons, List.map_cons, ← ih fun x hx => hl x (List.mem_cons_of_mem _ hx)]
          rfl
      exact all ns fun x hx => by obtain ⟨y, e, _⟩ := nn x hx; exact ⟨y, e⟩
    refine ⟨p, ns.map Int.toNat, _, rfl, (S4.trans st5).free hp, by rw [upd_same, nI_map, ← ens], ?_, fun s => ⟨fun h => ?_, fun h => ?_⟩, S6⟩
    · rw [List.pairwise_map]
      refine np.imp_of_mem fun {a b} ha hb hab => ?_
      obtain ⟨y, e, _⟩ := nn a ha
      obtain ⟨z, e2, _⟩ := nn b hb
      omega
    · obtain ⟨x, hx, rfl⟩ := List.mem_map.mp h
      obtain ⟨y, rfl, hy⟩ := nn x hx
      exact hy
    · obtain ⟨key, hk2, e⟩ := lev_inv g3 h
      refine List.mem_map.mpr ⟨(s : Int), (hmem _).mpr (decide_eq_true ?_), rfl⟩
      exact List.mem_map.mpr ⟨s, List.mem_map.mpr ⟨key, hk2, e⟩, rfl⟩
  rintro σ H2 ⟨r, S, y2, rfl, hr0, g1, g2, g3, g4⟩
  exact ⟨_, rfl, q r S H2 g4 hr0 g1 g2 g3⟩
end

theorem lev_comes {J : JD} (hok : J.ok) : ∀ (k s : Nat), Lev J k s → Comes J s
  | 0, s, h => h.elim
  | k + 1, s, ⟨c, row, hc, hrow, hall, e⟩ => by
    obtain ⟨hlen, hkk⟩ := rowsTo_mem hrow
    have ex : ∀ i, ∃ t : Tr, Lev J k i → t.lets (fun c => c ∈ J.L.cps.toList) ∧ St J.sf J.n t = i := fun i => by
      by_cases h : Lev J k i
      · obtain ⟨t, h1, h2⟩ := lev_comes hok k i h
        exact ⟨t, fun _ => ⟨h1, h2⟩⟩
      · exact ⟨.node 97 [], fun x => absurd x h⟩
    obtain ⟨tr, htr⟩ : ∃ tr : Nat → Tr, ∀ i, Lev J k i → (tr i).lets (fun c => c ∈ J.L.cps.toList) ∧ St J.sf J.n (tr i) = i := ⟨fun i => (ex i).choose, fun i => (ex i).choose_spec⟩
    refine ⟨.node c (expand (rowH tr 0 row)), ⟨hc, letss_all fun t ht => ?_⟩, ?_⟩
    · obtain ⟨j, x, h1, h2, rfl⟩ := rowH_mem _ _ ht
      rw [Nat.zero_add]
      exact (htr j (hall j x h1 (by omega))).1
    · simp only [St]
      show J.fs c ((cnts J.n (Sts J.sf J.n (expand (rowH tr 0 row)))).map (clsN J.few J.turn)) = s
      rw [← e]
      congr 1
      refine List.ext_getElem? fun i => ?_
      rw [List.getElem?_map]
      by_cases hi : i < J.n
      · rw [cnts_at _ hi, rowH_cnt (fs := J.sf) (n := J.n) row 0 i fun j x h1 h2 => by rw [Nat.zero_add]; exact (htr j (hall j x h1 h2)).2]
        rw [if_pos (Nat.zero_le _), Nat.sub_zero, List.getElem?_eq_getElem (by rw [hlen]; exact hi)]
        show some (clsN J.few J.turn row[i]) = some row[i]
        rw [clsN_low (hkk _ (List.getElem_mem _))]
      · rw [List.getElem?_eq_none (by rw [cnts_len]; omega), List.getElem?_eq_none (by rw [hlen]; omega)]
        rfl

theorem lev_mono {J : JD} : ∀ (k s : Nat), Lev J k s → Lev J (k + 1) s
  | 0, _, h => h.elim
  | k + 1, _, ⟨c, row, hc, hr, hall, e⟩ => ⟨c, row, hc, hr, fun i x hx h0 => lev_mono k i (hall i x hx h0), e⟩
theorem lev_up {J : JD} {k s : Nat} (h : Lev J k s) : ∀ m, k ≤ m → Lev J m s
  | 0, hm => by
    have e : k = 0 := by omega
    rw [e] at h
    exact h.elim
  | m + 1, hm => by
    by_cases e : k = m + 1
    · rw [← e]; exact h
    · exact lev_mono m s (lev_up h m (by omega))
theorem lev_still {J : JD} {k : Nat} (st : ∀ s, Lev J (k + 1) s → Lev J k s) : ∀ m s, Lev J m s → Lev J k s
  | 0, _, h => h.elim
  | m + 1, s, ⟨c, row, hc, hr, hall, e⟩ => st s ⟨c, row, hc, hr, fun i x hx h0 => lev_still st m i (hall i x hx h0), e⟩
theorem lev_small {J : JD} (hok : J.ok) : ∀ {k s : Nat}, Lev J k s → s < J.n
  | 0, _, h => h.elim
  | k + 1, _, ⟨c, row, hc, hr, _, e⟩ => by
    obtain ⟨h3, h4⟩ := rowsTo_mem hr
    rw [← e]
    exact hok.lt (c, row) (keysOf_all hc h3 h4)
theorem filter_more {p q : Nat → Bool} : ∀ {l : List Nat}, (∀ x ∈ l, p x = true → q x = true) → (∃ x ∈ l, q x = true ∧ p x = false) → (l.filter p).length + 1 ≤ (l.filter q).length
  | [], _, ⟨x, hx, _⟩ => by cases hx
  | a :: l, h, ⟨x, hx, h1, h2⟩ => by
    have sub : (l.filter p).length ≤ (l.filter q).length := by
      have all := fun x (hx : x ∈ l) => h x (List.mem_cons_of_mem _ hx)
      clear h hx h1 h2 x
      induction l with
      | nil => exact Nat.le_refl _
      | cons b l ih =>
        have ih := ih fun x hx => all x (List.mem_cons_of_mem _ hx)
        have hb := all b List.mem_cons_self
        rw [List.filter_cons, List.filter_cons]
        cases e1 : p b with
        | true => rw [if_pos rfl, if_pos (hb e1), List.length_cons, List.length_cons]; omega
        | false =>
          rw [if_neg Bool.false_ne_true]
          split
          · rw [List.length_cons]; omega
          · exact ih
    rw [List.filter_cons, List.filter_cons]
    rcases List.mem_cons.mp hx with e | hx
    · rw [← e, h1, h2, if_neg Bool.false_ne_true, if_pos rfl, List.length_cons]
      omega
    · have ih := filter_more (fun y hy => h y (List.mem_cons_of_mem _ hy)) ⟨x, hx, h1, h2⟩
      have ha := h a List.mem_cons_self
      cases e1 : p a with
      | true => rw [if_pos rfl, if_pos (ha e1), List.length_cons, List.length_cons]; omega
      | false =>
        rw [if_neg Bool.false_ne_true]
        split
        · rw [List.length_cons]; omega
        · exact ih
open Classical in
noncomputable def levN (J : JD) (k : Nat) : Nat := ((List.range J.n).filter fun s => decide (Lev J k s)).length
open Classical in
theorem lev_stops {J : JD} (hok : J.ok) : ∃ k, k ≤ J.n ∧ ∀ s, Lev J (k + 1) s → Lev J k s := by
  refine Classical.byContradiction fun no => ?_
  have grow : ∀ k, k ≤ J.n → levN J k + 1 ≤ levN J (k + 1) := fun k hk => by
    have h : ¬ ∀ s, Lev J (k + 1) s → Lev J k s := fun h => no ⟨k, hk, h⟩
    obtain ⟨s, hs⟩ := Classical.not_forall.mp h
    obtain ⟨h1, h2⟩ := Classical.not_imp.mp hs
    exact filter_more (fun x _ hx => decide_eq_true (lev_mono k x (of_decide_eq_true hx))) ⟨s, List.mem_range.mpr (lev_small hok h1), decide_eq_true h1, decide_eq_false h2⟩
  have all : ∀ k, k ≤ J.n + 1 → k ≤ levN J k := fun k => by
    induction k with
    | zero => intro _; exact Nat.zero_le _
    | succ k ih =>
      intro hk
      have a := ih (by omega)
      have b := grow k (by omega)
      omega
  have a := all (J.n + 1) (Nat.le_refl _)
  have b : levN J (J.n + 1) ≤ J.n := by
    unfold levN
    exact Nat.le_trans (List.length_filter_le _ _) (Nat.le_of_eq List.length_range)
  omega
theorem lev_closed {J : JD} (hok : J.ok) {m s : Nat} (h : Lev J m s) : Lev J J.n s := by
  obtain ⟨k, hk, st⟩ := lev_stops hok
  exact lev_up (lev_still st m s h) J.n hk
theorem lev_tree {J : JD} (hok : J.ok) : ∀ t : Tr, t.lets (fun c => c ∈ J.L.cps.toList) → Lev J J.n (St J.sf J.n t) := fun t => by
  refine Tr.rec (motive_1 := fun t => t.lets (fun c => c ∈ J.L.cps.toList) → Lev J J.n (St J.sf J.n t)) (motive_2 := fun ts => letss (fun c => c ∈ J.L.cps.toList) ts → ∀ s ∈ Sts J.sf J.n ts, Lev J J.n s) (fun c ks ih => ?_) ?_ (fun t r h1 h2 => ?_) t
  · rintro ⟨hc, hks⟩
    have ih := ih hks
    refine lev_closed hok (m := J.n + 1) ⟨c, (cnts J.n (Sts J.sf J.n ks)).map (clsN J.few J.turn), hc, rowsTo_all (by rw [List.length_map, cnts_len]) (fun x hx => ?_), fun i x hx h0 => ih i ?_, rfl⟩
    · obtain ⟨y, _, rfl⟩ := List.mem_map.mp hx
      exact clsN_lt hok.t1 y
    · rw [List.getElem?_map] at hx
      cases hi : (cnts J.n (Sts J.sf J.n ks))[i]? with
      | none => rw [hi] at hx; cases hx
      | some y =>
        rw [hi] at hx
        have hlt : i < J.n := by
          have := (List.getElem?_eq_some_iff.mp hi).1
          rwa [cnts_len] at this
        rw [cnts_at _ hlt] at hi
        cases hi
        cases hx
        refine Classical.byContradiction fun no => h0 ?_
        rw [List.count_eq_zero.mpr no]
        exact clsN_low (by have := hok.t1; omega)
  · intro _ s hs
    simp only [Sts] at hs
    cases hs
  · rintro ⟨k1, k2⟩ s hs
    simp only [Sts] at hs
    rcases List.mem_cons.mp hs with e | hs
    · rw [e]; exact h1 k1
    · exact h2 k2 s hs
theorem comes_lev {J : JD} (hok : J.ok) (s : Nat) : Comes J s ↔ Lev J J.n s :=
  ⟨fun ⟨t, h1, h2⟩ => by rw [← h2]; exact lev_tree hok t h1, lev_comes hok J.n s⟩

def Rb {κ : Type} (good : Nat → Bool) (dl : κ → Nat → Nat) (ks : List κ) : Nat → Nat → Nat → Bool
  | 0, p, q => good p == good q
  | k + 1, p, q => Rb good dl ks k p q && ks.all fun key => Rb good dl ks k (dl key p) (dl key q)
section
variable {κ : Type} {good : Nat → Bool} {dl : κ → Nat → Nat} {ks : List κ}
theorem rb_refl : ∀ k p, Rb good dl ks k p p = true
  | 0, p => by simp [Rb]
  | k + 1, p => by simp only [Rb, rb_refl k, Bool.true_and, List.all_eq_true]; intro _ _; trivial
theorem rb_symm : ∀ k p q, Rb good dl ks k p q = Rb good dl ks k q p
  | 0, p, q => by simp only [Rb]; cases good p <;> cases good q <;> rfl
  | k + 1, p, q => by
    simp only [Rb]
    rw [rb_symm k p q]
    congr 2
    funext key
    exact rb_symm k _ _
theorem rb_trans : ∀ k p q r, Rb good dl ks k p q = true → Rb good dl ks k q r = true → Rb good dl ks k p r = true
  | 0, p, q, r, h1, h2 => by
    simp only [Rb, beq_iff_eq] at *
    exact h1.trans h2
  | k + 1, p, q, r, h1, h2 => by
    simp only [Rb, Bool.and_eq_true, List.all_eq_true] at *
    exact ⟨rb_trans k _ _ _ h1.1 h2.1, fun key hk => rb_trans k _ _ _ (h1.2 key hk) (h2.2 key hk)⟩
theorem rb_mono {k p q : Nat} (h : Rb good dl ks (k + 1) p q = true) : Rb good dl ks k p q = true := by
  simp only [Rb, Bool.and_eq_true] at h
  exact h.1
theorem rb_down {p q : Nat} : ∀ {k m : Nat}, m ≤ k → Rb good dl ks k p q = true → Rb good dl ks m p q = true
  | 0, m, h, e => by rw [show m = 0 by omega]; exact e
  | k + 1, m, h, e => by
    by_cases x : m = k + 1
    · rw [x]; exact e
    · exact rb_down (k := k) (by omega) (rb_mono e)
theorem rb_same {ls : List κ} (h : ∀ x, x ∈ ks ↔ x ∈ ls) : ∀ k p q, Rb good dl ks k p q = Rb good dl ls k p q
  | 0, p, q => rfl
  | k + 1, p, q => by
    simp only [Rb]
    rw [rb_same h k p q]
    congr 1
    rw [Bool.eq_iff_iff, List.all_eq_true, List.all_eq_true]
    exact ⟨fun g x hx => by rw [← rb_same h k]; exact g x ((h x).mpr hx), fun g x hx => by rw [rb_same h k]; exact g x ((h x).mp hx)⟩
theorem rb_still {S : List Nat} {k : Nat} (cl : ∀ key ∈ ks, ∀ p ∈ S, dl key p ∈ S) (st : ∀ p ∈ S, ∀ q ∈ S, Rb good dl ks k p q = true → Rb good dl ks (k + 1) p q = true) : ∀ m p q, p ∈ S → q ∈ S → Rb good dl ks k p q = true → Rb good dl ks m p q = true := by
  intro m
  induction m with
  | zero => intro p q hp hq h; exact rb_down (Nat.zero_le _) h
  | succ m ih =>
    intro p q hp hq h
    have h1 := st p hp q hq h
    simp only [Rb, Bool.and_eq_true, List.all_eq_true] at h1 ⊢
    exact ⟨ih p q hp hq h, fun key hk => ih _ _ (cl key hk p hp) (cl key hk q hq) (h1.2 key hk)⟩
end
def farF (good : Nat → Bool) (B : Nat → List Nat) : Nat → Nat → Nat → Option Nat
  | 0, p, q => if good p != good q then some 0 else none
  | k + 1, p, q => match farF good B k p q with
    | some l => some l
    | none => if (List.zip (B p) (B q)).any (fun e => farF good B k e.1 e.2 == some k) then some (k + 1) else none
theorem farF_low {good : Nat → Bool} {B : Nat → List Nat} : ∀ {k p q l : Nat}, farF good B k p q = some l → l ≤ k
  | 0, p, q, l, h => by
    unfold farF at h
    split at h
    · injection h with h; omega
    · cases h
  | k + 1, p, q, l, h => by
    unfold farF at h
    split at h
    · rename_i l' e
      injection h with h
      have := farF_low e
      omega
    · split at h
      · injection h with h; omega
      · cases h
theorem farF_up {good : Nat → Bool} {B : Nat → List Nat} {p q l : Nat} : ∀ {k m : Nat}, k ≤ m → farF good B k p q = some l → farF good B m p q = some l
  | k, 0, h, e => by rw [show k = 0 by omega] at e; exact e
  | k, m + 1, h, e => by
    by_cases x : k = m + 1
    · rw [← x]; exact e
    · have := farF_up (k := k) (m := m) (by omega) e
      unfold farF
      rw [this]
theorem farF_back {good : Nat → Bool} {B : Nat → List Nat} {p q l : Nat} : ∀ {k : Nat}, farF good B k p q = some l → farF good B l p q = some l
  | 0, h => by
    have l0 : l = 0 := by have := farF_low h; omega
    subst l0
    exact h
  | k + 1, h => by
    have h0 := h
    unfold farF at h
    split at h
    · rename_i l' e
      injection h with h
      subst h
      exact farF_back e
    · rename_i e
      split at h
      · injection h with h
        rw [← h] at h0 ⊢
        exact h0
      · cases h
theorem any_zip {f g : α → Nat} {P : Nat → Nat → Bool} : ∀ {ks : List α}, (List.zip (ks.map f) (ks.map g)).any (fun e => P e.1 e.2) = ks.any fun x => P (f x) (g x)
  | [] => rfl
  | a :: r => by simp only [List.map_cons, List.zip_cons_cons, List.any_cons, any_zip (ks := r)]
theorem farF_step {κ : Type} {good : Nat → Bool} {dl : κ → Nat → Nat} {ks : List κ} {k p q : Nat} (h : farF good (fun p => ks.map (dl · p)) k p q = none) : (∀ key ∈ ks, farF good (fun p => ks.map (dl · p)) k (dl key p) (dl key q) ≠ some k) ↔ ∀ key ∈ ks, farF good (fun p => ks.map (dl · p)) k (dl key p) (dl key q) = none := by
  refine ⟨fun g key hk => ?_, fun g key hk e => by rw [g key hk] at e; cases e⟩
  cases e : farF good (fun p => ks.map (dl · p)) k (dl key p) (dl key q) with
  | none => rfl
  | some l =>
    have l1 := farF_low e
    have ne : l ≠ k := fun z => g key hk (by rw [e, z])
    have e2 := farF_back e
    have : farF good (fun p => ks.map (dl · p)) (l + 1) p q ≠ none := by
      unfold farF
      cases farF good (fun p => ks.map (dl · p)) l p q with
      | some _ => simp
      | none =>
        have : (List.zip (ks.map (dl · p)) (ks.map (dl · q))).any (fun e => farF good (fun p => ks.map (dl · p)) l e.1 e.2 == some l) = true := by
          rw [any_zip (P := fun a b => farF good (fun p => ks.map (dl · p)) l a b == some l), List.any_eq_true]
          exact ⟨key, hk, by rw [e2]; simp⟩
        simp [this]
    cases e3 : farF good (fun p => ks.map (dl · p)) (l + 1) p q with
    | none => exact absurd e3 this
    | some m => rw [farF_up (show l + 1 ≤ k by omega) e3] at h; cases h
theorem farF_rb {κ : Type} {good : Nat → Bool} {dl : κ → Nat → Nat} {ks : List κ} : ∀ k p q, (farF good (fun p => ks.map (dl · p)) k p q = none) ↔ Rb good dl ks k p q = true
  | 0, p, q => by
    unfold farF Rb
    cases good p <;> cases good q <;> simp
  | k + 1, p, q => by
    have ih := farF_rb (good := good) (dl := dl) (ks := ks) k
    simp only [Rb, Bool.and_eq_true, List.all_eq_true, ← ih]
    constructor
    · intro h
      unfold farF at h
      split at h
      · cases h
      · rename_i e
        refine ⟨e, (farF_step e).mp fun key hk z => ?_⟩
        split at h
        · cases h
        · rename_i no
          refine no ?_
          rw [any_zip (P := fun a b => farF good (fun p => ks.map (dl · p)) k a b == some k), List.any_eq_true]
          exact ⟨key, hk, by rw [z]; simp⟩
    · rintro ⟨e, h⟩
      have h := (farF_step e).mpr h
      unfold farF
      rw [e]
      have : (List.zip (ks.map (dl · p)) (ks.map (dl · q))).any (fun e => farF good (fun p => ks.map (dl · p)) k e.1 e.2 == some k) = false := by
        rw [any_zip (P := fun a b => farF good (fun p => ks.map (dl · p)) k a b == some k), ← Bool.not_eq_true, List.any_eq_true]
        rintro ⟨key, hk, z⟩
        exact h key hk (by simpa using z)
      simp [this]
def fstR (R : Nat → Nat → Bool) (S : List Nat) (a : Nat) : Bool := S.all fun b => !(decide (b < a) && R b a)
def grp (R : Nat → Nat → Bool) (S : List Nat) : List (List Nat) := (S.filter (fstR R S)).map fun a => S.filter (R a)
structure Eqv (R : Nat → Nat → Bool) : Prop where
  refl : ∀ p, R p p = true
  symm : ∀ p q, R p q = R q p
  trans : ∀ p q r, R p q = true → R q r = true → R p r = true
theorem rb_eqv {κ : Type} {good : Nat → Bool} {dl : κ → Nat → Nat} {ks : List κ} (k : Nat) : Eqv (Rb good dl ks k) := ⟨rb_refl k, rb_symm k, rb_trans k⟩
theorem fst_iff {R : Nat → Nat → Bool} {S : List Nat} {a : Nat} : fstR R S a = true ↔ ∀ b ∈ S, b < a → R b a = false := by
  unfold fstR
  rw [List.all_eq_true]
  refine ⟨fun h b hb lt => ?_, fun h b hb => ?_⟩
  · have := h b hb
    simpa [lt] using this
  · by_cases lt : b < a
    · simp [lt, h b hb lt]
    · simp [lt]
theorem fst_of {R : Nat → Nat → Bool} (E : Eqv R) {S : List Nat} : ∀ {p : Nat}, p ∈ S → ∃ a ∈ S, fstR R S a = true ∧ R a p = true ∧ a ≤ p := by
  intro p
  induction p using Nat.strongRecOn with
  | ind p ih =>
    intro hp
    by_cases h : fstR R S p = true
    · exact ⟨p, hp, h, E.refl p, Nat.le_refl _⟩
    · have : ∃ b ∈ S, b < p ∧ R b p = true := by
        refine Classical.byContradiction fun no => h (fst_iff.mpr fun b hb lt => ?_)
        cases e : R b p with
        | false => rfl
        | true => exact absurd ⟨b, hb, lt, e⟩ no
      obtain ⟨b, hb, lt, e⟩ := this
      obtain ⟨a, ha, h1, h2, h3⟩ := ih b lt hb
      exact ⟨a, ha, h1, E.trans a b p h2 e, by omega⟩
theorem fst_one {R : Nat → Nat → Bool} (E : Eqv R) {S : List Nat} {a b : Nat} (ha : a ∈ S) (hb : b ∈ S) (fa : fstR R S a = true) (fb : fstR R S b = true) (h : R a b = true) : a = b := by
  have h1 := fst_iff.mp fa b hb
  have h2 := fst_iff.mp fb a ha
  rcases Nat.lt_trichotomy a b with lt | e | lt
  · rw [h2 lt] at h; cases h
  · exact e
  · rw [E.symm, h1 lt] at h; cases h
theorem filter_len_le {p q : Nat → Bool} : ∀ {l : List Nat}, (∀ x ∈ l, p x = true → q x = true) → (l.filter p).length ≤ (l.filter q).length
  | [], _ => Nat.le_refl _
  | a :: l, h => by
    have ih := filter_len_le (l := l) fun x hx => h x (List.mem_cons_of_mem _ hx)
    have ha := h a List.mem_cons_self
    rw [List.filter_cons, List.filter_cons]
    cases e : p a with
    | true => rw [if_pos rfl, if_pos (ha e), List.length_cons, List.length_cons]; omega
    | false =>
      rw [if_neg Bool.false_ne_true]
      split
      · rw [List.length_cons]; omega
      · exact ih
theorem filter_len_eq {p q : Nat → Bool} : ∀ {l : List Nat}, (∀ x ∈ l, p x = true → q x = true) → (l.filter q).length ≤ (l.filter p).length → ∀ x ∈ l, q x = true → p x = true
  | [], _, _, x, hx, _ => by cases hx
  | a :: l, h, le, x, hx, hq => by
    have ha := h a List.mem_cons_self
    have hl := fun x hx => h x (List.mem_cons_of_mem a hx)
    have le2 := filter_len_le hl
    rw [List.filter_cons, List.filter_cons] at le
    cases e : p a with
    | true =>
      rw [e, if_pos rfl, ha e, if_pos rfl, List.length_cons, List.length_cons] at le
      rcases List.mem_cons.mp hx with z | z
      · rw [z]; exact e
      · exact filter_len_eq hl (by omega) x z hq
    | false =>
      rw [e, if_neg Bool.false_ne_true] at le
      cases e2 : q a with
      | true => rw [e2, if_pos rfl, List.length_cons] at le; omega
      | false =>
        rw [e2, if_neg Bool.false_ne_true] at le
        rcases List.mem_cons.mp hx with z | z
        · rw [z, e2] at hq; cases hq
        · exact filter_len_eq hl le x z hq
theorem grp_still {R R' : Nat → Nat → Bool} (E : Eqv R) (E' : Eqv R') {S : List Nat} (fine : ∀ p q, R' p q = true → R p q = true) (le : (grp R' S).length ≤ (grp R S).length) : ∀ p ∈ S, ∀ q ∈ S, R p q = true → R' p q = true := by
  unfold grp at le
  rw [List.length_map, List.length_map] at le
  have sub : ∀ x ∈ S, fstR R S x = true → fstR R' S x = true := fun x hx h => fst_iff.mpr fun b hb lt => by
    have := fst_iff.mp h b hb lt
    cases e : R' b x with
    | false => rfl
    | true => rw [fine _ _ e] at this; cases this
  have back := filter_len_eq sub le
  intro p hp q hq h
  obtain ⟨a, ha, a1, a2, _⟩ := fst_of E' hp
  obtain ⟨b, hb, b1, b2, _⟩ := fst_of E' hq
  have e : a = b := fst_one E ha hb (back a ha a1) (back b hb b1) (E.trans _ _ _ (fine _ _ a2) (E.trans _ _ _ h (by rw [E.symm]; exact fine _ _ b2)))
  subst e
  exact E'.trans _ _ _ (by rw [E'.symm]; exact a2) b2
theorem grp_len (R : Nat → Nat → Bool) (S : List Nat) : (grp R S).length ≤ S.length := by
  unfold grp
  rw [List.length_map]
  exact List.length_filter_le _ _
theorem grp_same {R R' : Nat → Nat → Bool} {S : List Nat} (h : ∀ p ∈ S, ∀ q ∈ S, R p q = R' p q) : grp R S = grp R' S := by
  unfold grp
  have e : S.filter (fstR R S) = S.filter (fstR R' S) := by
    refine List.filter_congr fun a ha => ?_
    unfold fstR
    rw [Bool.eq_iff_iff, List.all_eq_true, List.all_eq_true]
    exact ⟨fun g b hb => by rw [← h b hb a ha]; exact g b hb, fun g b hb => by rw [h b hb a ha]; exact g b hb⟩
  rw [e]
  refine List.map_congr_left fun a ha => List.filter_congr fun b hb => h a (List.mem_filter.mp ha).1 b hb
theorem fst_snoc {R : Nat → Nat → Bool} {S : List Nat} {a : Nat} (lt : ∀ b ∈ S, b < a) : ∀ b ∈ S, fstR R (S ++ [a]) b = fstR R S b := fun b hb => by
  unfold fstR
  rw [List.all_append]
  have : ¬ a < b := by have := lt b hb; omega
  simp [this]
theorem fst_last {R : Nat → Nat → Bool} {S : List Nat} {a : Nat} (lt : ∀ b ∈ S, b < a) : fstR R (S ++ [a]) a = true ↔ ∀ b ∈ S, R b a = false := by
  rw [fst_iff]
  refine ⟨fun h b hb => h b (List.mem_append_left _ hb) (lt b hb), fun h b hb l => ?_⟩
  rcases List.mem_append.mp hb with z | z
  · exact h b z
  · rw [List.mem_singleton.mp z] at l; omega
theorem filter_snoc {R : Nat → Nat → Bool} {S : List Nat} {a : Nat} (lt : ∀ b ∈ S, b < a) : (S ++ [a]).filter (fstR R (S ++ [a])) = S.filter (fstR R S) ++ if fstR R (S ++ [a]) a = true then [a] else [] := by
  rw [List.filter_append, List.filter_congr (fst_snoc lt), List.filter_cons]
  split <;> simp
theorem grp_new {R : Nat → Nat → Bool} (E : Eqv R) {S : List Nat} {a : Nat} (lt : ∀ b ∈ S, b < a) (h : ∀ b ∈ S, R b a = false) : grp R (S ++ [a]) = grp R S ++ [[a]] := by
  unfold grp
  rw [filter_snoc lt, if_pos ((fst_last lt).mpr h), List.map_append, List.map_singleton]
  have e1 : (S ++ [a]).filter (R a) = [a] := by
    rw [List.filter_append, List.filter_eq_nil_iff.mpr fun b hb => by rw [E.symm, h b hb]; simp, List.filter_cons, if_pos (E.refl a)]
    rfl
  rw [e1]
  congr 1
  refine List.map_congr_left fun b hb => ?_
  rw [List.filter_append, List.filter_cons, if_neg (by rw [h b (List.mem_filter.mp hb).1]; simp)]
  simp
theorem grp_more {R : Nat → Nat → Bool} {S : List Nat} {a b : Nat} (lt : ∀ b ∈ S, b < a) (hb : b ∈ S) (h : R b a = true) : grp R (S ++ [a]) = (S.filter (fstR R S)).map fun c => S.filter (R c) ++ if R c a = true then [a] else [] := by
  unfold grp
  have no : ¬ fstR R (S ++ [a]) a = true := fun z => by rw [(fst_last lt).mp z b hb] at h; cases h
  rw [filter_snoc lt, if_neg no, List.append_nil]
  refine List.map_congr_left fun c hc => ?_
  rw [List.filter_append, List.filter_cons]
  split <;> simp


def moreR (few turn : Nat) (row : List Nat) (p : Nat) : List Nat := row.take p ++ [clsN few turn (row.getD p 0 + 1)] ++ row.drop (p + 1)
theorem moreR_len {few turn : Nat} {row : List Nat} {p : Nat} (h : p < row.length) : (moreR few turn row p).length = row.length := by
  unfold moreR
  simp only [List.length_append, List.length_take, List.length_drop, List.length_singleton]
  omega
theorem moreR_lt {few turn : Nat} (ht : 1 ≤ turn) {row : List Nat} {p : Nat} (h : ∀ x ∈ row, x < few + turn) : ∀ x ∈ moreR few turn row p, x < few + turn := fun x hx => by
  unfold moreR at hx
  rcases List.mem_append.mp hx with hx | hx
  · rcases List.mem_append.mp hx with hx | hx
    · exact h x (List.mem_of_mem_take hx)
    · rw [List.mem_singleton.mp hx]; exact clsN_lt ht _
  · exact h x (List.mem_of_mem_drop hx)
theorem moreR_at {few turn : Nat} {row : List Nat} {p i x : Nat} (hp : p < row.length) (h : (moreR few turn row p)[i]? = some x) : i = p ∨ row[i]? = some x := by
  unfold moreR at h
  by_cases e : i = p
  · exact .inl e
  · refine .inr ?_
    rw [← h]
    by_cases l : i < p
    · rw [List.append_assoc, List.getElem?_append_left (by rw [List.length_take]; omega), List.getElem?_take, if_pos l]
    · rw [List.getElem?_append_right (by rw [List.length_append, List.length_take, List.length_singleton]; omega), List.length_append, List.length_take, List.length_singleton, List.getElem?_drop]
      congr 1
      omega
def sp_more (P : Program) (w : World) : Sp := fun vs H Q _ => ∃ (v : V) (J : JD) (a : Addr) (row : List Nat) (p : Nat), vs = [v, .ref a, nI p] ∧ JAt P w H v J ∧ J.ok ∧ H a = some (.tup (row.map nI)) ∧ p < row.length ∧ row.length ≤ 6 ∧ ∀ b H', Same H H' → H' b = some (.tup ((moreR J.few J.turn row p).map nI)) → Q (.ref b) H'
theorem cut_more {row : List Nat} {p : Nat} (h : p < row.length) : cutV (row.map nI) none (some (p : Int)) ++ [nI (clsN few turn (row.getD p 0 + 1))] ++ cutV (row.map nI) (some ((p : Int) + 1)) none = (moreR few turn row p).map nI := by
  rw [cut_hi (by rw [List.length_map]; omega), show ((p : Int) + 1) = ((p + 1 : Nat) : Int) by omega, cut_lo (by rw [List.length_map]; omega)]
  unfold moreR
  rw [List.map_append, List.map_append, List.map_take, List.map_drop]
  rfl
section
variable {P : Program} {w : World} {K : PySem.W.Frag} {mg : Str → Option Value} {base : Heap}
theorem ok__law_more (T : Txt K mg) : FnOk P w K mg base CX0 2 T.f__law_more T.d__law_more ["judge", "row", "state"] (sp_more P w) := by
  have G__law_class : FnOk P w K mg base CX0 1 T.f__law_class T.d__law_class ["number", "few", "turn"] sp__law_class := ok__law_class T
  refine T.F__law_more.ok sc__law_more (fun vs H Q E h => ?_) (fun cdv A outer s H vs Q E hr h => ?_)
  · obtain ⟨v, J, a, row, p, rfl, _⟩ := h
    rfl
  obtain ⟨v, J, a, row, p, rfl, hJ, hok, ha, hp, h6, q⟩ := h
  refine ⟨_, (pss_cons (ps_set (i := 3) sc__law_more.nd rfl (Or.inl rfl) (pe_call G__law_class (hr.mono (by omega)) (by rfl) T.m__law_class T.F__law_class.kp T.b__law_class .nil pass0 (pa_cons (pe_op op_add (pe_ix ix_tup (pv 1) (pv 2) (fun _ _ => rfl)) pe_int) (pa_cons (pe_ix ix_tup (pv 0) pe_int (fun _ _ => rfl)) (pa_cons (pe_ix ix_tup (pv 0) pe_int (fun _ _ => rfl)) pa_nil))))) (pss_one (ps_ret (pe_op op_catA (pe_op op_catA (pe_slice sl_tupA (pv 1) po_none (po_some (pv 2))) (pe_tup (pa_cons (pv 3) pa_nil))) (pe_slice sl_tupA (pv 1) (po_some (pe_op op_add (pv 2) pe_int)) po_none))))), ?_⟩
  have t1 := hok.t1
  obtain ⟨j, d, g, xs, keys, rfl, hj, _⟩ := hJ
  have hrow : row[p]? = some (row.getD p 0) := by
    rw [List.getD_eq_getElem?_getD, List.getElem?_eq_getElem hp]
    rfl
  refine ⟨_, rfl, _, rfl, a, _, _, _, rfl, rfl, SqT.of ha, atI_nat (by rw [List.getElem?_map, hrow]; rfl), _, _, rfl, rfl, ?_⟩
  refine ⟨_, rfl, j, _, 2, _, rfl, rfl, SqT.of hj, atI_nat (j := 2) rfl, _, rfl, j, _, 3, _, rfl, rfl, SqT.of hj, atI_nat (j := 3) rfl, row.getD p 0 + 1, J.few, J.turn, rfl, t1, ?_⟩
  refine ⟨_, rfl, _, rfl, (p : Int), rfl, ?_⟩
  refine slA ha fun u1 H1 s1 k1 n1 => ?_
  refine ⟨_, rfl, (by show 1 ≤ sizeLine; decide), fun u2 hu2 => ?_⟩
  have s2 := same_new hu2 (o := .tup [nI (clsN J.few J.turn (row.getD p 0 + 1))])
  have k2 := upd_same (H := H1) (a := u2) (o := .tup [nI (clsN J.few J.turn (row.getD p 0 + 1))])
  have lc : (cutV (row.map nI) none (some (p : Int))).length ≤ 6 := by
    rw [cut_hi (by rw [List.length_map]; omega), List.length_take, List.length_map]
    omega
  refine catA (s2 _ _ k1) k2 (by rw [List.length_singleton]; omega) fun u3 H3 s3 k3 n3 => ?_
  have S3 := (s1.trans s2).trans s3
  refine ⟨_, rfl, _, rfl, _, _, rfl, rfl, (p : Int) + 1, rfl, ?_⟩
  dsimp only [tNoPart]
  refine slA (S3 _ _ ha) fun u4 H4 s4 k4 n4 => ?_
  have ld : (cutV (row.map nI) (some ((p : Int) + 1)) none).length ≤ 6 := by
    rw [show ((p : Int) + 1) = ((p + 1 : Nat) : Int) by omega, cut_lo (by rw [List.length_map]; omega), List.length_drop, List.length_map]
    omega
  refine catA (s4 _ _ k3) k4 (by rw [List.length_append, List.length_singleton]; omega) fun u5 H5 s5 k5 n5 => ?_
  rw [cut_more hp] at k5
  exact q u5 H5 ((S3.trans s4).trans s5) k5
theorem ok_classes_with (T : Txt K mg) : FnOk P w K mg base CX0 2 T.f_classes_with T.d_classes_with ["judge", "row", "state"] (sp_more P w) := by
  have G_class_of : FnOk P w K mg base CX0 1 T.f_class_of T.d_class_of ["number", "few", "turn"] sp_class_of := ok_class_of T
  refine T.F_classes_with.ok sc_classes_with (fun vs H Q E h => ?_) (fun cdv A outer s H vs Q E hr h => ?_)
  · obtain ⟨v, J, a, row, p, rfl, _⟩ := h
    rfl
  obtain ⟨v, J, a, row, p, rfl, hJ, hok, ha, hp, h6, q⟩ := h
  refine ⟨_, (pss_cons (ps_set (i := 3) sc_classes_with.nd rfl (Or.inl rfl) (pe_call G_class_of (hr.mono (by omega)) (by rfl) T.m_class_of T.F_class_of.kp T.b_class_of .nil pass0 (pa_cons (pe_op op_add (pe_ix ix_tup (pv 1) (pv 2) (fun _ _ => rfl)) pe_int) (pa_cons (pe_ix ix_tup (pv 0) pe_int (fun _ _ => rfl)) (pa_cons (pe_ix ix_tup (pv 0) pe_int (fun _ _ => rfl)) pa_nil))))) (pss_one (ps_ret (pe_op op_catA (pe_op op_catA (pe_slice sl_tupA (pv 1) po_none (po_some (pv 2))) (pe_tup (pa_cons (pv 3) pa_nil))) (pe_slice sl_tupA (pv 1) (po_some (pe_op op_add (pv 2) pe_int)) po_none))))), ?_⟩
  have t1 := hok.t1
  obtain ⟨j, d, g, xs, keys, rfl, hj, _⟩ := hJ
  have hrow : row[p]? = some (row.getD p 0) := by
    rw [List.getD_eq_getElem?_getD, List.getElem?_eq_getElem hp]
    rfl
  refine ⟨_, rfl, _, rfl, a, _, _, _, rfl, rfl, SqT.of ha, atI_nat (by rw [List.getElem?_map, hrow]; rfl), _, _, rfl, rfl, ?_⟩
  refine ⟨_, rfl, j, _, 2, _, rfl, rfl, SqT.of hj, atI_nat (j := 2) rfl, _, rfl, j, _, 3, _, rfl, rfl, SqT.of hj, atI_nat (j := 3) rfl, row.getD p 0 + 1, J.few, J.turn, rfl, t1, ?_⟩
  refine ⟨_, rfl, _, rfl, (p : Int), rfl, ?_⟩
  refine slA ha fun u1 H1 s1 k1 n1 => ?_
  refine ⟨_, rfl, (by show 1 ≤ sizeLine; decide), fun u2 hu2 => ?_⟩
  have s2 := same_new hu2 (o := .tup [nI (clsN J.few J.turn (row.getD p 0 + 1))])
  have k2 := upd_same (H := H1) (a := u2) (o := .tup [nI (clsN J.few J.turn (row.getD p 0 + 1))])
  have lc : (cutV (row.map nI) none (some (p : Int))).length ≤ 6 := by
    rw [cut_hi (by rw [List.length_map]; omega), List.length_take, List.length_map]
    omega
  refine catA (s2 _ _ k1) k2 (by rw [List.length_singleton]; omega) fun u3 H3 s3 k3 n3 => ?_
  have S3 := (s1.trans s2).trans s3
  refine ⟨_, rfl, _, rfl, _, _, rfl, rfl, (p : Int) + 1, rfl, ?_⟩
  dsimp only [tNoPart]
  refine slA (S3 _ _ ha) fun u4 H4 s4 k4 n4 => ?_
  have ld : (cutV (row.map nI) (some ((p : Int) + 1)) none).length ≤ 6 := by
    rw [show ((p : Int) + 1) = ((p + 1 : Nat) : Int) by omega, cut_lo (by rw [List.length_map]; omega), List.length_drop, List.length_map]
    omega
  refine catA (s4 _ _ k3) k4 (by rw [List.length_append, List.length_singleton]; omega) fun u5 H5 s5 k5 n5 => ?_
  rw [cut_more hp] at k5
  exact q u5 H5 ((S3.trans s4).trans s5) k5
end

def kvG (f : Nat → V) (S : List Nat) : List (Key × V) := S.map fun p : Nat => (Sum.inl (p : Int), f p)
theorem kvG_val (f : Nat → V) (p : Nat) : ∀ S : List Nat, valV (kvG f S) (Sum.inl (p : Int)) = if p ∈ S then some (f p) else none
  | [] => rfl
  | q :: r => by
    have ih := kvG_val f p r
    unfold valV kvG at *
    rw [List.map_cons, List.find?_cons]
    by_cases e : q = p
    · subst e
      simp
    · have e3 : ¬ ((Sum.inl (q : Int) : Key) = Sum.inl (p : Int)) := fun h => e (by have := Sum.inl.inj h; omega)
      simp only [e3, decide_false]
      rw [ih]
      have : (p ∈ q :: r) ↔ p ∈ r := by rw [List.mem_cons]; exact ⟨fun h => h.elim (fun z => absurd z.symm e) id, .inr⟩
      simp only [this]
theorem kvG_congr {f g : Nat → V} {S : List Nat} (h : ∀ p ∈ S, f p = g p) : kvG f S = kvG g S := List.map_congr_left fun p hp => by rw [h p hp]
theorem kvG_put {f : Nat → V} {S : List Nat} {p : Nat} (v : V) (h : p ∉ S) : putK (kvG f S) (Sum.inl (p : Int)) v = kvG (fun q => if q = p then v else f q) (S ++ [p]) := by
  unfold putK
  have : ((kvG f S).any fun kv => decide (kv.1 = Sum.inl (p : Int))) = false := by
    rw [List.any_eq_false]
    intro kv hkv
    obtain ⟨q, hq, rfl⟩ := List.mem_map.mp hkv
    have : ¬ ((Sum.inl (q : Int) : Key) = Sum.inl (p : Int)) := fun e => h (by have := Sum.inl.inj e; rw [show p = q by omega]; exact hq)
    simpa using this
  rw [this, if_neg (by decide)]
  unfold kvG
  rw [List.map_append, List.map_singleton]
  dsimp only
  rw [if_pos rfl]
  congr 1
  exact List.map_congr_left fun q hq => by rw [if_neg fun e => h (by rw [← e]; exact hq)]
def RowsG {κ : Type} (enc : κ → NestedKey) (xs : List NRow) (keys : List κ) (f : κ → V) : Prop := Paired (fun (x : NRow) key => x.1 = enc key ∧ x.2.2 = f key) xs keys
section
variable {κ : Type} {enc : κ → NestedKey}
theorem RowsG.at {f : κ → V} (inj : ∀ a b, enc a = enc b → a = b) {key : κ} : ∀ {xs : List NRow} {keys : List κ}, RowsG enc xs keys f → key ∈ keys → atN xs (enc key) = some (f key)
  | _, _, .nil, h => by cases h
  | x :: xs, k :: keys, .cons h t, hk => by
    by_cases e : x.1 = enc key
    · have : k = key := inj _ _ (h.1.symm.trans e)
      subst this
      simp [atN, e, h.2]
    · have e2 : ¬ k = key := fun z => e (by rw [h.1, z])
      have a1 : atN (x :: xs) (enc key) = atN xs (enc key) := by simp [atN, List.find?_cons, e]
      rw [a1]
      exact RowsG.at inj t ((List.mem_cons.mp hk).resolve_left fun z => e2 z.symm)
theorem RowsG.none {f : κ → V} (inj : ∀ a b, enc a = enc b → a = b) {key : κ} : ∀ {xs : List NRow} {keys : List κ}, RowsG enc xs keys f → key ∉ keys → atN xs (enc key) = Option.none
  | _, _, .nil, _ => rfl
  | x :: xs, k :: keys, .cons h t, hk => by
    have e2 : ¬ k = key := fun z => hk (by rw [z]; exact List.mem_cons_self)
    have e : ¬ x.1 = enc key := fun z => e2 (inj _ _ (h.1.symm.trans z))
    have a1 : atN (x :: xs) (enc key) = atN xs (enc key) := by simp [atN, List.find?_cons, e]
    rw [a1]
    exact RowsG.none inj t fun z => hk (List.mem_cons_of_mem _ z)
theorem RowsG.congr {f g : κ → V} {xs : List NRow} {keys : List κ} (x : RowsG enc xs keys f) (h : ∀ k ∈ keys, f k = g k) : RowsG enc xs keys g := by
  unfold RowsG at *
  induction x with
  | nil => exact .nil
  | cons a _ ih => exact .cons ⟨a.1, a.2.trans (h _ List.mem_cons_self)⟩ (ih fun k hk => h k (List.mem_cons_of_mem _ hk))
open Classical in
theorem RowsG.old {f : κ → V} (inj : ∀ a b, enc a = enc b → a = b) {key : κ} {b : Addr} {v : V} {xs : List NRow} {keys : List κ} (x : RowsG enc xs keys f) (hk : key ∈ keys) : RowsG enc (storedN xs (enc key) b v) keys (fun k => if k = key then v else f k) := by
  unfold storedN
  rw [RowsG.at inj x hk]
  simp only [Option.isSome_some, if_true]
  clear hk
  unfold RowsG at *
  induction x with
  | nil => exact .nil
  | @cons a k xs keys h _ ih =>
    refine .cons ?_ ih
    dsimp only
    by_cases e : a.1 = enc key
    · rw [if_pos e, if_pos (inj _ _ (h.1.symm.trans e))]
      exact ⟨h.1, rfl⟩
    · rw [if_neg e, if_neg fun z => e (by rw [h.1, z])]
      exact h
open Classical in
theorem RowsG.new {f : κ → V} (inj : ∀ a b, enc a = enc b → a = b) {key : κ} {b : Addr} {v : V} {xs : List NRow} {keys : List κ} (x : RowsG enc xs keys f) (hk : key ∉ keys) : RowsG enc (storedN xs (enc key) b v) (keys ++ [key]) (fun k => if k = key then v else f k) := by
  unfold storedN
  rw [RowsG.none inj x hk]
  simp only [Option.isSome_none, Bool.false_eq_true, if_false]
  exact prd_app (x.congr fun k h => (if_neg fun e => hk (by rw [← e]; exact h)).symm) (.cons ⟨rfl, (if_pos rfl).symm⟩ .nil)
end
theorem RowsN.stored {H : Hp} {xs : List NRow} {k : NestedKey} {b : Addr} {v : V} (h : RowsN H xs) (hk : NK H k (.ref b)) (hd : k.depth ≤ 8) : RowsN H (storedN xs k b v) := by
  unfold storedN
  split
  · intro x hx
    obtain ⟨y, hy, rfl⟩ := List.mem_map.mp hx
    split
    · exact h y hy
    · exact h y hy
  · intro x hx
    rcases List.mem_append.mp hx with hx | hx
    · exact h x hx
    · rw [List.mem_singleton.mp hx]
      exact ⟨hk, hd⟩
def pairN (e : Nat × Nat) : NestedKey := .tup [.num (e.1 : Int), .num (e.2 : Int)]
theorem pairN_inj : ∀ a b : Nat × Nat, pairN a = pairN b → a = b := fun a b h => by
  simp only [pairN, NestedKey.tup.injEq, List.cons.injEq, NestedKey.num.injEq, and_true] at h
  exact Prod.ext (by omega) (by omega)
theorem pairN_depth (e : Nat × Nat) : (pairN e).depth ≤ 8 := by
  simp [pairN, NestedKey.depth, NestedKey.depthAll]
theorem nk_pair {H : Hp} {e : Nat × Nat} {b : Addr} (h : H b = some (.tup [nI e.1, nI e.2])) : NK H (pairN e) (.ref b) := .tup h (.cons (.int _) (.cons (.int _) .nil))
theorem nk_pair_inv {H : Hp} {e : Nat × Nat} {b : Addr} (h : NK H (pairN e) (.ref b)) : H b = some (.tup [nI e.1, nI e.2]) := by
  unfold pairN at h
  cases h with
  | tup h1 h2 =>
    cases h2 with
    | cons k1 k2 =>
      cases k1
      cases k2 with
      | cons k3 k4 =>
        cases k3
        cases k4
        exact h1
def pairsF (S : List Nat) : List (Nat × Nat) := S.flatMap fun p => S.map fun q => (p, q)
theorem pairsF_mem {S : List Nat} {e : Nat × Nat} : e ∈ pairsF S ↔ e.1 ∈ S ∧ e.2 ∈ S := by
  unfold pairsF
  simp only [List.mem_flatMap, List.mem_map]
  exact ⟨fun ⟨p, hp, q, hq, h⟩ => by rw [← h]; exact ⟨hp, hq⟩, fun ⟨h1, h2⟩ => ⟨e.1, h1, e.2, h2, rfl⟩⟩
def optV : Option Nat → V
  | none => .non
  | some l => nI l

def sp_are_only_of_l : Sp := fun vs H Q _ => ∃ (a r : Addr) (row S : List Nat), vs = [.ref a, .ref r] ∧ H a = some (.tup (row.map nI)) ∧ H r = some (.lst (S.map nI)) ∧ row.length ≤ 6 ∧ ∀ H', Same H H' → Q (.bl (onlyB S row)) H'
section
variable {P : Program} {w : World} {K : PySem.W.Frag} {mg : Str → Option Value} {base : Heap}
theorem ok_are_only_of_l (T : Txt K mg) : FnOk P w K mg base CX0 1 T.f_are_only_of T.d_are_only_of ["classes", "states"] sp_are_only_of_l := by
  refine T.F_are_only_of.ok sc_are_only_of (fun vs H Q E h => ?_) (fun cdv A outer s H vs Q E hr h => ?_)
  · obtain ⟨a, d, row, zs, rfl, _⟩ := h
    rfl
  obtain ⟨a, d, row, S, rfl, ha, hd, h6, q⟩ := h
  refine ⟨_, (pss_one (ps_ret (pe_callB (cr_all rfl) (by rfl) T.z_all (by decide +kernel) (pa_cons (pe_lc (own := [("state", 2), ("many", 3)]) (g := gTup K 2 (gCons (gName 2) (gCons (gName 3) gNil))) (te := tOrV (tOp rEq (tVar 3) (tC (.int 0))) (tOp (rIn K false) (tVar 2) (tVar 1))) (tt := tYes) rfl sc_are_only_of.nd (pi_enumT (by rfl) T.z_enumerate (pa_cons (pv 0) pa_nil)) (blkOk_by (own := [("state", 2), ("many", 3)]) (N := ["classes", "states", "state", "many"]) (sc := (defScope s_are_only_of)) (by decide +kernel)) (fun _ _ _ _ _ => (pg_tup rfl (pgs_cons (pg_name (i := 2) sc_are_only_of.nd rfl (Or.inl rfl)) (pgs_cons (pg_name (i := 3) sc_are_only_of.nd rfl (Or.inl rfl)) pgs_nil)))) (fun _ _ _ _ _ => pts_nil) (fun _ _ _ _ _ => (pe_or (pe_cmpR op_eq (pv 3) pe_int (nomark _)) (pe_one (pe_cmpR op_in_seq (pv 2) (pv 1) (by rfl)))))) pa_nil)))), ?_⟩
  refine ⟨_, rfl, a, _, rfl, SqT.of ha, fun D hD => ?_⟩
  refine lc_walk (len := (row.map nI).length) walk_enumT (fun i H2 => H2 D = some (.lst ((((row.zipIdx 0).map fun p => decide (p.1 = 0) || decide (p.2 ∈ S)).take i).map V.bl)) ∧ Same H H2) ⟨upd_same, same_new hD⟩ (fun i H2 _ h => SqT.of (h.2 _ _ ha)) ?_ ?_
  · rintro i x H2 H3 hi ⟨g1, g2⟩ ⟨Tt, x1, rfl, hT, rfl, hx⟩
    rw [List.length_map] at hi
    rw [List.getElem?_map, List.getElem?_eq_getElem hi] at hx
    cases hx
    have sT := same_new hT (o := .tup [.int (i : Nat), nI row[i]])
    have hz : ((row.zipIdx 0).map fun p => decide (p.1 = 0) || decide (p.2 ∈ S))[i]? = some (decide (row[i] = 0) || decide (i ∈ S)) := by
      rw [List.getElem?_map, List.getElem?_zipIdx, List.getElem?_eq_getElem hi]
      simp
    have lt : ((((row.zipIdx 0).map fun p => decide (p.1 = 0) || decide (p.2 ∈ S)).take i).map V.bl).length < sizeLine := by
      rw [List.length_map, List.length_take]
      exact Nat.lt_of_le_of_lt (show _ ≤ 1000000 by omega) (by decide)
    have kD := sT _ _ g1
    have sD := same_add (o := .lst ((((row.zipIdx 0).map fun p => decide (p.1 = 0) || decide (p.2 ∈ S)).take i).map V.bl ++ [V.bl (decide (row[i] = 0) || decide (i ∈ S))])) (g2.trans sT) hD
    have hd3 := (g2.trans sT) _ _ hd
    refine ⟨_, _, rfl, SqT.of upd_same, rfl, _, _, rfl, _, _, rfl, rfl, rfl, _, rfl, rfl, _, rfl, ?_⟩
    by_cases h0 : row[i] = 0
    · refine eqT (congrArg nI h0) ⟨_, kD, lt, ?_, ?_⟩
      · rw [upd_same, take_succ_of hz, List.map_append]
        simp [h0]
      · simpa [h0] using sD
    · refine eqF (fun e => h0 (by have := V.int.inj e; omega)) ⟨_, rfl, _, rfl, d, _, rfl, .inl (SqL.of hd3), rfl, flat_nI _, ?_⟩
      have e0 : V.int ((i : Nat) : Int) = nI i := rfl
      rw [if_neg (by decide), e0, inV_nI]
      refine ⟨_, kD, lt, ?_, ?_⟩
      · rw [upd_same, take_succ_of hz, List.map_append]
        simp [h0]
      · simpa [h0] using sD
  rintro H2 ⟨g1, g2⟩
  rw [List.take_of_length_le (by rw [List.length_map, List.length_zipIdx, List.length_map]; exact Nat.le_refl _)] at g1
  refine ⟨D, _, rfl, SqL.of g1, ?_⟩
  rw [all_map_id]
  exact q H2 g2
end

theorem roomDeep {k : Nat} {A : Around} (r : Room k A) : A.units + 200 < cLine := by have := r.un; omega
theorem call_sortedData {X : Cx} (hu : X.A.units + 200 < cLine) : CallR X (.builtin "sorted") (fun xs H Q => ∃ (a : Addr) (bs : List (V × PyData)), xs = [.ref a] ∧ H a = some (.lst (bs.map Prod.fst)) ∧ (∀ b ∈ bs, Dp X.K H b.1 b.2) ∧ PySem.W.AllAlike (bs.map Prod.snd) ∧ PySem.W.Sortable (bs.map Prod.snd) ∧ (∀ b ∈ bs, b.2.depth ≤ 150) ∧ bs.length ≤ sizeLine ∧
    ∀ r, H r = none → Q (.ref r) (upd H r (.lst ((bs.mergeSort (PySem.W.dataLe false Prod.snd)).map Prod.fst)))) := by
  intro pins s σ H xs us Q I hv h
  obtain ⟨a, bs, rfl, ha, hd, hal, hk, hdep, hz, q⟩ := h
  cases hv with
  | cons g1 g2 =>
  cases g2
  cases g1
  obtain ⟨oz, its, n, hits, hao⟩ := I.hok _ _ ha
  have each : ∀ (bs : List (V × PyData)) (its : List Value), Vals (bs.map Prod.fst) its → (∀ b ∈ bs, Dp X.K H b.1 b.2) →
      PySem.W.EachIs (fun v (b : V × PyData) => RelV b.1 v) its bs ∧ PySem.W.EachIs (fun v (b : V × PyData) => ∃ as, Reads s.heap v b.2 as) its bs := by
    intro bs
    induction bs with
    | nil => intro its v _; cases v; exact ⟨.nil, .nil⟩
    | cons b r ih =>
      intro its v hd
      cases v with
      | cons g1 g2 =>
        obtain ⟨h1, h2⟩ := ih _ g2 fun x hx => hd x (List.mem_cons_of_mem _ hx)
        exact ⟨.cons g1 h1, .cons (Dp.reads I b.2 b.1 _ (hd b List.mem_cons_self) g1) h2⟩
  have back : ∀ (bs : List (V × PyData)) (its : List Value), PySem.W.EachIs (fun v (b : V × PyData) => RelV b.1 v) its bs → Vals (bs.map Prod.fst) its := by
    intro bs
    induction bs with
    | nil => intro its v; cases v; exact .nil
    | cons b r ih =>
      intro its v
      cases v with
      | cons g1 g2 => exact .cons g1 (ih _ g2)
  obtain ⟨e1, e2⟩ := each bs its hits hd
  refine PySem.W.sorted_data (enc := Prod.snd) (R := fun v (b : V × PyData) => RelV b.1 v) ⟨_, hao, rfl, n, rfl⟩ e1 e2 hal hk hz (fun b hb => by have := hdep b hb; show X.A.units + 2 + _ < _; omega) fun out hl he => ?_
  obtain ⟨ee, hat⟩ := PyProof.Rows.sortedAll_at s.heap its (List.toArray out)
  refine ⟨.ref (s.heap.objs.size + 1), _, I.laid (a := s.heap.objs.size + 1) (o := .lst ((bs.mergeSort (PySem.W.dataLe false Prod.snd)).map Prod.fst)) (t' := s.toks) (fun b o e => PyProof.Rows.sortedAll_old e) (by omega) ?_, rfl, q _ ?_⟩
  · exact ⟨by simpa using hz, out, ee, back _ _ he, hat⟩
  · exact I.hok.fresh (by omega)

def keyD (c : Nat) (row : List Nat) : PyData := .tuple [.str (ch c), .tuple (row.map fun x : Nat => .int (x : Int))]
def leK (a b : Nat × List Nat) : Bool := PySem.W.dataLe false (fun key : Nat × List Nat => keyD key.1 key.2) a b
theorem ints_alike : ∀ a b : List Nat, PySem.W.alikeAll (a.map fun x : Nat => PyData.int (x : Int)) (b.map fun x : Nat => .int (x : Int)) = true
  | [], _ => by simp [PySem.W.alikeAll]
  | _ :: _, [] => by simp [PySem.W.alikeAll]
  | a :: r, b :: t => by simp only [List.map_cons, PySem.W.alikeAll, PySem.W.alike, ints_alike r t, Bool.and_self]
theorem key_alike (c c' : Nat) (r r' : List Nat) : PySem.W.alike (keyD c r) (keyD c' r') = true := by
  simp only [keyD, PySem.W.alike, PySem.W.alikeAll, ints_alike r r', Bool.and_self]
theorem depth_ints : ∀ r : List Nat, PyData.depthAll (r.map fun x : Nat => PyData.int (x : Int)) ≤ 1
  | [] => by simp [PyData.depthAll]
  | a :: r => by simp only [List.map_cons, PyData.depthAll, PyData.depth]; have := depth_ints r; omega
theorem keyD_depth (c : Nat) (row : List Nat) : (keyD c row).depth ≤ 8 := by
  have := depth_ints row
  simp only [keyD, PyData.depth, PyData.depthAll]
  omega
theorem nkr_inv {H : Hp} {c : Nat} {row : List Nat} {b : Addr} (h : NK H (keyN c row) (.ref b)) : ∃ a, H b = some (.tup [.str (ch c), .ref a]) ∧ H a = some (.tup (row.map nI)) := by
  unfold keyN at h
  cases h with
  | tup h1 h2 =>
    cases h2 with
    | cons k1 k2 =>
      cases k1
      cases k2 with
      | cons k3 k4 =>
        cases k4
        cases k3 with
        | tup h3 h4 =>
          refine ⟨_, h1, ?_⟩
          have : ∀ (row : List Nat) (vs : List V), NKs H (row.map fun x : Nat => NestedKey.num (x : Int)) vs → vs = row.map nI := by
            intro row
            induction row with
            | nil => intro vs h; cases h; rfl
            | cons x r ih =>
              intro vs h
              cases h with
              | cons h1 h2 => cases h1; rw [ih _ h2]; rfl
          rw [h3, this _ _ h4]
theorem key_reads {X : Cx} {pins : List (Addr × Obj)} {σ : L2.St} {H : Hp} {s : Shared} (I : Inv X pins σ H s) {c : Nat} {row : List Nat} {b : Addr} (h : NK H (keyN c row) (.ref b)) : Reads s.heap (.ref b) (keyD c row) [] := by
  obtain ⟨a, hb, ha⟩ := nkr_inv h
  obtain ⟨its, rv, ⟨o, ho, hc, n, hd⟩, _⟩ := I.tuple (SqT.of hb)
  obtain ⟨its2, rv2, ⟨o2, ho2, hc2, n2, hd2⟩, _⟩ := I.tuple (SqT.of ha)
  have ri : ∀ (row : List Nat) (its : List Value), Vals (row.map nI) its → ReadsAll s.heap its (row.map fun x : Nat => PyData.int (x : Int)) [] := by
    intro row
    induction row with
    | nil => intro its h; cases h; exact .nil
    | cons x r ih =>
      intro its h
      cases h with
      | cons h1 h2 =>
        obtain ⟨t, rfl⟩ := h1
        exact .cons (as := []) (bs := []) (.int _ t) (ih _ h2)
  cases rv with
  | cons r1 r2 =>
    cases r2 with
    | cons r3 r4 =>
      cases r4
      cases r3
      obtain ⟨t, rfl⟩ := r1
      exact .tuple ho hc hd (.cons (as := []) (bs := []) (.str _ t) (.cons (as := []) (bs := []) (.tuple ho2 hc2 hd2 (ri row its2 rv2)) .nil))


def sp__keys_that_come (P : Program) (w : World) : Sp := fun vs H Q _ => ∃ (v : V) (J : JD), vs = [v] ∧ JAt P w H v J ∧ J.ok ∧ ∀ r bs ks H', Same H H' → H r = none → H' r = some (.lst (bs.map V.ref)) → KeysAt H' bs ks → (∀ key, key ∈ ks ↔ key ∈ J.keys ∧ ∀ i x, key.2[i]? = some x → x ≠ 0 → Comes J i) → ks.length ≤ 600 → Q (.ref r) H'
def KeysC (J : JD) (ks : List (Nat × List Nat)) : Prop := ∀ key, key ∈ ks ↔ key ∈ J.keys ∧ ∀ i x, key.2[i]? = some x → x ≠ 0 → Comes J i
def behF (J : JD) (key : Nat × List Nat) (p : Nat) : Nat := J.fs key.1 (moreR J.few J.turn key.2 p)
def sp__states_behind (P : Program) (w : World) : Sp := fun vs H Q _ => ∃ (v : V) (J : JD) (r : Addr) (bs : List Addr) (ks : List (Nat × List Nat)), vs = [v, .ref r] ∧ JAt P w H v J ∧ J.ok ∧ H r = some (.lst (bs.map V.ref)) ∧ KeysAt H bs ks ∧ KeysC J ks ∧ ks.length ≤ 600 ∧
  ∀ d H' (f : Nat → V) S, Same H H' → H d = none → H' d = some (.dK (kvG f S)) → ComeL J S → (∀ p ∈ S, ∃ b, f p = .ref b ∧ H b = none ∧ H' b = some (.lst ((ks.map fun key => behF J key p).map nI))) → Q (.ref d) H'
theorem rise_few : ∀ (S : List Nat) (m n : Nat), S.Pairwise (· < ·) → (∀ s ∈ S, m ≤ s ∧ s < n) → S.length ≤ n - m
  | [], _, _, _, _ => Nat.zero_le _
  | a :: r, m, n, h, hn => by
    obtain ⟨h1, h2⟩ := List.pairwise_cons.mp h
    have ih := rise_few r (a + 1) n h2 fun s hs => ⟨h1 s hs, (hn s (List.mem_cons_of_mem _ hs)).2⟩
    have := hn a List.mem_cons_self
    rw [List.length_cons]
    omega
theorem rise_new {S : List Nat} {i z : Nat} (h : S.Pairwise (· < ·)) (hz : S[i]? = some z) : z ∉ S.take i := fun hm => by
  obtain ⟨j, hj⟩ := List.mem_iff_getElem?.mp hm
  have hjl := (List.getElem?_eq_some_iff.mp hj).1
  rw [List.length_take] at hjl
  rw [List.getElem?_take_of_lt (by omega)] at hj
  obtain ⟨b1, b2⟩ := List.getElem?_eq_some_iff.mp hj
  obtain ⟨c1, c2⟩ := List.getElem?_eq_some_iff.mp hz
  have := List.pairwise_iff_getElem.mp h j i b1 c1 (by omega)
  omega
theorem keysAt_all {H : Hp} : ∀ {ps : List (Addr × (Nat × List Nat))}, KeysAt H (ps.map (·.1)) (ps.map (·.2)) → ∀ p ∈ ps, ∃ a, H p.1 = some (.tup [.str (ch p.2.1), .ref a]) ∧ H a = some (.tup (p.2.2.map nI))
  | [], _, p, h => by cases h
  | x :: r, h, p, hp => by
    unfold KeysAt at h
    rw [List.map_cons, List.map_cons] at h
    cases h with
    | cons h1 h2 =>
      rcases List.mem_cons.mp hp with rfl | hp
      · exact h1
      · exact keysAt_all h2 p hp
theorem keysAt_of {H : Hp} : ∀ {ps : List (Addr × (Nat × List Nat))}, (∀ p ∈ ps, ∃ a, H p.1 = some (.tup [.str (ch p.2.1), .ref a]) ∧ H a = some (.tup (p.2.2.map nI))) → KeysAt H (ps.map (·.1)) (ps.map (·.2))
  | [], _ => .nil
  | x :: r, h => .cons (h x List.mem_cons_self) (keysAt_of fun p hp => h p (List.mem_cons_of_mem _ hp))
section
variable {P : Program} {w : World} {K : PySem.W.Frag} {mg : Str → Option Value} {base : Heap}
theorem ok__keys_that_come (T : Txt K mg) : FnOk P w K mg base CX0 5 T.f__keys_that_come T.d__keys_that_come ["judge"] (sp__keys_that_come P w) := by
  have G_states_that_come : FnOk P w K mg base CX0 4 T.f_states_that_come T.d_states_that_come ["judge"] (sp_states_that_come P w) := ok_states_that_come T
  have G_are_only_of : FnOk P w K mg base CX0 1 T.f_are_only_of T.d_are_only_of ["classes", "states"] sp_are_only_of_l := ok_are_only_of_l T
  refine T.F__keys_that_come.ok sc__keys_that_come (fun vs H Q E h => ?_) (fun cdv A outer s H vs Q E hr h => ?_)
  · obtain ⟨v, J, rfl, _⟩ := h
    rfl
  obtain ⟨v, J, rfl, hJ, hok, q⟩ := h
  refine ⟨_, (pss_cons (ps_set (i := 1) sc__keys_that_come.nd rfl (Or.inr rfl) (pe_call G_states_that_come (hr.mono (by omega)) (by rfl) T.m_states_that_come T.F_states_that_come.kp T.b_states_that_come .nil pass0 (pa_cons (pv 0) pa_nil))) (pss_one (ps_ret (pe_callB (call_sortedData (roomDeep hr)) (by rfl) T.z_sorted (by decide +kernel) (pa_cons (pe_lock (pe_lc (own := [("key", 2)]) (g := gName 2) (te := tVar 2) (tt := tB (tCall sp_are_only_of_l [] E0 (tCons (tOp (rIxT K) (tVar 2) (tC (.int 1))) (tCons (tVar 1) tNil)))) rfl sc__keys_that_come.nd (pi_keysN (pe_ix ix_tup (pv 0) pe_int (fun _ _ => rfl))) (blkOk_by (own := [("key", 2)]) (N := ["judge", "coming", "key"]) (sc := (defScope s__keys_that_come)) (by decide +kernel)) (fun _ _ _ _ _ => (pg_name (i := 2) sc__keys_that_come.nd rfl (Or.inl rfl))) (fun _ _ _ _ _ => pts_one (pt_val (pe_call G_are_only_of (hr.mono (by omega)) (by rfl) T.m_are_only_of T.F_are_only_of.kp T.b_are_only_of .nil pass0 (pa_cons (pe_ix ix_tup (pv 2) pe_int (fun _ _ => rfl)) (pa_cons (pv 1) pa_nil))))) (fun _ _ _ _ _ => (pv 2)))) pa_nil))))), ?_⟩
  refine ⟨_, rfl, v, J, rfl, hJ, hok, fun rc S H1 s1 rc0 krc hS => ?_⟩
  have hJ1 := hJ.same s1
  obtain ⟨j, d, g, xs, keys, rfl, hj, hd, hrn, hrj, hper, hg⟩ := hJ1
  have n6 := hok.n6
  have ndj : j ≠ d := fun e => by rw [e, hd] at hj; unfold DictN at hj; cases hj
  have ndr : rc ≠ d := fun e => by rw [e, hd] at krc; unfold DictN at krc; cases krc
  have ntup : ∀ (q : Addr) (ys : List V), H1 q = some (.tup ys) → q ≠ d := fun q ys e z => by rw [z, hd] at e; unfold DictN at e; cases e
  have lk : keys.length ≤ 600 := by
    rw [hper.length_eq]
    unfold JD.keys
    rw [keysOf_len]
    exact hok.h600
  have lx : xs.length ≤ 600 := by rw [Paired.length hrj]; exact lk
  refine ⟨d, _, hd, trivial, fun od => ?_⟩
  refine ⟨_, rfl, j, _, 4, _, rfl, rfl, SqT.of (by rw [upd_ne ndj]; exact hj), atI_nat (j := 4) rfl, d, od, xs, rfl, upd_same, fun D hD => ?_⟩
  have nDd : D ≠ d := fun e => by rw [e, upd_same] at hD; cases hD
  have hD0 : H1 D = none := by rw [upd_ne nDd] at hD; exact hD
  refine lc_walk (len := xs.length) walk_keysN (fun i H' => ∃ ps : List (Addr × (Nat × List Nat)), H' D = some (.lst (ps.map fun p => V.ref p.1)) ∧ KeysAt H' (ps.map (·.1)) (ps.map (·.2)) ∧ ps.map (·.2) = (keys.take i).filter (fun key => onlyB S key.2) ∧ H' d = some (.frz od (DictN P w d xs)) ∧ FrD d H1 H') ⟨[], upd_same, .nil, rfl, by rw [upd_ne nDd.symm, upd_same], fun b o ne e => by rw [upd_ne (fun z => by rw [z, hD0] at e; cases e), upd_ne ne]; exact e⟩ (fun i H' _ ⟨_, _, _, _, h, _⟩ => h) ?_ ?_
  · rintro i x H2 H3 hi ⟨ps, k0, k1, k2, k3, k4⟩ ⟨rfl, row, hrow, rfl⟩
    obtain ⟨⟨c, rw0⟩, hkey, e1, e2⟩ := prd_at hrj hrow
    have hm := hper.mem_iff.mp (List.mem_of_getElem? hkey)
    obtain ⟨hc, hlen, hkk⟩ := keysOf_mem hm
    dsimp only at hlen hkk hc
    obtain ⟨hn1, _⟩ := hrn row (List.mem_of_getElem? hrow)
    rw [e1] at hn1
    obtain ⟨a, kb, ka⟩ := nkr_inv hn1
    have kb2 := k4 _ _ (ntup _ _ kb) kb
    have ka2 := k4 _ _ (ntup _ _ ka) ka
    have kr2 := k4 _ _ ndr krc
    have lps : (ps.map fun p => V.ref p.1).length < sizeLine := by
      rw [List.length_map]
      have l1 := congrArg List.length k2
      have l2 := List.length_filter_le (fun key : Nat × List Nat => onlyB S key.2) (keys.take i)
      rw [List.length_map] at l1
      rw [List.length_take] at l2
      exact Nat.lt_of_le_of_lt (show _ ≤ 1000000 by omega) (by decide)
    refine ⟨rfl, ?_⟩
    refine ⟨_, rfl, row.2.1, _, 1, _, rfl, rfl, SqT.of kb2, atI_nat (j := 1) rfl, _, rfl, a, rc, rw0, S, rfl, ka2, kr2, by omega, fun H4 s4 => ⟨_, rfl, ?_⟩⟩
    have nd2 : D ≠ row.2.1 := fun e => by rw [e, kb2] at k0; cases k0
    cases hb : onlyB S rw0 with
    | false =>
      refine iteF ⟨ps, s4 _ _ k0, Paired.mapP k1 fun b key ⟨a, e1, e2⟩ => ⟨a, s4 _ _ e1, s4 _ _ e2⟩, ?_, s4 _ _ k3, fun b o n e => s4 _ _ (k4 b o n e)⟩
      rw [take_succ_of hkey, List.filter_append, k2]
      simp [hb]
    | true =>
      have tk := upd_tup (o := .lst ((ps.map fun p => V.ref p.1) ++ [V.ref row.2.1])) (s4 _ _ k0)
      refine iteT ⟨_, rfl, _, s4 _ _ k0, lps, ps ++ [(row.2.1, (c, rw0))], ?_, ?_, ?_, ?_, ?_⟩
      · rw [upd_same, List.map_append]
        rfl
      · rw [List.map_append, List.map_append]
        exact prd_app (Paired.mapP k1 fun b key ⟨a, e1, e2⟩ => ⟨a, tk _ _ (s4 _ _ e1), tk _ _ (s4 _ _ e2)⟩) (.cons ⟨a, tk _ _ (s4 _ _ kb2), tk _ _ (s4 _ _ ka2)⟩ .nil)
      · rw [List.map_append, take_succ_of hkey, List.filter_append, k2]
        simp [hb]
      · rw [upd_ne nDd.symm]
        exact s4 _ _ k3
      · intro b o n e
        rw [upd_ne fun z => by rw [z, hD0] at e; cases e]
        exact s4 _ _ (k4 b o n e)
  rintro H2 ⟨ps, k0, k1, k2, k3, k4⟩
  refine ⟨k3, ?_⟩
  have k5 : Same H1 (upd H2 d (DictN P w d xs)) := fun b o e => by
    by_cases hb : b = d
    · rw [hb, upd_same, ← e, hb]; exact hd.symm
    · rw [upd_ne hb]; exact k4 b o hb e
  have k6 : (upd H2 d (DictN P w d xs)) D = some (.lst (ps.map fun p => V.ref p.1)) := by rw [upd_ne nDd]; exact k0
  have k7 : KeysAt (upd H2 d (DictN P w d xs)) (ps.map (·.1)) (ps.map (·.2)) := Paired.mapP k1 fun b key ⟨a, e1, e2⟩ => ⟨a, by rw [upd_ne fun z => by rw [z, k3] at e1; cases e1]; exact e1, by rw [upd_ne fun z => by rw [z, k3] at e2; cases e2]; exact e2⟩
  generalize upd H2 d (DictN P w d xs) = H4 at *
  have hall : ∀ p ∈ ps, ∃ a, H4 p.1 = some (.tup [.str (ch p.2.1), .ref a]) ∧ H4 a = some (.tup (p.2.2.map nI)) := keysAt_all k7
  have ep : ps.map (fun p => V.ref p.1) = (ps.map fun p => (V.ref p.1, keyD p.2.1 p.2.2)).map Prod.fst := by rw [List.map_map]; rfl
  have es : (ps.map fun p => (V.ref p.1, keyD p.2.1 p.2.2)).map Prod.snd = ps.map fun p => keyD p.2.1 p.2.2 := by rw [List.map_map]; rfl
  have l1 := congrArg List.length k2
  have l2 := List.length_filter_le (fun key : Nat × List Nat => onlyB S key.2) (keys.take xs.length)
  rw [List.length_map] at l1
  rw [List.length_take] at l2
  refine ⟨D, ps.map fun p => (V.ref p.1, keyD p.2.1 p.2.2), rfl, by rw [← ep]; exact k6, ?_, ?_, ?_, ?_, ?_, fun r hr => ?_⟩
  · intro b hb
    obtain ⟨p, hp, rfl⟩ := List.mem_map.mp hb
    obtain ⟨a, h1, h2⟩ := hall p hp
    exact .tup (SqT.of h1) (.cons (.str _) (.cons (.tup (SqT.of h2) (dp_nats _)) .nil))
  · rw [es]
    exact PySem.W.AllAlike.of fun b b' => key_alike _ _ _ _
  · rw [es]
    exact PySem.W.Sortable.tuples fun b => ⟨_, _, rfl⟩
  · intro b hb
    obtain ⟨p, hp, rfl⟩ := List.mem_map.mp hb
    exact Nat.le_trans (keyD_depth _ _) (by decide)
  · rw [List.length_map]
    exact Nat.le_of_lt (Nat.lt_of_le_of_lt (show _ ≤ 1000000 by omega) (by decide))
  have srt := PySem.W.sort_maps (r := PySem.W.dataLe false fun p : Addr × (Nat × List Nat) => keyD p.2.1 p.2.2) (s := PySem.W.dataLe false Prod.snd) (fun p : Addr × (Nat × List Nat) => (V.ref p.1, keyD p.2.1 p.2.2)) (l := ps) fun _ _ _ _ => rfl
  rw [← srt, List.map_map]
  have sr := same_new hr (o := .lst ((ps.mergeSort (PySem.W.dataLe false fun p : Addr × (Nat × List Nat) => keyD p.2.1 p.2.2)).map (Prod.fst ∘ fun p : Addr × (Nat × List Nat) => (V.ref p.1, keyD p.2.1 p.2.2))))
  have pm := List.mergeSort_perm ps (PySem.W.dataLe false fun p : Addr × (Nat × List Nat) => keyD p.2.1 p.2.2)
  refine q r ((ps.mergeSort (PySem.W.dataLe false fun p : Addr × (Nat × List Nat) => keyD p.2.1 p.2.2)).map (·.1)) ((ps.mergeSort (PySem.W.dataLe false fun p : Addr × (Nat × List Nat) => keyD p.2.1 p.2.2)).map (·.2)) _ ((s1.trans k5).trans sr) ((s1.trans k5).free hr) (by rw [upd_same, List.map_map]; rfl) (keysAt_of fun p hp => ?_) (fun key => ?_) ?_
  · obtain ⟨a, h1, h2⟩ := hall p (pm.mem_iff.mp hp)
    exact ⟨a, sr _ _ h1, sr _ _ h2⟩
  · rw [(pm.map (·.2)).mem_iff, k2, List.take_of_length_le (by rw [Paired.length hrj]; exact Nat.le_refl _), List.mem_filter, hper.mem_iff, onlyB_iff]
    exact ⟨fun ⟨h1, h2⟩ => ⟨h1, fun i x hx h0 => (hS.2 i).mp (h2 i x hx h0)⟩, fun ⟨h1, h2⟩ => ⟨h1, fun i x hx h0 => (hS.2 i).mpr (h2 i x hx h0)⟩⟩
  · rw [(pm.map (·.2)).length_eq, List.length_map]
    omega
theorem ok__states_behind (T : Txt K mg) : FnOk P w K mg base CX0 5 T.f__states_behind T.d__states_behind ["judge", "keys"] (sp__states_behind P w) := by
  have G_states_that_come : FnOk P w K mg base CX0 4 T.f_states_that_come T.d_states_that_come ["judge"] (sp_states_that_come P w) := ok_states_that_come T
  have G_classes_with : FnOk P w K mg base CX0 2 T.f_classes_with T.d_classes_with ["judge", "row", "state"] (sp_more P w) := ok_classes_with T
  refine T.F__states_behind.ok sc__states_behind (fun vs H Q E h => ?_) (fun cdv A outer s H vs Q E hr h => ?_)
  · obtain ⟨v, J, r, bs, ks, rfl, _⟩ := h
    rfl
  obtain ⟨v, J, r, bs, ks, rfl, hJ, hok, kr, hks, hmem, l600, q⟩ := h
  refine ⟨_, (pss_one (ps_ret (pe_dc (own := [("state", 2)]) (tt := tYes) (g := (gName 2)) (tk := tVar 2) (tv := tLc (iList K (tVar 1)) (gTup K 2 (gCons (gName 3) (gCons (gName 4) gNil))) tYes (tDGetN P w (tOp (rIxT K) (tVar 0) (tC (.int 4))) (tTup (tCons (tVar 3) (tCons (tCall (sp_more P w) [] E0 (tCons (tVar 0) (tCons (tVar 4) (tCons (tVar 2) tNil)))) tNil)))) [3, 4]) rfl sc__states_behind.nd (pi_list (pe_call G_states_that_come (hr.mono (by omega)) (by rfl) T.m_states_that_come T.F_states_that_come.kp T.b_states_that_come .nil pass0 (pa_cons (pv 0) pa_nil))) (blkOk_by (own := [("state", 2)]) (N := ["judge", "keys", "state", "letter", "row"]) (sc := (defScope s__states_behind)) (by decide +kernel)) (fun _ _ _ _ _ => (pg_name (i := 2) sc__states_behind.nd rfl (Or.inr rfl))) (fun _ _ _ _ _ => pts_nil) (fun _ _ _ _ _ => (pv 2)) (fun _ _ _ _ _ => by exact (pe_lc (own := [("letter", 3), ("row", 4)]) (g := gTup K 2 (gCons (gName 3) (gCons (gName 4) gNil))) (te := tDGetN P w (tOp (rIxT K) (tVar 0) (tC (.int 4))) (tTup (tCons (tVar 3) (tCons (tCall (sp_more P w) [] E0 (tCons (tVar 0) (tCons (tVar 4) (tCons (tVar 2) tNil)))) tNil)))) (tt := tYes) rfl sc__states_behind.nd (pi_list (pv 1)) (blkOk_by (own := [("letter", 3), ("row", 4)]) (N := ["judge", "keys", "state", "letter", "row"]) (sc := relS _ (defScope s__states_behind)) (by decide +kernel)) (fun _ _ _ _ _ => (pg_tup rfl (pgs_cons (pg_name (i := 3) sc__states_behind.nd rfl (Or.inl rfl)) (pgs_cons (pg_name (i := 4) sc__states_behind.nd rfl (Or.inl rfl)) pgs_nil)))) (fun _ _ _ _ _ => pts_nil) (fun _ _ _ _ _ => (pe_dgetN (roomN hr) (pe_ix ix_tup (pv 0) pe_int (fun _ _ => rfl)) (pe_tup (pa_cons (pv 3) (pa_cons (pe_call G_classes_with (hr.mono (by omega)) (by rfl) T.m_classes_with T.F_classes_with.kp T.b_classes_with .nil pass0 (pa_cons (pv 0) (pa_cons (pv 4) (pa_cons (pv 2) pa_nil)))) pa_nil))) (fun _ _ => rfl)))))))), ?_⟩
  have hJ0 := hJ
  obtain ⟨j, d, g, xs, keys, rfl, hj, hd, hrn, hrj, hper, hg⟩ := hJ
  have n6 := hok.n6
  refine ⟨_, rfl, _, J, rfl, hJ0, hok, fun rc S H1 s1 rc0 krc hS => ⟨rc, rfl, ⟨_, SqL.of krc⟩, fun D hD => ?_⟩⟩
  have hSn : ∀ p ∈ S, p < J.n := fun p hp => lev_small hok ((comes_lev hok p).mp ((hS.2 p).mp hp))
  have hD0 := s1.free hD
  refine lc_outer (xs := S.map nI) (fun i H' => ∃ f : Nat → V, H' D = some (.dK (kvG f (S.take i))) ∧ (∀ p ∈ S.take i, ∃ b, f p = .ref b ∧ H b = none ∧ b ≠ D ∧ H' b = some (.lst ((ks.map fun key => behF J key p).map nI))) ∧ Same H1 H') ⟨fun _ => .non, upd_same, (fun p hp => by rw [List.take_zero] at hp; cases hp), same_new hD⟩ (fun i H' _ ⟨_, _, _, s⟩ => SqL.of (s _ _ krc)) ?_ ?_
  · rintro i x H2 hx ⟨f, e1, e2, e3⟩
    rw [List.getElem?_map] at hx
    cases hz : S[i]? with
    | none => rw [hz] at hx; cases hx
    | some z =>
    rw [hz] at hx
    cases hx
    have zm := List.mem_of_getElem? hz
    have zn := hSn z zm
    have S2 := s1.trans e3
    refine ⟨rfl, _, rfl, _, rfl, r, rfl, ⟨_, SqL.of (S2 _ _ kr)⟩, fun D2 hD2 => ?_⟩
    have hD20 := S2.free hD2
    have nDD : D2 ≠ D := fun e => by rw [e, e1] at hD2; cases hD2
    have lb := Paired.length hks
    refine lc_list (xs := bs.map V.ref) (fun j H' => H' D2 = some (.lst (((ks.take j).map fun key => behF J key z).map nI)) ∧ Same H2 H') ⟨upd_same, same_new hD2⟩ (fun j H' _ ⟨_, s⟩ => SqL.of ((S2.trans s) _ _ kr)) ?_ ?_
    · rintro m x H3 hx ⟨f1, f2⟩
      rw [List.getElem?_map] at hx
      cases hb : bs[m]? with
      | none => rw [hb] at hx; cases hx
      | some b =>
      rw [hb] at hx
      cases hx
      obtain ⟨key, hkey, a, kb, ka⟩ := prd_at hks hb
      have S3 := S2.trans f2
      obtain ⟨hkm, hkc⟩ := (hmem key).mp (List.mem_of_getElem? hkey)
      obtain ⟨hc, hlen, hkk⟩ := keysOf_mem hkm
      refine ⟨b, _, rfl, SqT.of (S3 _ _ kb), rfl, _, _, rfl, _, _, rfl, rfl, rfl, ?_⟩
      refine ⟨_, rfl, j, _, 4, .ref d, rfl, rfl, SqT.of (S3 _ _ hj), atI_nat (j := 4) rfl, _, rfl, _, rfl, _, rfl, _, rfl, _, J, a, key.2, z, rfl, hJ0.same S3, hok, S3 _ _ ka, by rw [hlen]; exact zn, by rw [hlen]; exact n6, fun b2 H4 s4 k4 => ⟨(by show 2 ≤ sizeLine; decide), fun t ht => ?_⟩⟩
      have st := same_new ht (o := .tup [.str (ch key.1), V.ref b2])
      have kt := upd_same (H := H4) (a := t) (o := .tup [.str (ch key.1), V.ref b2])
      have S4 := (S3.trans s4).trans st
      have hm2 : (key.1, moreR J.few J.turn key.2 z) ∈ J.keys := keysOf_all hc (by rw [moreR_len (by rw [hlen]; exact zn), hlen]) (moreR_lt hok.t1 hkk)
      have hat := atN_rows hrj (hper.mem_iff.mpr hm2)
      have f24 := (f2.trans s4).trans st
      refine ⟨d, t, xs, keyN key.1 (moreR J.few J.turn key.2 z), _, rfl, rfl, S4 _ _ hd, hrn.keep fun b ys e => S4 _ _ e, nk_key kt (st _ _ k4), keyN_depth _ _, hat, _, st _ _ (s4 _ _ f1), ?_, ?_, same_add f24 hD2⟩
      · rw [List.length_map, List.length_map, List.length_take]
        exact Nat.lt_of_le_of_lt (show _ ≤ 1000000 by omega) (by decide)
      · rw [upd_same, take_succ_of hkey, List.map_append, List.map_append]
        rfl
    rintro H3 ⟨f1, f2⟩
    rw [List.length_map, lb, List.take_length] at f1
    have lS : (S.take i).length ≤ 6 := by
      have h1 := rise_few S 0 J.n hS.1 fun p hp => ⟨Nat.zero_le _, hSn p hp⟩
      rw [List.length_take]
      omega
    refine ⟨kvG f (S.take i), Sum.inl (z : Int), rfl, f2 _ _ e1, ?_, fun q => if q = z then .ref D2 else f q, ?_, ?_, same_add (e3.trans f2) hD⟩
    · unfold kvG
      rw [List.length_map]
      exact Nat.lt_of_le_of_lt (show _ ≤ 1000000 by omega) (by decide)
    · rw [upd_same, take_succ_of hz, kvG_put]
      intro h
      exact rise_new hS.1 hz h
    · intro p hp
      rw [take_succ_of hz] at hp
      by_cases e : p = z
      · subst e
        exact ⟨D2, if_pos rfl, hD20, nDD, by rw [upd_ne nDD]; exact f1⟩
      · rw [List.mem_append, List.mem_singleton] at hp
        obtain ⟨b, h1, h2, h3, h4⟩ := e2 p (hp.resolve_right e)
        exact ⟨b, by dsimp only; rw [if_neg e]; exact h1, h2, h3, by rw [upd_ne h3]; exact f2 _ _ h4⟩
  rintro H2 ⟨f, e1, e2, e3⟩
  rw [List.length_map, List.take_length] at e1 e2
  exact q D H2 f S (s1.trans e3) hD0 e1 hS fun p hp => let ⟨b, h1, h2, _, h4⟩ := e2 p hp; ⟨b, h1, h2, h4⟩
end


theorem roomIn {k : Nat} {A : Around} (r : Room k A) : A.units + 65 < cLine := by have := r.un; omega
inductive Mk
  | tr (b : Bool)
  | row (xs : List Nat)
  deriving DecidableEq
def mkD : Mk → PyData
  | .tr b => .bool b
  | .row xs => .list (xs.map fun x : Nat => .int (x : Int))
def MkAt (H : Hp) (v : V) : Mk → Prop
  | .tr b => v = .bl b
  | .row xs => ∃ a, v = .ref a ∧ H a = some (.lst (xs.map nI))
theorem MkAt.same {H H' : Hp} {v : V} : ∀ {m : Mk}, MkAt H v m → Same H H' → MkAt H' v m
  | .tr _, h, _ => h
  | .row _, ⟨a, h1, h2⟩, s => ⟨a, h1, s _ _ h2⟩
theorem mk_dp {K : PySem.W.Frag} {H : Hp} {v : V} : ∀ {m : Mk}, MkAt H v m → Dp K H v (mkD m)
  | .tr b, h => by
    have h : v = .bl b := h
    rw [h]
    exact .bl b
  | .row _, ⟨a, h1, h2⟩ => by
    rw [h1]
    exact .lst (SqL.of h2) (dp_nats _)
theorem nats_eqv : ∀ a b : List Nat, PyData.eqvAll (a.map fun x : Nat => PyData.int (x : Int)) (b.map fun x : Nat => .int (x : Int)) = decide (a = b)
  | [], [] => by simp [PyData.eqvAll]
  | [], _ :: _ => by simp [PyData.eqvAll]
  | _ :: _, [] => by simp [PyData.eqvAll]
  | a :: r, b :: t => by
    simp only [List.map_cons, PyData.eqvAll, PyData.eqv, nats_eqv r t, List.cons.injEq]
    by_cases e : a = b
    · subst e; simp
    · have : ¬ ((a : Int) = (b : Int)) := by omega
      simp [e, this]
theorem mk_eqv (a b : Mk) : PyData.eqv (mkD a) (mkD b) = decide (a = b) := by
  cases a with
  | tr a => cases b with
    | tr b => cases a <;> cases b <;> simp [mkD, PyData.eqv]
    | row b => simp [mkD, PyData.eqv]
  | row a => cases b with
    | tr b => simp [mkD, PyData.eqv]
    | row b => simp only [mkD, PyData.eqv, nats_eqv]; simp
theorem mk_shaped (m : Mk) : SeqAt.shaped (mkD m) = true := by
  cases m with
  | tr b => rfl
  | row xs =>
    have := shaped_ints (xs.map fun x : Nat => (x : Int))
    rw [List.map_map] at this
    exact this
theorem mk_lay (m : Mk) : (mkD m).canLay0 = true ∧ (mkD m).depth ≤ 3 := by
  cases m with
  | tr b => exact ⟨rfl, by simp [mkD, PyData.depth]⟩
  | row xs =>
    have h := mk_shaped (.row xs)
    unfold SeqAt.shaped at h
    rw [Bool.and_eq_true] at h
    refine ⟨h.1, ?_⟩
    have := depth_nats xs
    simp only [mkD, PyData.depth]
    omega
theorem mks_shaped (ms : List Mk) : SeqAt.shaped (.list (ms.map mkD)) = true := by
  have lay : ∀ ms : List Mk, PyData.canLayAll0 (ms.map mkD) = true := fun ms => by
    induction ms with
    | nil => simp [PyData.canLayAll0]
    | cons a r ih => simp only [List.map_cons, PyData.canLayAll0, (mk_lay a).1, ih, Bool.and_self]
  have dep : ∀ ms : List Mk, PyData.depthAll (ms.map mkD) ≤ 3 := fun ms => by
    induction ms with
    | nil => simp [PyData.depthAll]
    | cons a r ih => have := (mk_lay a).2; simp only [List.map_cons, PyData.depthAll]; omega
  unfold SeqAt.shaped
  rw [Bool.and_eq_true]
  refine ⟨by simp only [PyData.canLay0, lay ms], decide_eq_true ?_⟩
  have := dep ms
  simp only [PyData.depth]
  omega
def onceG : List Mk → List Mk → List Mk
  | _, [] => []
  | pre, m :: r => if m ∈ pre then onceG (pre ++ [m]) r else m :: onceG (pre ++ [m]) r
theorem onceG_cons (pre : List Mk) (m : Mk) (r : List Mk) : onceG pre (m :: r) = if m ∈ pre then onceG (pre ++ [m]) r else m :: onceG (pre ++ [m]) r := rfl
theorem onceG_mem {k : Mk} : ∀ {ms pre : List Mk}, k ∈ onceG pre ms ↔ k ∈ ms ∧ k ∉ pre
  | [], pre => by simp [onceG]
  | m :: r, pre => by
    unfold onceG
    by_cases h : m ∈ pre
    · rw [if_pos h, onceG_mem (ms := r), List.mem_append, List.mem_singleton, List.mem_cons]
      exact ⟨fun ⟨a, b⟩ => ⟨.inr a, fun z => b (.inl z)⟩, fun ⟨a, b⟩ => ⟨a.resolve_left fun z => b (by rw [z]; exact h), fun z => z.elim b fun z => b (by rw [z]; exact h)⟩⟩
    · rw [if_neg h, List.mem_cons, onceG_mem (ms := r), List.mem_append, List.mem_singleton, List.mem_cons]
      by_cases e : k = m
      · subst e
        exact ⟨fun _ => ⟨.inl rfl, h⟩, fun _ => .inl rfl⟩
      · exact ⟨fun z => z.elim (fun z => absurd z e) fun ⟨a, b⟩ => ⟨.inr a, fun z => b (.inl z)⟩, fun ⟨a, b⟩ => .inr ⟨a.resolve_left e, fun z => z.elim b e⟩⟩
theorem onceG_nd : ∀ {ms pre : List Mk}, (onceG pre ms).Nodup
  | [], pre => List.nodup_nil
  | m :: r, pre => by
    unfold onceG
    by_cases h : m ∈ pre
    · rw [if_pos h]; exact onceG_nd
    · rw [if_neg h]
      exact List.nodup_cons.mpr ⟨fun z => (onceG_mem.mp z).2 (List.mem_append_right _ (List.mem_singleton.mpr rfl)), onceG_nd⟩
theorem onceG_len : ∀ {ms pre : List Mk}, (onceG pre ms).length ≤ ms.length
  | [], pre => Nat.le_refl _
  | m :: r, pre => by
    unfold onceG
    have := onceG_len (ms := r) (pre := pre ++ [m])
    split
    · rw [List.length_cons]; exact Nat.le_succ_of_le this
    · rw [List.length_cons, List.length_cons]; exact Nat.succ_le_succ this
def MksAt (H : Hp) (vs : List V) (ms : List Mk) : Prop := Paired (MkAt H) vs ms
theorem MksAt.same {H H' : Hp} {vs : List V} {ms : List Mk} (h : MksAt H vs ms) (s : Same H H') : MksAt H' vs ms := Paired.mapP h fun _ _ h => h.same s
theorem mks_dp {K : PySem.W.Frag} {H : Hp} : ∀ {vs : List V} {ms : List Mk}, MksAt H vs ms → DpAll K H vs (ms.map mkD)
  | _, _, .nil => .nil
  | _, _, .cons a b => .cons (mk_dp a) (mks_dp b)
theorem prd_take {α β : Type} {F : α → β → Prop} : ∀ {as : List α} {bs : List β} (n : Nat), Paired F as bs → Paired F (as.take n) (bs.take n)
  | _, _, 0, _ => by rw [List.take_zero, List.take_zero]; exact .nil
  | _, _, n + 1, .nil => .nil
  | _, _, n + 1, .cons a b => .cons a (prd_take n b)
def sp__each_once : Sp := fun vs H Q _ => ∃ (r : Addr) (ws : List V) (ms : List Mk) (F : V → Mk → Prop), vs = [.ref r] ∧ H r = some (.lst ws) ∧ Paired F ws ms ∧ (∀ v m, F v m → MkAt H v m) ∧ ms.length ≤ 1000 ∧ ∀ q us H', Same H H' → H q = none → H' q = some (.lst us) → Paired F us (onceG [] ms) → Q (.ref q) H'
def GrpsAt (H : Hp) (as : List Addr) (Gs : List (List Nat)) : Prop := Paired (fun a (g : List Nat) => H a = some (.lst (g.map nI))) as Gs
theorem GrpsAt.same {H H' : Hp} {as : List Addr} {Gs : List (List Nat)} (h : GrpsAt H as Gs) (s : Same H H') : GrpsAt H' as Gs := Paired.mapP h fun _ _ h => s _ _ h
def natsD (g : List Nat) : PyData := .list (g.map fun x : Nat => .int (x : Int))
def leL (a b : List Nat) : Bool := PySem.W.dataLe false natsD a b
def partsF (Gs : List (List Nat)) (m : Nat → Mk) : List (List Nat) := Gs.flatMap fun g => (onceG [] (g.map m)).map fun k => g.filter fun s => decide (m s = k)
theorem parts_len (m : Nat → Mk) : ∀ Gs : List (List Nat), (partsF Gs m).length ≤ Gs.flatten.length
  | [] => Nat.le_refl _
  | g :: r => by
    have ih := parts_len m r
    unfold partsF at *
    rw [List.flatMap_cons, List.length_append, List.flatten_cons, List.length_append, List.length_map]
    have := onceG_len (ms := g.map m) (pre := [])
    rw [List.length_map] at this
    omega
theorem grps_zip {H : Hp} : ∀ {us : List Addr} {Xs : List (List Nat)}, GrpsAt H us Xs → ∃ ps : List (Addr × List Nat), us = ps.map (·.1) ∧ Xs = ps.map (·.2) ∧ ∀ p ∈ ps, H p.1 = some (.lst (p.2.map nI))
  | _, _, .nil => ⟨[], rfl, rfl, fun _ h => by cases h⟩
  | u :: us, x :: Xs, .cons h t => by
    obtain ⟨ps, h1, h2, h3⟩ := grps_zip t
    refine ⟨(u, x) :: ps, by rw [h1]; rfl, by rw [h2]; rfl, fun p hp => ?_⟩
    rcases List.mem_cons.mp hp with rfl | hp
    · exact h
    · exact h3 p hp
theorem grps_of {H : Hp} : ∀ {ps : List (Addr × List Nat)}, (∀ p ∈ ps, H p.1 = some (.lst (p.2.map nI))) → GrpsAt H (ps.map (·.1)) (ps.map (·.2))
  | [], _ => .nil
  | p :: r, h => .cons (h p List.mem_cons_self) (grps_of fun q hq => h q (List.mem_cons_of_mem _ hq))
theorem grps_upd {H : Hp} {us : List Addr} {Xs : List (List Nat)} {D : Addr} {o : HO} (h : GrpsAt H us Xs) (n : ∀ b ∈ us, b ≠ D) : GrpsAt (upd H D o) us Xs := prd_mapM h fun b hb x e => by
  rw [upd_ne (n b hb)]
  exact e
def sp__parted : Sp := fun vs H Q _ => ∃ (r d : Addr) (as : List Addr) (Gs : List (List Nat)) (f : Nat → V) (S : List Nat) (m : Nat → Mk), vs = [.ref r, .ref d] ∧ H r = some (.lst (as.map V.ref)) ∧ GrpsAt H as Gs ∧ H d = some (.dK (kvG f S)) ∧ (∀ p ∈ S, MkAt H (f p) (m p)) ∧ (∀ g ∈ Gs, ∀ p ∈ g, p ∈ S) ∧ (∀ g ∈ Gs, g ≠ []) ∧ Gs.flatten.length ≤ 6 ∧
  ∀ q us Xs H', Same H H' → H q = none → (∀ b ∈ us, H b = none) → H' q = some (.lst (us.map V.ref)) → GrpsAt H' us Xs → Xs.Perm (partsF Gs m) → Xs.Pairwise (fun a b => leL a b = true) → Q (.ref q) H'
section
variable {P : Program} {w : World} {K : PySem.W.Frag} {mg : Str → Option Value} {base : Heap}
theorem ok__each_once (T : Txt K mg) : FnOk P w K mg base CX0 1 T.f__each_once T.d__each_once ["row"] sp__each_once := by
  refine T.F__each_once.ok sc__each_once (fun vs H Q E h => ?_) (fun cdv A outer s H vs Q E hr h => ?_)
  · obtain ⟨r, ws, ms, F, rfl, _⟩ := h
    rfl
  obtain ⟨r, ws, ms, F, rfl, kr, hm, hF, l1000, q⟩ := h
  refine ⟨_, (pss_one (ps_ret (pe_lc (own := [("place", 1), ("thing", 2)]) (g := gTup K 2 (gCons (gName 1) (gCons (gName 2) gNil))) (te := tVar 2) (tt := tTest (tOp (rNotInD K) (tVar 2) (tSl (rSlL K) (tVar 0) tNoPart (tPart (tVar 1))))) rfl sc__each_once.nd (pi_enum (by rfl) T.z_enumerate (pa_cons (pv 0) pa_nil)) (blkOk_by (own := [("place", 1), ("thing", 2)]) (N := ["row", "place", "thing"]) (sc := (defScope s__each_once)) (by decide +kernel)) (fun _ _ _ _ _ => (pg_tup rfl (pgs_cons (pg_name (i := 1) sc__each_once.nd rfl (Or.inl rfl)) (pgs_cons (pg_name (i := 2) sc__each_once.nd rfl (Or.inl rfl)) pgs_nil)))) (fun _ _ _ _ _ => pts_one (pt_cmpR (op_notInD (roomIn hr)) (pv 2) (pe_slice sl_list (pv 0) po_none (po_some (pv 1))) (by rfl))) (fun _ _ _ _ _ => (pv 2))))), ?_⟩
  refine ⟨_, rfl, r, _, rfl, SqL.of kr, fun D hD => ?_⟩
  have lw := Paired.length hm
  refine lc_walk (len := ws.length) walk_enum (fun i H' => ∃ us ns, H' D = some (.lst us) ∧ Paired F us ns ∧ ns ++ onceG (ms.take i) (ms.drop i) = onceG [] ms ∧ Same H H') ⟨[], [], upd_same, .nil, rfl, same_new hD⟩ (fun i H' _ ⟨_, _, _, _, _, s⟩ => SqL.of (s _ _ kr)) ?_ ?_
  · rintro i x H2 H3 hi ⟨us, ns, e1, e2, e3, e4⟩ ⟨p, u, y, rfl, hp, rfl, hu, hy⟩
    cases hu
    obtain ⟨m, hmi, hat⟩ := prd_at hm hy
    have sp := same_new hp (o := .tup [.int (i : Nat), y])
    have kp := upd_same (H := H2) (a := p) (o := .tup [.int (i : Nat), y])
    have e1' := sp _ _ e1
    have S3 := e4.trans sp
    generalize upd H2 p (.tup [.int (i : Nat), y]) = H4 at *
    refine ⟨p, _, rfl, SqT.of kp, rfl, _, _, rfl, _, _, rfl, rfl, rfl, ?_⟩
    refine ⟨_, rfl, _, rfl, ?_⟩
    dsimp only [tNoPart]
    refine ⟨_, rfl, (i : Int), rfl, r, ws, rfl, SqL.of (S3 _ _ kr), fun l hl => ?_⟩
    rw [cut_hi (Nat.le_of_lt hi)]
    have sl := same_new hl (o := .lst (ws.take i))
    have kl := upd_same (H := H4) (a := l) (o := .lst (ws.take i))
    have S4 := S3.trans sl
    have e1l := sl _ _ e1'
    have mt : MksAt (upd H4 l (.lst (ws.take i))) (ws.take i) (ms.take i) := MksAt.same (prd_take i (Paired.mapP hm hF)) S4
    have anyE : ((ms.take i).map mkD).any (fun z => PyData.eqv z (mkD m)) = decide (m ∈ ms.take i) := by
      have : ∀ l : List Mk, (l.map mkD).any (fun z => PyData.eqv z (mkD m)) = decide (m ∈ l) := fun l => by
        induction l with
        | nil => rfl
        | cons a t ih =>
          rw [List.map_cons, List.any_cons, ih, mk_eqv]
          by_cases e : a = m
          · simp [e]
          · have : ¬ m = a := fun z => e z.symm
            simp [e, this]
      exact this _
    refine ⟨mkD m, (ms.take i).map mkD, mk_dp ((hF _ _ hat).same S4), .lst (SqL.of kl) (mks_dp mt), mk_shaped m, mks_shaped _, ?_⟩
    rw [anyE]
    have hdr : ms.drop i = m :: ms.drop (i + 1) := by
      have hl := (List.getElem?_eq_some_iff.mp hmi)
      rw [List.drop_eq_getElem_cons hl.1, hl.2]
    have e3' := e3
    rw [hdr] at e3
    rw [onceG_cons] at e3
    by_cases hin : m ∈ ms.take i
    · rw [if_pos hin] at e3
      rw [decide_eq_true hin]
      refine ⟨_, rfl, iteF ⟨us, ns, e1l, e2, by rw [take_succ_of hmi]; exact e3, S4⟩⟩
    · rw [if_neg hin] at e3
      rw [decide_eq_false hin]
      have lu := Paired.length e2
      have ln : ns.length ≤ ms.length := by
        have h1 := congrArg List.length e3'
        rw [List.length_append] at h1
        have := onceG_len (ms := ms) (pre := [])
        omega
      refine ⟨_, rfl, iteT ⟨_, rfl, us, e1l, Nat.lt_of_le_of_lt (show _ ≤ 1000000 by omega) (by decide), us ++ [y], ns ++ [m], upd_same, ?_, ?_, same_add S4 hD⟩⟩
      · exact prd_app e2 (.cons hat .nil)
      · rw [take_succ_of hmi, List.append_assoc]
        exact e3
  rintro H2 ⟨us, ns, e1, e2, e3, e4⟩
  rw [lw, List.drop_length] at e3
  simp only [onceG, List.append_nil] at e3
  exact q D us H2 e4 hD e1 (by rw [← e3]; exact e2)
theorem ok__parted (T : Txt K mg) : FnOk P w K mg base CX0 2 T.f__parted T.d__parted ["groups", "marks"] sp__parted := by
  have G__each_once : FnOk P w K mg base CX0 1 T.f__each_once T.d__each_once ["row"] sp__each_once := ok__each_once T
  refine T.F__parted.ok sc__parted (fun vs H Q E h => ?_) (fun cdv A outer s H vs Q E hr h => ?_)
  · obtain ⟨r, d, as, Gs, f, S, m, rfl, _⟩ := h
    rfl
  obtain ⟨r, d, as, Gs, f, S, m, rfl, kr, hG, hd, hm, hin, hne, l6, q⟩ := h
  refine ⟨_, (pss_cons (ps_setLc2 (i := 2) (own := [("group", 3), ("mark", 4)]) (vs1 := [4]) (g := gName 3) (g1 := gName 4) (tt := tYes) (tt1 := tYes) (wi1 := iList K (tCall sp__each_once [] E0 (tCons (tLc (iList K (tVar 3)) (gName 5) tYes (tDGet (tVar 1) (tVar 5)) [5]) tNil))) (te := tLc (iList K (tVar 3)) (gName 5) (tTest (tOp (rEqD K) (tDGet (tVar 1) (tVar 5)) (tVar 4))) (tVar 5) [5]) rfl sc__parted.nd rfl rfl (sw_true rfl rfl rfl (by decide +kernel)) (pi_list (pv 0)) (blkOk_by (own := [("group", 3), ("mark", 4)]) (N := ["groups", "marks", "parts", "group", "mark", "state"]) (sc := (defScope s__parted)) (by decide +kernel)) (by decide) (fun _ _ _ _ _ => (pg_name (i := 3) sc__parted.nd rfl (Or.inl rfl))) (fun _ _ _ _ _ => pts_nil) (fun _ _ _ _ _ => by exact (pi_list (pe_call G__each_once (hr.mono (by omega)) (by rfl) T.m__each_once T.F__each_once.kp T.b__each_once .nil pass0 (pa_cons (pe_lc (own := [("state", 5)]) (g := gName 5) (te := tDGet (tVar 1) (tVar 5)) (tt := tYes) rfl sc__parted.nd (pi_list (pv 3)) (blkOk_by (own := [("state", 5)]) (N := ["groups", "marks", "parts", "group", "mark", "state"]) (sc := relS _ (defScope s__parted)) (by decide +kernel)) (fun _ _ _ _ _ => (pg_name (i := 5) sc__parted.nd rfl (Or.inl rfl))) (fun _ _ _ _ _ => pts_nil) (fun _ _ _ _ _ => (pe_dget (hu_of hr) (pv 1) (pv 5) (fun _ _ => rfl)))) pa_nil)))) (fun _ _ _ _ _ => (pg_name (i := 4) sc__parted.nd rfl (Or.inr rfl))) (fun _ _ _ _ _ => pts_nil) (fun _ _ _ _ _ => by exact (pe_lc (own := [("state", 5)]) (g := gName 5) (te := tVar 5) (tt := tTest (tOp (rEqD K) (tDGet (tVar 1) (tVar 5)) (tVar 4))) rfl sc__parted.nd (pi_list (pv 3)) (blkOk_by (own := [("state", 5)]) (N := ["groups", "marks", "parts", "group", "mark", "state"]) (sc := relS _ (defScope s__parted)) (by decide +kernel)) (fun _ _ _ _ _ => (pg_name (i := 5) sc__parted.nd rfl (Or.inl rfl))) (fun _ _ _ _ _ => pts_one (pt_cmpR (op_eqD hr.units) (pe_dget (hu_of hr) (pv 1) (pv 5) (fun _ _ => rfl)) (pv 4) (nomark _))) (fun _ _ _ _ _ => (pv 5))))) (pss_one (ps_ret (pe_callB (call_sortedData (roomDeep hr)) (by rfl) T.z_sorted (by decide +kernel) (pa_cons (pv 2) pa_nil))))), ?_⟩
  have val : ∀ p ∈ S, valV (kvG f S) (Sum.inl (p : Int)) = some (f p) := fun p hp => by rw [kvG_val, if_pos hp]
  refine ⟨_, rfl, r, rfl, ⟨_, SqL.of kr⟩, fun D hD => ?_⟩
  have lw := Paired.length hG
  refine lc_outer (xs := as.map V.ref) (fun i H' => ∃ us Xs, H' D = some (.lst (us.map V.ref)) ∧ GrpsAt H' us Xs ∧ (∀ b ∈ us, H b = none ∧ b ≠ D) ∧ Xs = partsF (Gs.take i) m ∧ Same H H') ⟨[], [], upd_same, .nil, (fun b h => by cases h), rfl, same_new hD⟩ (fun i H' _ ⟨_, _, _, _, _, _, s⟩ => SqL.of (s _ _ kr)) ?_ ?_
  · rintro i x H2 hx ⟨us, Xs, e1, e2, e3, e4, e5⟩
    rw [List.getElem?_map] at hx
    cases ha : as[i]? with
    | none => rw [ha] at hx; cases hx
    | some a =>
    rw [ha] at hx
    cases hx
    obtain ⟨g, hg, kg⟩ := prd_at hG ha
    have gm := List.mem_of_getElem? hg
    have gS := hin g gm
    have g6 : g.length ≤ 6 := by
      have : g.length ≤ Gs.flatten.length := by
        exact (List.sublist_flatten_of_mem gm).length_le
      omega
    have u6 : us.length ≤ 6 := by
      rw [Paired.length e2, e4]
      refine Nat.le_trans (parts_len m _) (Nat.le_trans ?_ l6)
      have : (Gs.take i ++ Gs.drop i).flatten.length = Gs.flatten.length := by rw [List.take_append_drop]
      rw [List.flatten_append, List.length_append] at this
      omega
    refine ⟨rfl, _, rfl, a, rfl, ⟨_, SqL.of (e5 _ _ kg)⟩, fun D1 hD1 => ?_⟩
    refine lc_list (xs := g.map nI) (fun j H' => ∃ ws, H' D1 = some (.lst ws) ∧ MksAt H ws ((g.take j).map m) ∧ Same H2 H') ⟨[], upd_same, .nil, same_new hD1⟩ (fun j H' _ ⟨_, _, _, s⟩ => SqL.of ((e5.trans s) _ _ kg)) ?_ ?_
    · rintro j x H3 hx ⟨ws, w1, w2, w3⟩
      rw [List.getElem?_map] at hx
      cases hp : g[j]? with
      | none => rw [hp] at hx; cases hx
      | some p =>
      rw [hp] at hx
      cases hx
      have pS := gS p (List.mem_of_getElem? hp)
      have lws := Paired.length w2
      rw [List.length_map, List.length_take] at lws
      refine ⟨rfl, _, rfl, _, rfl, d, f p, rfl, .inl ⟨kvG f S, Sum.inl (p : Int), .inl ((e5.trans w3) _ _ hd), rfl, (val p pS).symm⟩, _, w1, Nat.lt_of_le_of_lt (show _ ≤ 1000000 by omega) (by decide), ws ++ [f p], upd_same, ?_, same_add w3 hD1⟩
      rw [take_succ_of hp, List.map_append]
      exact prd_app w2 (.cons (hm p pS) .nil)
    rintro H3 ⟨ws, w1, w2, w3⟩
    rw [List.length_map, List.take_length] at w2
    have S3 := e5.trans w3
    refine ⟨D1, ws, g.map m, MkAt H, rfl, w1, w2, (fun v k h => h.same S3), by rw [List.length_map]; omega, fun qo uo H4 s4 qo0 kqo hmo => ⟨qo, rfl, ⟨_, SqL.of kqo⟩, ?_⟩⟩
    have S4 := S3.trans s4
    have w4 := w3.trans s4
    have lo := Paired.length hmo
    have lo6 : (onceG [] (g.map m)).length ≤ 6 := by
      have := onceG_len (ms := g.map m) (pre := [])
      rw [List.length_map] at this
      omega
    have kD4 := w4 _ _ e1
    have nqD : qo ≠ D := fun e => by rw [e, w3 _ _ e1] at qo0; cases qo0
    refine lc_outer (xs := uo) (fun j H' => ∃ us2, H' D = some (.lst ((us ++ us2).map V.ref)) ∧ GrpsAt H' us Xs ∧ GrpsAt H' us2 (((onceG [] (g.map m)).take j).map fun k => g.filter fun s => decide (m s = k)) ∧ (∀ b ∈ us2, H b = none ∧ b ≠ D) ∧ Same H H' ∧ H' qo = some (.lst uo)) ⟨[], by rw [List.append_nil]; exact kD4, e2.same w4, .nil, (fun b h => by cases h), S4, kqo⟩ (fun j H' _ ⟨_, _, _, _, _, _, k⟩ => SqL.of k) ?_ ?_
    · rintro j x H5 hx ⟨us2, c1, c2, c3, c4, c5, c6⟩
      obtain ⟨k, hk, hat⟩ := prd_at hmo hx
      refine ⟨rfl, _, rfl, a, rfl, ⟨_, SqL.of (c5 _ _ kg)⟩, fun D2 hD2 => ?_⟩
      refine lc_list (xs := g.map nI) (fun l H' => H' D2 = some (.lst (((g.take l).filter fun s => decide (m s = k)).map nI)) ∧ Same H5 H') ⟨upd_same, same_new hD2⟩ (fun l H' _ ⟨_, s⟩ => SqL.of ((c5.trans s) _ _ kg)) ?_ ?_
      · rintro l x H6 hx ⟨d1, d2⟩
        rw [List.getElem?_map] at hx
        cases hp : g[l]? with
        | none => rw [hp] at hx; cases hx
        | some p =>
        rw [hp] at hx
        cases hx
        have pS := gS p (List.mem_of_getElem? hp)
        have S6 := c5.trans d2
        refine ⟨rfl, _, rfl, _, rfl, d, f p, rfl, .inl ⟨kvG f S, Sum.inl (p : Int), .inl (S6 _ _ hd), rfl, (val p pS).symm⟩, _, rfl, mkD (m p), mkD k, mk_dp ((hm p pS).same S6), mk_dp (MkAt.same hat S6), mk_shaped _, mk_shaped _, ?_⟩
        rw [mk_eqv]
        have ll : (((g.take l).filter fun s => decide (m s = k)).map nI).length ≤ 6 := by
          rw [List.length_map]
          refine Nat.le_trans (List.length_filter_le _ _) ?_
          rw [List.length_take]
          omega
        by_cases e : m p = k
        · rw [decide_eq_true e]
          refine ⟨_, rfl, iteT ⟨_, rfl, _, d1, Nat.lt_of_le_of_lt (show _ ≤ 1000000 by omega) (by decide), ?_, same_add d2 hD2⟩⟩
          rw [upd_same, take_succ_of hp, List.filter_append, List.map_append]
          simp [e]
        · rw [decide_eq_false e]
          refine ⟨_, rfl, iteF ⟨?_, d2⟩⟩
          rw [take_succ_of hp, List.filter_append]
          simp only [List.filter_cons, decide_eq_false e, Bool.false_eq_true, if_false, List.filter_nil, List.append_nil]
          exact d1
      rintro H6 ⟨d1, d2⟩
      rw [List.length_map, List.take_length] at d1
      have nD2 : D2 ≠ D := fun e => by rw [e, c1] at hD2; cases hD2
      have l3 := Paired.length c3
      rw [List.length_map, List.length_take] at l3
      refine ⟨_, d2 _ _ c1, ?_, us2 ++ [D2], ?_, grps_upd (c2.same d2) fun b hb => (e3 b hb).2, ?_, ?_, same_add (c5.trans d2) hD, ?_⟩
      · rw [List.length_map, List.length_append]
        exact Nat.lt_of_le_of_lt (show _ ≤ 1000000 by omega) (by decide)
      · rw [upd_same, ← List.append_assoc, List.map_append (l₂ := [D2])]
        rfl
      · have et : ((onceG [] (g.map m)).take (j + 1)).map (fun k => g.filter fun s => decide (m s = k)) = ((onceG [] (g.map m)).take j).map (fun k => g.filter fun s => decide (m s = k)) ++ [g.filter fun s => decide (m s = k)] := by
          rw [take_succ_of hk, List.map_append]
          rfl
        rw [et]
        exact prd_app (grps_upd (o := .lst ((us ++ us2).map V.ref ++ [V.ref D2])) (c3.same d2) fun b hb => (c4 b hb).2) (.cons (by rw [upd_ne nD2]; exact d1) .nil)
      · intro b hb
        rcases List.mem_append.mp hb with hb | hb
        · exact c4 b hb
        · rw [List.mem_singleton.mp hb]
          exact ⟨c5.free hD2, nD2⟩
      · rw [upd_ne nqD]
        exact d2 _ _ c6
    · rintro H5 ⟨us2, c1, c2, c3, c4, c5, c6⟩
      rw [lo, List.take_length] at c3
      refine ⟨us ++ us2, Xs ++ (onceG [] (g.map m)).map fun k => g.filter fun s => decide (m s = k), c1, prd_app c2 c3, fun b hb => (List.mem_append.mp hb).elim (e3 b) (c4 b), ?_, c5⟩
      rw [take_succ_of hg, e4]
      unfold partsF
      rw [List.flatMap_append]
      simp
  rintro H2 ⟨us, Xs, e1, e2, e3, e4, e5⟩
  rw [List.length_map, lw, List.take_length] at e4
  obtain ⟨ps, rfl, rfl, hps⟩ := grps_zip e2
  have lps : ps.length ≤ 6 := by
    have h1 := congrArg List.length e4
    rw [List.length_map] at h1
    have := parts_len m Gs
    omega
  have ep : (ps.map (·.1)).map V.ref = (ps.map fun p => (V.ref p.1, natsD p.2)).map Prod.fst := by rw [List.map_map, List.map_map]; rfl
  have es : (ps.map fun p => (V.ref p.1, natsD p.2)).map Prod.snd = ps.map fun p => natsD p.2 := by rw [List.map_map]; rfl
  refine ⟨_, rfl, D, ps.map fun p => (V.ref p.1, natsD p.2), rfl, by rw [← ep]; exact e1, ?_, ?_, ?_, ?_, ?_, fun q1 hq1 => ?_⟩
  · intro b hb
    obtain ⟨p, hp, rfl⟩ := List.mem_map.mp hb
    exact .lst (SqL.of (hps p hp)) (dp_nats _)
  · rw [es]
    exact PySem.W.AllAlike.of fun b b' => by simp only [natsD, PySem.W.alike, ints_alike]
  · rw [es]
    refine .inr fun d hd => ?_
    obtain ⟨p, _, rfl⟩ := List.mem_map.mp hd
    exact ⟨(by intro z; cases z), fun xs z => by cases z⟩
  · intro b hb
    obtain ⟨p, hp, rfl⟩ := List.mem_map.mp hb
    have := depth_nats p.2
    simp only [natsD, PyData.depth]
    omega
  · rw [List.length_map]
    exact Nat.le_of_lt (Nat.lt_of_le_of_lt (show _ ≤ 1000000 by omega) (by decide))
  have srt := PySem.W.sort_maps (r := PySem.W.dataLe false fun p : Addr × List Nat => natsD p.2) (s := PySem.W.dataLe false Prod.snd) (fun p : Addr × List Nat => (V.ref p.1, natsD p.2)) (l := ps) fun _ _ _ _ => rfl
  rw [← srt, List.map_map]
  have sr := same_new hq1 (o := .lst ((ps.mergeSort (PySem.W.dataLe false fun p : Addr × List Nat => natsD p.2)).map (Prod.fst ∘ fun p : Addr × List Nat => (V.ref p.1, natsD p.2))))
  have pm := List.mergeSort_perm ps (PySem.W.dataLe false fun p : Addr × List Nat => natsD p.2)
  have tot : PySem.W.TotalLe (PySem.W.dataLe false fun p : Addr × List Nat => natsD p.2) := PySem.W.sortLe_total _ _ _
  have pw := List.pairwise_mergeSort (le := PySem.W.dataLe false fun p : Addr × List Nat => natsD p.2) tot.trans (fun a b => by have := tot.total a b; simpa using this) ps
  refine q q1 ((ps.mergeSort (PySem.W.dataLe false fun p : Addr × List Nat => natsD p.2)).map (·.1)) ((ps.mergeSort (PySem.W.dataLe false fun p : Addr × List Nat => natsD p.2)).map (·.2)) _ (e5.trans sr) (e5.free hq1) (fun b hb => ?_) (by rw [upd_same, List.map_map]; rfl) (grps_of fun p hp => sr _ _ (hps p (pm.mem_iff.mp hp))) ?_ ?_
  · exact (e3 b ((pm.map (·.1)).mem_iff.mp hb)).1
  · rw [← e4]
    exact pm.map (·.2)
  · rw [List.pairwise_map]
    exact pw.imp fun h => h
end

theorem grp_head {R : Nat → Nat → Bool} (E : Eqv R) {S : List Nat} (hS : S.Pairwise (· < ·)) {a : Nat} (ha : a ∈ S) (f : fstR R S a = true) : ∃ t, S.filter (R a) = a :: t := by
  have hm : a ∈ S.filter (R a) := List.mem_filter.mpr ⟨ha, E.refl a⟩
  have hp : (S.filter (R a)).Pairwise (· < ·) := hS.sublist List.filter_sublist
  cases e : S.filter (R a) with
  | nil => rw [e] at hm; cases hm
  | cons b t =>
    rw [e] at hm hp
    refine ⟨t, ?_⟩
    rcases List.mem_cons.mp hm with h | h
    · rw [h]
    · have lt := (List.pairwise_cons.mp hp).1 a h
      have hb : b ∈ S.filter (R a) := by rw [e]; exact List.mem_cons_self
      obtain ⟨hbS, hR⟩ := List.mem_filter.mp hb
      have := fst_iff.mp f b hbS lt
      rw [E.symm, hR] at this
      cases this
theorem lt_heads {a b : Nat} {s t : List Nat} (h : a < b) : leL (a :: s) (b :: t) = true ∧ leL (b :: t) (a :: s) = false := by
  have key : ∀ (x y : Nat) (u v : List Nat), x ≠ y → PySem.W.dataLt (natsD (x :: u)) (natsD (y :: v)) = decide ((x : Int) < (y : Int)) := fun x y u v ne => by
    unfold natsD
    rw [PySem.W.dataLt_list]
    simp only [List.map_cons, PySem.W.keyToksAll, PySem.W.keyToks]
    have hne : (Sum.inl (x : Int) : Int ⊕ List Nat) ≠ Sum.inl (y : Int) := fun h => ne (by have := Sum.inl.inj h; omega)
    show PyProof.Rows.lexLt PyProof.Rows.itemOrd ([Sum.inl 1] ++ (Sum.inl (x : Int) :: _)) ([Sum.inl 1] ++ (Sum.inl (y : Int) :: _)) = _
    rw [PySem.W.lex_pre, lex_diff (O := PyProof.Rows.itemOrd) hne]
    rfl
  have e1 : leL (a :: s) (b :: t) = !PySem.W.dataLt (natsD (b :: t)) (natsD (a :: s)) := rfl
  have e2 : leL (b :: t) (a :: s) = !PySem.W.dataLt (natsD (a :: s)) (natsD (b :: t)) := rfl
  rw [e1, e2, key b a t s (by omega), key a b s t (by omega)]
  constructor
  · rw [decide_eq_false (by omega)]; rfl
  · rw [decide_eq_true (by omega)]; rfl
def finer (R : Nat → Nat → Bool) (m : Nat → Mk) (p q : Nat) : Bool := R p q && decide (m p = m q)
theorem finer_eqv {R : Nat → Nat → Bool} (E : Eqv R) (m : Nat → Mk) : Eqv (finer R m) := by
  refine ⟨fun p => ?_, fun p q => ?_, fun p q r h1 h2 => ?_⟩
  · simp [finer, E.refl]
  · unfold finer
    rw [E.symm p q]
    congr 1
    by_cases e : m p = m q
    · rw [decide_eq_true e, decide_eq_true e.symm]
    · rw [decide_eq_false e, decide_eq_false fun z => e z.symm]
  · simp only [finer, Bool.and_eq_true, decide_eq_true_eq] at *
    exact ⟨E.trans _ _ _ h1.1 h2.1, h1.2.trans h2.2⟩
theorem parts_mem {R : Nat → Nat → Bool} (E : Eqv R) {S : List Nat} {m : Nat → Mk} {x : List Nat} : x ∈ partsF (grp R S) m ↔ x ∈ grp (finer R m) S := by
  have E' := finer_eqv E m
  unfold partsF grp
  simp only [List.mem_flatMap, List.mem_map, List.mem_filter, onceG_mem]
  constructor
  · rintro ⟨_, ⟨a, ⟨ha, fa⟩, rfl⟩, k, ⟨⟨s, hs, rfl⟩, _⟩, rfl⟩
    obtain ⟨hsS, hRs⟩ := List.mem_filter.mp hs
    obtain ⟨b, hb, fb, rb, _⟩ := fst_of E' hsS
    refine ⟨b, ⟨hb, fb⟩, ?_⟩
    rw [List.filter_filter]
    refine List.filter_congr fun y hy => ?_
    simp only [finer, Bool.and_eq_true, decide_eq_true_eq] at rb ⊢
    rw [Bool.eq_iff_iff]
    simp only [Bool.and_eq_true, decide_eq_true_eq]
    constructor
    · rintro ⟨h1, h2⟩
      exact ⟨h2.symm.trans rb.2, E.trans _ _ _ hRs (E.trans _ _ _ (by rw [E.symm]; exact rb.1) h1)⟩
    · rintro ⟨h1, h2⟩
      exact ⟨E.trans _ _ _ rb.1 (E.trans _ _ _ (by rw [E.symm]; exact hRs) h2), rb.2.trans h1.symm⟩
  · rintro ⟨b, ⟨hb, fb⟩, rfl⟩
    obtain ⟨a, ha, fa, ra, _⟩ := fst_of E hb
    refine ⟨_, ⟨a, ⟨ha, fa⟩, rfl⟩, m b, ⟨⟨b, List.mem_filter.mpr ⟨hb, ra⟩, rfl⟩, by simp⟩, ?_⟩
    rw [List.filter_filter]
    refine List.filter_congr fun y hy => ?_
    simp only [finer]
    rw [Bool.eq_iff_iff]
    simp only [Bool.and_eq_true, decide_eq_true_eq]
    exact ⟨fun ⟨h1, h2⟩ => ⟨E.trans _ _ _ (by rw [E.symm]; exact ra) h2, h1.symm⟩, fun ⟨h1, h2⟩ => ⟨h2.symm, E.trans _ _ _ ra h1⟩⟩
theorem grp_pw {R : Nat → Nat → Bool} (E : Eqv R) {S : List Nat} (hS : S.Pairwise (· < ·)) : (grp R S).Pairwise fun x y => leL x y = true ∧ leL y x = false := by
  unfold grp
  rw [List.pairwise_map]
  refine (hS.sublist (List.filter_sublist (p := fstR R S))).imp_of_mem fun {a b} ha hb lt => ?_
  obtain ⟨ha, fa⟩ := List.mem_filter.mp ha
  obtain ⟨hb, fb⟩ := List.mem_filter.mp hb
  obtain ⟨s, e1⟩ := grp_head E hS ha fa
  obtain ⟨t, e2⟩ := grp_head E hS hb fb
  rw [e1, e2]
  exact lt_heads lt
theorem grp_nd {R : Nat → Nat → Bool} (E : Eqv R) {S : List Nat} (hS : S.Pairwise (· < ·)) : (grp R S).Nodup := by
  refine (grp_pw E hS).imp fun {x y} h e => ?_
  rw [e] at h
  rw [h.1] at h
  cases h.2
theorem parts_nd {R : Nat → Nat → Bool} (E : Eqv R) {S : List Nat} (hS : S.Pairwise (· < ·)) (m : Nat → Mk) : (partsF (grp R S) m).Nodup := by
  unfold partsF List.Nodup
  rw [List.pairwise_flatMap]
  refine ⟨fun g hg => ?_, ?_⟩
  · rw [List.pairwise_map]
    refine (onceG_nd (ms := g.map m) (pre := [])).imp_of_mem fun {k l} hk hl ne e => ne ?_
    obtain ⟨h1, _⟩ := onceG_mem.mp hk
    obtain ⟨s, hs, rfl⟩ := List.mem_map.mp h1
    have : s ∈ g.filter fun s' => decide (m s' = m s) := List.mem_filter.mpr ⟨hs, by simp⟩
    rw [e] at this
    have := (List.mem_filter.mp this).2
    simpa using this
  · unfold grp
    rw [List.pairwise_map]
    refine (hS.sublist (List.filter_sublist (p := fstR R S))).imp_of_mem fun {a b} ha hb lt => ?_
    obtain ⟨ha, fa⟩ := List.mem_filter.mp ha
    obtain ⟨hb, fb⟩ := List.mem_filter.mp hb
    intro x hx y hy e
    obtain ⟨k, hk, rfl⟩ := List.mem_map.mp hx
    obtain ⟨l, hl, rfl⟩ := List.mem_map.mp hy
    obtain ⟨h1, _⟩ := onceG_mem.mp hk
    obtain ⟨s, hs, rfl⟩ := List.mem_map.mp h1
    have h2 : s ∈ (S.filter (R a)).filter fun s' => decide (m s' = m s) := List.mem_filter.mpr ⟨hs, by simp⟩
    rw [e] at h2
    have h3 := (List.mem_filter.mp (List.mem_filter.mp h2).1).2
    have h4 := (List.mem_filter.mp hs).2
    have := fst_one E ha hb fa fb (E.trans _ _ _ h4 (by rw [E.symm]; exact h3))
    omega
theorem parts_grp {R : Nat → Nat → Bool} (E : Eqv R) {S : List Nat} (hS : S.Pairwise (· < ·)) {m : Nat → Mk} {Xs : List (List Nat)} (hp : Xs.Perm (partsF (grp R S) m)) (hs : Xs.Pairwise fun a b => leL a b = true) : Xs = grp (finer R m) S := by
  have E' := finer_eqv E m
  have p2 : (partsF (grp R S) m).Perm (grp (finer R m) S) := perm_nodup (parts_nd E hS m) (grp_nd E' hS) fun x => parts_mem E
  refine List.Perm.eq_of_pairwise (le := fun a b => leL a b = true) (fun a b ha hb h1 h2 => ?_) hs ((grp_pw E' hS).imp fun h => h.1) (hp.trans p2)
  have ha' := (hp.trans p2).mem_iff.mp ha
  have pw := grp_pw E' hS
  obtain ⟨i, hi⟩ := List.mem_iff_getElem?.mp ha'
  obtain ⟨j, hj⟩ := List.mem_iff_getElem?.mp hb
  obtain ⟨li, ei⟩ := List.getElem?_eq_some_iff.mp hi
  obtain ⟨lj, ej⟩ := List.getElem?_eq_some_iff.mp hj
  rcases Nat.lt_trichotomy i j with lt | e | lt
  · have := (List.pairwise_iff_getElem.mp pw i j li lj lt).2
    rw [ei, ej, h2] at this
    cases this
  · subst e
    rw [← ei, ej]
  · have := (List.pairwise_iff_getElem.mp pw j i lj li lt).2
    rw [ei, ej, h1] at this
    cases this


def idxG (Gs : List (List Nat)) (p : Nat) : Nat := Gs.findIdx fun g => decide (p ∈ g)
theorem idxG_of : ∀ {Gs : List (List Nat)} {i p : Nat} {g : List Nat}, Gs.flatten.Nodup → Gs[i]? = some g → p ∈ g → idxG Gs p = i
  | [], i, p, g, _, h, _ => by cases i <;> cases h
  | g' :: r, 0, p, g, _, h, hp => by
    cases h
    unfold idxG
    rw [List.findIdx_cons]
    simp [hp]
  | g' :: r, i + 1, p, g, nd, h, hp => by
    have h2 : r[i]? = some g := by simpa using h
    rw [List.flatten_cons] at nd
    obtain ⟨n1, n2, n3⟩ := List.nodup_append.mp nd
    have ih := idxG_of n2 h2 hp
    have : p ∉ g' := fun z => n3 p z p (List.mem_flatten.mpr ⟨g, List.mem_of_getElem? h2, hp⟩) rfl
    unfold idxG at *
    rw [List.findIdx_cons]
    simp [this, ih]
theorem grp_flat_nd {R : Nat → Nat → Bool} (E : Eqv R) {S : List Nat} (hS : S.Pairwise (· < ·)) : (grp R S).flatten.Nodup := by
  have nd : S.Nodup := hS.imp fun h => Nat.ne_of_lt h
  unfold List.Nodup
  rw [List.pairwise_flatten]
  refine ⟨fun g hg => ?_, ?_⟩
  · obtain ⟨a, _, rfl⟩ := List.mem_map.mp hg
    exact nd.sublist List.filter_sublist
  · unfold grp
    rw [List.pairwise_map]
    refine (hS.sublist (List.filter_sublist (p := fstR R S))).imp_of_mem fun {a b} ha hb lt => ?_
    obtain ⟨ha, fa⟩ := List.mem_filter.mp ha
    obtain ⟨hb, fb⟩ := List.mem_filter.mp hb
    intro x hx y hy e
    subst e
    have h1 := (List.mem_filter.mp hx).2
    have h2 := (List.mem_filter.mp hy).2
    have := fst_one E ha hb fa fb (E.trans _ _ _ h1 (by rw [E.symm]; exact h2))
    omega
theorem grp_flat_mem {R : Nat → Nat → Bool} (E : Eqv R) {S : List Nat} {p : Nat} : p ∈ (grp R S).flatten ↔ p ∈ S := by
  rw [List.mem_flatten]
  constructor
  · rintro ⟨g, hg, hp⟩
    obtain ⟨a, _, rfl⟩ := List.mem_map.mp hg
    exact (List.mem_filter.mp hp).1
  · intro hp
    obtain ⟨a, ha, fa, ra, _⟩ := fst_of E hp
    exact ⟨_, List.mem_map.mpr ⟨a, List.mem_filter.mpr ⟨ha, fa⟩, rfl⟩, List.mem_filter.mpr ⟨hp, ra⟩⟩
theorem grp_flat_len {R : Nat → Nat → Bool} (E : Eqv R) {S : List Nat} (hS : S.Pairwise (· < ·)) : (grp R S).flatten.length = S.length :=
  (perm_nodup (grp_flat_nd E hS) (hS.imp fun h => Nat.ne_of_lt h) fun p => grp_flat_mem E).length_eq
theorem grp_ne {R : Nat → Nat → Bool} (E : Eqv R) {S : List Nat} (hS : S.Pairwise (· < ·)) : ∀ g ∈ grp R S, g ≠ [] := fun g hg => by
  obtain ⟨a, ha, rfl⟩ := List.mem_map.mp hg
  obtain ⟨ha, fa⟩ := List.mem_filter.mp ha
  obtain ⟨t, e⟩ := grp_head E hS ha fa
  rw [e]
  exact List.cons_ne_nil _ _
theorem idx_grp {R : Nat → Nat → Bool} (E : Eqv R) {S : List Nat} (hS : S.Pairwise (· < ·)) {p q : Nat} (hp : p ∈ S) (hq : q ∈ S) : idxG (grp R S) p = idxG (grp R S) q ↔ R p q = true := by
  have at_ : ∀ {x : Nat}, x ∈ S → ∃ (i : Nat) (a : Nat), (grp R S)[i]? = some (S.filter (R a)) ∧ R a x = true ∧ idxG (grp R S) x = i := fun {x} hx => by
    obtain ⟨a, ha, fa, ra, _⟩ := fst_of E hx
    obtain ⟨i, hi⟩ := List.mem_iff_getElem?.mp (show S.filter (R a) ∈ grp R S from List.mem_map.mpr ⟨a, List.mem_filter.mpr ⟨ha, fa⟩, rfl⟩)
    exact ⟨i, a, hi, ra, idxG_of (grp_flat_nd E hS) hi (List.mem_filter.mpr ⟨hx, ra⟩)⟩
  obtain ⟨i, a, h1, h2, h3⟩ := at_ hp
  constructor
  · intro e
    obtain ⟨j, b, g1, g2, g3⟩ := at_ hq
    have ij : i = j := by rw [← h3, ← g3, e]
    subst ij
    rw [h1] at g1
    have hm : q ∈ S.filter (R a) := by rw [Option.some.inj g1]; exact List.mem_filter.mpr ⟨hq, g2⟩
    exact E.trans _ _ _ (by rw [E.symm]; exact h2) (List.mem_filter.mp hm).2
  · intro r
    rw [h3]
    exact (idxG_of (grp_flat_nd E hS) h1 (List.mem_filter.mpr ⟨hq, E.trans _ _ _ h2 r⟩)).symm
def sp__group_at : Sp := fun vs H Q _ => ∃ (r : Addr) (as : List Addr) (Gs : List (List Nat)), vs = [.ref r] ∧ H r = some (.lst (as.map V.ref)) ∧ GrpsAt H as Gs ∧ Gs.flatten.Nodup ∧ Gs.flatten.length ≤ 6 ∧ ∀ d H', Same H H' → H d = none → H' d = some (.dK (kvG (fun p => nI (idxG Gs p)) Gs.flatten)) → Q (.ref d) H'
def sp__parted_behind : Sp := fun vs H Q _ => ∃ (r d : Addr) (as : List Addr) (Gs : List (List Nat)) (f : Nat → V) (S : List Nat) (B : Nat → List Nat), vs = [.ref r, .ref d] ∧ H r = some (.lst (as.map V.ref)) ∧ GrpsAt H as Gs ∧ Gs.flatten.Nodup ∧ (∀ p, p ∈ Gs.flatten ↔ p ∈ S) ∧ (∀ g ∈ Gs, g ≠ []) ∧ Gs.flatten.length ≤ 6 ∧ S.Nodup ∧ S.length ≤ 6 ∧
  H d = some (.dK (kvG f S)) ∧ (∀ p ∈ S, ∃ b, f p = .ref b ∧ H b = some (.lst ((B p).map nI))) ∧ (∀ p ∈ S, (B p).length ≤ 600 ∧ ∀ x ∈ B p, x ∈ S) ∧
  ∀ q us Xs H', Same H H' → H q = none → (∀ b ∈ us, H b = none) → H' q = some (.lst (us.map V.ref)) → GrpsAt H' us Xs → Xs.Perm (partsF Gs fun p => .row ((B p).map (idxG Gs))) → Xs.Pairwise (fun a b => leL a b = true) → Q (.ref q) H'
section
variable {P : Program} {w : World} {K : PySem.W.Frag} {mg : Str → Option Value} {base : Heap}
theorem ok__group_at (T : Txt K mg) : FnOk P w K mg base CX0 1 T.f__group_at T.d__group_at ["groups"] sp__group_at := by
  refine T.F__group_at.ok sc__group_at (fun vs H Q E h => ?_) (fun cdv A outer s H vs Q E hr h => ?_)
  · obtain ⟨r, as, Gs, rfl, _⟩ := h
    rfl
  obtain ⟨r, as, Gs, rfl, kr, hG, nd, l6, q⟩ := h
  refine ⟨_, (pss_one (ps_ret (pe_dc2 (own := [("place", 1), ("group", 2), ("state", 3)]) (vs1 := [3]) (tt := tYes) (g := (gTup K 2 (gCons (gName 1) (gCons (gName 2) gNil)))) (wi1 := iList K (tVar 2)) (tk := tVar 3) (tv := tVar 1) (g1 := (gName 3)) (tt1 := tYes) rfl sc__group_at.nd (pi_enum (by rfl) T.z_enumerate (pa_cons (pv 0) pa_nil)) (blkOk_by (own := [("place", 1), ("group", 2), ("state", 3)]) (N := ["groups", "place", "group", "state"]) (sc := (defScope s__group_at)) (by decide +kernel)) (by decide) (fun _ _ _ _ _ => (pg_tup rfl (pgs_cons (pg_name (i := 1) sc__group_at.nd rfl (Or.inl rfl)) (pgs_cons (pg_name (i := 2) sc__group_at.nd rfl (Or.inl rfl)) pgs_nil)))) (fun _ _ _ _ _ => pts_nil) (fun _ _ _ _ _ => (pi_list (pv 2))) (fun _ _ _ _ _ => (pg_name (i := 3) sc__group_at.nd rfl (Or.inl rfl))) (fun _ _ _ _ _ => pts_nil) (fun _ _ _ _ _ => (pv 3)) (fun _ _ _ _ _ => (pv 1))))), ?_⟩
  refine ⟨_, rfl, r, _, rfl, SqL.of kr, fun D hD => ?_⟩
  have lw := Paired.length hG
  refine lc_walk (len := (as.map V.ref).length) walk_enum (fun i H' => H' D = some (.dK (kvG (fun p => nI (idxG Gs p)) ((Gs.take i).flatten))) ∧ Same H H') ⟨upd_same, same_new hD⟩ (fun i H' _ ⟨_, s⟩ => SqL.of (s _ _ kr)) ?_ ?_
  · rintro i x H2 H3 hi ⟨e1, e2⟩ ⟨p, u, y, rfl, hp, rfl, hu, hy⟩
    cases hu
    dsimp only at hy
    rw [List.getElem?_map] at hy
    cases ha : as[i]? with
    | none => rw [ha] at hy; cases hy
    | some a =>
    rw [ha] at hy
    cases hy
    obtain ⟨g, hg, kg⟩ := prd_at hG ha
    have sp := same_new hp (o := .tup [.int (i : Nat), V.ref a])
    have kp := upd_same (H := H2) (a := p) (o := .tup [.int (i : Nat), V.ref a])
    have e1' := sp _ _ e1
    have S3 := e2.trans sp
    generalize upd H2 p (.tup [.int (i : Nat), V.ref a]) = H4 at *
    refine ⟨p, _, rfl, SqT.of kp, rfl, _, _, rfl, _, _, rfl, rfl, rfl, ?_⟩
    refine ⟨_, rfl, a, rfl, ⟨_, SqL.of (S3 _ _ kg)⟩, ?_⟩
    refine lc_outer (xs := g.map nI) (fun j H' => H' D = some (.dK (kvG (fun p => nI (idxG Gs p)) ((Gs.take i).flatten ++ g.take j))) ∧ Same H H') ⟨by rw [List.take_zero, List.append_nil]; exact e1', S3⟩ (fun j H' _ ⟨_, s⟩ => SqL.of (s _ _ kg)) ?_ ?_
    · rintro j x H5 hx ⟨c1, c2⟩
      rw [List.getElem?_map] at hx
      cases hz : g[j]? with
      | none => rw [hz] at hx; cases hx
      | some z =>
      rw [hz] at hx
      cases hx
      have zm := List.mem_of_getElem? hz
      have eg : Gs.take (i + 1) = Gs.take i ++ [g] := take_succ_of hg
      have sub : ((Gs.take i).flatten ++ g).Sublist Gs.flatten := by
        have e2 : (Gs.take i).flatten ++ g = (Gs.take (i + 1)).flatten := by rw [eg, List.flatten_append]; simp
        rw [e2]
        have e3 : (Gs.take (i + 1)).flatten ++ (Gs.drop (i + 1)).flatten = Gs.flatten := by rw [← List.flatten_append, List.take_append_drop]
        rw [← e3]
        exact List.sublist_append_left _ _
      have nd2 := nd.sublist sub
      have new : z ∉ (Gs.take i).flatten ++ g.take j := fun h => by
        rcases List.mem_append.mp h with h | h
        · exact (List.nodup_append.mp nd2).2.2 z h z zm rfl
        · have n3 := (List.nodup_append.mp nd2).2.1
          obtain ⟨l, hl⟩ := List.mem_iff_getElem?.mp h
          have hlt := (List.getElem?_eq_some_iff.mp hl).1
          rw [List.length_take] at hlt
          rw [List.getElem?_take_of_lt (by omega)] at hl
          obtain ⟨b1, b2⟩ := List.getElem?_eq_some_iff.mp hl
          obtain ⟨d1, d2⟩ := List.getElem?_eq_some_iff.mp hz
          exact List.pairwise_iff_getElem.mp n3 l j b1 d1 (by omega) (b2.trans d2.symm)
      have lf : ((Gs.take i).flatten ++ g.take j).length ≤ 6 := by
        have h1 := sub.length_le
        rw [List.length_append] at h1 ⊢
        rw [List.length_take]
        omega
      refine ⟨rfl, _, rfl, _, rfl, kvG (fun p => nI (idxG Gs p)) ((Gs.take i).flatten ++ g.take j), Sum.inl (z : Int), rfl, c1, ?_, ?_, same_add c2 hD⟩
      · unfold kvG
        rw [List.length_map]
        exact Nat.lt_of_le_of_lt (show _ ≤ 1000000 by omega) (by decide)
      · rw [upd_same, kvG_put _ new, take_succ_of hz, ← List.append_assoc]
        congr 2
        refine kvG_congr fun q _ => ?_
        by_cases e : q = z
        · rw [if_pos e, e, idxG_of nd hg zm]
        · rw [if_neg e]
    · rintro H5 ⟨c1, c2⟩
      rw [List.length_map, List.take_length] at c1
      refine ⟨?_, c2⟩
      rw [take_succ_of hg, List.flatten_append]
      simpa using c1
  · rintro H2 ⟨e1, e2⟩
    rw [List.length_map, lw, List.take_length] at e1
    exact q D H2 e2 hD e1
theorem ok__parted_behind (T : Txt K mg) : FnOk P w K mg base CX0 3 T.f__parted_behind T.d__parted_behind ["groups", "behind"] sp__parted_behind := by
  have G__group_at : FnOk P w K mg base CX0 1 T.f__group_at T.d__group_at ["groups"] sp__group_at := ok__group_at T
  have G__parted : FnOk P w K mg base CX0 2 T.f__parted T.d__parted ["groups", "marks"] sp__parted := ok__parted T
  refine T.F__parted_behind.ok sc__parted_behind (fun vs H Q E h => ?_) (fun cdv A outer s H vs Q E hr h => ?_)
  · obtain ⟨r, d, as, Gs, f, S, B, rfl, _⟩ := h
    rfl
  obtain ⟨r, d, as, Gs, f, S, B, rfl, kr, hG, nd, hmem, hne, l6, ndS, lS, hd, hf, hB, q⟩ := h
  refine ⟨_, (pss_cons (ps_set (i := 2) sc__parted_behind.nd rfl (Or.inr rfl) (pe_call G__group_at (hr.mono (by omega)) (by rfl) T.m__group_at T.F__group_at.kp T.b__group_at .nil pass0 (pa_cons (pv 0) pa_nil))) (pss_one (ps_ret (pe_call G__parted (hr.mono (by omega)) (by rfl) T.m__parted T.F__parted.kp T.b__parted .nil pass0 (pa_cons (pv 0) (pa_cons (pe_lock (pe_dc (own := [("state", 3), ("row", 4)]) (tt := tYes) (g := (gTup K 2 (gCons (gName 3) (gCons (gName 4) gNil)))) (tk := tVar 3) (tv := tLc (iList K (tVar 4)) (gName 5) tYes (tDGet (tVar 2) (tVar 5)) [5]) rfl sc__parted_behind.nd (pi_items (pv 1)) (blkOk_by (own := [("state", 3), ("row", 4)]) (N := ["groups", "behind", "group_at", "state", "row", "one"]) (sc := (defScope s__parted_behind)) (by decide +kernel)) (fun _ _ _ _ _ => (pg_tup rfl (pgs_cons (pg_name (i := 3) sc__parted_behind.nd rfl (Or.inl rfl)) (pgs_cons (pg_name (i := 4) sc__parted_behind.nd rfl (Or.inl rfl)) pgs_nil)))) (fun _ _ _ _ _ => pts_nil) (fun _ _ _ _ _ => (pv 3)) (fun _ _ _ _ _ => by exact (pe_lc (own := [("one", 5)]) (g := gName 5) (te := tDGet (tVar 2) (tVar 5)) (tt := tYes) rfl sc__parted_behind.nd (pi_list (pv 4)) (blkOk_by (own := [("one", 5)]) (N := ["groups", "behind", "group_at", "state", "row", "one"]) (sc := relS _ (defScope s__parted_behind)) (by decide +kernel)) (fun _ _ _ _ _ => (pg_name (i := 5) sc__parted_behind.nd rfl (Or.inl rfl))) (fun _ _ _ _ _ => pts_nil) (fun _ _ _ _ _ => (pe_dget (hu_of hr) (pv 2) (pv 5) (fun _ _ => rfl))))))) pa_nil)))))), ?_⟩
  refine ⟨_, rfl, r, as, Gs, rfl, kr, hG, nd, l6, fun dg H1 s1 dg0 kdg => ?_⟩
  have hd1 := s1 _ _ hd
  have ndg : dg ≠ d := fun e => by rw [e, hd] at dg0; cases dg0
  refine ⟨_, rfl, d, _, hd1, trivial, fun od => ?_⟩
  refine ⟨_, rfl, d, od, kvG f S, rfl, upd_same, fun D hD => ?_⟩
  have nDd : D ≠ d := fun e => by rw [e, upd_same] at hD; cases hD
  have hD0 : H1 D = none := by rw [upd_ne nDd] at hD; exact hD
  have lk : (kvG f S).length = S.length := by unfold kvG; rw [List.length_map]
  refine lc_walk (len := (kvG f S).length) walk_items (fun i H' => ∃ f2 : Nat → V, H' D = some (.dK (kvG f2 (S.take i))) ∧ (∀ p ∈ S.take i, ∃ b, f2 p = .ref b ∧ b ≠ D ∧ H' b = some (.lst (((B p).map (idxG Gs)).map nI))) ∧ H' d = some (.frz od (.dK (kvG f S))) ∧ FrD d H1 H') ⟨fun _ => .non, upd_same, (fun p hp => by rw [List.take_zero] at hp; cases hp), by rw [upd_ne nDd.symm, upd_same], fun b o ne e => by rw [upd_ne (fun z => by rw [z, hD0] at e; cases e), upd_ne ne]; exact e⟩ (fun i H' _ ⟨_, _, _, h, _⟩ => h) ?_ ?_
  · rintro i x H2 H3 hi ⟨f2, e1, e2, e3, e4⟩ ⟨p, u, y, rfl, hp, rfl, hu, hy⟩
    rw [lk] at hi
    obtain ⟨z, hz⟩ : ∃ z, S[i]? = some z := ⟨_, List.getElem?_eq_getElem hi⟩
    have zm := List.mem_of_getElem? hz
    dsimp only at hu hy
    have hk : (kvG f S)[i]? = some (Sum.inl (z : Int), f z) := by unfold kvG; rw [List.getElem?_map, hz]; rfl
    rw [hk] at hu hy
    cases hu
    cases hy
    obtain ⟨b, hb, kb⟩ := hf z zm
    obtain ⟨lB, cB⟩ := hB z zm
    have sp := same_new hp (o := .tup [kV (Sum.inl (z : Int)), f z])
    have kp := upd_same (H := H2) (a := p) (o := .tup [kV (Sum.inl (z : Int)), f z])
    have e1' := sp _ _ e1
    have e3' := sp _ _ e3
    have e4' : FrD d H1 (upd H2 p (.tup [kV (Sum.inl (z : Int)), f z])) := fun b o n e => sp _ _ (e4 b o n e)
    have e2' : ∀ q ∈ S.take i, ∃ b, f2 q = .ref b ∧ b ≠ D ∧ (upd H2 p (.tup [kV (Sum.inl (z : Int)), f z])) b = some (.lst (((B q).map (idxG Gs)).map nI)) := fun q hq => let ⟨b, h1, h2, h3⟩ := e2 q hq; ⟨b, h1, h2, sp _ _ h3⟩
    generalize upd H2 p (.tup [kV (Sum.inl (z : Int)), f z]) = H4 at *
    have nbd : b ≠ d := fun e => by rw [e, hd] at kb; cases kb
    have kb4 := e4' _ _ nbd (s1 _ _ kb)
    have kg4 := e4' _ _ ndg kdg
    refine ⟨p, _, rfl, SqT.of kp, rfl, _, _, rfl, _, _, rfl, rfl, rfl, ?_⟩
    refine ⟨_, rfl, _, rfl, b, hb, ⟨_, SqL.of kb4⟩, fun D2 hD2 => ?_⟩
    have nDD : D2 ≠ D := fun e => by rw [e, e1'] at hD2; cases hD2
    refine lc_list (xs := (B z).map nI) (fun l H' => H' D2 = some (.lst ((((B z).take l).map (idxG Gs)).map nI)) ∧ Same H4 H') ⟨upd_same, same_new hD2⟩ (fun l H' _ ⟨_, s⟩ => SqL.of (s _ _ kb4)) ?_ ?_
    · rintro l x H5 hx ⟨c1, c2⟩
      rw [List.getElem?_map] at hx
      cases hw : (B z)[l]? with
      | none => rw [hw] at hx; cases hx
      | some t =>
      rw [hw] at hx
      cases hx
      have tS := cB t (List.mem_of_getElem? hw)
      refine ⟨rfl, _, rfl, _, rfl, dg, nI (idxG Gs t), rfl, .inl ⟨_, Sum.inl (t : Int), .inl (c2 _ _ kg4), rfl, by rw [kvG_val, if_pos ((hmem t).mpr tS)]⟩, _, c1, ?_, ?_, same_add c2 hD2⟩
      · rw [List.length_map, List.length_map, List.length_take]
        exact Nat.lt_of_le_of_lt (show _ ≤ 1000000 by omega) (by decide)
      · rw [upd_same, take_succ_of hw, List.map_append, List.map_append]
        rfl
    rintro H5 ⟨c1, c2⟩
    rw [List.length_map, List.take_length] at c1
    have new : z ∉ S.take i := fun h => by
      obtain ⟨l, hl⟩ := List.mem_iff_getElem?.mp h
      have hlt := (List.getElem?_eq_some_iff.mp hl).1
      rw [List.length_take] at hlt
      rw [List.getElem?_take_of_lt (by omega)] at hl
      obtain ⟨b1, b2⟩ := List.getElem?_eq_some_iff.mp hl
      obtain ⟨d1, d2⟩ := List.getElem?_eq_some_iff.mp hz
      exact List.pairwise_iff_getElem.mp ndS l i b1 d1 (by omega) (b2.trans d2.symm)
    refine ⟨kvG f2 (S.take i), Sum.inl (z : Int), rfl, c2 _ _ e1', ?_, fun q => if q = z then .ref D2 else f2 q, ?_, ?_, ?_, ?_⟩
    · unfold kvG
      rw [List.length_map, List.length_take]
      exact Nat.lt_of_le_of_lt (show _ ≤ 1000000 by omega) (by decide)
    · rw [upd_same, take_succ_of hz, kvG_put _ new]
    · intro q hq
      rw [take_succ_of hz] at hq
      by_cases e : q = z
      · subst e
        exact ⟨D2, if_pos rfl, nDD, by rw [upd_ne nDD]; exact c1⟩
      · rw [List.mem_append, List.mem_singleton] at hq
        obtain ⟨b2, h1, h2, h3⟩ := e2' q (hq.resolve_right e)
        exact ⟨b2, by dsimp only; rw [if_neg e]; exact h1, h2, by rw [upd_ne h2]; exact c2 _ _ h3⟩
    · rw [upd_ne nDd.symm]
      exact c2 _ _ e3'
    · intro b2 o n e
      rw [upd_ne fun z => by rw [z, hD0] at e; cases e]
      exact c2 _ _ (e4' b2 o n e)
  rintro H2 ⟨f2, e1, e2, e3, e4⟩
  refine ⟨e3, ?_⟩
  rw [lk, List.take_length] at e1 e2
  have k5 : Same H1 (upd H2 d (.dK (kvG f S))) := fun b o e => by
    by_cases hb : b = d
    · rw [hb, upd_same, ← e, hb]; exact hd1.symm
    · rw [upd_ne hb]; exact e4 b o hb e
  have S5 := s1.trans k5
  refine ⟨r, D, as, Gs, f2, S, fun p => .row ((B p).map (idxG Gs)), rfl, S5 _ _ kr, hG.same S5, by rw [upd_ne nDd]; exact e1, fun p hp => ?_, fun g hg p hp => (hmem p).mp (List.mem_flatten.mpr ⟨g, hg, hp⟩), hne, l6, fun qq us Xs H3 s3 q0 us0 kq kG pX wX => q qq us Xs H3 (S5.trans s3) (S5.free q0) (fun b hb => S5.free (us0 b hb)) kq kG pX wX⟩
  obtain ⟨b, h1, h2, h3⟩ := e2 p hp
  exact ⟨b, h1, by rw [upd_ne fun z => by rw [z, e3] at h3; cases h3]; exact h3⟩
end


def goodB (J : JD) (p : Nat) : Bool := decide (p ∈ J.good)
abbrev RJ (J : JD) (ks : List (Nat × List Nat)) (k : Nat) : Nat → Nat → Bool := Rb (goodB J) (behF J) ks k
def sp_alike_paper (P : Program) (w : World) : Sp := fun vs H Q _ => ∃ (v : V) (J : JD), vs = [v] ∧ JAt P w H v J ∧ J.ok ∧ ∀ q us ks S H', KeysC J ks → ComeL J S → S ≠ [] → Same H H' → H q = none → (∀ b ∈ us, H b = none) → H' q = some (.lst (us.map V.ref)) → GrpsAt H' us (grp (RJ J ks J.n) S) → Q (.ref q) H'
theorem come_ne {J : JD} (hok : J.ok) {S : List Nat} (hS : ComeL J S) : S ≠ [] := fun e => by
  have l1 : 0 < J.L.cps.toList.length := by rw [Array.length_toList]; exact hok.L.1
  have hm := List.getElem_mem l1
  have : St J.sf J.n (.node J.L.cps.toList[0] []) ∈ S := (hS.2 _).mpr ⟨.node J.L.cps.toList[0] [], ⟨hm, trivial⟩, rfl⟩
  rw [e] at this
  cases this
theorem beh_in {J : JD} (hok : J.ok) {ks : List (Nat × List Nat)} (hk : KeysC J ks) {S : List Nat} (hS : ComeL J S) {key : Nat × List Nat} (hkey : key ∈ ks) {p : Nat} (hp : p ∈ S) : behF J key p ∈ S := by
  obtain ⟨h1, h2⟩ := (hk key).mp hkey
  obtain ⟨hc, hlen, hkk⟩ := keysOf_mem h1
  have pc := (hS.2 p).mp hp
  have pn : p < J.n := lev_small hok ((comes_lev hok p).mp pc)
  refine (hS.2 _).mpr ((comes_lev hok _).mpr (lev_closed hok (m := J.n + 1) ⟨key.1, moreR J.few J.turn key.2 p, hc, rowsTo_all (by rw [moreR_len (by rw [hlen]; exact pn), hlen]) (moreR_lt hok.t1 hkk), fun i x hx h0 => ?_, rfl⟩))
  rcases moreR_at (by rw [hlen]; exact pn) hx with e | e
  · rw [e]; exact (comes_lev hok p).mp pc
  · exact (comes_lev hok i).mp (h2 i x e h0)
theorem all_grp {S : List Nat} (hS : S.Pairwise (· < ·)) (ne : S ≠ []) : grp (fun _ _ => true) S = [S] := by
  cases S with
  | nil => exact absurd rfl ne
  | cons a r =>
    obtain ⟨h1, _⟩ := List.pairwise_cons.mp hS
    have e : (a :: r).filter (fstR (fun _ _ => true) (a :: r)) = [a] := by
      rw [List.filter_cons, if_pos (fst_iff.mpr fun b hb lt => by
        rcases List.mem_cons.mp hb with e | e
        · omega
        · have := h1 b e; omega), List.filter_eq_nil_iff.mpr fun b hb h => by
        have := fst_iff.mp h a List.mem_cons_self (h1 b hb)
        cases this]
    unfold grp
    rw [e]
    simp
def InvA (J : JD) (ks : List (Nat × List Nat)) (S : List Nat) (H H4 : Hp) (j d : Addr) (m : Nat) (σ' : List (Option V)) (H' : Hp) : Prop := ∃ (k : Nat) (gq fq : Addr) (us vs2 : List Addr), k ≤ J.n ∧ m = J.n - k ∧ σ' = [some (.ref j), some (.ref d), some (.ref gq), some (.ref fq), none] ∧ Same H4 H' ∧ H gq = none ∧ (∀ b ∈ us, H b = none) ∧ H' gq = some (.lst (us.map V.ref)) ∧ GrpsAt H' us (grp (RJ J ks k) S) ∧ H fq = none ∧ (∀ b ∈ vs2, H b = none) ∧ H' fq = some (.lst (vs2.map V.ref)) ∧ GrpsAt H' vs2 (grp (RJ J ks (k + 1)) S) ∧ k + 1 ≤ (grp (RJ J ks k) S).length
section
variable {P : Program} {w : World} {K : PySem.W.Frag} {mg : Str → Option Value} {base : Heap}
theorem ok_alike_paper (T : Txt K mg) : FnOk P w K mg base CX0 6 T.f_alike_paper T.d_alike_paper ["judge"] (sp_alike_paper P w) := by
  have G__keys_that_come : FnOk P w K mg base CX0 5 T.f__keys_that_come T.d__keys_that_come ["judge"] (sp__keys_that_come P w) := ok__keys_that_come T
  have G__states_behind : FnOk P w K mg base CX0 5 T.f__states_behind T.d__states_behind ["judge", "keys"] (sp__states_behind P w) := ok__states_behind T
  have G__parted : FnOk P w K mg base CX0 2 T.f__parted T.d__parted ["groups", "marks"] sp__parted := ok__parted T
  have G__parted_behind : FnOk P w K mg base CX0 3 T.f__parted_behind T.d__parted_behind ["groups", "behind"] sp__parted_behind := ok__parted_behind T
  refine T.F_alike_paper.ok sc_alike_paper (fun vs H Q E h => ?_) (fun cdv A outer s H vs Q E hr h => ?_)
  · obtain ⟨v, J, rfl, _⟩ := h
    rfl
  obtain ⟨v, J, rfl, hJ, hok, q⟩ := h
  refine ⟨_, (pss_cons (ps_set (i := 1) sc_alike_paper.nd rfl (Or.inl rfl) (pe_call G__states_behind (hr.mono (by omega)) (by rfl) T.m__states_behind T.F__states_behind.kp T.b__states_behind .nil pass0 (pa_cons (pv 0) (pa_cons (pe_call G__keys_that_come (hr.mono (by omega)) (by rfl) T.m__keys_that_come T.F__keys_that_come.kp T.b__keys_that_come .nil pass0 (pa_cons (pv 0) pa_nil)) pa_nil)))) (pss_cons (ps_set (i := 2) sc_alike_paper.nd rfl (Or.inl rfl) (pe_call G__parted (hr.mono (by omega)) (by rfl) T.m__parted T.F__parted.kp T.b__parted .nil pass0 (pa_cons (pe_lst (pa_cons (pe_callTy (call_list_dK rfl) (by rfl) T.z_list (by decide +kernel) (pa_cons (pv 1) pa_nil)) pa_nil)) (pa_cons (pe_lock (pe_dc (own := [("state", 4)]) (tt := tYes) (g := (gName 4)) (tk := tVar 4) (tv := tOp (rIn K false) (tVar 4) (tOp (rIxT K) (tVar 0) (tC (.int 5)))) rfl sc_alike_paper.nd (pi_keys (pv 1)) (blkOk_by (own := [("state", 4)]) (N := ["judge", "behind", "groups", "finer", "state"]) (sc := (defScope s_alike_paper)) (by decide +kernel)) (fun _ _ _ _ _ => (pg_name (i := 4) sc_alike_paper.nd rfl (Or.inl rfl))) (fun _ _ _ _ _ => pts_nil) (fun _ _ _ _ _ => (pv 4)) (fun _ _ _ _ _ => (pe_cmpR op_in_seq (pv 4) (pe_ix ix_tup (pv 0) pe_int (fun _ _ => rfl)) (by rfl))))) pa_nil)))) (pss_cons (ps_set (i := 3) sc_alike_paper.nd rfl (Or.inl rfl) (pe_call G__parted_behind (hr.mono (by omega)) (by rfl) T.m__parted_behind T.F__parted_behind.kp T.b__parted_behind .nil pass0 (pa_cons (pv 2) (pa_cons (pv 1) pa_nil)))) (pss_cons (ps_while PassesOwn.never (pt_cmpR op_gt (pe_callB call_len_seq (by rfl) T.z_len PySem.boot_len (pa_cons (pv 3) pa_nil)) (pe_callB call_len_seq (by rfl) T.z_len PySem.boot_len (pa_cons (pv 2) pa_nil)) (nomark _)) (pss_cons (ps_set (i := 2) sc_alike_paper.nd rfl (Or.inl rfl) (pv 3)) (pss_one (ps_set (i := 3) sc_alike_paper.nd rfl (Or.inl rfl) (pe_call G__parted_behind (hr.mono (by omega)) (by rfl) T.m__parted_behind T.F__parted_behind.kp T.b__parted_behind .nil pass0 (pa_cons (pv 2) (pa_cons (pv 1) pa_nil))))))) (pss_one (ps_ret (pv 2))))))), ?_⟩
  refine ⟨_, rfl, _, rfl, v, J, rfl, hJ, hok, fun r bs ks H1 s1 r0 kr hks hmem l600 => ⟨v, J, r, bs, ks, rfl, hJ.same s1, hok, kr, hks, hmem, l600, fun d H2 f S s2 d0 kd hS hf => ?_⟩⟩
  have S2 := s1.trans s2
  have d00 := s1.free d0
  refine ⟨_, rfl, d, kvG f S, rfl, kd, fun l hl => ⟨(by show 1 ≤ sizeLine; decide), fun gl hgl => ?_⟩⟩
  have el : (kvG f S).map (fun kv => kV kv.1) = S.map nI := by unfold kvG; rw [List.map_map]; rfl
  rw [el] at hgl ⊢
  have sl := same_new hl (o := .lst (S.map nI))
  have kl := upd_same (H := H2) (a := l) (o := .lst (S.map nI))
  have kd' := sl _ _ kd
  have hf' : ∀ p ∈ S, ∃ b, f p = .ref b ∧ (upd H2 l (.lst (S.map nI))) b = some (.lst ((ks.map fun key => behF J key p).map nI)) := fun p hp => let ⟨b, h1, _, h3⟩ := hf p hp; ⟨b, h1, sl _ _ h3⟩
  have l0 := S2.free hl
  have S2' := S2.trans sl
  generalize upd H2 l (.lst (S.map nI)) = H3 at *
  have sg := same_new hgl (o := .lst [V.ref l])
  have kgl := upd_same (H := H3) (a := gl) (o := .lst [V.ref l])
  have kl4 := sg _ _ kl
  have kd4 := sg _ _ kd'
  have hf4 : ∀ p ∈ S, ∃ b, f p = .ref b ∧ (upd H3 gl (.lst [V.ref l])) b = some (.lst ((ks.map fun key => behF J key p).map nI)) := fun p hp => let ⟨b, h1, h3⟩ := hf' p hp; ⟨b, h1, sg _ _ h3⟩
  have S4 := S2'.trans sg
  generalize upd H3 gl (.lst [V.ref l]) = H4 at *
  have hJ4 := hJ.same S4
  have hSn : ∀ p ∈ S, p < J.n := fun p hp => lev_small hok ((comes_lev hok p).mp ((hS.2 p).mp hp))
  have lS := rise_few S 0 J.n hS.1 fun p hp => ⟨Nat.zero_le _, hSn p hp⟩
  have n6 := hok.n6
  have g6 := hok.g6
  have ne := come_ne hok hS
  have ndS : S.Nodup := hS.1.imp fun h => Nat.ne_of_lt h
  have lk : (kvG f S).length = S.length := by unfold kvG; rw [List.length_map]
  refine ⟨d, _, kd4, trivial, fun od => ?_⟩
  obtain ⟨j, dj, g, xs, keys, rfl, hj, hdj, hrn, hrj, hper, hg⟩ := hJ4
  have njd : j ≠ d := fun e => by rw [e, kd4] at hj; cases hj
  have ngd : g ≠ d := fun e => by rw [e, kd4] at hg; cases hg
  refine ⟨_, rfl, d, od, rfl, .inl ⟨kvG f S, upd_same, fun D hD => ?_⟩⟩
  have nDd : D ≠ d := fun e => by rw [e, upd_same] at hD; cases hD
  have hD0 : H4 D = none := by rw [upd_ne nDd] at hD; exact hD
  refine lc_walk (len := (kvG f S).length) walk_keys (fun i H' => H' D = some (.dK (kvG (fun p => V.bl (goodB J p)) (S.take i))) ∧ H' d = some (.frz od (.dK (kvG f S))) ∧ FrD d H4 H') ⟨upd_same, by rw [upd_ne nDd.symm, upd_same], fun b o ne e => by rw [upd_ne (fun z => by rw [z, hD0] at e; cases e), upd_ne ne]; exact e⟩ (fun i H' _ ⟨_, h, _⟩ => h) ?_ ?_
  · rintro i x H5 H6 hi ⟨e1, e2, e3⟩ ⟨rfl, k, y, hk, rfl⟩
    rw [lk] at hi
    obtain ⟨z, hz⟩ : ∃ z, S[i]? = some z := ⟨_, List.getElem?_eq_getElem hi⟩
    have hk2 : (kvG f S)[i]? = some (Sum.inl (z : Int), f z) := by unfold kvG; rw [List.getElem?_map, hz]; rfl
    rw [hk2] at hk
    cases hk
    have hj5 := e3 _ _ njd hj
    have hg5 := e3 _ _ ngd hg
    have lt : (S.take i).length ≤ 6 := by rw [List.length_take]; omega
    refine ⟨rfl, _, rfl, _, rfl, _, rfl, j, _, 5, .ref g, rfl, rfl, SqT.of hj5, atI_nat (j := 5) rfl, g, _, rfl, .inl (SqL.of hg5), rfl, flat_nI _, ?_⟩
    have e0 : kV (Sum.inl (z : Int)) = nI z := rfl
    rw [if_neg (by decide), e0, inV_nI]
    refine ⟨kvG (fun p => V.bl (goodB J p)) (S.take i), Sum.inl (z : Int), rfl, e1, ?_, ?_, ?_, ?_⟩
    · unfold kvG
      rw [List.length_map]
      exact Nat.lt_of_le_of_lt (show _ ≤ 1000000 by omega) (by decide)
    · rw [upd_same, take_succ_of hz, kvG_put _ (rise_new hS.1 hz)]
      congr 2
      refine kvG_congr fun q _ => ?_
      by_cases e : q = z
      · rw [if_pos e, e]; rfl
      · rw [if_neg e]
    · rw [upd_ne nDd.symm]
      exact e2
    · intro b o n e
      rw [upd_ne fun z => by rw [z, hD0] at e; cases e]
      exact e3 b o n e
  rintro H5 ⟨e1, e2, e3⟩
  refine ⟨e2, ?_⟩
  rw [lk, List.take_length] at e1
  have k5 : Same H4 (upd H5 d (.dK (kvG f S))) := fun b o e => by
    by_cases hb : b = d
    · rw [hb, upd_same, ← e, hb]; exact kd4.symm
    · rw [upd_ne hb]; exact e3 b o hb e
  have S5 := S4.trans k5
  have fl : [S].flatten = S := by simp
  refine ⟨gl, D, [l], [S], fun p => V.bl (goodB J p), S, fun p => .tr (goodB J p), rfl, k5 _ _ kgl, .cons (k5 _ _ kl4) .nil, by rw [upd_ne nDd]; exact e1, (fun p hp => rfl), (fun g hg p hp => by rw [List.mem_singleton.mp hg] at hp; exact hp), (fun g hg => by rw [List.mem_singleton.mp hg]; exact ne), by rw [fl]; omega, fun q1 us1 X1 H6 s6 q10 us10 kq1 kG1 p1 w1 => ?_⟩
  have S6 := S5.trans s6
  have tE : Eqv fun _ _ => true := ⟨fun _ => rfl, fun _ _ => rfl, fun _ _ _ _ _ => rfl⟩
  have eX1 : X1 = grp (RJ J ks 0) S := by
    rw [← all_grp hS.1 ne] at p1
    rw [parts_grp tE hS.1 p1 w1]
    refine grp_same fun p _ q _ => ?_
    simp only [finer, Mk.tr.injEq, Bool.true_and]
    show decide (goodB J p = goodB J q) = (goodB J p == goodB J q)
    rfl
  subst eX1
  have k6 : Same H4 H6 := k5.trans s6
  have kd6 := k6 _ _ kd4
  have round : ∀ (k : Nat) (H7 : Hp) (gq : Addr) (us : List Addr) (R : VK), Same H4 H7 → H7 gq = some (.lst (us.map V.ref)) → GrpsAt H7 us (grp (RJ J ks k) S) → (∀ fq vs2 H8, Same H7 H8 → H7 fq = none → (∀ b ∈ vs2, H7 b = none) → H8 fq = some (.lst (vs2.map V.ref)) → GrpsAt H8 vs2 (grp (RJ J ks (k + 1)) S) → R (.ref fq) H8) → sp__parted_behind [.ref gq, .ref d] H7 R E0 := by
    intro k H7 gq us R s7 kgq kG h
    have Ek : Eqv (RJ J ks k) := rb_eqv k
    refine ⟨gq, d, us, grp (RJ J ks k) S, f, S, fun p => ks.map fun key => behF J key p, rfl, kgq, kG, grp_flat_nd Ek hS.1, fun p => grp_flat_mem Ek, grp_ne Ek hS.1, by rw [grp_flat_len Ek hS.1]; omega, ndS, by omega, s7 _ _ kd4, fun p hp => let ⟨b, h1, h3⟩ := hf4 p hp; ⟨b, h1, s7 _ _ h3⟩, fun p hp => ⟨by rw [List.length_map]; exact l600, fun x hx => ?_⟩, fun fq vs2 X2 H8 s8 fq0 vs0 kfq kG2 p2 w2 => h fq vs2 H8 s8 fq0 vs0 kfq ?_⟩
    · obtain ⟨key, hkey, rfl⟩ := List.mem_map.mp hx
      exact beh_in hok hmem hS hkey hp
    · rw [parts_grp Ek hS.1 p2 w2] at kG2
      rw [grp_same (R := RJ J ks (k + 1)) (R' := finer (RJ J ks k) fun p => .row ((ks.map fun key => behF J key p).map (idxG (grp (RJ J ks k) S)))) fun p hp q hq => ?_]
      · exact kG2
      simp only [finer, Mk.row.injEq]
      show (RJ J ks k p q && ks.all fun key => RJ J ks k (behF J key p) (behF J key q)) = _
      congr 1
      rw [Bool.eq_iff_iff, List.all_eq_true, decide_eq_true_eq, List.map_map, List.map_map, List.map_inj_left]
      exact ⟨fun h key hk => (idx_grp Ek hS.1 (beh_in hok hmem hS hk hp) (beh_in hok hmem hS hk hq)).mpr (h key hk), fun h key hk => (idx_grp Ek hS.1 (beh_in hok hmem hS hk hp) (beh_in hok hmem hS hk hq)).mp (h key hk)⟩
  refine ⟨_, rfl, _, rfl, ?_⟩
  dsimp only [tNil]
  refine round 0 H6 q1 us1 _ k6 kq1 kG1 fun fq vs2 H7 s7 fq0 vs0 kfq kG2 => ?_
  refine ⟨InvA J ks S H H4 j d, ⟨J.n, 0, q1, fq, us1, vs2, Nat.zero_le _, rfl, rfl, k6.trans s7, S5.free q10, fun b hb => S5.free (us10 b hb), s7 _ _ kq1, kG1.same s7, S6.free fq0, fun b hb => S6.free (vs0 b hb), kfq, kG2, ?_⟩, ?_⟩
  · cases hl : grp (RJ J ks 0) S with
    | nil =>
      have := grp_flat_len (rb_eqv (good := goodB J) (dl := behF J) (ks := ks) 0) hS.1
      rw [hl] at this
      cases S with
      | nil => exact absurd rfl ne
      | cons a t => simp at this
    | cons a t => rw [List.length_cons]; omega
  rintro m σ' H8 ⟨k, gq, fq2, us, vs3, hkn, rfl, rfl, a1, a2, a3, a4, a5, a6, a7, a8, a9, a10⟩
  have l1 := Paired.length a5
  have l2 := Paired.length a9
  have lf := grp_flat_len (rb_eqv (good := goodB J) (dl := behF J) (ks := ks) (k + 1)) hS.1
  have lg := grp_len (RJ J ks (k + 1)) S
  refine ⟨_, rfl, fq2, _, rfl, .inl (SqL.of a8), _, rfl, gq, _, rfl, .inl (SqL.of a4), _, _, rfl, rfl, _, rfl, ite2 (fun h => ?_) (fun h => ?_)⟩
  · have h := of_decide_eq_true h
    rw [List.length_map, List.length_map, l1, l2] at h
    refine ⟨fun σ' H'' => ∃ m', m' < J.n - k ∧ InvA J ks S H H4 j d m' σ' H'', fun _ _ h => h, ?_⟩
    refine ⟨_, rfl, _, rfl, _, rfl, ?_⟩
    dsimp only [tNil]
    refine round (k + 1) H8 fq2 vs3 _ a1 a8 a9 fun fq4 vs4 H9 s9 fq40 vs40 kfq4 kG4 => ?_
    refine ⟨J.n - (k + 1), by omega, k + 1, fq2, fq4, vs3, vs4, by omega, rfl, rfl, a1.trans s9, a6, a7, s9 _ _ a8, a9.same s9, (S4.trans a1).free fq40, fun b hb => (S4.trans a1).free (vs40 b hb), kfq4, kG4, by omega⟩
  · have h : vs3.length ≤ us.length := by simpa using h
    rw [l1, l2] at h
    have st := grp_still (rb_eqv k) (rb_eqv (k + 1)) (fun p q h => rb_mono h) h
    have still := rb_still (good := goodB J) (dl := behF J) (ks := ks) (S := S) (fun key hk p hp => beh_in hok hmem hS hk hp) st
    refine ⟨_, rfl, q gq us ks S H8 hmem hS ne (S4.trans a1) a2 a3 a4 ?_⟩
    rw [grp_same (R' := RJ J ks k) fun p hp q hq => ?_]
    · exact a5
    exact Bool.eq_iff_iff.mpr ⟨fun h => rb_down hkn h, fun h => still J.n p q hp hq h⟩
end

theorem zip_no_len : typeLookup (Value.type "zip") (Str.ofString "__len__") = pure none := am_miss_of_fast (by decide +kernel)
theorem zip_no_hint : typeLookup (Value.type "zip") (Str.ofString "__length_hint__") = pure none := am_miss_of_fast (by decide +kernel)
theorem hint_zip {prog : Program} {w : World} {A : Around} {E : Value → Shared → Prop} {s : Shared} {r : Addr} {Q : Bool → Shared → Prop} (ht : s.TypeIs (.ref r) "zip") (h : Q true s) : wpAny (model prog w) A (Builtin.List.listLengthHint (.ref r)) Q E s := by
  unfold Builtin.List.listLengthHint specialOf
  refine wpAny_bind (wpAny_bind (wpAny_typeOf ht ?_))
  rw [zip_no_len]
  refine wpAny_pure ?_
  refine wpAny_bind (wpAny_bind (wpAny_typeOf ht ?_))
  rw [zip_no_hint]
  refine wpAny_pure ?_
  exact wpAny_pure h
theorem apart_newL {n a b : Nat} (ha : a < n) (hb : b < n) : ZipApart (n + 4) (n + 2) (n + 3) n (n + 1) a b := by constructor <;> (show @Ne Nat _ _; omega)
theorem upd_twice {H : Hp} {a : Addr} {o u : HO} : upd (upd H a o) a u = upd H a u := by
  funext b
  by_cases e : b = a
  · rw [e, upd_same, upd_same]
  · rw [upd_ne e, upd_ne e, upd_ne e]
theorem quiet_extend (S z : Addr) : (Code.builtin "list.extend.loop" { pos := [Value.ref S, Value.ref z, Value.none] }).quiet = true := by
  have h : ("list.extend.loop" : String).startsWith "lifetime." = false := by decide +kernel
  simp [Code.quiet, Thread.loud, Thread.atCollectorCode, Thread.yieldsInsideHandler, h]
def PairsT (H : Hp) (ts : List Addr) (ps : List (V × V)) : Prop := Paired (fun t (p : V × V) => H t = some (.tup [p.1, p.2])) ts ps
theorem PairsT.keep {H H' : Hp} {ts : List Addr} {ps : List (V × V)} (h : PairsT H ts ps) (f : ∀ b xs, H b = some (.tup xs) → H' b = some (.tup xs)) : PairsT H' ts ps := Paired.mapP h fun _ _ e => f _ _ e
def ZipSt (h : Heap) (z TI TO i1 i2 a b : Addr) (k : Nat) : Prop := ((IsZip h z TI TO .none ∧ ∃ x y, IsPair h TO x y) ∨ ∃ T f oT, IsZipHeld h z TI TO T f ∧ h.get? T = some oT ∧ T ≠ z ∧ T ≠ i1 ∧ T ≠ i2) ∧ IsPair h TI (.ref i1) (.ref i2) ∧ h.IsListIter i1 a k ∧ h.IsListIter i2 b k ∧ ∃ o, h.get? TO = some o
section
variable {X : Cx} {pins : List (Addr × Obj)} {σ : L2.St}
theorem zip_loop {A : Around} (hA : A.handled = none) {a b z TI TO i1 i2 S : Addr} {xs ys : List V} (D : ZipApart z TI TO i1 i2 a b) (hlen : xs.length = ys.length) (hz : xs.length ≤ 1000000) (nS : S ≠ z ∧ S ≠ TI ∧ S ≠ TO ∧ S ≠ i1 ∧ S ≠ i2 ∧ S ≠ a ∧ S ≠ b) {H0 : Hp} {R : Result → Shared → Prop}
    (hR : ∀ s ts H, Inv X pins σ H s → (∀ c o, c ≠ S → H0 c = some o → H c = some o) → (∀ t ∈ ts, H0 t = none ∧ t ≠ S) → H S = some (.lst (ts.map V.ref)) → PairsT H ts (List.zip xs ys) → R (.ok (.ret .none)) s) :
    ∀ (m k : Nat) (s : Shared) (H : Hp) (ts : List Addr), m + k = xs.length → Inv X pins σ H s → (∀ c o, c ≠ S → H0 c = some o → H c = some o) → (∀ t ∈ ts, H0 t = none ∧ t ≠ S) → H a = some (.lst xs) → H b = some (.lst ys) → H S = some (.lst (ts.map V.ref)) → PairsT H ts ((List.zip xs ys).take k) → ZipSt s.heap z TI TO i1 i2 a b k → (∀ c ∈ [z, TO, i1, i2], FpOk X pins H c) →
      codeAny (model X.prog X.w) A (.builtin "list.extend.loop" ⟨[.ref S, .ref z, .none], []⟩) R s := by
  intro m
  induction m with
  | zero =>
    intro k s H ts hk I keep new ka kb kS kt st free
    have hk : k = xs.length := by omega
    subst hk
    obtain ⟨its, rv, p1, _⟩ := I.list (SqL.of ka)
    obtain ⟨its2, rv2, p2, _⟩ := I.list (SqL.of kb)
    obtain ⟨held, hTI, h1, h2, oTO, hTO0⟩ := st
    have over : its.toArray[xs.length]? = none ∨ its2.toArray[xs.length]? = none := .inl (by rw [List.getElem?_toArray, List.getElem?_eq_none]; rw [← rv.length]; exact Nat.le_refl _)
    have lz : (List.zip xs ys).take xs.length = List.zip xs ys := List.take_of_length_le (by rw [List.length_zip, ← hlen, Nat.min_self]; exact Nat.le_refl _)
    rw [lz] at kt
    refine codeAny_builtin F.entry_extend_loop ?_
    show wpAny (model X.prog X.w) _ (do
      match ← pyNext (.ref z) with
      | none => ret .none
      | some x => do
        Builtin.List.listUpdate (.ref S) fun x_1 => x_1.push x
        again (.builtin "list.extend.loop" ⟨[.ref S, .ref z, .none], []⟩)) _ _ s
    have fin : ∀ h3 : Heap, (∀ c o, c ≠ z → c ≠ TO → c ≠ i1 → c ≠ i2 → s.heap.get? c = some o → h3.get? c = some o) → R (.ok (.ret .none)) { s with heap := h3 } := fun h3 stays =>
      hR _ ts H (I.turnedL (t' := s.toks) (ch := [z, TO, i1, i2]) (fun c ob hb e => stays c ob (fun q => hb (by simp [q])) (fun q => hb (by simp [q])) (fun q => hb (by simp [q])) (fun q => hb (by simp [q])) e) free) keep new kS kt
    refine wpAny_bind ?_
    rcases held with ⟨hzz, x0, y0, hTO⟩ | ⟨T, f, oT, hzz, hT, _⟩
    · exact wpAny_pyNext_zip_end hA D hzz hTI hTO h1 h2 p1.isList p2.isList over fun h3 g => wpAny_pure (fin h3 g)
    · exact wpAny_pyNext_zip_end_held hA D hzz hT hTI h1 h2 p1.isList p2.isList over fun h3 g => wpAny_pure (fin h3 fun c o n1 _ n3 n4 e => g c o n1 n3 n4 e)
  | succ m ih =>
    intro k s H ts hk I keep new ka kb kS kt st free
    obtain ⟨its, rv, p1, _⟩ := I.list (SqL.of ka)
    obtain ⟨its2, rv2, p2, _⟩ := I.list (SqL.of kb)
    have lt1 : k < xs.length := by omega
    have lt2 : k < ys.length := by omega
    have hx : xs[k]? = some xs[k] := List.getElem?_eq_getElem lt1
    have hy : ys[k]? = some ys[k] := List.getElem?_eq_getElem lt2
    obtain ⟨u, e1, r1⟩ := rv.get hx
    obtain ⟨u2, e2, r2⟩ := rv2.get hy
    obtain ⟨held, hTI, h1, h2, oTO, hTO0⟩ := st
    have next : ∀ h3 : Heap, (∀ c o, c ≠ z → c ≠ TO → c ≠ i1 → c ≠ i2 → s.heap.get? c = some o → h3.get? c = some o) → IsPair h3 s.heap.objs.size u u2 → ((IsZip h3 z TI TO .none ∧ ∃ x y, IsPair h3 TO x y) ∨ ∃ T f oT, IsZipHeld h3 z TI TO T f ∧ h3.get? T = some oT ∧ T ≠ z ∧ T ≠ i1 ∧ T ≠ i2) → h3.IsListIter i1 a (k + 1) → h3.IsListIter i2 b (k + 1) → (∃ o, h3.get? TO = some o) →
        wpAny (model X.prog X.w) (A.under (.builtin "list.extend.loop" ⟨[.ref S, .ref z, .none], []⟩)) (do
          Builtin.List.listUpdate (.ref S) fun x => x.push (.ref s.heap.objs.size)
          again (.builtin "list.extend.loop" ⟨[.ref S, .ref z, .none], []⟩)) (fun fin s' => match fin with
          | Fin.done f => R (.ok f) s'
          | Fin.again c' => c'.quiet = true ∧ codeAny (model X.prog X.w) A c' R s') (fun e s' => R (.error e) s') { s with heap := h3 } := by
      intro h3 stays made held3 h13 h23 ⟨oT3, hT3⟩
      have size : ∀ c o, s.heap.get? c = some o → c ≠ s.heap.objs.size := fun c o e => Nat.ne_of_lt (Heap.lt_size e)
      have new4 : ObjOk X.prog X.w (upd H s.heap.objs.size (.tup [xs[k], ys[k]])) h3 s.heap.objs.size (.tup [xs[k], ys[k]]) :=
        ⟨by show 2 ≤ sizeLine; decide, [u, u2], .cons r1 (.cons r2 .nil), _, made, rfl, _, rfl⟩
      have J : Inv X pins σ (upd H s.heap.objs.size (.tup [xs[k], ys[k]])) { s with heap := h3 } :=
        I.turnedNew (t' := s.toks) (ch := [z, TO, i1, i2]) (fun c ob hb e => stays c ob (fun q => hb (by simp [q])) (fun q => hb (by simp [q])) (fun q => hb (by simp [q])) (fun q => hb (by simp [q])) e) free (Nat.le_refl _) new4
      have fresh := I.hok.fresh (Nat.le_refl s.heap.objs.size)
      have nST : S ≠ s.heap.objs.size := fun e => by rw [e, fresh] at kS; cases kS
      have kS2 : (upd H s.heap.objs.size (.tup [xs[k], ys[k]])) S = some (.lst (ts.map V.ref)) := by rw [upd_ne nST]; exact kS
      obtain ⟨oz, its3, n3, rv3, hao⟩ := J.hok _ _ kS2
      have lz3 := rv3.length
      rw [List.length_map] at lz3
      have lts : ts.length = k := by
        rw [Paired.length kt, List.length_take, List.length_zip, ← hlen, Nat.min_self]
        omega
      refine wpAny_bind (PyProof.Rows.listUpdate_at (xs := its3.toArray) (n := n3) hao rfl ?_ ?_ ?_)
      · refine wpAny_pure ⟨quiet_extend S z, ?_⟩
        have J2 := J.lset (t' := s.toks) (its := its3) (its' := its3 ++ [.ref s.heap.objs.size]) (f := fun x => x.push (.ref s.heap.objs.size)) (ys := ts.map V.ref ++ [.ref s.heap.objs.size]) kS2 hao (by simp) (prd_app rv3 (.cons (show L2.RelV (V.ref s.heap.objs.size) (Value.ref s.heap.objs.size) from rfl) .nil)) (by rw [List.length_append, List.length_map, lts]; exact Nat.le_of_lt (Nat.lt_of_le_of_lt (show _ ≤ 1000001 by simp; omega) (by decide)))
        have off : ∀ c, c ≠ S → ({ s with heap := h3.update S (Obj.mapSeq fun x => x.push (.ref s.heap.objs.size)) } : Shared).heap.get? c = h3.get? c := fun c n => Heap.get?_update_ne _ _ _ _ n
        have kkeep : ∀ c o, c ≠ S → H c = some o → (upd (upd H s.heap.objs.size (.tup [xs[k], ys[k]])) S (.lst (ts.map V.ref ++ [.ref s.heap.objs.size]))) c = some o := fun c o n e => by
          rw [upd_ne n, upd_ne fun z => by rw [z, fresh] at e; cases e]
          exact e
        refine ih (k + 1) _ _ (ts ++ [s.heap.objs.size]) (by omega) J2 (fun c o n e => kkeep c o n (keep c o n e)) (fun t ht => ?_) (kkeep _ _ nS.2.2.2.2.2.1.symm ka) (kkeep _ _ nS.2.2.2.2.2.2.symm kb) (by rw [upd_same, List.map_append]; rfl) ?_ ⟨?_, ?_, ?_, ?_, oT3, (off _ nS.2.2.1.symm).trans hT3⟩ (fun c hc => ?_)
        · rcases List.mem_append.mp ht with ht | ht
          · exact new t ht
          · rw [List.mem_singleton.mp ht]
            refine ⟨?_, nST.symm⟩
            cases e : H0 s.heap.objs.size with
            | none => rfl
            | some o => rw [keep _ o nST.symm e] at fresh; cases fresh
        · have ez : (List.zip xs ys).take (k + 1) = (List.zip xs ys).take k ++ [(xs[k], ys[k])] := take_succ_of (by rw [List.getElem?_zip_eq_some]; exact ⟨hx, hy⟩)
          rw [ez]
          refine prd_app (PairsT.keep kt fun c o e => kkeep c _ (fun z => by rw [z, kS] at e; cases e) e) (.cons ?_ .nil)
          rw [upd_ne nST.symm, upd_same]
        · rcases held3 with ⟨q1, x0, y0, q2⟩ | ⟨T, f, oT, q1, q2, q3⟩
          · exact .inl ⟨(off _ nS.1.symm).trans q1, x0, y0, (off _ nS.2.2.1.symm).trans q2⟩
          · refine .inr ⟨T, f, ?_⟩
            by_cases e : T = S
            · obtain ⟨o', ho'⟩ : ∃ o', (h3.update S (Obj.mapSeq fun x => x.push (.ref s.heap.objs.size))).get? T = some o' := ⟨_, by rw [e]; exact PyProof.Rows.get?_update_seq hao _⟩
              exact ⟨o', (off _ nS.1.symm).trans q1, ho', q3⟩
            · exact ⟨oT, (off _ nS.1.symm).trans q1, (off _ e).trans q2, q3⟩
        · have := stays TI _ D.TIz D.TITO D.TIi1 D.TIi2 hTI
          exact (off _ nS.2.1.symm).trans this
        · obtain ⟨o, q1, q2⟩ := h13
          exact ⟨o, (off _ nS.2.2.2.1.symm).trans q1, q2⟩
        · obtain ⟨o, q1, q2⟩ := h23
          exact ⟨o, (off _ nS.2.2.2.2.1.symm).trans q1, q2⟩
        · have f0 := free c hc
          refine ⟨?_, f0.2⟩
          have cS : c ≠ S := fun e => by have q := f0.1; rw [e, kS] at q; cases q
          have cT : c ≠ s.heap.objs.size := by
            simp only [List.mem_cons, List.not_mem_nil, or_false] at hc
            rcases hc with rfl | rfl | rfl | rfl
            · rcases held with ⟨q1, _⟩ | ⟨_, _, _, q1, _⟩
              · exact size _ _ q1
              · exact size _ _ q1
            · exact size _ _ hTO0
            · obtain ⟨o, q1, _⟩ := h1; exact size _ _ q1
            · obtain ⟨o, q1, _⟩ := h2; exact size _ _ q1
          rw [upd_ne cS, upd_ne cT]
          exact f0.1
      · rw [List.size_toArray, ← lz3, lts]
        exact Nat.le_of_lt (Nat.lt_of_le_of_lt (show _ ≤ 1000000 by omega) (by decide))
      · rw [Array.size_push, List.size_toArray, ← lz3, lts]
        exact Nat.le_of_lt (Nat.lt_of_le_of_lt (show _ ≤ 1000001 by omega) (by decide))
    refine codeAny_builtin F.entry_extend_loop ?_
    show wpAny (model X.prog X.w) _ (do
      match ← pyNext (.ref z) with
      | none => ret .none
      | some x => do
        Builtin.List.listUpdate (.ref S) fun x_1 => x_1.push x
        again (.builtin "list.extend.loop" ⟨[.ref S, .ref z, .none], []⟩)) _ _ s
    refine wpAny_bind ?_
    rcases held with ⟨hzz, x0, y0, hTO⟩ | ⟨T, f, oT, hzz, hT, nT1, nT2, nT3⟩
    · refine wpAny_pyNext_zip_item D hzz hTI hTO h1 h2 p1.isList p2.isList (by rw [List.getElem?_toArray]; exact e1) (by rw [List.getElem?_toArray]; exact e2) fun h3 g1 g2 g3 g4 g5 g6 g7 => ?_
      exact next h3 (fun c o n1 n2 n3 n4 e => g7 c o n1 n2 n3 n4 e) g5 (.inr ⟨_, false, _, g1, g5, Nat.ne_of_gt (Heap.lt_size hzz), fun e => by obtain ⟨o, q, _⟩ := h1; exact Nat.ne_of_gt (Heap.lt_size q) e, fun e => by obtain ⟨o, q, _⟩ := h2; exact Nat.ne_of_gt (Heap.lt_size q) e⟩) g3 g4 ⟨_, g2⟩
    · refine wpAny_pyNext_zip_item_held D hzz hT hTI h1 h2 p1.isList p2.isList (by rw [List.getElem?_toArray]; exact e1) (by rw [List.getElem?_toArray]; exact e2) fun h3 g1 g3 g4 g5 g6 g7 => ?_
      exact next h3 (fun c o n1 n2 n3 n4 e => g7 c o n1 n3 n4 e) g5 (.inr ⟨T, true, oT, g1, g7 _ _ nT1 nT2 nT3 hT, nT1, nT2, nT3⟩) g3 g4 ⟨_, g7 _ _ D.TOz D.TOi1 D.TOi2 hTO0⟩
def tLZ (ta : TA) : TE := fun σ H Q => ta σ H fun vs H1 => ∃ (a b : Addr) (xs ys : List V), vs = [.ref a, .ref b] ∧ H1 a = some (.lst xs) ∧ H1 b = some (.lst ys) ∧ xs.length = ys.length ∧ xs.length ≤ 1000000 ∧
  ∀ r ts H', Same H1 H' → H1 r = none → (∀ t ∈ ts, H1 t = none) → H' r = some (.lst (ts.map V.ref)) → PairsT H' ts (List.zip xs ys) → Q (.ref r) H'
theorem pe_listZip {e e2 : PySem.Expr} {ta : TA} {p p0 pos pos0 : Pos} (hc : X.calm = true) (hg0 : Gl X "list") (hm0 : X.mg "list" = none) (hg : Gl X "zip") (hm : X.mg "zip" = none) (ha : PA X [e, e2] ta)
    (hs : starEach [e, e2] X.env = (false, eval e X.env) :: starEach [e2] X.env := by rfl) (hpl : (backTo pos (starEach [e2] X.env)).any (·.1) = false := by rfl)
    (hs0 : starEach [.Call (.Name "zip" p) [e, e2] [] pos] X.env = (false, eval (.Call (.Name "zip" p) [e, e2] [] pos) X.env) :: starEach [] X.env := by rfl) (hpl0 : (backTo pos0 (starEach [] X.env)).any (·.1) = false := by rfl) :
    PE X (.Call (.Name "list" p0) [.Call (.Name "zip" p) [e, e2] [] pos] [] pos0) (tLZ ta) := by
  refine ⟨fun pins s σ H R I h => Call_ (ld_blt I hg0 hm0 PyProof.Rows.boot_list (PyProof.Rows.callWith_type1 ?_ hs0 hpl0))⟩
  rw [hs0]
  show wpAny _ _ (spliced ((false, eval (.Call (.Name "zip" p) [e, e2] [] pos) X.env) :: backTo pos0 (starEach [] X.env))) _ _ s
  refine Calls.spliced_cons (Call_ (ld_blt I hg hm PyProof.Rows.boot_zip (PyProof.Rows.callWith_type1 (thn (ha.run pos pins s σ H _ I h) ?_) hs hpl)))
  rintro us0 s1 ⟨_, H1, I1, r1, a, b, xs, ys, rfl, hka, hkb, hlen, hz, q⟩
  obtain ⟨u1, u2, rfl, e1, e2⟩ := Vals.two r1
  cases e1
  cases e2
  obtain ⟨its, rv, p1, _⟩ := I1.list (SqL.of hka)
  obtain ⟨its2, rv2, p2, _⟩ := I1.list (SqL.of hkb)
  have la : a < s1.heap.objs.size := p1.lt
  have lb : b < s1.heap.objs.size := p2.lt
  refine zip_begins2 (begins_list a its.toArray) (begins_list b its2.toArray) p1.isList p2.isList fun h' hz1 hTI hTO g1 g2 hsz keep => ?_
  refine Calls.spliced_nil ?_
  have le : s1.heap.objs.size ≤ h'.objs.size := by rw [hsz]; exact Nat.le_add_right _ _
  have I2 : Inv X pins σ H1 { s1 with heap := h' } := I1.kept (t' := s1.toks) keep
  have D : ZipApart (s1.heap.objs.size + 4) (s1.heap.objs.size + 2) (s1.heap.objs.size + 3) s1.heap.objs.size (s1.heap.objs.size + 1) a b := apart_newL la lb
  have push : ∀ c o, h'.get? c = some o → (h'.push { cls := .type "list", data := .seq #[] }).get? c = some o := fun c o e => Heap.get?_push_of_some _ e
  have I3 : Inv X pins σ (upd H1 h'.objs.size (.lst [])) { s1 with heap := h'.push { cls := .type "list", data := .seq #[] } } :=
    I2.laid (t' := s1.toks) push (Nat.le_refl _) ⟨Nat.zero_le _, [], 0, .nil, Heap.get?_push_size _ rfl⟩
  have hS0 : H1 h'.objs.size = none := I2.hok.fresh (Nat.le_refl _)
  refine callType_codes (Q₁ := fun v t => v = .ref h'.objs.size ∧ t = { s1 with heap := h'.push { cls := .type "list", data := .seq #[] } }) F.called_list rfl F.entry_list_init (code_list_new _ ⟨rfl, rfl⟩) ?_
  rintro obj t ⟨rfl, rfl⟩
  refine ⟨⟨_, Heap.get?_push_size _ rfl, rfl⟩, ?_, ?_⟩
  · exact F.args_list_init_2 _ _
  have nS : h'.objs.size ≠ s1.heap.objs.size + 4 := by rw [hsz]; omega
  have zt : ∀ {h3 : Heap}, (∀ c o, c ≠ h'.objs.size → h'.get? c = some o → h3.get? c = some o) → IsZip h3 (s1.heap.objs.size + 4) (s1.heap.objs.size + 2) (s1.heap.objs.size + 3) .none := fun k => k _ _ nS.symm hz1
  show wpAny (model X.prog X.w) _ (do
    let old ← Builtin.List.listItems (.ref h'.objs.size)
    Builtin.List.listUpdate (.ref h'.objs.size) fun _ => #[]
    letGo old.toList.reverse
    Builtin.List.listExtendWith (.ref h'.objs.size) (.ref (s1.heap.objs.size + 4)) .none) _ _ _
  refine wpAny_bind (PyProof.Rows.listItems_at (Heap.get?_push_size _ rfl) rfl ?_)
  refine wpAny_bind (PyProof.Rows.listUpdate_at (Heap.get?_push_size _ rfl) rfl ?_)
  refine wpAny_bind (wpAny_letGo ?_)
  have I4 := I3.lset (t' := s1.toks) (its := []) (its' := []) (f := fun _ => #[]) (ys := []) upd_same (Heap.get?_push_size _ rfl) rfl .nil (Nat.zero_le _)
  rw [upd_twice] at I4
  have k4 : ∀ c o, c ≠ h'.objs.size → h'.get? c = some o → ((h'.push { cls := .type "list", data := .seq #[] }).update h'.objs.size (Obj.mapSeq fun _ => #[])).get? c = some o := fun c o n e => by
    rw [Heap.get?_update_ne _ _ _ _ n]
    exact push c o e
  generalize (h'.push { cls := .type "list", data := .seq #[] }).update h'.objs.size (Obj.mapSeq fun _ => #[]) = h4 at *
  obtain ⟨_, its4, n4, rv4, hS4⟩ := I4.hok _ _ (upd_same (H := H1) (a := h'.objs.size) (o := .lst []))
  cases rv4
  have hS4 : h4.get? h'.objs.size = some { cls := .type "list", data := .seq #[] n4 } := hS4
  unfold Builtin.List.listExtendWith
  refine wpAny_bind (wpAny_typeOf (T := "zip") ⟨_, zt k4, rfl⟩ ?_)
  rw [if_neg (by simp [Builtin.List.listSameRef, nS])]
  refine wpAny_bind (wpAny_pyIter_zip (zt k4) ?_)
  refine wpAny_bind (wpAny_holding (hint_zip ⟨_, zt k4, rfl⟩ ?_))
  dsimp only
  rw [if_pos (by simp)]
  refine wpAny_bind (wpAny_rule (wpAny_bind ?_))
  have I5 := I4.lset (t' := s1.toks) (its := []) (its' := [.none]) (f := fun x => x.push .none) (ys := [.non]) upd_same hS4 rfl (.cons (show L2.RelV V.non Value.none from rfl) .nil) (by decide)
  rw [upd_twice] at I5
  have g5 := PyProof.Rows.get?_update_seq hS4 (fun x => x.push .none)
  have k5 : ∀ c o, c ≠ h'.objs.size → h'.get? c = some o → (h4.update h'.objs.size (Obj.mapSeq fun x => x.push .none)).get? c = some o := fun c o n e => by
    rw [Heap.get?_update_ne _ _ _ _ n]
    exact k4 c o n e
  show wpAny (model X.prog X.w) _ (do
    Builtin.List.listUpdate (.ref h'.objs.size) fun x => x.push .none
    Builtin.List.listUpdate (.ref h'.objs.size) fun x => x.pop) _ _ _
  refine wpAny_bind (PyProof.Rows.listUpdate_at hS4 rfl ?_)
  generalize h4.update h'.objs.size (Obj.mapSeq fun x => x.push .none) = h5 at *
  have I6 := I5.lset (t' := s1.toks) (its := [.none]) (its' := []) (f := fun x => x.pop) (ys := []) upd_same g5 rfl .nil (by decide)
  rw [upd_twice] at I6
  have k6 : ∀ c o, c ≠ h'.objs.size → h'.get? c = some o → (h5.update h'.objs.size (Obj.mapSeq fun x => x.pop)).get? c = some o := fun c o n e => by
    rw [Heap.get?_update_ne _ _ _ _ n]
    exact k5 c o n e
  refine PyProof.Rows.listUpdate_at g5 rfl ?_
  generalize h5.update h'.objs.size (Obj.mapSeq fun x => x.pop) = h6 at *
  have big : ∀ i : Nat, i < 5 → h'.objs.size ≠ s1.heap.objs.size + i := fun i hi => by rw [hsz]; omega
  have na : h'.objs.size ≠ a := Nat.ne_of_gt (Nat.lt_of_lt_of_le la le)
  have nb : h'.objs.size ≠ b := Nat.ne_of_gt (Nat.lt_of_lt_of_le lb le)
  refine wpAny_pure ⟨quiet_extend _ _, zip_loop (A := X.A.in1) (I.ok.hd hc) D hlen hz ⟨big 4 (by omega), big 2 (by omega), big 3 (by omega), big 0 (by omega), big 1 (by omega), na, nb⟩ (H0 := H1) (fun s' ts' H' I' keep' new' kS' kt' => ⟨rfl, .ref h'.objs.size, H', I', rfl, q _ ts' H' (fun c o e => keep' c o (fun z => by rw [z, hS0] at e; cases e) e) hS0 (fun t ht => (new' t ht).1) kS' kt'⟩) xs.length 0 _ _ [] (by omega) I6 (fun c o n e => by rw [upd_ne n]; exact e) (fun t ht => by cases ht) (by rw [upd_ne na.symm]; exact hka) (by rw [upd_ne nb.symm]; exact hkb) upd_same .nil ⟨.inl ⟨zt k6, _, _, k6 _ _ (big 3 (by omega)).symm hTO⟩, k6 _ _ (big 2 (by omega)).symm hTI, ⟨_, k6 _ _ (big 0 (by omega)).symm g1, rfl, rfl⟩, ⟨_, k6 _ _ (big 1 (by omega)).symm g2, rfl, rfl⟩, _, k6 _ _ (big 3 (by omega)).symm hTO⟩ (fun c hc => ?_)⟩
  have hle : s1.heap.objs.size ≤ c ∧ h'.objs.size ≠ c := by
    simp only [List.mem_cons, List.not_mem_nil, or_false] at hc
    rcases hc with rfl | rfl | rfl | rfl
    · exact ⟨Nat.le_add_right _ _, big 4 (by omega)⟩
    · exact ⟨Nat.le_add_right _ _, big 3 (by omega)⟩
    · exact ⟨Nat.le_refl _, big 0 (by omega)⟩
    · exact ⟨Nat.le_add_right _ _, big 1 (by omega)⟩
  exact I1.fpOk hle.1 (by rw [upd_ne hle.2.symm]; exact I1.hok.fresh hle.1)
end

def tDGetNF (P : Program) (w : World) (td ty : TE) : TE := fun σ H Q => td σ H fun x H1 => ty σ H1 fun y H2 => ∃ (a b : Addr) (xs : List NRow) (k : NestedKey) (v : V), x = .ref a ∧ y = .ref b ∧ Rd H2 a (DictN P w a xs) ∧ RowsN H2 xs ∧ NK H2 k (.ref b) ∧ k.depth ≤ 8 ∧ atN xs k = some v ∧ Q v H2
section
variable {X : Cx} {pins : List (Addr × Obj)} {σ : L2.St} {H : Hp} {s : Shared} {a : Addr} {xs : List NRow}
theorem dictN_ofR (I : Inv X pins σ H s) (h : Rd H a (DictN X.prog X.w a xs)) (hk : RowsN H xs) : (a == sysModules) = false ∧ ∃ us : List (NestedKey × Addr × Value), Paired (fun (p : NRow) (q : NestedKey × Addr × Value) => p.1 = q.1 ∧ p.2.1 = q.2.1 ∧ RelV p.2.2 q.2.2) xs us ∧ s.heap.DictOfH (nestedKind X.prog X.w) a us := by
  obtain ⟨⟨h1, h2, us, h3, o, es, ep, e1, e2, e3, e4, e5⟩, _, _⟩ := h.ok I.hok
  refine ⟨h1, us, h3, o, es, ep, e1, e2, e3, e4, fun u hu => ?_, e5⟩
  have : ∀ (xs : List NRow) (us : List (NestedKey × Addr × Value)), Paired (fun (p : NRow) (q : NestedKey × Addr × Value) => p.1 = q.1 ∧ p.2.1 = q.2.1 ∧ RelV p.2.2 q.2.2) xs us → RowsN H xs → ∀ u ∈ us, (nestedKind X.prog X.w).is s.heap u.1 u.2.1 := by
    intro xs us p
    induction p with
    | nil => intro _ u hu; cases hu
    | cons r t ih =>
      intro hk u hu
      rcases List.mem_cons.mp hu with rfl | hu
      · obtain ⟨n1, n2⟩ := hk _ List.mem_cons_self
        refine ⟨?_, ?_⟩
        · rw [← r.1, ← r.2.1]
          exact NK.is I n1 rfl
        · rw [← r.1]
          exact n2
      · exact ih (fun x hx => hk x (List.mem_cons_of_mem _ hx)) u hu
  exact this _ _ h3 hk u hu
theorem pe_dgetNF {o i : PySem.Expr} {td ty : TE} {pos : Pos} (hu : X.A.units + 9 < cLine) (ho : PE X o td) (hi : PE X i ty) (hs : NoSl i) : PE X (.Subscript o i pos) (tDGetNF X.prog X.w td ty) := by
  refine ⟨fun pins s σ H Q I h => ?_⟩
  refine subD_of PySem.F.slot_dict_getitem.lookup hs (thn (ho.run pins s σ H _ I h) fun u s1 ⟨x, H1, I1, rx, q1⟩ => thn (hi.run pins s1 σ H1 _ I1 q1) fun iv s2 ⟨y, H2, I2, ry, a, b, xs, k, v, ex, ey, g, gr, gk, gd, ga, q2⟩ => ?_)
  subst ex ey
  cases rx
  cases ry
  obtain ⟨ha, us, hp, hm⟩ := dictN_ofR I2 g gr
  rcases atN_pairs (k := k) hp with ⟨v', uv, e1, e2, rv⟩ | ⟨e1, _⟩
  · have ev := Option.some.inj (e1.symm.trans ga)
    subst ev
    exact ⟨hm.typeIs, getItem_keyed (knd := nestedKind X.prog X.w) (show X.A.units + 1 + 8 < cLine by omega) ⟨NK.is I2 gk rfl, gd⟩ ⟨us, hm, rfl⟩ e2 ⟨_, H2, I2.tok _, rv, q2⟩⟩
  · rw [ga] at e1
    cases e1
end


def B60 (J : JD) (S : List Nat) (p : Nat) : List Nat := (stepsR J S (rowsTo J.n (J.few + J.turn))).map fun key => behF J key p
def FarAt (P : Program) (w : World) (H : Hp) (d : Addr) (ps : List (Nat × Nat)) (F : Nat × Nat → V) : Prop := ∃ xs, H d = some (DictN P w d xs) ∧ RowsN H xs ∧ RowsG pairN xs ps F
def sp__law_far (P : Program) (w : World) : Sp := fun vs H Q _ => ∃ (v : V) (J : JD) (r : Addr) (S : List Nat), vs = [v, .ref r] ∧ JAt P w H v J ∧ J.ok ∧ H r = some (.lst (S.map nI)) ∧ S.Pairwise (· < ·) ∧ (∀ s ∈ S, s < J.n) ∧ (∀ key ∈ stepsR J S (rowsTo J.n (J.few + J.turn)), ∀ p ∈ S, behF J key p ∈ S) ∧
  ∀ d H', Same H H' → H d = none → FarAt P w H' d (pairsF S) (fun e => optV (farF (goodB J) (B60 J S) J.n e.1 e.2)) → Q (.ref d) H'
def farM (J : JD) (S : List Nat) (k : Nat) (done : List (Nat × Nat)) (e : Nat × Nat) : V := if e ∈ done then optV (farF (goodB J) (B60 J S) (k + 1) e.1 e.2) else optV (farF (goodB J) (B60 J S) k e.1 e.2)
theorem farF_same {good : Nat → Bool} {B : Nat → List Nat} {k p q : Nat} : farF good B (k + 1) p q = some k ↔ farF good B k p q = some k := by
  constructor
  · intro h
    exact farF_back h
  · intro h
    exact farF_up (Nat.le_succ k) h
theorem farM_eqV {J : JD} {S : List Nat} {k : Nat} {done : List (Nat × Nat)} (e : Nat × Nat) : eqV (farM J S k done e) (nI k) = (farF (goodB J) (B60 J S) k e.1 e.2 == some k) := by
  have key : ∀ o : Option Nat, eqV (optV o) (nI k) = (o == some k) := fun o => by
    cases o with
    | none => rfl
    | some l =>
      show ((l : Int) == (k : Int)) = (some l == some k)
      rw [Bool.eq_iff_iff, beq_iff_eq, beq_iff_eq, Option.some.injEq]
      exact ⟨fun h => by omega, fun h => by omega⟩
  unfold farM
  split
  · rw [key]
    rw [Bool.eq_iff_iff, beq_iff_eq, beq_iff_eq]
    exact farF_same
  · exact key _
section
variable {P : Program} {w : World} {K : PySem.W.Frag} {mg : Str → Option Value} {base : Heap}
theorem ok__law_far (T : Txt K mg) : FnOk P w K mg base CX0 3 T.f__law_far T.d__law_far ["judge", "coming"] (sp__law_far P w) := by
  have G__law_steps : FnOk P w K mg base CX0 2 T.f__law_steps T.d__law_steps ["judge", "coming"] (sp__law_steps P w) := ok__law_steps T
  have G__law_more : FnOk P w K mg base CX0 2 T.f__law_more T.d__law_more ["judge", "row", "state"] (sp_more P w) := ok__law_more T
  refine T.F__law_far.ok sc__law_far (fun vs H Q E h => ?_) (fun cdv A outer s H vs Q E hr h => ?_)
  · obtain ⟨v, J, r, S, rfl, _⟩ := h
    rfl
  obtain ⟨v, J, r, S, rfl, hJ, hok, kr, hS, hSn, hcl, q⟩ := h
  refine ⟨_, (pss_cons (ps_set (i := 2) sc__law_far.nd rfl (Or.inl rfl) (pe_call G__law_steps (hr.mono (by omega)) (by rfl) T.m__law_steps T.F__law_steps.kp T.b__law_steps .nil pass0 (pa_cons (pv 0) (pa_cons (pv 1) pa_nil)))) (pss_cons (ps_set (i := 3) sc__law_far.nd rfl (Or.inl rfl) pe_dnewK) (pss_cons (ps_set (i := 4) sc__law_far.nd rfl (Or.inr rfl) pe_dnewN) (pss_cons (ps_for PassesOwn.never rfl (pi_list (pv 1)) (pg_name (i := 5) sc__law_far.nd rfl (Or.inl rfl)) (pss_cons (ps_dput (hu_of hr) (pv 3) (pv 5) (pe_lst pa_nil) rfl) (pss_cons (ps_for PassesOwn.never rfl (pi_list (pv 2)) (pg_tup rfl (pgs_cons (pg_name (i := 6) sc__law_far.nd rfl (Or.inl rfl)) (pgs_cons (pg_name (i := 7) sc__law_far.nd rfl (Or.inl rfl)) pgs_nil))) (pss_one (ps_expr (pe_bm PySem.F.plainAttrs_list PySem.F.slot_list_append PySem.F.type_list_append mt_append (pe_dget (hu_of hr) (pv 3) (pv 5) (fun _ _ => rfl)) (pa_cons (pe_dgetN (roomN hr) (pe_ix ix_tup (pv 0) pe_int (fun _ _ => rfl)) (pe_tup (pa_cons (pv 6) (pa_cons (pe_call G__law_more (hr.mono (by omega)) (by rfl) T.m__law_more T.F__law_more.kp T.b__law_more .nil pass0 (pa_cons (pv 0) (pa_cons (pv 7) (pa_cons (pv 5) pa_nil)))) pa_nil))) (fun _ _ => rfl)) pa_nil))))) (pss_one (ps_for PassesOwn.never rfl (pi_list (pv 1)) (pg_name (i := 8) sc__law_far.nd rfl (Or.inl rfl)) (pss_cons (ps_set (i := 9) sc__law_far.nd rfl (Or.inl rfl) (pe_cmpR op_ne (pe_cmpR op_in_seq (pv 5) (pe_ix ix_tup (pv 0) pe_int (fun _ _ => rfl)) (by rfl)) (pe_cmpR op_in_seq (pv 8) (pe_ix ix_tup (pv 0) pe_int (fun _ _ => rfl)) (by rfl)) (nomark _))) (pss_one (ps_dputN (roomN hr) (pv 4) (pe_tup (pa_cons (pv 5) (pa_cons (pv 8) pa_nil))) (pe_ix ix_list (pe_lst (pa_cons pe_non (pa_cons pe_int pa_nil))) (pe_callTy call_int1 (by rfl) T.z_int (by decide +kernel) (pa_cons (pv 9) pa_nil)) (fun _ _ => rfl)) rfl)))))))) (pss_cons (ps_for PassesOwn.never rfl (pi_range1 (by rfl) T.z_range (pa_cons (pe_ix ix_tup (pv 0) pe_int (fun _ _ => rfl)) pa_nil)) (pg_name (i := 10) sc__law_far.nd rfl (Or.inl rfl)) (pss_one (ps_for PassesOwn.never rfl (pi_list (pe_lock (pe_lc (own := [("pair", 11)]) (g := gName 11) (te := tVar 11) (tt := tTest (tOp _ (tDGetNF P w (tVar 4) (tVar 11)) (tC .non))) rfl sc__law_far.nd (pi_keysN (pv 4)) (blkOk_by (own := [("pair", 11)]) (N := ["judge", "coming", "steps", "behind", "far", "state", "letter", "row", "other", "parts", "level", "pair", "ends", "both"]) (sc := (defScope s__law_far)) (by decide +kernel)) (fun _ _ _ _ _ => (pg_name (i := 11) sc__law_far.nd rfl (Or.inl rfl))) (fun _ _ _ _ _ => pts_one (pt_cmpR op_isN (pe_dgetNF (roomN hr) (pv 4) (pv 11) (fun _ _ => rfl)) pe_non (nomark _))) (fun _ _ _ _ _ => (pv 11))))) (pg_name (i := 11) sc__law_far.nd rfl (Or.inl rfl)) (pss_cons (ps_set (i := 12) sc__law_far.nd rfl (Or.inl rfl) (pe_listZip rfl (by rfl) T.z_list (by rfl) T.z_zip (pa_cons (pe_dget (hu_of hr) (pv 3) (pe_ix ix_tup (pv 11) pe_int (fun _ _ => rfl)) (fun _ _ => rfl)) (pa_cons (pe_dget (hu_of hr) (pv 3) (pe_ix ix_tup (pv 11) pe_int (fun _ _ => rfl)) (fun _ _ => rfl)) pa_nil)))) (pss_one (ps_if (pt_cmpR op_in_seq (pv 10) (pe_lc (own := [("both", 13)]) (g := gName 13) (te := tDGetN P w (tVar 4) (tVar 13)) (tt := tYes) rfl sc__law_far.nd (pi_list (pv 12)) (blkOk_by (own := [("both", 13)]) (N := ["judge", "coming", "steps", "behind", "far", "state", "letter", "row", "other", "parts", "level", "pair", "ends", "both"]) (sc := (defScope s__law_far)) (by decide +kernel)) (fun _ _ _ _ _ => (pg_name (i := 13) sc__law_far.nd rfl (Or.inl rfl))) (fun _ _ _ _ _ => pts_nil) (fun _ _ _ _ _ => (pe_dgetN (roomN hr) (pv 4) (pv 13) (fun _ _ => rfl)))) (by rfl)) (pss_one (ps_dputN (roomN hr) (pv 4) (pv 11) (pe_op op_add (pv 10) pe_int) rfl)) pss_nil)))))) (pss_one (ps_ret (pv 4)))))))), ?_⟩
  refine ⟨_, rfl, _, rfl, v, J, r, S, rfl, hJ, hok, kr, fun qs bs H1 s1 qs0 kqs hks => ?_⟩
  have hJ0 := hJ
  obtain ⟨j, dj, g, xs, keys, rfl, hj, hdj, hrn, hrj, hper, hg⟩ := hJ
  have n1 := hok.n1
  have n6 := hok.n6
  have f4 := hok.f4
  have t1 := hok.t1
  have t4 := hok.t4
  have lS := rise_few S 0 J.n hS fun p hp => ⟨Nat.zero_le _, hSn p hp⟩
  have lst : (stepsR J S (rowsTo J.n (J.few + J.turn))).length ≤ 600 := by
    have := steps_len hok S (rowsTo J.n (J.few + J.turn)).length
    rwa [List.take_length] at this
  intro db hdb df hdf
  have hdb0 := s1.free hdb
  have ndd : df ≠ db := fun e => by rw [e, upd_same] at hdf; cases hdf
  have hdf1 : H1 df = none := by rw [upd_ne ndd] at hdf; exact hdf
  have hdf0 := s1.free hdf1
  have nqb : qs ≠ db := fun e => by rw [e, hdb] at kqs; cases kqs
  have nqf : qs ≠ df := fun e => by rw [e, hdf1] at kqs; cases kqs
  have s3 : Same H1 (upd (upd H1 db (.dK [])) df (DictN P w df [])) := (same_new hdb).trans (same_new hdf)
  have k3b : (upd (upd H1 db (.dK [])) df (DictN P w df [])) db = some (.dK []) := by rw [upd_ne ndd.symm, upd_same]
  have k3f : (upd (upd H1 db (.dK [])) df (DictN P w df [])) df = some (DictN P w df []) := upd_same
  have S3 := s1.trans s3
  refine ⟨_, rfl, r, rfl, ⟨_, SqL.of (S3 _ _ kr)⟩, for_list (xs := S.map nI) (fun i σ H' => ∃ (f : Nat → V) (y5 y6 y7 y8 y9 : Option V), σ = [some (.ref j), some (.ref r), some (.ref qs), some (.ref db), some (.ref df), y5, y6, y7, y8, y9, none, none, none, none] ∧ H' db = some (.dK (kvG f (S.take i))) ∧
      (∀ p ∈ S.take i, ∃ b, f p = .ref b ∧ H b = none ∧ b ≠ db ∧ b ≠ df ∧ H' b = some (.lst ((B60 J S p).map nI))) ∧ FarAt P w H' df ((S.take i).flatMap fun p => S.map fun q => (p, q)) (fun e => optV (farF (goodB J) (B60 J S) 0 e.1 e.2)) ∧ Same H H' ∧ H' qs = some (.lst (bs.map V.ref)) ∧ KeysAt H' bs (stepsR J S (rowsTo J.n (J.few + J.turn)))) ⟨fun _ => .non, _, _, _, _, _, rfl, k3b, (fun p hp => by rw [List.take_zero] at hp; cases hp), ⟨[], k3f, (fun x hx => by cases hx), .nil⟩, S3, s3 _ _ kqs, Paired.mapP hks fun b key ⟨a, e1, e2⟩ => ⟨a, s3 _ _ e1, s3 _ _ e2⟩⟩ (fun i σ H' _ ⟨_, _, _, _, _, _, _, _, _, _, s, _⟩ => SqL.of (s _ _ kr)) ?_ ?_⟩
  · rintro i x σ H4 hx ⟨f, y5, y6, y7, y8, y9, rfl, e1, e2, ⟨fx, e3, e4, e5⟩, e6, e7, e8⟩
    rw [List.getElem?_map] at hx
    cases hz : S[i]? with
    | none => rw [hz] at hx; cases hx
    | some z =>
    rw [hz] at hx
    cases hx
    have zm := List.mem_of_getElem? hz
    have zn := hSn z zm
    have new := rise_new hS hz
    refine ⟨(by show 0 ≤ sizeLine; decide), fun e he => ⟨_, rfl, _, rfl, ?_⟩⟩
    have lS6 : (S.take i).length ≤ 6 := by rw [List.length_take]; omega
    have sle := same_new he (o := .lst [])
    have e0 := (e6.free he)
    have neb : e ≠ db := fun z => by rw [z, e1] at he; cases he
    have nef : e ≠ df := fun z => by rw [z, e3] at he; cases he
    have neq : e ≠ qs := fun z => by rw [z, e7] at he; cases he
    refine ⟨db, _, rfl, .inl ⟨kvG f (S.take i), Sum.inl (z : Int), sle _ _ e1, rfl, ?_, rfl⟩, ?_⟩
    · unfold kvG
      rw [List.length_map]
      exact Nat.lt_of_le_of_lt (show _ ≤ 1000000 by omega) (by decide)
    rw [kvG_put _ new]
    have kk : ∀ b o, b ≠ db → H4 b = some o → (upd (upd H4 e (.lst [])) db (.dK (kvG (fun q => if q = z then V.ref e else f q) (S.take i ++ [z])))) b = some o := fun b o n h => by
      rw [upd_ne n]
      exact sle _ _ h
    have k5e : (upd (upd H4 e (.lst [])) db (.dK (kvG (fun q => if q = z then V.ref e else f q) (S.take i ++ [z])))) e = some (.lst []) := by rw [upd_ne neb, upd_same]
    have k5b : (upd (upd H4 e (.lst [])) db (.dK (kvG (fun q => if q = z then V.ref e else f q) (S.take i ++ [z])))) db = some (.dK (kvG (fun q => if q = z then V.ref e else f q) (S.take i ++ [z]))) := upd_same
    have S5 : Same H (upd (upd H4 e (.lst [])) db (.dK (kvG (fun q => if q = z then V.ref e else f q) (S.take i ++ [z])))) := same_add (e6.trans sle) hdb0
    generalize upd (upd H4 e (.lst [])) db (.dK (kvG (fun q => if q = z then V.ref e else f q) (S.take i ++ [z]))) = H5 at *
    have kkt : ∀ b ys, H4 b = some (.tup ys) → H5 b = some (.tup ys) := fun b ys h => kk b _ (fun n => by rw [n, e1] at h; cases h) h
    have k5q := kk _ _ nqb e7
    have a0 := k5e
    have k5k : KeysAt H5 bs (stepsR J S (rowsTo J.n (J.few + J.turn))) := Paired.mapP e8 fun b key ⟨a, h1, h2⟩ => ⟨a, kkt _ _ h1, kkt _ _ h2⟩
    have lb := Paired.length k5k
    have hval : valV (kvG (fun q => if q = z then V.ref e else f q) (S.take i ++ [z])) (Sum.inl (z : Int)) = some (.ref e) := by
      rw [kvG_val, if_pos (List.mem_append_right _ (List.mem_singleton.mpr rfl)), if_pos rfl]
    refine ⟨_, rfl, qs, rfl, ⟨_, SqL.of k5q⟩, for_list (xs := bs.map V.ref) (fun m σ H' => ∃ (y6 y7 : Option V), σ = [some (.ref j), some (.ref r), some (.ref qs), some (.ref db), some (.ref df), some (nI z), y6, y7, y8, y9, none, none, none, none] ∧ H' e = some (.lst ((((stepsR J S (rowsTo J.n (J.few + J.turn))).take m).map fun key => behF J key z).map nI)) ∧ Fr e H5 H') ⟨_, _, rfl, k5e, Fr.refl _ _⟩ (fun m σ H' _ ⟨_, _, _, _, fr⟩ => SqL.of (fr _ _ neq.symm k5q)) ?_ ?_⟩
    · rintro m x σ H6 hx ⟨y6, y7, rfl, a1, a2⟩
      rw [List.getElem?_map] at hx
      cases hb : bs[m]? with
      | none => rw [hb] at hx; cases hx
      | some b =>
      rw [hb] at hx
      cases hx
      obtain ⟨key, hkey, a, kb, ka⟩ := prd_at k5k hb
      have ft : ∀ b ys, H5 b = some (.tup ys) → H6 b = some (.tup ys) := fun b ys h => a2 b _ (fun n => by rw [n, k5e] at h; cases h) h
      refine ⟨b, _, rfl, SqT.of (ft _ _ kb), rfl, _, _, rfl, _, _, rfl, rfl, ?_⟩
      refine ⟨_, rfl, _, rfl, db, .ref e, rfl, .inl ⟨_, Sum.inl (z : Int), .inl (a2 _ _ neb.symm k5b), rfl, hval.symm⟩, ?_⟩
      have SE : Same H H6 := fun b o h => a2 b o (fun n => by rw [n, e0] at h; cases h) (S5 _ _ h)
      have hm := steps_key (List.mem_of_getElem? hkey)
      obtain ⟨hc, hlen, hkk⟩ := keysOf_mem hm
      have hm2 : (key.1, moreR J.few J.turn key.2 z) ∈ J.keys := keysOf_all hc (by rw [moreR_len (by rw [hlen]; exact zn), hlen]) (moreR_lt hok.t1 hkk)
      have hat := atN_rows hrj (hper.mem_iff.mpr hm2)
      refine ⟨.inl ⟨rfl, _, SqL.of a1⟩, ?_⟩
      refine ⟨_, rfl, j, _, 4, .ref dj, rfl, rfl, SqT.of (SE _ _ hj), atI_nat (j := 4) rfl, _, rfl, _, rfl, _, rfl, _, rfl, _, J, a, key.2, z, rfl, hJ0.same SE, hok, ft _ _ ka, by rw [hlen]; exact zn, by rw [hlen]; exact n6, fun b2 H7 s7 k7 => ⟨(by show 2 ≤ sizeLine; decide), fun t ht => ?_⟩⟩
      have st := same_new ht (o := .tup [.str (ch key.1), V.ref b2])
      have kt := upd_same (H := H7) (a := t) (o := .tup [.str (ch key.1), V.ref b2])
      have S67 := s7.trans st
      refine ⟨dj, t, xs, keyN key.1 (moreR J.few J.turn key.2 z), _, rfl, rfl, S67 _ _ (SE _ _ hdj), hrn.keep fun b ys h => S67 _ _ (SE _ _ h), nk_key kt (st _ _ k7), keyN_depth _ _, hat, e, _, _, rfl, rfl, S67 _ _ a1, ?_, _, _, rfl, ?_, fun b o n h => by rw [upd_ne n]; exact S67 _ _ (a2 b o n h)⟩
      · rw [List.length_map, List.length_map, List.length_take]
        exact Nat.lt_of_le_of_lt (show _ ≤ 1000000 by omega) (by decide)
      · rw [upd_same, take_succ_of hkey, List.map_append, List.map_append]
        rfl
    · rintro σ H6 ⟨y6, y7, rfl, a1, a2⟩
      rw [List.length_map, lb, List.take_length] at a1
      have SE : Same H H6 := fun b o h => a2 b o (fun n => by rw [n, e0] at h; cases h) (S5 _ _ h)
      have k6b := a2 _ _ neb.symm k5b
      have k5f : H5 df = some (DictN P w df fx) := kk _ _ ndd e3
      have k6f : H6 df = some (DictN P w df fx) := a2 _ _ nef.symm k5f
      have t6 : ∀ b ys, H5 b = some (.tup ys) → H6 b = some (.tup ys) := fun b ys h => a2 b _ (fun n => by rw [n, a0] at h; cases h) h
      have r6 : RowsN H6 fx := e4.keep fun b ys h => t6 b _ (kkt _ _ h)
      have lP : ((S.take i).flatMap fun p => S.map fun q => (p, q)).length ≤ 36 := by
        have : ∀ l : List Nat, (l.flatMap fun p => S.map fun q => (p, q)).length = l.length * S.length := fun l => by
          induction l with
          | nil => simp
          | cons a t ih => rw [List.flatMap_cons, List.length_append, List.length_map, ih, List.length_cons, Nat.succ_mul, Nat.add_comm]
        rw [this]
        exact Nat.mul_le_mul lS6 (show S.length ≤ 6 by omega)
      refine ⟨_, rfl, r, rfl, ⟨_, SqL.of (SE _ _ kr)⟩, for_list (xs := S.map nI) (fun l σ H' => ∃ (y8 y9 : Option V), σ = [some (.ref j), some (.ref r), some (.ref qs), some (.ref db), some (.ref df), some (nI z), y6, y7, y8, y9, none, none, none, none] ∧ FarAt P w H' df (((S.take i).flatMap fun p => S.map fun q => (p, q)) ++ (S.take l).map fun q => (z, q)) (fun e => optV (farF (goodB J) (B60 J S) 0 e.1 e.2)) ∧ Fr df H6 H') ⟨_, _, rfl, ⟨fx, k6f, r6, by rw [List.take_zero, List.map_nil, List.append_nil]; exact e5⟩, Fr.refl _ _⟩ (fun l σ H' _ ⟨_, _, _, _, fr⟩ => SqL.of (fr _ _ (fun n => by rw [n, hdf0] at kr; cases kr) (SE _ _ kr))) ?_ ?_⟩
      · rintro l x σ H7 hx ⟨y8, y9, rfl, ⟨gx, b1, b2, b3⟩, b4⟩
        rw [List.getElem?_map] at hx
        cases ht : S[l]? with
        | none => rw [ht] at hx; cases hx
        | some t =>
        rw [ht] at hx
        cases hx
        have S7 : Same H H7 := fun b o h => b4 b o (fun n => by rw [n, hdf0] at h; cases h) (SE _ _ h)
        refine ⟨_, rfl, _, rfl, j, _, 5, .ref g, rfl, rfl, SqT.of (S7 _ _ hj), atI_nat (j := 5) rfl, g, _, rfl, .inl (SqL.of (S7 _ _ hg)), rfl, flat_nI _, ?_⟩
        rw [if_neg (by decide), inV_nI]
        refine ⟨_, rfl, _, rfl, j, _, 5, .ref g, rfl, rfl, SqT.of (S7 _ _ hj), atI_nat (j := 5) rfl, g, _, rfl, .inl (SqL.of (S7 _ _ hg)), rfl, flat_nI _, ?_⟩
        rw [if_neg (by decide), inV_nI]
        refine ⟨rfl, ?_⟩
        refine ⟨(by show 2 ≤ sizeLine; decide), fun dl hdl => ?_⟩
        have sdl := same_new hdl (o := .lst [V.non, V.int 0])
        have kdl := upd_same (H := H7) (a := dl) (o := .lst [V.non, V.int 0])
        refine ⟨_, rfl, .inr ⟨_, rfl, ?_⟩⟩
        have ev : atI [V.non, V.int 0] (if (!decide (V.bl (decide (z ∈ J.good)) = V.bl (decide (t ∈ J.good)))) = true then 1 else 0) = some (optV (farF (goodB J) (B60 J S) 0 z t)) := by
          unfold farF goodB
          by_cases h1 : z ∈ J.good <;> by_cases h2 : t ∈ J.good <;> simp [h1, h2] <;> rfl
        refine ⟨dl, _, _, _, rfl, rfl, SqL.of kdl, ev, _, rfl, _, rfl, _, rfl, (by show 2 ≤ sizeLine; decide), fun tp htp => ?_⟩
        have stp := same_new htp (o := .tup [nI z, nI t])
        have ktp := upd_same (H := upd H7 dl (.lst [V.non, V.int 0])) (a := tp) (o := .tup [nI z, nI t])
        have S78 := sdl.trans stp
        have key : (z, t) ∉ ((S.take i).flatMap fun p => S.map fun q => (p, q)) ++ (S.take l).map fun q => (z, q) := fun h => by
          rcases List.mem_append.mp h with h | h
          · obtain ⟨p, hp, h⟩ := List.mem_flatMap.mp h
            obtain ⟨q, _, h⟩ := List.mem_map.mp h
            injection h with h1 h2
            rw [h1] at hp
            exact new hp
          · obtain ⟨q, hq, h⟩ := List.mem_map.mp h
            injection h with h1 h2
            rw [h2] at hq
            exact rise_new hS ht hq
        have lg := Paired.length b3
        rw [List.length_append, List.length_map, List.length_take] at lg
        refine ⟨df, tp, gx, pairN (z, t), rfl, rfl, S78 _ _ b1, b2.keep fun b ys h => S78 _ _ h, nk_pair ktp, pairN_depth _, Nat.lt_of_le_of_lt (show _ ≤ 1000000 by omega) (by decide), _, _, rfl, ⟨_, upd_same, ?_, ?_⟩, fun b o n h => by rw [upd_ne n]; exact S78 _ _ (b4 b o n h)⟩
        · have rn : RowsN (upd (upd H7 dl (.lst [V.non, V.int 0])) tp (.tup [nI z, nI t])) gx := b2.keep fun b ys h => S78 _ _ h
          exact (rn.stored (nk_pair ktp) (pairN_depth (z, t))).keep fun b ys h => by
            rw [upd_ne fun n => by rw [n, S78 _ _ b1] at h; unfold DictN at h; cases h]
            exact h
        · rw [take_succ_of ht, List.map_append, ← List.append_assoc]
          exact (RowsG.new pairN_inj b3 key).congr fun k _ => by
            by_cases e : k = (z, t)
            · rw [if_pos e, e]
            · rw [if_neg e]
      · rintro σ H7 ⟨y8, y9, rfl, ⟨gx, b1, b2, b3⟩, b4⟩
        rw [List.length_map, List.take_length] at b3
        have S7 : Same H H7 := fun b o h => b4 b o (fun n => by rw [n, hdf0] at h; cases h) (SE _ _ h)
        refine ⟨fun q => if q = z then V.ref e else f q, _, _, _, _, _, rfl, ?_, fun p hp => ?_, ⟨gx, b1, b2, ?_⟩, S7, b4 _ _ nqf (a2 _ _ neq.symm k5q), Paired.mapP k5k fun b key ⟨a, h1, h2⟩ => ⟨a, b4 _ _ (fun n => by rw [n] at h1; rw [k5f] at h1; unfold DictN at h1; cases h1) (t6 _ _ h1), b4 _ _ (fun n => by rw [n] at h2; rw [k5f] at h2; unfold DictN at h2; cases h2) (t6 _ _ h2)⟩⟩
        · rw [take_succ_of hz]
          exact b4 _ _ ndd.symm k6b
        · rw [take_succ_of hz] at hp
          by_cases ep : p = z
          · subst ep
            exact ⟨e, if_pos rfl, e0, neb, nef, by rw [B60]; exact b4 _ _ nef a1⟩
          · rw [List.mem_append, List.mem_singleton] at hp
            obtain ⟨b, h1, h2, h3, h4, h5⟩ := e2 p (hp.resolve_right ep)
            have nbe : b ≠ e := fun n => by rw [n, he] at h5; cases h5
            exact ⟨b, by dsimp only; rw [if_neg ep]; exact h1, h2, h3, h4, b4 _ _ h4 (a2 _ _ nbe (kk _ _ h3 h5))⟩
        · rw [take_succ_of hz, List.flatMap_append]
          simpa using b3
  · rintro σ Hb ⟨f, y5, y6, y7, y8, y9, rfl, e1, e2, e3, e6, e7, e8⟩
    rw [List.length_map, List.take_length] at e1 e2 e3
    have val : ∀ p ∈ S, valV (kvG f S) (Sum.inl (p : Int)) = some (f p) := fun p hp => by rw [kvG_val, if_pos hp]
    have lP : (pairsF S).length ≤ 36 := by
      have : ∀ l : List Nat, (l.flatMap fun p => S.map fun q => (p, q)).length = l.length * S.length := fun l => by
        induction l with
        | nil => simp
        | cons a t ih => rw [List.flatMap_cons, List.length_append, List.length_map, ih, List.length_cons, Nat.succ_mul, Nat.add_comm]
      unfold pairsF
      rw [this]
      exact Nat.mul_le_mul (show S.length ≤ 6 by omega) (show S.length ≤ 6 by omega)
    have lB : ∀ p, (B60 J S p).length ≤ 600 := fun p => by unfold B60; rw [List.length_map]; exact lst
    refine ⟨_, rfl, j, _, 1, _, rfl, rfl, SqT.of (e6 _ _ hj), atI_nat (j := 1) rfl, J.n, rfl, by omega, by omega, ?_⟩
    refine for_range (lo := 0) (n := J.n) (fun k σ H' => ∃ (y10 y11 y12 : Option V), σ = [some (.ref j), some (.ref r), some (.ref qs), some (.ref db), some (.ref df), y5, y6, y7, y8, y9, y10, y11, y12, none] ∧ FarAt P w H' df (pairsF S) (fun e => optV (farF (goodB J) (B60 J S) k e.1 e.2)) ∧ Fr df Hb H') ⟨_, _, _, rfl, e3, Fr.refl _ _⟩ ?_ ?_
    · rintro k σ H4 hk ⟨y10, y11, y12, rfl, ⟨gx, a1, a2, a3⟩, a4⟩
      have lgx := Paired.length a3
      have SB : ∀ {H' : Hp}, Fr df Hb H' → Same H H' := fun fr b o h => fr b o (fun n => by rw [n, hdf0] at h; cases h) (e6 _ _ h)
      have k4b := a4 _ _ ndd.symm e1
      refine ⟨df, _, a1, trivial, fun od => ?_⟩
      refine ⟨_, rfl, df, od, gx, rfl, upd_same, fun D hD => ?_⟩
      have nDd : D ≠ df := fun e => by rw [e, upd_same] at hD; cases hD
      have hD0 : H4 D = none := by rw [upd_ne nDd] at hD; exact hD
      have ntup : ∀ (q : Addr) (ys : List V), H4 q = some (.tup ys) → q ≠ df := fun q ys e z => by rw [z, a1] at e; unfold DictN at e; cases e
      refine lc_walk (len := gx.length) walk_keysN (fun i H' => ∃ ps : List (Addr × (Nat × Nat)), H' D = some (.lst (ps.map fun p => V.ref p.1)) ∧ (∀ p ∈ ps, H4 p.1 = some (.tup [nI p.2.1, nI p.2.2])) ∧ ps.map (·.2) = ((pairsF S).take i).filter (fun e => farF (goodB J) (B60 J S) k e.1 e.2 == none) ∧ H' df = some (.frz od (DictN P w df gx)) ∧ FrD df H4 H') ⟨[], upd_same, (fun p hp => by cases hp), rfl, by rw [upd_ne nDd.symm, upd_same], fun b o ne e => by rw [upd_ne (fun z => by rw [z, hD0] at e; cases e), upd_ne ne]; exact e⟩ (fun i H' _ ⟨_, _, _, _, h, _⟩ => h) ?_ ?_
      · rintro i x H5 H6 hi ⟨ps, k0, k1, k2, k3, k4⟩ ⟨rfl, row, hrow, rfl⟩
        obtain ⟨e, he, h1, h2⟩ := prd_at a3 hrow
        obtain ⟨hn1, _⟩ := a2 row (List.mem_of_getElem? hrow)
        rw [h1] at hn1
        have kb := nk_pair_inv hn1
        have r6 : RowsN H6 gx := a2.keep fun b ys h => k4 _ _ (ntup _ _ h) h
        have kb6 := k4 _ _ (ntup _ _ kb) kb
        have lps : (ps.map fun p => V.ref p.1).length < sizeLine := by
          rw [List.length_map]
          have l1 := congrArg List.length k2
          have l2 := List.length_filter_le (fun e : Nat × Nat => farF (goodB J) (B60 J S) k e.1 e.2 == none) ((pairsF S).take i)
          rw [List.length_map] at l1
          rw [List.length_take] at l2
          exact Nat.lt_of_le_of_lt (show _ ≤ 1000000 by omega) (by decide)
        refine ⟨rfl, ?_⟩
        refine ⟨_, rfl, _, rfl, df, row.2.1, gx, pairN e, _, rfl, rfl, .inr ⟨od, k3⟩, r6, nk_pair kb6, pairN_depth e, RowsG.at pairN_inj a3 (List.mem_of_getElem? he), ?_⟩
        cases ho : farF (goodB J) (B60 J S) k e.1 e.2 with
        | some l =>
          refine ⟨rfl, _, rfl, iteF ⟨ps, k0, k1, ?_, k3, k4⟩⟩
          rw [take_succ_of he, List.filter_append, k2]
          simp [ho]
        | none =>
          refine ⟨rfl, _, rfl, iteT ⟨_, rfl, _, k0, lps, ps ++ [(row.2.1, e)], ?_, ?_, ?_, ?_, ?_⟩⟩
          · rw [upd_same, List.map_append]
            rfl
          · intro p hp
            rcases List.mem_append.mp hp with hp | hp
            · exact k1 p hp
            · rw [List.mem_singleton.mp hp]
              exact kb
          · rw [List.map_append, take_succ_of he, List.filter_append, k2]
            simp [ho]
          · rw [upd_ne nDd.symm]
            exact k3
          · intro b o n e
            rw [upd_ne fun z => by rw [z, hD0] at e; cases e]
            exact k4 b o n e
      · rintro H5 ⟨ps, k0, k1, k2, k3, k4⟩
        rw [lgx, List.take_length] at k2
        refine ⟨k3, ?_⟩
        have k5 : Same H4 (upd H5 df (DictN P w df gx)) := fun b o e => by
          by_cases hb : b = df
          · rw [hb, upd_same, ← e, hb]; exact a1.symm
          · rw [upd_ne hb]; exact k4 b o hb e
        have k5D : (upd H5 df (DictN P w df gx)) D = some (.lst (ps.map fun p => V.ref p.1)) := by rw [upd_ne nDd]; exact k0
        have k5f : (upd H5 df (DictN P w df gx)) df = some (DictN P w df gx) := upd_same
        generalize upd H5 df (DictN P w df gx) = H6 at *
        have us_mem : ∀ e, e ∈ ps.map (·.2) ↔ e ∈ pairsF S ∧ farF (goodB J) (B60 J S) k e.1 e.2 = none := fun e => by
          rw [k2, List.mem_filter, beq_iff_eq]
        have S6 : Same H H6 := (SB a4).trans k5
        have f6 : Fr df Hb H6 := a4.trans (Fr.same k5)
        refine ⟨D, rfl, ⟨_, SqL.of k5D⟩, for_list (xs := ps.map fun p => V.ref p.1) (fun m σ H' => ∃ (y11 y12 : Option V), σ = [some (.ref j), some (.ref r), some (.ref qs), some (.ref db), some (.ref df), y5, y6, y7, y8, y9, some (V.int (0 + (k : Int))), y11, y12, none] ∧ FarAt P w H' df (pairsF S) (farM J S k ((ps.map (·.2)).take m)) ∧ Fr df H6 H') ⟨_, _, rfl, ⟨gx, k5f, a2.keep fun b ys h => k5 _ _ h, a3.congr fun e _ => by simp [farM]⟩, Fr.refl _ _⟩ (fun m σ H' _ ⟨_, _, _, _, fr⟩ => SqL.of (fr _ _ nDd k5D)) ?_ ?_⟩
        · rintro m x σ H7 hx ⟨y11, y12, rfl, ⟨fx, c1, c2, c3⟩, c4⟩
          rw [List.getElem?_map] at hx
          cases hp : ps[m]? with
          | none => rw [hp] at hx; cases hx
          | some p =>
          rw [hp] at hx
          cases hx
          have pm := List.mem_of_getElem? hp
          obtain ⟨pS, p0⟩ := (us_mem p.2).mp (List.mem_map.mpr ⟨p, pm, rfl⟩)
          obtain ⟨aS, bS⟩ := pairsF_mem.mp pS
          have ndf : ∀ (q : Addr) (ys : List V), H6 q = some (.tup ys) → q ≠ df := fun q ys e z => by rw [z, k5f] at e; unfold DictN at e; cases e
          have kt := k5 _ _ (k1 p pm)
          have kt7 := c4 _ _ (ndf _ _ kt) kt
          have f7 : Fr df Hb H7 := f6.trans c4
          have S7 := SB f7
          have k7b := f7 _ _ ndd.symm e1
          obtain ⟨ba, ha1, ha2, ha3, ha4, ha5⟩ := e2 p.2.1 aS
          obtain ⟨bb, hb1, hb2, hb3, hb4, hb5⟩ := e2 p.2.2 bS
          have ha7 := f7 _ _ ha4 ha5
          have hb7 := f7 _ _ hb4 hb5
          have lfx := Paired.length c3
          refine ⟨_, rfl, _, rfl, p.1, _, 0, _, rfl, rfl, SqT.of kt7, atI_nat (j := 0) rfl, db, .ref ba, rfl, .inl ⟨_, Sum.inl (p.2.1 : Int), .inl k7b, rfl, by rw [val _ aS, ha1]⟩, ?_⟩
          refine ⟨_, rfl, _, rfl, p.1, _, 1, _, rfl, rfl, SqT.of kt7, atI_nat (j := 1) rfl, db, .ref bb, rfl, .inl ⟨_, Sum.inl (p.2.2 : Int), .inl k7b, rfl, by rw [val _ bS, hb1]⟩, ?_⟩
          refine ⟨ba, bb, _, _, rfl, ha7, hb7, by simp [B60], by rw [List.length_map]; exact Nat.le_trans (lB _) (by decide), fun rz ts H8 s8 rz0 ts0 krz kts => ?_⟩
          have k8f := s8 _ _ c1
          have c28 : RowsN H8 fx := c2.keep fun b ys h => s8 _ _ h
          have lts : ts.length ≤ 600 := by
            rw [Paired.length kts, List.length_zip, List.length_map, List.length_map]
            exact Nat.le_trans (Nat.min_le_left _ _) (lB _)
          have zmap : List.zip ((B60 J S p.2.1).map nI) ((B60 J S p.2.2).map nI) = (List.zip (B60 J S p.2.1) (B60 J S p.2.2)).map fun e => (nI e.1, nI e.2) := by
            rw [List.zip_map]
            rfl
          rw [zmap] at kts
          have inB : ∀ e ∈ List.zip (B60 J S p.2.1) (B60 J S p.2.2), e ∈ pairsF S := fun e he => by
            obtain ⟨h1, h2⟩ := List.of_mem_zip he
            obtain ⟨key1, hk1, g1⟩ := List.mem_map.mp h1
            obtain ⟨key2, hk2, g2⟩ := List.mem_map.mp h2
            exact pairsF_mem.mpr ⟨by rw [← g1]; exact hcl _ hk1 _ aS, by rw [← g2]; exact hcl _ hk2 _ bS⟩
          refine ⟨_, rfl, ?_⟩
          refine ⟨_, rfl, rz, rfl, ⟨_, SqL.of krz⟩, fun D2 hD2 => ?_⟩
          refine lc_list (xs := ts.map V.ref) (fun l H' => H' D2 = some (.lst (((List.zip (B60 J S p.2.1) (B60 J S p.2.2)).take l).map (farM J S k ((ps.map (·.2)).take m)))) ∧ Same H8 H') ⟨upd_same, same_new hD2⟩ (fun l H' _ ⟨_, s⟩ => SqL.of (s _ _ krz)) ?_ ?_
          · rintro l x H9 hx ⟨d1, d2⟩
            rw [List.getElem?_map] at hx
            cases ht : ts[l]? with
            | none => rw [ht] at hx; cases hx
            | some t =>
            rw [ht] at hx
            cases hx
            obtain ⟨ev, hev, ket⟩ := prd_at kts ht
            rw [List.getElem?_map] at hev
            cases hez : (List.zip (B60 J S p.2.1) (B60 J S p.2.2))[l]? with
            | none => rw [hez] at hev; cases hev
            | some e =>
            rw [hez] at hev
            cases hev
            refine ⟨rfl, _, rfl, _, rfl, df, t, fx, pairN e, _, rfl, rfl, d2 _ _ k8f, c28.keep fun b ys h => d2 _ _ h, nk_pair (d2 _ _ ket), pairN_depth e, RowsG.at pairN_inj c3 (inB e (List.mem_of_getElem? hez)), _, d1, ?_, ?_, same_add d2 hD2⟩
            · rw [List.length_map, List.length_take]
              have := (List.getElem?_eq_some_iff.mp ht).1
              exact Nat.lt_of_le_of_lt (show _ ≤ 1000000 by omega) (by decide)
            · rw [upd_same, take_succ_of hez, List.map_append]
              rfl
          rintro H9 ⟨d1, d2⟩
          have lzt : ts.length = (List.zip (B60 J S p.2.1) (B60 J S p.2.2)).length := by
            have := Paired.length kts
            rwa [List.length_map] at this
          rw [List.length_map, lzt, List.take_length] at d1
          have flatM : ∀ l : List (Nat × Nat), (l.map (farM J S k ((ps.map (·.2)).take m))).all flatV = true := fun l => by
            rw [List.all_map, List.all_eq_true]
            intro e _
            have : ∀ o : Option Nat, flatV (optV o) = true := fun o => by cases o <;> rfl
            show flatV (farM J S k _ e) = true
            unfold farM
            split <;> exact this _
          have hin : inV (V.int (0 + (k : Int))) ((List.zip (B60 J S p.2.1) (B60 J S p.2.2)).map (farM J S k ((ps.map (·.2)).take m))) = (List.zip (B60 J S p.2.1) (B60 J S p.2.2)).any fun e => farF (goodB J) (B60 J S) k e.1 e.2 == some k := by
            unfold inV
            rw [List.any_map]
            congr 1
            funext e
            rw [Int.zero_add]
            exact farM_eqV e
          have et : (ps.map (·.2)).take (m + 1) = (ps.map (·.2)).take m ++ [p.2] := take_succ_of (by rw [List.getElem?_map, hp]; rfl)
          refine ⟨D2, _, rfl, .inl (SqL.of d1), rfl, flatM _, ?_⟩
          rw [if_neg (by decide), hin]
          have S89 := s8.trans d2
          have k9f := S89 _ _ c1
          cases hany : (List.zip (B60 J S p.2.1) (B60 J S p.2.2)).any fun e => farF (goodB J) (B60 J S) k e.1 e.2 == some k with
          | false =>
            have fn : farF (goodB J) (B60 J S) (k + 1) p.2.1 p.2.2 = none := by
              unfold farF
              rw [p0]
              simp [hany]
            refine ⟨_, rfl, iteF ⟨_, _, rfl, ⟨fx, k9f, c2.keep fun b ys h => S89 _ _ h, c3.congr fun e _ => ?_⟩, c4.trans (Fr.same S89)⟩⟩
            rw [et]
            unfold farM
            by_cases h1 : e = p.2
            · subst h1
              rw [if_pos (List.mem_append_right _ (List.mem_singleton.mpr rfl)), fn, p0]
              split <;> rfl
            · have : e ∈ (ps.map (·.2)).take m ++ [p.2] ↔ e ∈ (ps.map (·.2)).take m := by
                rw [List.mem_append, List.mem_singleton]
                exact ⟨fun h => h.resolve_right h1, .inl⟩
              simp only [this]
          | true =>
            have fn : farF (goodB J) (B60 J S) (k + 1) p.2.1 p.2.2 = some (k + 1) := by
              unfold farF
              rw [p0]
              simp [hany]
            refine ⟨_, rfl, iteT ⟨_, rfl, _, _, rfl, rfl, _, rfl, _, rfl, df, p.1, fx, pairN p.2, rfl, rfl, k9f, c2.keep fun b ys h => S89 _ _ h, nk_pair (S89 _ _ kt7), pairN_depth _, Nat.lt_of_le_of_lt (show _ ≤ 1000000 by omega) (by decide), _, _, rfl, ⟨_, upd_same, ?_, ?_⟩, c4.trans fun b o n h => by rw [upd_ne n]; exact S89 _ _ h⟩⟩
            · have rn : RowsN H9 fx := c2.keep fun b ys h => S89 _ _ h
              exact (rn.stored (nk_pair (S89 _ _ kt7)) (pairN_depth p.2)).keep fun b ys h => by
                rw [upd_ne fun n => by rw [n, k9f] at h; unfold DictN at h; cases h]
                exact h
            · refine (RowsG.old pairN_inj c3 pS).congr fun e _ => ?_
              rw [et]
              unfold farM
              by_cases h1 : e = p.2
              · subst h1
                rw [if_pos rfl, if_pos (List.mem_append_right _ (List.mem_singleton.mpr rfl)), fn]
                show V.int (0 + (k : Int) + 1) = V.int ((k + 1 : Nat) : Int)
                rw [Int.zero_add]
                rfl
              · rw [if_neg h1]
                have : e ∈ (ps.map (·.2)).take m ++ [p.2] ↔ e ∈ (ps.map (·.2)).take m := by
                  rw [List.mem_append, List.mem_singleton]
                  exact ⟨fun h => h.resolve_right h1, .inl⟩
                simp only [this]
        · rintro σ H7 ⟨y11, y12, rfl, ⟨fx, c1, c2, c3⟩, c4⟩
          rw [List.length_map] at c3
          refine ⟨_, _, _, rfl, ⟨fx, c1, c2, c3.congr fun e he => ?_⟩, f6.trans c4⟩
          have ew : (ps.map (·.2)).take ps.length = ps.map (·.2) := List.take_of_length_le (by rw [List.length_map]; exact Nat.le_refl _)
          rw [ew]
          unfold farM
          by_cases h1 : e ∈ ps.map (·.2)
          · rw [if_pos h1]
          · rw [if_neg h1]
            cases ho : farF (goodB J) (B60 J S) k e.1 e.2 with
            | none => exact absurd ((us_mem e).mpr ⟨he, ho⟩) h1
            | some l => rw [farF_up (Nat.le_succ k) ho]
    · rintro σ H4 ⟨y10, y11, y12, rfl, a1, a2⟩
      exact ⟨_, rfl, q df H4 (fun b o h => a2 b o (fun n => by rw [n, hdf0] at h; cases h) (e6 _ _ h)) hdf0 a1⟩
end


def sp__law_groups (P : Program) (w : World) : Sp := fun vs H Q _ => ∃ (v : V) (J : JD) (r : Addr) (S : List Nat), vs = [v, .ref r] ∧ JAt P w H v J ∧ J.ok ∧ H r = some (.lst (S.map nI)) ∧ S.Pairwise (· < ·) ∧ (∀ s ∈ S, s < J.n) ∧ (∀ key ∈ stepsR J S (rowsTo J.n (J.few + J.turn)), ∀ p ∈ S, behF J key p ∈ S) ∧
  ∀ q gs H', Same H H' → H q = none → (∀ b ∈ gs, H b = none) → H' q = some (.lst (gs.map V.ref)) → GrpsAt H' gs (grp (RJ J (stepsR J S (rowsTo J.n (J.few + J.turn))) J.n) S) → Q (.ref q) H'
theorem far_rj {J : JD} {S : List Nat} {p q : Nat} : farF (goodB J) (B60 J S) J.n p q = none ↔ RJ J (stepsR J S (rowsTo J.n (J.few + J.turn))) J.n p q = true :=
  farF_rb (good := goodB J) (dl := behF J) (ks := stepsR J S (rowsTo J.n (J.few + J.turn))) J.n p q
section
variable {P : Program} {w : World} {K : PySem.W.Frag} {mg : Str → Option Value} {base : Heap}
theorem ok__law_groups (T : Txt K mg) : FnOk P w K mg base CX0 4 T.f__law_groups T.d__law_groups ["judge", "coming"] (sp__law_groups P w) := by
  have G__law_far : FnOk P w K mg base CX0 3 T.f__law_far T.d__law_far ["judge", "coming"] (sp__law_far P w) := ok__law_far T
  refine T.F__law_groups.ok sc__law_groups (fun vs H Q E h => ?_) (fun cdv A outer s H vs Q E hr h => ?_)
  · obtain ⟨v, J, r, S, rfl, _⟩ := h
    rfl
  obtain ⟨v, J, r, S, rfl, hJ, hok, kr, hS, hSn, hcl, q⟩ := h
  refine ⟨_, (pss_cons (ps_set (i := 2) sc__law_groups.nd rfl (Or.inr rfl) (pe_call G__law_far (hr.mono (by omega)) (by rfl) T.m__law_far T.F__law_far.kp T.b__law_far .nil pass0 (pa_cons (pv 0) (pa_cons (pv 1) pa_nil)))) (pss_cons (ps_set (i := 3) sc__law_groups.nd rfl (Or.inl rfl) (pe_lst pa_nil)) (pss_cons (ps_for PassesOwn.never rfl (pi_list (pv 1)) (pg_name (i := 4) sc__law_groups.nd rfl (Or.inr rfl)) (pss_cons (ps_setLc (i := 5) (own := [("row", 6)]) (g := gName 6) (te := tVar 6) (tt := tTest (tOp _ (tDGetN P w (tVar 2) (tTup (tCons (tOp (rIxL K) (tVar 6) (tC (.int 0))) (tCons (tVar 4) tNil)))) (tC .non))) rfl sc__law_groups.nd rfl rfl (sw_true rfl rfl rfl (by decide +kernel)) (pi_list (pv 3)) (blkOk_by (own := [("row", 6)]) (N := ["judge", "coming", "far", "found", "state", "some", "row"]) (sc := (defScope s__law_groups)) (by decide +kernel)) (fun _ _ _ _ _ => (pg_name (i := 6) sc__law_groups.nd rfl (Or.inl rfl))) (fun _ _ _ _ _ => pts_one (pt_cmpR op_isN (pe_dgetN (roomN hr) (pv 2) (pe_tup (pa_cons (pe_ix ix_list (pv 6) pe_int (fun _ _ => rfl)) (pa_cons (pv 4) pa_nil))) (fun _ _ => rfl)) pe_non (nomark _))) (fun _ _ _ _ _ => (pv 6))) (pss_one (ps_if (pt_cmpR (op_eqD hr.units) (pv 5) (pe_lst pa_nil) (nomark _)) (pss_one (ps_expr (pe_bm PySem.F.plainAttrs_list PySem.F.slot_list_append PySem.F.type_list_append mt_append (pv 3) (pa_cons (pe_lst (pa_cons (pv 4) pa_nil)) pa_nil)))) (pss_one (ps_expr (pe_bm PySem.F.plainAttrs_list PySem.F.slot_list_append PySem.F.type_list_append mt_append (pe_ix ix_list (pv 5) pe_int (fun _ _ => rfl)) (pa_cons (pv 4) pa_nil)))))))) (pss_one (ps_ret (pv 3)))))), ?_⟩
  have n6 := hok.n6
  have lS := rise_few S 0 J.n hS fun p hp => ⟨Nat.zero_le _, hSn p hp⟩
  have E60 : Eqv (RJ J (stepsR J S (rowsTo J.n (J.few + J.turn))) J.n) := rb_eqv J.n
  refine ⟨_, rfl, _, rfl, v, J, r, S, rfl, hJ, hok, kr, hS, hSn, hcl, fun d H1 s1 d0 ⟨fx, b1, b2, b3⟩ => ?_⟩
  generalize hR : RJ J (stepsR J S (rowsTo J.n (J.few + J.turn))) J.n = R at *
  refine ⟨(by show 0 ≤ sizeLine; decide), fun fo hfo => ?_⟩
  have sfo := same_new hfo (o := .lst [])
  have S1 := s1.trans sfo
  have hfo0 := s1.free hfo
  have nfd : fo ≠ d := fun e => by rw [e, b1] at hfo; cases hfo
  refine ⟨_, rfl, r, rfl, ⟨_, SqL.of (S1 _ _ kr)⟩, for_list (xs := S.map nI) (fun i σ H' => ∃ (ps : List (Addr × Nat)) (y4 y5 : Option V), σ = [some v, some (.ref r), some (.ref d), some (.ref fo), y4, y5, none] ∧ H' fo = some (.lst ((ps.map (·.1)).map V.ref)) ∧ (∀ p ∈ ps, H p.1 = none ∧ p.1 ≠ fo ∧ p.1 ≠ d ∧ H' p.1 = some (.lst (((S.take i).filter (R p.2)).map nI))) ∧ ps.map (·.2) = (S.take i).filter (fstR R (S.take i)) ∧ (ps.map (·.1)).Nodup ∧ FarAt P w H' d (pairsF S) (fun e => optV (farF (goodB J) (B60 J S) J.n e.1 e.2)) ∧ Same H H') ⟨[], _, _, rfl, upd_same, (fun p hp => by cases hp), rfl, List.nodup_nil, ⟨fx, sfo _ _ b1, b2.keep fun b ys h => sfo _ _ h, b3⟩, S1⟩ (fun i σ H' _ ⟨_, _, _, _, _, _, _, _, _, s⟩ => SqL.of (s _ _ kr)) ?_ ?_⟩
  · rintro i x σ H2 hx ⟨ps, y4, y5, rfl, a1, a2, a3, a4, ⟨gx, c1, c2, c3⟩, a6⟩
    rw [List.getElem?_map] at hx
    cases hz : S[i]? with
    | none => rw [hz] at hx; cases hx
    | some z =>
    rw [hz] at hx
    cases hx
    have zm := List.mem_of_getElem? hz
    have lps : ps.length ≤ 6 := by
      have h1 := congrArg List.length a3
      have h2 := List.length_filter_le (fstR R (S.take i)) (S.take i)
      rw [List.length_map] at h1
      rw [List.length_take] at h2
      omega
    have hfst : ∀ p ∈ ps, p.2 ∈ S.take i ∧ fstR R (S.take i) p.2 = true := fun p hp => by
      have : p.2 ∈ (S.take i).filter (fstR R (S.take i)) := by rw [← a3]; exact List.mem_map.mpr ⟨p, hp, rfl⟩
      exact List.mem_filter.mp this
    have hSi : (S.take i).Pairwise (· < ·) := hS.sublist (List.take_sublist _ _)
    have lt : ∀ b ∈ S.take i, b < z := fun b hb => by
      obtain ⟨l, hl⟩ := List.mem_iff_getElem?.mp hb
      have hlt := (List.getElem?_eq_some_iff.mp hl).1
      rw [List.length_take] at hlt
      rw [List.getElem?_take_of_lt (by omega)] at hl
      obtain ⟨q1, q2⟩ := List.getElem?_eq_some_iff.mp hl
      obtain ⟨q3, q4⟩ := List.getElem?_eq_some_iff.mp hz
      have := List.pairwise_iff_getElem.mp hS l i q1 q3 (by omega)
      omega
    refine ⟨_, rfl, fo, rfl, ⟨_, SqL.of a1⟩, fun D hD => ?_⟩
    refine lc_list (xs := (ps.map (·.1)).map V.ref) (fun l H' => H' D = some (.lst ((((ps.take l).filter fun p => R p.2 z).map (·.1)).map V.ref)) ∧ Same H2 H') ⟨upd_same, same_new hD⟩ (fun l H' _ ⟨_, s⟩ => SqL.of (s _ _ a1)) ?_ ?_
    · rintro l x H3 hx ⟨e1, e2⟩
      rw [List.map_map, List.getElem?_map] at hx
      cases hp : ps[l]? with
      | none => rw [hp] at hx; cases hx
      | some p =>
      rw [hp] at hx
      cases hx
      have pm := List.mem_of_getElem? hp
      obtain ⟨_, _, _, kp⟩ := a2 p pm
      obtain ⟨f1, f2⟩ := hfst p pm
      obtain ⟨t, ht⟩ := grp_head E60 hSi f1 f2
      refine ⟨rfl, ?_⟩
      have kp3 : H3 p.1 = some (.lst ((p.2 :: t).map nI)) := by rw [← ht]; exact e2 _ _ kp
      refine ⟨_, rfl, _, rfl, p.1, _, 0, nI p.2, rfl, rfl, SqL.of kp3, atI_nat (j := 0) rfl, _, rfl, (by show 2 ≤ sizeLine; decide), fun tp htp => ?_⟩
      have st := same_new htp (o := .tup [nI p.2, nI z])
      have kt := upd_same (H := H3) (a := tp) (o := .tup [nI p.2, nI z])
      have e1' := st _ _ e1
      have e2' := e2.trans st
      generalize upd H3 tp (.tup [nI p.2, nI z]) = H4 at *
      refine ⟨d, tp, gx, pairN (p.2, z), _, rfl, rfl, e2' _ _ c1, c2.keep fun b ys h => e2' _ _ h, nk_pair kt, pairN_depth _, RowsG.at pairN_inj c3 (pairsF_mem.mpr ⟨List.mem_of_mem_take f1, zm⟩), ?_⟩
      have lz : ((((ps.take l).filter fun p => R p.2 z).map (·.1)).map V.ref).length ≤ 6 := by
        rw [List.length_map, List.length_map]
        refine Nat.le_trans (List.length_filter_le _ _) ?_
        rw [List.length_take]
        omega
      cases hf : farF (goodB J) (B60 J S) J.n p.2 z with
      | none =>
        have hr1 : R p.2 z = true := by rw [← hR]; exact far_rj.mp hf
        refine ⟨rfl, _, rfl, iteT ⟨_, rfl, _, e1', Nat.lt_of_le_of_lt (show _ ≤ 1000000 by omega) (by decide), ?_, same_add e2' hD⟩⟩
        rw [upd_same, take_succ_of hp, List.filter_append, List.map_append, List.map_append]
        simp [hr1]
      | some o =>
        have hr1 : R p.2 z = false := by
          cases hb : R p.2 z with
          | false => rfl
          | true =>
            rw [← hR] at hb
            rw [far_rj.mpr hb] at hf
            cases hf
        refine ⟨rfl, _, rfl, iteF ⟨?_, e2'⟩⟩
        rw [take_succ_of hp, List.filter_append]
        simpa [hr1] using e1'
    · rintro H3 ⟨e1, e2⟩
      rw [List.length_map, List.length_map, List.take_length] at e1
      have S3 := a6.trans e2
      have ez : S.take (i + 1) = S.take i ++ [z] := take_succ_of hz
      refine ⟨_, rfl, (by show 0 ≤ sizeLine; decide), fun eo heo => ?_⟩
      have se := same_new heo (o := .lst [])
      have keo := upd_same (H := H3) (a := eo) (o := .lst [])
      have e1' := se _ _ e1
      have S4 := S3.trans se
      have e2' := e2.trans se
      generalize upd H3 eo (.lst []) = H4 at *
      have dps : DpAll K H4 (((ps.filter fun p => R p.2 z).map (·.1)).map V.ref) ((ps.filter fun p => R p.2 z).map fun p => mkD (.row ((S.take i).filter (R p.2)))) := by
        have : ∀ l : List (Addr × Nat), (∀ p ∈ l, H4 p.1 = some (.lst (((S.take i).filter (R p.2)).map nI))) → DpAll K H4 ((l.map (·.1)).map V.ref) (l.map fun p => mkD (.row ((S.take i).filter (R p.2)))) := fun l => by
          induction l with
          | nil => intro _; exact .nil
          | cons a t ih => intro h; exact .cons (.lst (SqL.of (h a List.mem_cons_self)) (dp_nats _)) (ih fun p hp => h p (List.mem_cons_of_mem _ hp))
        exact this _ fun p hp => e2' _ _ (a2 p (List.mem_filter.mp hp).1).2.2.2
      have shp : SeqAt.shaped (.list ((ps.filter fun p => R p.2 z).map fun p => mkD (.row ((S.take i).filter (R p.2))))) = true := by
        have := mks_shaped ((ps.filter fun p => R p.2 z).map fun p => Mk.row ((S.take i).filter (R p.2)))
        rw [List.map_map] at this
        exact this
      refine ⟨_, .list [], .lst (SqL.of e1') dps, .lst (SqL.of keo) .nil, shp, shaped_ints [], ?_⟩
      cases hps : ps.filter fun p => R p.2 z with
      | nil =>
        rw [show PyData.eqv (.list (([] : List (Addr × Nat)).map fun p => mkD (.row ((S.take i).filter (R p.2))))) (.list []) = true by simp [PyData.eqv, PyData.eqvAll]]
        have no : ∀ b ∈ S.take i, R b z = false := fun b hb => by
          cases hb2 : R b z with
          | false => rfl
          | true =>
            obtain ⟨a, ha, fa, ra, _⟩ := fst_of E60 hb
            have : a ∈ ps.map (·.2) := by rw [a3]; exact List.mem_filter.mpr ⟨ha, fa⟩
            obtain ⟨p, hp, ep⟩ := List.mem_map.mp this
            have : p ∈ ps.filter fun p => R p.2 z := List.mem_filter.mpr ⟨hp, by rw [ep]; exact E60.trans _ _ _ ra hb2⟩
            rw [hps] at this
            cases this
        refine ⟨_, rfl, iteT ⟨_, rfl, .inl ⟨rfl, _, SqL.of (e2' _ _ a1)⟩, _, rfl, (by show 1 ≤ sizeLine; decide), fun ql hql => ?_⟩⟩
        have sq := same_new hql (o := .lst [nI z])
        have kq := upd_same (H := H4) (a := ql) (o := .lst [nI z])
        have kfo := sq _ _ (e2' _ _ a1)
        have S5 := S4.trans sq
        have ql0 := S4.free hql
        have e25 := e2'.trans sq
        generalize upd H4 ql (.lst [nI z]) = H5 at *
        have nqf : ql ≠ fo := fun e => by rw [e, e2' _ _ a1] at hql; cases hql
        have nqd : ql ≠ d := fun e => by rw [e, e2' _ _ c1] at hql; cases hql
        refine ⟨fo, _, _, rfl, rfl, kfo, ?_, ps ++ [(ql, z)], _, _, rfl, ?_, ?_, ?_, ?_, ⟨gx, ?_, ?_, c3⟩, same_add S5 hfo0⟩
        · rw [List.length_map, List.length_map]
          exact Nat.lt_of_le_of_lt (show _ ≤ 1000000 by omega) (by decide)
        · rw [upd_same, List.map_append, List.map_append]
          rfl
        · intro p hp
          rcases List.mem_append.mp hp with hp | hp
          · obtain ⟨g1, g2, g3, g4⟩ := a2 p hp
            refine ⟨g1, g2, g3, ?_⟩
            rw [upd_ne g2, ez, List.filter_append, List.filter_cons, if_neg (by rw [no _ (hfst p hp).1]; exact Bool.false_ne_true), List.filter_nil, List.append_nil]
            exact e25 _ _ g4
          · rw [List.mem_singleton.mp hp]
            refine ⟨ql0, nqf, nqd, ?_⟩
            have e1z : (S.take i ++ [z]).filter (R z) = [z] := by
              rw [List.filter_append, List.filter_eq_nil_iff.mpr fun b hb => by rw [E60.symm, no b hb]; simp, List.filter_cons, if_pos (E60.refl z)]
              rfl
            dsimp only
            rw [upd_ne nqf, ez, e1z]
            exact kq
        · rw [List.map_append, a3, ez, filter_snoc lt, if_pos ((fst_last lt).mpr no)]
          rfl
        · rw [List.map_append]
          refine List.nodup_append.mpr ⟨a4, (by simp), fun x hx y hy e => ?_⟩
          obtain ⟨p, hp, rfl⟩ := List.mem_map.mp hx
          have hy : y = ql := by simpa using hy
          rw [hy] at e
          have := e2' _ _ (a2 p hp).2.2.2
          rw [e, hql] at this
          cases this
        · rw [upd_ne nfd.symm]
          exact e25 _ _ c1
        · exact c2.keep fun b ys h => by
            rw [upd_ne fun n => by rw [n, a1] at h; cases h]
            exact e25 _ _ h
      | cons p0 rest =>
        have p0m : p0 ∈ ps ∧ R p0.2 z = true := List.mem_filter.mp (by rw [hps]; exact List.mem_cons_self)
        obtain ⟨p0p, p0r⟩ := p0m
        obtain ⟨q1, q2, q3, q4⟩ := a2 p0 p0p
        obtain ⟨f1, f2⟩ := hfst p0 p0p
        rw [show PyData.eqv (.list ((p0 :: rest).map fun p => mkD (.row ((S.take i).filter (R p.2))))) (.list []) = false by simp [PyData.eqv, PyData.eqvAll]]
        rw [hps] at e1'
        have kp0 := e2' _ _ q4
        have lf : ((S.take i).filter (R p0.2)).length ≤ 6 := by
          refine Nat.le_trans (List.length_filter_le _ _) ?_
          rw [List.length_take]
          omega
        have inj : ∀ {f : Addr × Nat → Nat}, (ps.map f).Nodup → ∀ p ∈ ps, f p = f p0 → p = p0 := fun {f} nd p hp e => by
          obtain ⟨a, ha⟩ := List.mem_iff_getElem?.mp hp
          obtain ⟨b, hb⟩ := List.mem_iff_getElem?.mp p0p
          obtain ⟨la, ea⟩ := List.getElem?_eq_some_iff.mp ha
          obtain ⟨lb, eb⟩ := List.getElem?_eq_some_iff.mp hb
          have ha2 : (ps.map f)[a]? = some (f p) := by rw [List.getElem?_map, ha]; rfl
          have hb2 : (ps.map f)[b]? = some (f p0) := by rw [List.getElem?_map, hb]; rfl
          obtain ⟨la2, ea2⟩ := List.getElem?_eq_some_iff.mp ha2
          obtain ⟨lb2, eb2⟩ := List.getElem?_eq_some_iff.mp hb2
          have ab : a = b := by
            rcases Nat.lt_trichotomy a b with l | l | l
            · exact absurd (ea2.trans (e.trans eb2.symm)) (List.pairwise_iff_getElem.mp nd a b la2 lb2 l)
            · exact l
            · exact absurd (eb2.trans (e.symm.trans ea2.symm)) (List.pairwise_iff_getElem.mp nd b a lb2 la2 l)
          subst ab
          exact ea.symm.trans eb
        have nd2 : (ps.map (·.2)).Nodup := by
          rw [a3]
          exact (hSi.imp fun h => Nat.ne_of_lt h).sublist List.filter_sublist
        refine ⟨_, rfl, iteF ⟨_, rfl, D, _, 0, .ref p0.1, rfl, rfl, SqL.of e1', atI_nat (j := 0) rfl, .inl ⟨rfl, _, SqL.of kp0⟩, _, rfl, p0.1, _, _, rfl, rfl, kp0, ?_, ps, _, _, rfl, ?_, ?_, ?_, a4, ⟨gx, ?_, ?_, c3⟩, same_add S4 q1⟩⟩
        · rw [List.length_map]
          exact Nat.lt_of_le_of_lt (show _ ≤ 1000000 by omega) (by decide)
        · rw [upd_ne q2.symm]
          exact e2' _ _ a1
        · intro p hp
          obtain ⟨g1, g2, g3, g4⟩ := a2 p hp
          refine ⟨g1, g2, g3, ?_⟩
          by_cases ep : p.1 = p0.1
          · have := inj a4 p hp ep
            subst this
            rw [upd_same, ez, List.filter_append, List.filter_cons, if_pos p0r, List.filter_nil, List.map_append]
            rfl
          · have nr : R p.2 z = false := by
              cases hb : R p.2 z with
              | false => rfl
              | true =>
                have h12 := fst_one E60 (hfst p hp).1 f1 (hfst p hp).2 f2 (E60.trans _ _ _ hb (by rw [E60.symm]; exact p0r))
                exact absurd (congrArg (·.1) (inj nd2 p hp h12)) ep
            rw [upd_ne ep, ez, List.filter_append, List.filter_cons, if_neg (by rw [nr]; exact Bool.false_ne_true), List.filter_nil, List.append_nil]
            exact e2' _ _ g4
        · rw [a3, ez, filter_snoc lt, if_neg (fun h => by rw [(fst_last lt).mp h p0.2 f1] at p0r; cases p0r), List.append_nil]
        · rw [upd_ne q3.symm]
          exact e2' _ _ c1
        · exact c2.keep fun b ys h => by
            rw [upd_ne fun n => by rw [n, q4] at h; cases h]
            exact e2' _ _ h
  · rintro σ H2 ⟨ps, y4, y5, rfl, a1, a2, a3, a4, a5, a6⟩
    rw [List.length_map, List.take_length] at a2 a3
    refine ⟨_, rfl, q fo (ps.map (·.1)) H2 a6 hfo0 (fun b hb => ?_) a1 ?_⟩
    · obtain ⟨p, hp, rfl⟩ := List.mem_map.mp hb
      exact (a2 p hp).1
    · unfold grp
      rw [← a3, List.map_map]
      have : ∀ l : List (Addr × Nat), (∀ p ∈ l, H2 p.1 = some (.lst ((S.filter (R p.2)).map nI))) → GrpsAt H2 (l.map (·.1)) (l.map ((fun a => S.filter (R a)) ∘ (·.2))) := fun l => by
        induction l with
        | nil => intro _; exact .nil
        | cons a t ih => intro h; exact .cons (h a List.mem_cons_self) (ih fun p hp => h p (List.mem_cons_of_mem _ hp))
      exact this ps fun p hp => (a2 p hp).2.2.2
end


def sp__law_is_paper : Sp := fun vs H Q _ => ∃ (q u : Addr) (as bs : List Addr) (Gs : List (List Nat)), vs = [.ref q, .ref u] ∧ H q = some (.lst (as.map V.ref)) ∧ GrpsAt H as Gs ∧ H u = some (.lst (bs.map V.ref)) ∧ GrpsAt H bs Gs ∧ Gs.length ≤ 1000 ∧ ∀ H', Same H H' → Q (.bl true) H'
theorem grps_dp {K : PySem.W.Frag} {H : Hp} : ∀ {as : List Addr} {Gs : List (List Nat)}, GrpsAt H as Gs → DpAll K H (as.map V.ref) (Gs.map fun g => mkD (.row g))
  | _, _, .nil => .nil
  | _, _, .cons h t => .cons (.lst (SqL.of h) (dp_nats _)) (grps_dp t)
theorem grps_shaped (Gs : List (List Nat)) : SeqAt.shaped (.list (Gs.map fun g => mkD (.row g))) = true := by
  have := mks_shaped (Gs.map Mk.row)
  rw [List.map_map] at this
  exact this
theorem grps_eqv (Gs : List (List Nat)) : PyData.eqv (.list (Gs.map fun g => mkD (.row g))) (.list (Gs.map fun g => mkD (.row g))) = true := by
  have : ∀ l : List (List Nat), PyData.eqvAll (l.map fun g => mkD (.row g)) (l.map fun g => mkD (.row g)) = true := fun l => by
    induction l with
    | nil => simp [PyData.eqvAll]
    | cons a t ih => simp only [List.map_cons, PyData.eqvAll, mk_eqv, ih]; simp
  simp only [PyData.eqv, this]
section
variable {P : Program} {w : World} {K : PySem.W.Frag} {mg : Str → Option Value} {base : Heap}
theorem ok__law_is_paper (T : Txt K mg) : FnOk P w K mg base CX0 1 T.f__law_is_paper T.d__law_is_paper ["found", "due"] sp__law_is_paper := by
  refine T.F__law_is_paper.ok sc__law_is_paper (fun vs H Q E h => ?_) (fun cdv A outer s H vs Q E hr h => ?_)
  · obtain ⟨q, u, as, bs, Gs, rfl, _⟩ := h
    rfl
  obtain ⟨q, u, as, bs, Gs, rfl, kq, kG, ku, kB, l1, qq⟩ := h
  refine ⟨_, (pss_cons (ps_if (PW.pt (pw_or (pt_not (pt_val (pe_callB call_isi (by rfl) T.z_isinstance (by decide +kernel) (pa_cons (pv 0) (pa_cons (pe_bltn (v := .ty "list") (by rfl) T.z_list (by decide +kernel) rfl) pa_nil))))) (pw_or1 (pt_cmpR (op_neD hr.units) (pv 0) (pv 1) (nomark _))))) (pss_one (ps_ret pe_bl)) pss_nil) (pss_cons (ps_for PassesOwn.never rfl (pi_list (pv 0)) (pg_name (i := 2) sc__law_is_paper.nd rfl (Or.inl rfl)) (pss_one (ps_if (PW.pt (pw_or (pt_not (pt_val (pe_callB call_isi (by rfl) T.z_isinstance (by decide +kernel) (pa_cons (pv 2) (pa_cons (pe_bltn (v := .ty "list") (by rfl) T.z_list (by decide +kernel) rfl) pa_nil))))) (pw_or1 (pt_cmpR (op_neD hr.units) (pe_lc (own := [("one", 3)]) (g := gName 3) (te := tVar 3) (tt := tB (tCB (rIsi K) (tCons (tVar 3) (tCons (tC (.ty "bool")) tNil)))) rfl sc__law_is_paper.nd (pi_list (pv 2)) (blkOk_by (own := [("one", 3)]) (N := ["found", "due", "row", "one"]) (sc := (defScope s__law_is_paper)) (by decide +kernel)) (fun _ _ _ _ _ => (pg_name (i := 3) sc__law_is_paper.nd rfl (Or.inl rfl))) (fun _ _ _ _ _ => pts_one (pt_val (pe_callB call_isi (by rfl) T.z_isinstance (by decide +kernel) (pa_cons (pv 3) (pa_cons (pe_bltn (v := .ty "bool") (by rfl) T.z_bool (by decide +kernel) rfl) pa_nil))))) (fun _ _ _ _ _ => (pv 3))) (pe_lst pa_nil) (nomark _))))) (pss_one (ps_ret pe_bl)) pss_nil))) (pss_one (ps_ret pe_bl)))), ?_⟩
  refine ⟨_, rfl, _, _, _, _, true, rfl, .ty "list", .base (.lst kq), kit_ty (by decide +kernel), _, rfl, iteF ?_⟩
  refine ⟨_, rfl, _, rfl, _, _, .lst (SqL.of kq) (grps_dp kG), .lst (SqL.of ku) (grps_dp kB), grps_shaped Gs, grps_shaped Gs, ?_⟩
  rw [grps_eqv]
  refine ⟨_, rfl, iteF ?_⟩
  have la := Paired.length kG
  refine ⟨_, rfl, q, rfl, ⟨_, SqL.of kq⟩, for_list (xs := as.map V.ref) (fun i σ H' => ∃ (y2 : Option V), σ = [some (.ref q), some (.ref u), y2, none] ∧ Same H H') ⟨_, rfl, Same.refl _⟩ (fun i σ H' _ ⟨_, _, s⟩ => SqL.of (s _ _ kq)) ?_ ?_⟩
  · rintro i x σ H2 hx ⟨y2, rfl, s2⟩
    rw [List.getElem?_map] at hx
    cases ha : as[i]? with
    | none => rw [ha] at hx; cases hx
    | some a =>
    rw [ha] at hx
    cases hx
    obtain ⟨g, hg, ka⟩ := prd_at kG ha
    have ka2 := s2 _ _ ka
    refine ⟨_, rfl, _, _, _, _, true, rfl, .ty "list", .base (.lst ka2), kit_ty (by decide +kernel), _, rfl, iteF ?_⟩
    refine ⟨_, rfl, a, rfl, ⟨_, SqL.of ka2⟩, fun D hD => ?_⟩
    refine lc_list (xs := g.map nI) (fun l H' => H' D = some (.lst []) ∧ Same H2 H') ⟨upd_same, same_new hD⟩ (fun l H' _ ⟨_, s⟩ => SqL.of (s _ _ ka2)) ?_ ?_
    · rintro l x H3 hx ⟨e1, e2⟩
      rw [List.getElem?_map] at hx
      cases hz : g[l]? with
      | none => rw [hz] at hx; cases hx
      | some z =>
      rw [hz] at hx
      cases hx
      refine ⟨rfl, _, rfl, _, _, _, _, false, rfl, .ty "bool", .base (.int _), kit_ty (by decide +kernel), _, rfl, iteF ⟨e1, e2⟩⟩
    rintro H3 ⟨e1, e2⟩
    refine ⟨(by show 0 ≤ sizeLine; decide), fun eo heo => ?_⟩
    have se := same_new heo (o := .lst [])
    refine ⟨.list [], .list [], .lst (SqL.of (se _ _ e1)) .nil, .lst (SqL.of upd_same) .nil, shaped_ints [], shaped_ints [], ?_⟩
    rw [show PyData.eqv (.list []) (.list []) = true by simp [PyData.eqv, PyData.eqvAll]]
    exact ⟨_, rfl, iteF ⟨_, rfl, (s2.trans e2).trans se⟩⟩
  · rintro σ H2 ⟨y2, rfl, s2⟩
    exact qq H2 s2
end

def rSumT (K : PySem.W.Frag) : List V → Hp → VK → Prop := fun vs H Q => ∃ (a : Addr) (ns : List Int), vs = [V.ref a] ∧ SqT K H a (ns.map V.int) ∧ Q (.int ns.sum) H
theorem cr_sumT {X : Cx} (hc : X.calm = true) : CallR X (.builtin "sum") (rSumT X.K) := by
  intro pins s σ H vs us Q I r h
  obtain ⟨a, ns, rfl, hs, q⟩ := h
  obtain ⟨its, rv, ht, _⟩ := I.tuple hs
  rw [Vals.ref1 r]
  obtain ⟨xs, e⟩ := rv.ints.allInts.items
  have hn : numsOf (intItems xs).toList = ns := by rw [← e]; exact rv.ints.numsOf
  rw [nums_intItems] at hn
  rw [e] at ht
  have hlt : a < s.heap.objs.size := ht.lt
  refine call_sum_walkG (wpAny_pyIter_tuple ht ?_)
  refine ⟨s.heap.objs.size, _, _, _, _, _, numAt xs, rfl, Walks.tuple (A := X.A.in1) (I.ok.hd hc) _ a (Nat.ne_of_lt hlt) (intItems xs), ⟨⟨_, Heap.get?_push_size _ rfl, rfl, rfl⟩, (let ⟨o, e, r⟩ := ht; ⟨o, Heap.get?_push_of_some _ e, r⟩)⟩, fun b hb => ?_, (fun _ _ => intItems_at), fun h' tk t' hk => ?_⟩
  · show b < (s.heap.push _).objs.size
    rw [Heap.size_push]
    rcases List.mem_cons.mp hb with rfl | hb
    · exact Nat.lt_succ_self _
    · rcases List.mem_cons.mp hb with rfl | hb
      · exact Nat.lt_succ_of_lt hlt
      · cases hb
  · refine ⟨.int _, H, I.kept (t' := tk) fun b o e => hk b o (fun z => ?_) (Heap.get?_push_of_some _ e), ?_, q⟩
    · rw [List.mem_singleton.mp z] at e
      exact absurd (Heap.lt_size e) (Nat.lt_irrefl _)
    · refine ⟨t', ?_⟩
      have : (intItems xs).size = xs.size := by simp [intItems]
      rw [this, preSum_eq, List.take_of_length_le (by simp), hn]

def IsW (H : Hp) (k : NestedKey) (b : Addr) : Prop := ∀ (X : Cx) (pins : List (Addr × Obj)) (σ : L2.St) (s : Shared), Inv X pins σ H s → NestedIs s.heap k (.ref b)
def RowsW (H : Hp) (xs : List NRow) : Prop := ∀ x ∈ xs, IsW H x.1 x.2.1 ∧ x.1.depth ≤ 8
theorem isW_key {H : Hp} {c : Nat} {row : List Nat} {a b : Addr} (hb : H b = some (.tup [.str (ch c), .ref a])) (ha : FT H a (row.map nI)) : IsW H (keyN c row) b := by
  intro X pins σ s I
  obtain ⟨_, its, rv, o, e1, e2, n, e3⟩ := I.hok _ _ hb
  obtain ⟨its2, rv2, ⟨o2, q1, q2, n2, q3⟩, _⟩ := I.tuple (FT.seq (K := X.K) ha)
  cases rv with
  | cons r1 r2 =>
    cases r2 with
    | cons r3 r4 =>
      cases r4
      cases r3
      obtain ⟨t, rfl⟩ := r1
      have rows : ∀ (row : List Nat) (us : List Value), Vals (row.map nI) us → NestedAll s.heap (row.map fun x : Nat => NestedKey.num (x : Int)) us := by
        intro row
        induction row with
        | nil => intro us h; cases h; exact .nil
        | cons x r ih =>
          intro us h
          cases h with
          | cons h1 h2 =>
            obtain ⟨t, rfl⟩ := h1
            exact .cons (.int _ t) (ih _ h2)
      exact .tup e1 e2 e3 (by simpa using NestedAll.cons (.text _ t) (.cons (.tup q1 q2 q3 (by simpa using rows row its2 rv2)) .nil))
section
variable {X : Cx} {pins : List (Addr × Obj)} {σ : L2.St} {H : Hp} {s : Shared} {a : Addr} {xs : List NRow}
theorem dictN_ofW (I : Inv X pins σ H s) (h : H a = some (DictN X.prog X.w a xs)) (hk : RowsW H xs) : (a == sysModules) = false ∧ ∃ us : List (NestedKey × Addr × Value), RowsP xs us ∧ s.heap.DictOfH (nestedKind X.prog X.w) a us := by
  obtain ⟨⟨h1, h2, us, h3, o, es, ep, e1, e2, e3, e4, e5⟩, _, _⟩ := I.hok _ _ h
  refine ⟨h1, us, h3, o, es, ep, e1, e2, e3, e4, fun u hu => ?_, e5⟩
  have all : ∀ (xs : List NRow) (us : List (NestedKey × Addr × Value)), RowsP xs us → RowsW H xs → ∀ u ∈ us, (nestedKind X.prog X.w).is s.heap u.1 u.2.1 := by
    intro xs us p
    induction p with
    | nil => intro _ u hu; cases hu
    | cons r t ih =>
      intro hk u hu
      rcases List.mem_cons.mp hu with e | hu
      · obtain ⟨n1, n2⟩ := hk _ List.mem_cons_self
        rw [e]
        refine ⟨?_, ?_⟩
        · rw [← r.1, ← r.2.1]
          exact n1 X pins σ s I
        · rw [← r.1]
          exact n2
      · exact ih (fun x hx => hk x (List.mem_cons_of_mem _ hx)) u hu
  exact all _ _ h3 hk u hu
def sDPutW (P : Program) (w : World) (td ty tv : TE) : TS := fun D σ H => tv σ H fun v H1 => td σ H1 fun x H2 => ty σ H2 fun y H3 => ∃ (a b : Addr) (xs : List NRow) (k : NestedKey), x = .ref a ∧ y = .ref b ∧ H3 a = some (DictN P w a xs) ∧ RowsW H3 xs ∧ IsW H3 k b ∧ k.depth ≤ 8 ∧ xs.length < sizeLine ∧ D.nx σ (upd H3 a (DictN P w a (storedN xs k b v)))
theorem ps_dputW {o i value : PySem.Expr} {td ty tv : TE} {pos pos' : Pos} (hu : X.A.units + 9 < cLine) (ho : PE X o td) (hi : PE X i ty) (hv : PE X value tv) (hs : swapsWith value (some (.Subscript o i pos')) pos.line X.env = pure false) :
    PS X (.Assign [.Subscript o i pos'] value pos) (sDPutW X.prog X.w td ty tv) := by
  refine ⟨fun pins s σ H D I h => ?_⟩
  refine wpAny_Assign_Subscript (thn (hv.run pins s σ H _ I h) fun r s1 ⟨v, H1, I1, rv, q1⟩ => thn (ho.run pins s1 σ H1 _ I1 q1) fun u s2 ⟨x, H2, I2, rx, q2⟩ => thn (hi.run pins s2 σ H2 _ I2 q2) fun iv s3 ⟨y, H3, I3, ry, a, b, xs, k, ex, ey, g, gr, gk, gd, gz, q3⟩ => ?_) hs
  subst ex ey
  cases rx
  cases ry
  obtain ⟨ha, us, hp, hm⟩ := dictN_ofW I3 g gr
  have hl : us.length ≤ sizeLine := by rw [← Paired.length hp]; omega
  refine wpAny_setItem_heap (knd := nestedKind X.prog X.w) (hsz := hl) (show X.A.units + 1 + 8 < cLine by omega) ⟨gk X pins σ s3 I3, gd⟩ hm fun h' hm' sb => ?_
  obtain ⟨ob, es, ep, e1, e2, e3, e4, _, e5⟩ := hm'
  have hz : (storedN xs k b v).length ≤ sizeLine := by have := storedN_len xs k b v; omega
  exact ⟨σ, _, d_write I3 (by rw [g]; exact True.intro) sb ⟨ob, e1⟩ (dictN_ok ha hz (stored_pairs rv hp) ⟨ob, es, ep, e1, e2, e3, e4, e5⟩), q3⟩
theorem gh_melts {H0 : Hp} : ∀ (as : List Addr) (rows : List (List Nat)) (H : Hp), RowsF H as rows → as.Nodup → (∀ a ∈ as, H0 a = none) → ∃ H', (∀ X : Cx, (∀ a ∈ as, X.H_0 a = none) → GhOk X H H') ∧ (∀ b o, b ∉ as → H b = some o → H' b = some o) ∧ Paired (fun a (row : List Nat) => H' a = some (.tup (row.map nI))) as rows
  | _, _, H, .nil, _, _ => ⟨H, fun _ _ => GhOk.refl, fun _ _ _ h => h, .nil⟩
  | a :: as, row :: rows, H, .cons h t, nd, hn => by
    obtain ⟨n1, n2⟩ := List.nodup_cons.mp nd
    obtain ⟨o, e, d⟩ := h
    have t2 : RowsF (upd H a (.tup (row.map nI))) as rows := prd_mapM t fun b hb r ⟨o, e, d⟩ => ⟨o, by rw [upd_ne fun z => n1 (by rw [← z]; exact hb)]; exact e, d⟩
    obtain ⟨H', g1, g2, g3⟩ := gh_melts (H0 := H0) as rows _ t2 n2 fun b hb => hn b (List.mem_cons_of_mem _ hb)
    refine ⟨H', fun X hX => (gh_melt e (hX a List.mem_cons_self)).trans (g1 X fun b hb => hX b (List.mem_cons_of_mem _ hb)), fun b o hb h => ?_, .cons (g2 _ _ n1 upd_same) g3⟩
    have ne : b ≠ a := fun z => hb (by rw [z]; exact List.mem_cons_self)
    exact g2 b o (fun z => hb (List.mem_cons_of_mem _ z)) (by rw [upd_ne ne]; exact h)
end


def fsC (row : List Nat) : Nat := if row.sum = 1 then min 5 (row.findIdx (fun x => decide (x = 1)) + 1) else 0
def chainJ : JD := ⟨ch 113, 6, 1, 1, fun _ row => fsC row, [5]⟩
theorem prd_zip {α β : Type} {F : α → β → Prop} : ∀ {as : List α} {bs : List β}, Paired F as bs → ∀ p ∈ List.zip as bs, F p.1 p.2
  | _, _, .nil, p, h => by cases h
  | _, _, .cons a t, p, h => by
    rw [List.zip_cons_cons] at h
    rcases List.mem_cons.mp h with e | h
    · rw [e]; exact a
    · exact prd_zip t p h
theorem storedN_last {k : NestedKey} {b b2 : Addr} {u v : V} {xs : List NRow} (h : ∀ x ∈ xs, x.1 ≠ k) : storedN (xs ++ [(k, b, u)]) k b2 v = xs ++ [(k, b, v)] := by
  have hs : (atN (xs ++ [(k, b, u)]) k).isSome = true := by
    unfold atN
    rw [List.find?_append, Option.isSome_map]
    simp [Option.isSome_or]
  unfold storedN
  rw [if_pos hs, List.map_append]
  congr 1
  · rw [List.map_congr_left (g := id) fun x hx => by rw [if_neg (h x hx)]; rfl, List.map_id]
  · simp
def ChAt (H : Hp) (xs : List NRow) (ps : List (Addr × List Nat)) : Prop := Paired (fun (x : NRow) (p : Addr × List Nat) => x.1 = keyN 113 p.2 ∧ x.2.2 = nI (fsC p.2) ∧ H x.2.1 = some (.tup [.str (ch 113), .ref p.1])) xs ps
theorem ChAt.keep {H H' : Hp} {xs : List NRow} {ps : List (Addr × List Nat)} (h : ChAt H xs ps) (f : ∀ b ys, H b = some (.tup ys) → H' b = some (.tup ys)) : ChAt H' xs ps := Paired.mapP h fun _ _ ⟨h1, h2, h3⟩ => ⟨h1, h2, f _ _ h3⟩
theorem ChAt.w {H : Hp} : ∀ {xs : List NRow} {ps : List (Addr × List Nat)}, ChAt H xs ps → (∀ p ∈ ps, FT H p.1 (p.2.map nI)) → RowsW H xs
  | _, _, .nil, _, x, h => by cases h
  | _, _, .cons a t, hf, x, h => by
    rcases List.mem_cons.mp h with e | h
    · rw [e, a.1]
      exact ⟨isW_key a.2.2 (hf _ List.mem_cons_self), keyN_depth _ _⟩
    · exact ChAt.w t (fun p hp => hf p (List.mem_cons_of_mem _ hp)) x h
theorem one_in : ∀ {row : List Nat}, row.sum = 1 → 1 ∈ row
  | [], h => by simp at h
  | x :: r, h => by
    rw [List.sum_cons] at h
    by_cases e : x = 1
    · rw [e]; exact List.mem_cons_self
    · exact List.mem_cons_of_mem _ (one_in (by omega))
theorem findIdx_first : ∀ {row : List Nat} {j : Nat}, row[j]? = some 1 → (∀ k, k < j → row[k]? ≠ some 1) → row.findIdx (fun x => decide (x = 1)) = j
  | [], j, h, _ => by cases h
  | x :: r, 0, h, _ => by
    cases h
    rw [List.findIdx_cons]
    simp
  | x :: r, j + 1, h, hk => by
    have h0 : x ≠ 1 := fun e => hk 0 (by omega) (by rw [e]; rfl)
    have ih := findIdx_first (row := r) (j := j) (by simpa using h) fun k hkj => by have := hk (k + 1) (by omega); simpa using this
    rw [List.findIdx_cons, ih]
    simp [h0]
theorem fsC_lt (row : List Nat) : fsC row < 6 := by
  unfold fsC
  split <;> omega
theorem chainJ_ok : chainJ.ok := by
  refine ⟨⟨by decide, by decide, by decide⟩, by decide, by decide, by decide, by decide, by decide, by decide, fun key _ => fsC_lt _, by decide, by decide⟩
theorem chainJ_rises : Rises chainJ.L := by
  show List.Pairwise _ [113]
  exact List.pairwise_singleton _ _
theorem chainJ_keys : chainJ.keys = (rowsTo 6 2).map fun r => (113, r) := by
  unfold JD.keys keysOf
  rw [show chainJ.L.cps.toList = [113] from rfl]
  simp only [List.flatMap_cons, List.flatMap_nil, List.append_nil]
  rfl
def sp__law_chain (P : Program) (w : World) : Sp := fun vs H Q _ => vs = [] ∧ ∀ v H', Same H H' → JAtK P w (fun b => H b = none) H' v chainJ → Q v H'
section
variable {P : Program} {w : World} {K : PySem.W.Frag} {mg : Str → Option Value} {base : Heap}
theorem ok__law_chain (T : Txt K mg) : FnOk P w K mg base CX0 2 T.f__law_chain T.d__law_chain [] (sp__law_chain P w) := by
  have G__law_rows : FnOk P w K mg base CX0 1 T.f__law_rows T.d__law_rows ["states", "classes"] sp__law_rows := ok__law_rows T
  refine T.F__law_chain.ok sc__law_chain (fun vs H Q E h => ?_) (fun cdv A outer s H vs Q E hr h => ?_)
  · obtain ⟨rfl, _⟩ := h
    rfl
  obtain ⟨rfl, q⟩ := h
  refine ⟨_, (pss_cons (ps_set (i := 0) sc__law_chain.nd rfl (Or.inl rfl) pe_dnewN) (pss_cons (ps_for PassesOwn.never rfl (pi_list (pe_call G__law_rows (hr.mono (by omega)) (by rfl) T.m__law_rows T.F__law_rows.kp T.b__law_rows .nil pass0 (pa_cons pe_int (pa_cons pe_int pa_nil)))) (pg_name (i := 1) sc__law_chain.nd rfl (Or.inl rfl)) (pss_cons (ps_dputW (roomN hr) (pv 0) (pe_tup (pa_cons pe_str (pa_cons (pv 1) pa_nil))) pe_int rfl) (pss_one (ps_if (pt_cmpR op_eq (pe_callB (cr_sumT rfl) (by rfl) T.z_sum (by decide +kernel) (pa_cons (pv 1) pa_nil)) pe_int (nomark _)) (pss_one (ps_dputW (roomN hr) (pv 0) (pe_tup (pa_cons pe_str (pa_cons (pv 1) pa_nil))) (pe_callB (call_min2 rfl) (by rfl) T.z_min (by decide +kernel) (pa_cons pe_int (pa_cons (pe_op op_add (pe_bmF PySem.F.plainAttrs_tuple PySem.F.slot_tuple_index PySem.F.type_tuple_index mt_tup_indexI (pv 1) (pa_cons pe_int pa_nil)) pe_int) pa_nil))) rfl)) pss_nil)))) (pss_one (ps_gh (ps_ret (pe_tup (pa_cons pe_str (pa_cons pe_int (pa_cons pe_int (pa_cons pe_int (pa_cons (pv 0) (pa_cons (pe_lst (pa_cons pe_int pa_nil)) pa_nil)))))))))))), ?_⟩
  intro dl hdl
  refine ⟨6, 2, rfl, by omega, by omega, by omega, by omega, fun r as H2 s2 nr2 hr2 hrows nas das => ?_⟩
  have hdl0 : H dl = none := hdl
  have eqq : Str.ofString "q" = ch 113 := by decide +kernel
  have nrd : r ≠ dl := fun e => by rw [e, upd_same] at nr2; cases nr2
  have S2 : Same H H2 := (same_new hdl).trans s2
  have nr0 : H r = none := by rw [upd_ne nrd] at nr2; exact nr2
  have nas0 : ∀ a ∈ as, H a = none := fun a ha => (same_new hdl).free (nas a ha)
  have nad : ∀ a ∈ as, a ≠ dl := fun a ha e => by have := nas a ha; rw [e, upd_same] at this; cases this
  have kd2 := s2 _ _ (upd_same (H := H) (a := dl) (o := DictN P w dl []))
  have la := Paired.length hrows
  have lr : (rowsTo 6 2).length = 64 := by rw [rowsTo_len]
  have lzip : (List.zip as (rowsTo 6 2)).length = as.length := by rw [List.length_zip, la, Nat.min_self]
  refine ⟨r, rfl, ⟨_, SqL.of hr2⟩, for_list (xs := as.map V.ref) (fun j σ H' => ∃ (xs : List NRow) (y1 : Option V), σ = [some (.ref dl), y1] ∧ H' dl = some (DictN P w dl xs) ∧ ChAt H' xs ((List.zip as (rowsTo 6 2)).take j) ∧ Same H H' ∧ H' r = some (.lst (as.map V.ref)) ∧ RowsF H' as (rowsTo 6 2)) ⟨[], _, rfl, kd2, .nil, S2, hr2, hrows⟩ (fun j σ H' _ ⟨_, _, _, _, _, _, k, _⟩ => SqL.of k) ?_ ?_⟩
  · rintro j x σ H3 hx ⟨xs, y1, rfl, a1, a2, a3, a4, a5⟩
    rw [List.getElem?_map] at hx
    cases haj : as[j]? with
    | none => rw [haj] at hx; cases hx
    | some ab =>
    rw [haj] at hx
    cases hx
    have hj := (List.getElem?_eq_some_iff.mp haj).1
    obtain ⟨row, hrow, kab⟩ := prd_at a5 haj
    have hz : (List.zip as (rowsTo 6 2))[j]? = some (ab, row) := by rw [List.getElem?_zip_eq_some]; exact ⟨haj, hrow⟩
    have hpz := prd_zip a5
    have lx := Paired.length a2
    rw [List.length_take, lzip] at lx
    have lx64 : xs.length ≤ 64 := by omega
    have row6 : row.length = 6 := (rowsTo_mem (List.mem_of_getElem? hrow)).1
    have kI : row.map nI = (row.map fun x : Nat => (x : Int)).map V.int := nI_map row
    have fresh : ∀ x ∈ xs, x.1 ≠ keyN 113 row := fun x hx e => by
      obtain ⟨p, hp, e1, _⟩ := prd_mem a2 hx
      rw [e1] at e
      obtain ⟨_, e3⟩ := keyN_inj e
      obtain ⟨k, hk⟩ := List.mem_iff_getElem?.mp hp
      have hkl := (List.getElem?_eq_some_iff.mp hk).1
      rw [List.length_take] at hkl
      rw [List.getElem?_take_of_lt (by omega), List.getElem?_zip_eq_some] at hk
      exact ahead_ne (rowsTo_nd 2 6) hrow p.2 (List.mem_iff_getElem?.mpr ⟨k, by rw [List.getElem?_take_of_lt (by omega)]; exact hk.2⟩) e3
    refine ⟨_, rfl, _, rfl, (by show 2 ≤ sizeLine; decide), fun b2 hb2 => ?_⟩
    rw [eqq]
    have st := same_new hb2 (o := .tup [.str (ch 113), V.ref ab])
    have kb2 := upd_same (H := H3) (a := b2) (o := .tup [.str (ch 113), V.ref ab])
    have kd4 := st _ _ a1
    have kab4 := FT.keep kab st
    have kF4 := RowsF.keep a5 st
    have kr4 := st _ _ a4
    have S4 := a3.trans st
    have c4 := a2.keep fun b ys h => st _ _ h
    generalize upd H3 b2 (.tup [.str (ch 113), V.ref ab]) = H4 at *
    have w4 : RowsW H4 xs := c4.w fun p hp => prd_zip kF4 p (List.mem_of_mem_take hp)
    refine ⟨dl, b2, xs, keyN 113 row, rfl, rfl, kd4, w4, isW_key kb2 kab4, keyN_depth _ _, Nat.lt_of_le_of_lt (show _ ≤ 1000000 by omega) (by decide), ?_⟩
    rw [storedN_new fresh]
    have up : ∀ b o, b ≠ dl → H4 b = some o → (upd H4 dl (DictN P w dl (xs ++ [(keyN 113 row, b2, V.int 0)]))) b = some o := fun b o n h => by rw [upd_ne n]; exact h
    have tk : ∀ b ys, H4 b = some (.tup ys) → (upd H4 dl (DictN P w dl (xs ++ [(keyN 113 row, b2, V.int 0)]))) b = some (.tup ys) := fun b ys h => up b _ (fun n => by rw [n, kd4] at h; unfold DictN at h; cases h) h
    have c5 := c4.keep tk
    have kb5 := tk _ _ kb2
    have kF5 : RowsF (upd H4 dl (DictN P w dl (xs ++ [(keyN 113 row, b2, V.int 0)]))) as (rowsTo 6 2) := prd_mapM kF4 fun a ha r ⟨o, e, d⟩ => ⟨o, up a _ (nad a ha) e, d⟩
    have kab5 : FT (upd H4 dl (DictN P w dl (xs ++ [(keyN 113 row, b2, V.int 0)]))) ab (row.map nI) := by
      obtain ⟨o, e, d⟩ := kab4
      exact ⟨o, up ab _ (nad ab (List.mem_of_getElem? haj)) e, d⟩
    have kr5 := up r _ nrd kr4
    have S5 : Same H (upd H4 dl (DictN P w dl (xs ++ [(keyN 113 row, b2, V.int 0)]))) := same_add S4 hdl0
    have kd5 : (upd H4 dl (DictN P w dl (xs ++ [(keyN 113 row, b2, V.int 0)]))) dl = some (DictN P w dl (xs ++ [(keyN 113 row, b2, V.int 0)])) := upd_same
    generalize hX : upd H4 dl (DictN _ _ dl (xs ++ [(keyN 113 row, b2, V.int 0)])) = H5
    have hX : upd H4 dl (DictN P w dl (xs ++ [(keyN 113 row, b2, V.int 0)])) = H5 := hX
    rw [hX] at c5 kb5 kF5 kab5 kr5 S5 kd5
    have kT : SqT K H5 ab ((row.map fun x : Nat => (x : Int)).map V.int) := by rw [← kI]; exact kab5.seq
    have esum : (row.map fun x : Nat => (x : Int)).sum = ((row.sum : Nat) : Int) := sum_castn row
    have next : (List.zip as (rowsTo 6 2)).take (j + 1) = (List.zip as (rowsTo 6 2)).take j ++ [(ab, row)] := take_succ_of hz
    refine ⟨_, rfl, ab, _, rfl, kT, rfl, _, rfl, ite2 (fun h => ?_) (fun h => ?_)⟩
    · have h : row.sum = 1 := by
        have := V.int.inj (of_decide_eq_true h)
        rw [esum] at this
        omega
      have hm : (1 : Int) ∈ row.map fun x : Nat => (x : Int) := List.mem_map.mpr ⟨1, one_in h, rfl⟩
      obtain ⟨j2, f1, f2⟩ := first_at hm
      have g1 : row[j2]? = some 1 := by
        rw [List.getElem?_map] at f1
        cases hv : row[j2]? with
        | none => rw [hv] at f1; cases f1
        | some v =>
          rw [hv] at f1
          have : (v : Int) = 1 := Option.some.inj f1
          rw [show v = 1 by omega]
      have g2 : ∀ k, k < j2 → row[k]? ≠ some 1 := fun k hk e => f2 k hk (by rw [List.getElem?_map, e]; rfl)
      have ef : fsC row = min 5 (j2 + 1) := by
        unfold fsC
        rw [if_pos h, findIdx_first g1 g2]
      refine ⟨_, rfl, ⟨ab, _, rfl, kab5⟩, ab, _, 1, j2, rfl, rfl, kT, f1, f2, _, _, rfl, rfl, _, _, rfl, _, rfl, _, rfl, (by show 2 ≤ sizeLine; decide), fun b3 hb3 => ?_⟩
      have st := same_new hb3 (o := .tup [.str (ch 113), V.ref ab])
      have kb3 := upd_same (H := H5) (a := b3) (o := .tup [.str (ch 113), V.ref ab])
      have w5 : RowsW (upd H5 b3 (.tup [.str (ch 113), V.ref ab])) (xs ++ [(keyN 113 row, b2, V.int 0)]) := fun x hx => by
        rcases List.mem_append.mp hx with hx | hx
        · exact (c5.keep fun b ys h => st _ _ h).w (fun p hp => FT.keep (prd_zip kF5 p (List.mem_of_mem_take hp)) st) x hx
        · rw [List.mem_singleton.mp hx]
          exact ⟨isW_key (st _ _ kb5) (FT.keep kab5 st), keyN_depth _ _⟩
      refine ⟨dl, b3, _, keyN 113 row, rfl, rfl, st _ _ kd5, w5, isW_key kb3 (FT.keep kab5 st), keyN_depth _ _, by rw [List.length_append, List.length_singleton]; exact Nat.lt_of_le_of_lt (show _ ≤ 1000000 by omega) (by decide), ?_⟩
      rw [storedN_last fresh]
      have tk6 : ∀ b ys, H5 b = some (.tup ys) → (upd (upd H5 b3 (.tup [.str (ch 113), V.ref ab])) dl (DictN P w dl (xs ++ [(keyN 113 row, b2, V.int (if (j2 : Int) + 1 < 5 then (j2 : Int) + 1 else 5))]))) b = some (.tup ys) := fun b ys h => by
        rw [upd_ne fun n => by rw [n, kd5] at h; unfold DictN at h; cases h]
        exact st _ _ h
      refine ⟨_, _, rfl, upd_same, ?_, same_add (S5.trans st) hdl0, by rw [upd_ne nrd]; exact st _ _ kr5, prd_mapM kF5 fun a ha r ⟨o, e, d⟩ => ⟨o, by rw [upd_ne (nad a ha)]; exact st _ _ e, d⟩⟩
      rw [next]
      refine prd_app (c5.keep tk6) (.cons ⟨rfl, ?_, tk6 _ _ kb5⟩ .nil)
      rw [ef]
      show V.int _ = V.int _
      congr 1
      by_cases hlt : (j2 : Int) + 1 < 5
      · rw [if_pos hlt]; omega
      · rw [if_neg hlt]; omega
    · have h : ¬ row.sum = 1 := fun e => h (by rw [esum, e]; rfl)
      refine ⟨_, _, rfl, kd5, ?_, S5, kr5, kF5⟩
      rw [next]
      refine prd_app c5 (.cons ⟨rfl, ?_, kb5⟩ .nil)
      unfold fsC
      rw [if_neg h]
      rfl
  · rintro σ H3 ⟨xs, y1, rfl, a1, a2, a3, a4, a5⟩
    rw [List.length_map, ← lzip, List.take_length] at a2
    obtain ⟨H4, g1, g2, g3⟩ := gh_melts (H0 := H) as (rowsTo 6 2) H3 a5 das nas0
    refine ⟨H4, g1 _ nas0, ?_⟩
    refine ⟨_, rfl, (by show 1 ≤ sizeLine; decide), fun g hg => ⟨(by show 6 ≤ sizeLine; decide), fun jj hjj => ?_⟩⟩
    rw [eqq]
    have notas : ∀ b ys, H3 b = some (.tup ys) → b ∉ as := fun b ys h hb => by
      obtain ⟨_, _, o, e, _⟩ := prd_mem a5 hb
      rw [h] at e
      cases e
    have S4 : Same H H4 := fun b o h => g2 b o (fun hb => by rw [nas0 b hb] at h; cases h) (a3 _ _ h)
    have kd4 : H4 dl = some (DictN P w dl xs) := g2 _ _ (fun hb => nad _ hb rfl) a1
    have sg := same_new hg (o := .lst [V.int 5])
    have sj := same_new hjj (o := .tup [.str (ch 113), .int 6, .int 1, .int 1, .ref dl, .ref g])
    have gj := sg.trans sj
    have kxs : ∀ (xs : List NRow) (ps : List (Addr × List Nat)), ChAt H3 xs ps → (∀ p ∈ ps, H4 p.1 = some (.tup (p.2.map nI))) → RowsN H4 xs := fun xs ps c => by
      induction c with
      | nil => intro _ x h; cases h
      | cons a t ih =>
        intro hp x hx
        rcases List.mem_cons.mp hx with e | hx
        · rw [e, a.1]
          exact ⟨nk_key (g2 _ _ (notas _ _ a.2.2) a.2.2) (hp _ List.mem_cons_self), keyN_depth _ _⟩
        · exact ih (fun p h => hp p (List.mem_cons_of_mem _ h)) x hx
    have rn : RowsN H4 xs := kxs _ _ a2 (prd_zip g3)
    have rj : RowsJ xs chainJ.keys chainJ.fs := by
      rw [chainJ_keys]
      have : ∀ (xs : List NRow) (ps : List (Addr × List Nat)), ChAt H3 xs ps → RowsJ xs ((ps.map (·.2)).map fun r => (113, r)) chainJ.fs := fun xs ps c => by
        induction c with
        | nil => exact .nil
        | cons a t ih => exact .cons ⟨a.1, a.2.1⟩ ih
      have := this _ _ a2
      rw [List.map_snd_zip (by rw [la]; exact Nat.le_refl _)] at this
      exact this
    exact q _ _ (S4.trans gj) ⟨jj, dl, g, xs, rfl, upd_same, gj _ _ kd4, rn.keep fun b ys h => gj _ _ h, rj, sj _ _ upd_same, S4.free hg⟩
end

theorem look_nd {α β : Type} [BEq α] [LawfulBEq α] {a : α} {b : β} : ∀ {l : List (α × β)}, (l.map (·.1)).Nodup → (a, b) ∈ l → l.lookup a = some b
  | (x, y) :: r, nd, h => by
    rw [List.map_cons, List.nodup_cons] at nd
    rcases List.mem_cons.mp h with h | h
    · cases h
      simp [List.lookup]
    · have ne : ¬ a = x := fun e => nd.1 (by rw [← e]; exact List.mem_map.mpr ⟨_, h, rfl⟩)
      have : (a == x) = false := by simpa using ne
      simp only [List.lookup, this]
      exact look_nd nd.2 h

section
open AutoSeq1 (wpAny_loadPart')
open MeetsSeq MeetsSeq2 MeetsSeq3 SeqRoads2
variable {P : Program} {w : World}
theorem agree_from (a b : Addr) (us vs : Array Value) (m m2 : Nat) (o o2 : Option Addr) (f f2 : Array (Option Value)) (same : us.size = vs.size) (left : Nat) :
    ∀ at_ : Nat, us.size - at_ = left → MeetsIn P w (Builtin.«list.__eq__.loop» ⟨[.ref a, .ref b, rawInt at_, rawInt 3], []⟩)
      (fun A R s => (s.heap.get? a = some { cls := .type "list", data := .seq us m, dict := o, slots := f } ∧ s.heap.get? b = some { cls := .type "list", data := .seq vs m2, dict := o2, slots := f2 }) ∧
        (∀ k (q1 : k < us.size) (q2 : k < vs.size), SeqAt.EqIn P w A.in1 s us[k] vs[k] true) ∧ R (.ok (.ret (.bool false))) s) := by
  induction left with
  | zero =>
    rintro at_ hl A R ⟨h, g, ds, ts, ou⟩ ⟨⟨x1, x2⟩, x3, x4⟩
    have n1 : us[((at_ : Nat) : Int).toNat]? = none := by simp; omega
    have n2 : vs[((at_ : Nat) : Int).toNat]? = none := by simp; omega
    wp_walk using wpAny_loadPart' x1, wpAny_loadPart' x2
    rw [n1, n2]
    wp_walk using wpAny_loadPart' x1, wpAny_loadPart' x2
    show R (.ok (.ret (.bool (us.size != vs.size)))) _
    rw [same]
    simpa using x4
  | succ left ih =>
    rintro at_ hl A R ⟨h, g, ds, ts, ou⟩ ⟨⟨x1, x2⟩, x3, x4⟩
    have l1 : at_ < us.size := by omega
    have l2 : at_ < vs.size := by omega
    have n1 : us[((at_ : Nat) : Int).toNat]? = some us[at_] := by simp [l1]
    have n2 : vs[((at_ : Nat) : Int).toNat]? = some vs[at_] := by simp [l2]
    have next : ((at_ : Int) + 1) = ((at_ + 1 : Nat) : Int) := by push_cast; rfl
    wp_walk using wpAny_loadPart' x1, wpAny_loadPart' x2
    rw [n1, n2]
    refine wpAny_bind (x3 at_ l1 l2 _ _ ?_)
    wp_walk
    rw [next]
    refine ⟨plainId_quiet plain_eq_loop _, codeAny_builtin entry_eq_loop ?_⟩
    rw [Around.under_plainId plain_eq_loop _]
    exact ih (at_ + 1) (by omega) A R _ ⟨⟨x1, x2⟩, x3, x4⟩
theorem agree_lists (a b : Addr) (us vs : Array Value) (m m2 : Nat) (o o2 : Option Addr) (f f2 : Array (Option Value)) (same : us.size = vs.size) :
    MeetsIn P w (Builtin.«list.__ne__» ⟨[.ref a, .ref b], []⟩)
      (fun A R s => (s.heap.get? a = some { cls := .type "list", data := .seq us m, dict := o, slots := f } ∧ s.heap.get? b = some { cls := .type "list", data := .seq vs m2, dict := o2, slots := f2 }) ∧
        (∀ k (q1 : k < us.size) (q2 : k < vs.size), SeqAt.EqIn P w A.in1 s us[k] vs[k] true) ∧ R (.ok (.ret (.bool false))) s) := by
  rintro A R ⟨h, g, ds, ts, ou⟩ ⟨⟨x1, x2⟩, x3, x4⟩
  have sub := AutoSeq1.sub_list_list
  have nn : ¬ (us.size != vs.size) = true := by simp [same]
  wp_walk using wpAny_loadPart' x1, wpAny_loadPart' x2
  refine ⟨plainId_quiet plain_eq_loop _, codeAny_builtin entry_eq_loop ?_⟩
  rw [Around.under_plainId plain_eq_loop _]
  exact agree_from a b us vs m m2 o o2 f f2 same _ 0 rfl A R _ ⟨⟨x1, x2⟩, x3, x4⟩
theorem agree_tuples (a b : Addr) (us vs : Array Value) (m m2 : Nat) (o o2 : Option Addr) (f f2 : Array (Option Value)) (same : us.size = vs.size) :
    MeetsIn P w (Builtin.«tuple.__ne__» ⟨[.ref a, .ref b], []⟩)
      (fun A R s => (s.heap.get? a = some { cls := .type "tuple", data := .seq us m, dict := o, slots := f } ∧ s.heap.get? b = some { cls := .type "tuple", data := .seq vs m2, dict := o2, slots := f2 }) ∧
        (∀ k (q1 : k < us.size) (q2 : k < vs.size), SeqAt.EqIn P w A.in1 s us[k] vs[k] true) ∧ R (.ok (.ret (.bool false))) s) :=
  .of_wp fun A R s full => by
    obtain ⟨h, g, ds, ts, ou⟩ := s
    obtain ⟨⟨x1, x2⟩, x3, x4⟩ := full
    have sub := AutoSeq1.sub_tuple_tuple
    have both : (us.toList.zip vs.toList).length = us.size := by simp [same]
    wp_walk using wpAny_loadPart' x1, wpAny_loadPart' x2, wpAny_forIn_list _ (fun rest c s' => c.1 = none ∧ s' = ⟨h, g, ds, ts, ou⟩ ∧ ∃ k, rest = (us.toList.zip vs.toList).drop k) _
    case turn =>
      rintro ⟨y, x⟩ rest c s' ⟨none_, rfl, k, left⟩
      have lt : k < (us.toList.zip vs.toList).length := by
        rcases Nat.lt_or_ge k (us.toList.zip vs.toList).length with z | z
        · exact z
        · rw [List.drop_of_length_le z] at left; cases left
      have l1 : k < us.size := both ▸ lt
      have l2 : k < vs.size := same ▸ l1
      rw [List.drop_eq_getElem_cons lt] at left
      injection left with pair tail
      obtain rfl : y = us[k] := by have := congrArg Prod.fst pair; simpa using this
      obtain rfl : x = vs[k] := by have := congrArg Prod.snd pair; simpa using this
      refine wpAny_bind (x3 k l1 l2 _ _ ?_)
      wp_walk
      exact ⟨rfl, rfl, k + 1, tail⟩
    case fin =>
      rintro ⟨c1, c2⟩ s' ⟨none_, rfl, k, left⟩
      simp only at none_
      subst none_
      wp_walk
      exact ⟨_, rfl, by simpa [Builtin.Tuple.tupleCompareSizes, bne, same] using x4⟩
    case h => exact ⟨rfl, rfl, 0, rfl⟩
theorem ne_agreeT {A : Around} {E Q : Value → Shared → Prop} {s : Shared} {a b : Addr} {us vs : Array Value} (x : s.heap.IsTuple a us) (y : s.heap.IsTuple b vs) (same : us.size = vs.size) (hu : A.units < cLine)
    (each : ∀ k (q1 : k < us.size) (q2 : k < vs.size), SeqAt.EqIn P w A.in1 s us[k] vs[k] true) (q : Q (.bool false) s) : wpAny (model P w) A (compareOp .NotEq (.ref a) (.ref b)) Q E s := by
  obtain ⟨⟨c1, o, t1, f⟩, x1, rfl, m, rfl⟩ := x
  obtain ⟨⟨c2, o2, t2, f2⟩, y1, rfl, m2, rfl⟩ := y
  refine wpAny_richCompare_same_room (T := "tuple") (op := .NotEq) ⟨_, x1, rfl⟩ ⟨_, y1, rfl⟩ F.slot_tuple_ne (call_meetsIn F.slot_tuple_ne ⟨_, x1, rfl⟩ F.entry_tuple_ne (F.args_tuple_ne_2 _ _) (agree_tuples a b us vs m m2 o o2 f f2 same) ⟨⟨x1, y1⟩, each, ?_⟩) hu
  exact show Value.bool false ≠ Value.notImplemented ∧ Q (.bool false) s from ⟨(fun e => nomatch e), q⟩
theorem ne_agree {A : Around} {E Q : Value → Shared → Prop} {s : Shared} {a b : Addr} {us vs : Array Value} (x : s.heap.IsList a us) (y : s.heap.IsList b vs) (same : us.size = vs.size) (hu : A.units < cLine)
    (each : ∀ k (q1 : k < us.size) (q2 : k < vs.size), SeqAt.EqIn P w A.in1 s us[k] vs[k] true) (q : Q (.bool false) s) : wpAny (model P w) A (compareOp .NotEq (.ref a) (.ref b)) Q E s := by
  obtain ⟨⟨c1, o, t1, f⟩, x1, rfl, m, rfl⟩ := x
  obtain ⟨⟨c2, o2, t2, f2⟩, y1, rfl, m2, rfl⟩ := y
  refine wpAny_richCompare_same_room (T := "list") (op := .NotEq) ⟨_, x1, rfl⟩ ⟨_, y1, rfl⟩ F.slot_list_ne (call_meetsIn F.slot_list_ne ⟨_, x1, rfl⟩ F.entry_list_ne (F.args_list_ne_2 _ _) (agree_lists a b us vs m m2 o o2 f f2 same) ⟨⟨x1, y1⟩, each, ?_⟩) hu
  exact show Value.bool false ≠ Value.notImplemented ∧ Q (.bool false) s from ⟨(fun e => nomatch e), q⟩
end
inductive EqH (K : PySem.W.Frag) (H : Hp) : Nat → V → V → Prop
  | dat {n : Nat} {x y : V} {d : PyData} : Dp K H x d → Dp K H y d → d.canLay0 = true → d.depth ≤ n → EqH K H n x y
  | lst {n : Nat} {a b : Addr} {xs ys : List V} : H a = some (.lst xs) → H b = some (.lst ys) → xs.length = ys.length → (∀ (j : Nat) (x y : V), xs[j]? = some x → ys[j]? = some y → EqH K H n x y) → EqH K H (n + 1) (.ref a) (.ref b)
  | tup {n : Nat} {a b : Addr} {xs ys : List V} : H a = some (.tup xs) → H b = some (.tup ys) → xs.length = ys.length → (∀ (j : Nat) (x y : V), xs[j]? = some x → ys[j]? = some y → EqH K H n x y) → EqH K H (n + 1) (.ref a) (.ref b)
  | dic {n : Nat} {a b : Addr} {es fs : List (Key × V)} : H a = some (.dK es) → H b = some (.dK fs) → es.length = fs.length → (∀ k v, (k, v) ∈ es → (valV fs k).isSome = true) → (∀ k v u, (k, v) ∈ es → valV fs k = some u → EqH K H n v u) → EqH K H (n + 1) (.ref a) (.ref b)
theorem all_true (n : Nat) : ((List.range n).all fun _ => true) = true := by
  rw [List.all_eq_true]
  intro _ _
  rfl
theorem pairs_mem : ∀ {es : List (Key × V)} {vs : List (Key × Value)} {k : Key} {u : Value}, KV es vs → (k, u) ∈ vs → ∃ v, (k, v) ∈ es ∧ RelV v u
  | _, _, _, _, .nil, h => by cases h
  | (_, v) :: _, _, _, _, .cons r t, h => by
    rcases List.mem_cons.mp h with e | e
    · cases e
      obtain ⟨e1, e2⟩ := r
      exact ⟨v, List.mem_cons.mpr (.inl (congrArg (fun z => (z, v)) (show _ = _ from e1.symm))), e2⟩
    · obtain ⟨x, e1, e2⟩ := pairs_mem t e
      exact ⟨x, List.mem_cons_of_mem _ e1, e2⟩
theorem vals_at {xs : List V} {us : List Value} (r : Vals xs us) {k : Nat} (hk : k < us.toArray.size) : ∃ x, xs[k]? = some x ∧ RelV x us.toArray[k] := by
  have hx : k < xs.length := by rw [r.length]; simpa using hk
  obtain ⟨u, hu, ru⟩ := r.get (List.getElem?_eq_getElem hx)
  refine ⟨_, List.getElem?_eq_getElem hx, ?_⟩
  have : us.toArray[k] = u := by
    have := List.getElem?_eq_some_iff.mp hu
    simpa using this.2
  rw [this]
  exact ru
section
variable {X : Cx} {pins : List (Addr × Obj)} {σ : List (Option V)} {H : Hp} {s : Shared}
theorem EqH.tree (I : Inv X pins σ H s) {n : Nat} {x y : V} (h : EqH X.K H n x y) : ∀ {v u : Value}, RelV x v → RelV y u → PySem.W.EqTree X.prog X.w s n v u true := by
  induction h with
  | @dat n x y d h1 h2 hl hd =>
    intro v u rx ry
    obtain ⟨as, r1⟩ := Dp.reads I d x v h1 rx
    obtain ⟨bs, r2⟩ := Dp.reads I d y u h2 ry
    have pl := PyData.plain_of_canLay0 d hl
    refine .leaf fun A hu => ?_
    have := SeqAt.eqAt_plain d d A s v u as bs r1 r2 pl pl (by rw [Nat.min_self]; omega)
    rw [SeqAt.eqv_refl_plain d pl] at this
    exact this
  | @lst n a b xs ys h1 h2 hl hi ih =>
    intro v u rx ry
    cases rx
    cases ry
    by_cases e : a = b
    · subst e
      exact .same
    obtain ⟨us, r1, ⟨o1, m1, g1, g2, _, g3⟩, _⟩ := I.list (SqL.of h1)
    obtain ⟨vs, r2, ⟨o2, m2, k1, k2, _, k3⟩, _⟩ := I.list (SqL.of h2)
    have := PySem.W.EqTree.lists (prog := X.prog) (w := X.w) (n := n) (e := fun _ => true) e ⟨o1, g1, g2, m1, g3⟩ ⟨o2, k1, k2, m2, k3⟩ (by simp only [List.size_toArray]; rw [← r1.length, ← r2.length, hl]) fun j q1 q2 => by
      obtain ⟨x, hx, rx⟩ := vals_at r1 q1
      obtain ⟨y, hy, ry⟩ := vals_at r2 q2
      exact ih j x y hx hy rx ry
    rw [all_true] at this
    exact this
  | @tup n a b xs ys h1 h2 hl hi ih =>
    intro v u rx ry
    cases rx
    cases ry
    by_cases e : a = b
    · subst e
      exact .same
    obtain ⟨us, r1, k1, _⟩ := I.tuple (SqT.of h1)
    obtain ⟨vs, r2, k2, _⟩ := I.tuple (SqT.of h2)
    have := PySem.W.EqTree.tuples (prog := X.prog) (w := X.w) (n := n) (e := fun _ => true) e k1 k2 fun j q1 q2 => by
      obtain ⟨x, hx, rx⟩ := vals_at r1 q1
      obtain ⟨y, hy, ry⟩ := vals_at r2 q2
      exact ih j x y hx hy rx ry
    have len : us.length = vs.length := by rw [← r1.length, ← r2.length, hl]
    rw [all_true] at this
    simpa [len] using this
  | @dic n a b es fs h1 h2 hl hs hi ih =>
    intro v u rx ry
    cases rx
    cases ry
    by_cases e : a = b
    · subst e
      exact .same
    obtain ⟨_, n1, vs, r1, d1⟩ := (show ObjOk X.prog X.w H s.heap a (.dK es) from I.hok a _ h1)
    obtain ⟨_, n2, us, r2, d2⟩ := (show ObjOk X.prog X.w H s.heap b (.dK fs) from I.hok b _ h2)
    have := PySem.W.EqTree.dicts (prog := X.prog) (w := X.w) (n := n) (e := fun _ => true) e n1 n2 d1 d2 fun k v y hm hy => by
      obtain ⟨x, hx, rx⟩ := pairs_mem r1 hm
      have rl := r2.val k
      rw [hy] at rl
      cases hq : valV fs k with
      | none => rw [hq] at rl; exact (show False from rl).elim
      | some z =>
        rw [hq] at rl
        exact ih k x z hx hq rx rl
    have all : (vs.all fun p => (PySem.valueAt us p.1).isSome && true) = true := by
      rw [List.all_eq_true]
      rintro ⟨k, v⟩ hm
      obtain ⟨x, hx, _⟩ := pairs_mem r1 hm
      have rl := r2.val k
      have := hs k x hx
      cases hq : valV fs k with
      | none => rw [hq] at this; cases this
      | some z =>
        rw [hq] at rl
        cases hp : PySem.valueAt us k with
        | none => rw [hp] at rl; exact (show False from rl).elim
        | some _ => simp [hp]
    have len : vs.length = us.length := by rw [← r1.length, ← r2.length, hl]
    rw [all, len] at this
    simpa using this
end
theorem roomH {k : Nat} {A : Around} (r : Room k A) : A.units + 200 < cLine := by have := r.un; omega
def rNeH (K : PySem.W.Frag) : R2 := fun x y H Q => ∃ (a b : Addr) (xs ys : List V) (n : Nat), x = .ref a ∧ y = .ref b ∧ H a = some (.lst xs) ∧ H b = some (.lst ys) ∧ xs.length = ys.length ∧ (∀ (j : Nat) (x y : V), xs[j]? = some x → ys[j]? = some y → EqH K H n x y) ∧ n ≤ 190 ∧ Q (.bl false) H
theorem op_neH {X : Cx} (hu : X.A.units + 200 < cLine) : OpR X (compareOp .NotEq) (rNeH X.K) := by
  intro pins s σ H x y v u Q I rx ry h
  obtain ⟨a, b, xs, ys, n, rfl, rfl, h1, h2, hl, hi, hn, q⟩ := h
  cases rx
  cases ry
  obtain ⟨us, r1, ⟨o1, m1, g1, g2, _, g3⟩, _⟩ := I.list (SqL.of h1)
  obtain ⟨vs, r2, ⟨o2, m2, k1, k2, _, k3⟩, _⟩ := I.list (SqL.of h2)
  refine ne_agree ⟨o1, g1, g2, m1, g3⟩ ⟨o2, k1, k2, m2, k3⟩ (by simp only [List.size_toArray]; rw [← r1.length, ← r2.length, hl]) (by omega) (fun j q1 q2 => ?_) ⟨.bl _, H, I, rfl, q⟩
  obtain ⟨x, hx, rx⟩ := vals_at r1 q1
  obtain ⟨y, hy, ry⟩ := vals_at r2 q2
  exact ((hi j x y hx hy).tree I rx ry).at _ (by show X.A.units + 1 + n < cLine; omega)
def rNeHT (K : PySem.W.Frag) : R2 := fun x y H Q => ∃ (a b : Addr) (xs ys : List V) (n : Nat), x = .ref a ∧ y = .ref b ∧ H a = some (.tup xs) ∧ H b = some (.tup ys) ∧ xs.length = ys.length ∧ (∀ (j : Nat) (x y : V), xs[j]? = some x → ys[j]? = some y → EqH K H n x y) ∧ n ≤ 190 ∧ Q (.bl false) H
theorem op_neHT {X : Cx} (hu : X.A.units + 200 < cLine) : OpR X (compareOp .NotEq) (rNeHT X.K) := by
  intro pins s σ H x y v u Q I rx ry h
  obtain ⟨a, b, xs, ys, n, rfl, rfl, h1, h2, hl, hi, hn, q⟩ := h
  cases rx
  cases ry
  obtain ⟨us, r1, k1, _⟩ := I.tuple (SqT.of h1)
  obtain ⟨vs, r2, k2, _⟩ := I.tuple (SqT.of h2)
  refine ne_agreeT k1 k2 (by simp only [List.size_toArray]; rw [← r1.length, ← r2.length, hl]) (by omega) (fun j q1 q2 => ?_) ⟨.bl _, H, I, rfl, q⟩
  obtain ⟨x, hx, rx⟩ := vals_at r1 q1
  obtain ⟨y, hy, ry⟩ := vals_at r2 q2
  exact ((hi j x y hx hy).tree I rx ry).at _ (by show X.A.units + 1 + n < cLine; omega)
theorem lets_ok {L : Str} (h : Lets L) : PyData.strOk L = true := by
  unfold PyData.strOk
  rw [Array.all_eq_true_iff_forall_mem]
  intro c hc
  have := h.2.2 c (by simpa using hc)
  simp
  omega

section
variable {P : Program} {w : World} {A : Around} {E : Value → Shared → Prop} {s : Shared}
theorem range_head {m i j : Nat} {rest : List Nat} (h : j :: rest = List.range' i (m - i)) : i < m ∧ j = i ∧ rest = List.range' (i + 1) (m - (i + 1)) := by
  have lt : i < m := by
    rcases Nat.lt_or_ge i m with z | z
    · exact z
    · rw [Nat.sub_eq_zero_of_le z] at h
      simp at h
  rw [show m - i = (m - (i + 1)) + 1 by omega, List.range'_succ] at h
  injection h with a b
  exact ⟨lt, a, b⟩
theorem agree_pairs {nm : String} {a b : Addr} {us vs : List (NestedKey × Addr × Value)} {Q : Bool → Shared → Prop} (na : (a == sysModules) = false) (nb : (b == sysModules) = false) (room : A.units + 8 < cLine)
    (x : s.heap.DictOfH (nestedKind P w) a us) (y : s.heap.DictOfH (nestedKind P w) b vs) (len : us.length = vs.length)
    (hit : ∀ k c v, (k, c, v) ∈ us → ∃ e u, (k, e, u) ∈ vs ∧ SeqAt.EqIn P w A s v u true) (q : Q true s) : wpAny (model P w) A (Builtin.Dict.samePairs nm a b) Q E s := by
  obtain ⟨o1, e1, p1, g1, _, d1, l1, i1, n1⟩ := x
  obtain ⟨o2, e2, p2, g2, _, d2, l2, i2, n2⟩ := y
  have z1 : e1.size = us.length := size_of_entries l1
  have z2 : e2.size = vs.length := size_of_entries l2
  unfold Builtin.Dict.samePairs Builtin.Dict.showsAll
  rw [na, nb]
  simp only [Bool.false_eq_true, if_false]
  refine wpAny_bind (wpAny_pure (wpAny_bind (wpAny_pure (wpAny_bind (wpAny_dictEntries g1 d1 ?_)))))
  refine wpAny_bind (wpAny_dictEntries g2 d2 ?_)
  rw [if_neg (by rw [z1, z2, len]; simp)]
  refine wpAny_bind (wpAny_dictEpoch g1 d1 (wpAny_bind ?_))
  rw [Std.Legacy.Range.forIn_eq_forIn_range']
  simp only [Nat.div_one, Nat.add_sub_cancel, Nat.sub_zero, Std.Legacy.Range.size]
  refine wpAny_forIn_list _ (fun rest c s' => s' = s ∧ c = (none, ()) ∧ ∃ i, rest = List.range' i (e1.size - i)) _ ?_ ?_ _ _ ⟨rfl, rfl, 0, by simp⟩
  · rintro j rest c s' ⟨rfl, rfl, i, hr⟩
    obtain ⟨lt, rfl, tail⟩ := range_head hr
    have lu : j < us.length := z1 ▸ lt
    obtain ⟨k, c, v, row⟩ : ∃ k c v, us[j] = (k, c, v) := ⟨_, _, _, rfl⟩
    have mem : (k, c, v) ∈ us := row ▸ List.getElem_mem lu
    obtain ⟨e, u, hm, he⟩ := hit k c v mem
    refine wpAny_bind (wpAny_dictEntries g1 d1 ?_)
    rw [entry_at l1 j, List.getElem?_eq_getElem lu, row]
    show wpAny _ _ (holding [Value.ref c, v] (dictFind b (.ref c) ((nestedKind P w).hash k) >>= _) >>= _) _ _ _
    refine wpAny_bind (wpAny_holding (wpAny_bind (wpAny_dictFind_heap room (i1 _ mem) g2 d2 l2 i2 n2 (fun no => ?_) fun m p hp => ?_)))
    · obtain ⟨m, hm⟩ := List.getElem?_of_mem hm
      exact absurd hm (no m (e, u))
    · have same : p = (e, u) := Option.some.inj ((look_nd n2 (List.mem_of_getElem? hp)).symm.trans (look_nd n2 hm))
      subst same
      refine wpAny_bind (wpAny_dictEntries g2 d2 ?_)
      rw [entry_at l2 m, hp]
      refine wpAny_holding (he _ _ ?_)
      show wpAny _ _ (if (!true) = true then _ else _) _ _ _
      rw [if_neg (by decide)]
      refine wpAny_bind (wpAny_dictEpoch g1 d1 ?_)
      rw [if_neg (by simp)]
      exact wpAny_pure ⟨rfl, rfl, j + 1, tail⟩
  · rintro c s' ⟨rfl, rfl, _, _⟩
    exact wpAny_pure q
theorem agree_tables {a b : Addr} {us vs : List (NestedKey × Addr × Value)} (na : (a == sysModules) = false) (nb : (b == sysModules) = false) (room : A.units + 9 < cLine)
    (x : s.heap.DictOfH (nestedKind P w) a us) (y : s.heap.DictOfH (nestedKind P w) b vs) (len : us.length = vs.length)
    (hit : ∀ k c v, (k, c, v) ∈ us → ∃ e u, (k, e, u) ∈ vs ∧ SeqAt.EqIn P w A.in1 s v u true) : SeqAt.EqIn P w A s (.ref a) (.ref b) true := by
  by_cases e : a = b
  · subst e
    exact (SeqAt.EqAt.same _).inModel P w
  refine SeqAt.EqIn.of_refs e fun E Q q => ?_
  refine wpAny_richCompare_same_room (T := "dict") (op := .Eq) x.typeIs y.typeIs F.slot_dict_eq (wpAny_call_entry F.slot_dict_eq x.typeIs F.entry_dict_eq ?_ (F.args_dict_eq_2 _ _)) (by omega)
  show wpAny _ _ (Builtin.Dict.dictSlotArgs "__eq__" ⟨[.ref a, .ref b], []⟩ >>= _) _ _ s
  unfold Builtin.Dict.dictSlotArgs
  refine wpAny_bind (wpAny_bind (wpAny_notOrdered_dict x.typeIs ?_))
  show wpAny _ _ (pure (f := Sem) ((Value.ref a : Value), (Value.ref b : Value))) _ _ s
  refine wpAny_pure (wpAny_bind (wpAny_isInstance (T := "dict") y.typeIs F.sub_dict_dict ?_))
  rw [if_neg (by decide)]
  refine wpAny_bind (wpAny_pure (wpAny_bind (wpAny_pure (wpAny_bind (agree_pairs na nb (by show A.units + 1 + 8 < cLine; omega) x y len hit ?_)))))
  exact wpAny_pure ⟨_, rfl, (fun z => nomatch z), q⟩
end
def SameT (xs ys : List NRow) : Prop := xs.length = ys.length ∧ ∀ k c v, (k, c, v) ∈ xs → ∃ (e : Addr) (n : Int), v = .int n ∧ (k, e, v) ∈ ys
theorem rows_left {xs : List NRow} {us : List (NestedKey × Addr × Value)} (p : Paired (fun (p : NRow) (q : NestedKey × Addr × Value) => p.1 = q.1 ∧ p.2.1 = q.2.1 ∧ RelV p.2.2 q.2.2) xs us) {k : NestedKey} {c : Addr} {u : Value} (h : (k, c, u) ∈ us) : ∃ v, (k, c, v) ∈ xs ∧ RelV v u := by
  induction p with
  | nil => cases h
  | cons r t ih =>
    rename_i x y xs us
    rcases List.mem_cons.mp h with e | e
    · subst e
      obtain ⟨x1, x2, x3⟩ := x
      obtain ⟨r1, r2, r3⟩ := r
      dsimp only at r1 r2 r3
      subst r1 r2
      exact ⟨x3, List.mem_cons_self, r3⟩
    · obtain ⟨v, h1, h2⟩ := ih e
      exact ⟨v, List.mem_cons_of_mem _ h1, h2⟩
theorem rows_right {xs : List NRow} {us : List (NestedKey × Addr × Value)} (p : Paired (fun (p : NRow) (q : NestedKey × Addr × Value) => p.1 = q.1 ∧ p.2.1 = q.2.1 ∧ RelV p.2.2 q.2.2) xs us) {k : NestedKey} {c : Addr} {v : V} (h : (k, c, v) ∈ xs) : ∃ u, (k, c, u) ∈ us ∧ RelV v u := by
  induction p with
  | nil => cases h
  | cons r t ih =>
    rename_i x y xs us
    rcases List.mem_cons.mp h with e | e
    · subst e
      obtain ⟨x1, x2, x3⟩ := y
      obtain ⟨r1, r2, r3⟩ := r
      dsimp only at r1 r2 r3
      subst r1 r2
      exact ⟨x3, List.mem_cons_self, r3⟩
    · obtain ⟨v, h1, h2⟩ := ih e
      exact ⟨v, List.mem_cons_of_mem _ h1, h2⟩
def EqHN (K : PySem.W.Frag) (P : Program) (w : World) (H : Hp) (n : Nat) (x y : V) : Prop := EqH K H n x y ∨ ∃ (a b : Addr) (xs ys : List NRow), x = .ref a ∧ y = .ref b ∧ H a = some (DictN P w a xs) ∧ RowsN H xs ∧ H b = some (DictN P w b ys) ∧ RowsN H ys ∧ SameT xs ys
theorem EqHN.at {X : Cx} {pins : List (Addr × Obj)} {σ : List (Option V)} {H : Hp} {s : Shared} (I : Inv X pins σ H s) {n : Nat} {x y : V} (h : EqHN X.K X.prog X.w H n x y) (hn : n ≤ 190) {v u : Value} (rx : RelV x v) (ry : RelV y u) {A : Around} (hu : A.units + 199 < cLine) : SeqAt.EqIn X.prog X.w A s v u true := by
  rcases h with h | ⟨a, b, xs, ys, rfl, rfl, h1, k1, h2, k2, len, each⟩
  · exact (h.tree I rx ry).at _ (by omega)
  cases rx
  cases ry
  obtain ⟨na, us, p1, d1⟩ := dictN_of I h1 k1
  obtain ⟨nb, vs, p2, d2⟩ := dictN_of I h2 k2
  refine agree_tables na nb (by omega) d1 d2 (by rw [← Paired.length p1, ← Paired.length p2, len]) fun k c v hm => ?_
  obtain ⟨x, hx, rx⟩ := rows_left p1 hm
  obtain ⟨e, n, rfl, hy⟩ := each k c x hx
  obtain ⟨u, hu2, ru⟩ := rows_right p2 hy
  refine ⟨e, u, hu2, ?_⟩
  have dx : Dp X.K H (.int n) (.int n) := .int n
  have t : EqH X.K H 1 (V.int n) (V.int n) := .dat dx dx (by simp only [PyData.canLay0]) (Nat.zero_le _)
  exact (t.tree I rx ru).at _ (by show A.units + 1 + 1 < cLine; omega)
def rNeHN (K : PySem.W.Frag) (P : Program) (w : World) : R2 := fun x y H Q => ∃ (a b : Addr) (xs ys : List V) (n : Nat), x = .ref a ∧ y = .ref b ∧ H a = some (.tup xs) ∧ H b = some (.tup ys) ∧ xs.length = ys.length ∧ (∀ (j : Nat) (x y : V), xs[j]? = some x → ys[j]? = some y → EqHN K P w H n x y) ∧ n ≤ 190 ∧ Q (.bl false) H
theorem op_neHN {X : Cx} (hu : X.A.units + 200 < cLine) : OpR X (compareOp .NotEq) (rNeHN X.K X.prog X.w) := by
  intro pins s σ H x y v u Q I rx ry h
  obtain ⟨a, b, xs, ys, n, rfl, rfl, h1, h2, hl, hi, hn, q⟩ := h
  cases rx
  cases ry
  obtain ⟨us, r1, k1, _⟩ := I.tuple (SqT.of h1)
  obtain ⟨vs, r2, k2, _⟩ := I.tuple (SqT.of h2)
  refine ne_agreeT k1 k2 (by simp only [List.size_toArray]; rw [← r1.length, ← r2.length, hl]) (by omega) (fun j q1 q2 => ?_) ⟨.bl _, H, I, rfl, q⟩
  obtain ⟨x, hx, rx⟩ := vals_at r1 q1
  obtain ⟨y, hy, ry⟩ := vals_at r2 q2
  exact (hi j x y hx hy).at I hn rx ry (by show X.A.units + 1 + 199 < cLine; omega)

theorem sameT_perm {xs ys : List NRow} {k1 k2 : List (Nat × List Nat)} {fs : Nat → List Nat → Nat} (x : RowsJ xs k1 fs) (y : RowsJ ys k2 fs) (p : k1.Perm k2) : SameT xs ys := by
  refine ⟨by rw [Paired.length x, Paired.length y, p.length_eq], fun k c v hm => ?_⟩
  obtain ⟨key, hk, e1, e2⟩ := prd_mem x hm
  obtain ⟨i, hi⟩ := List.getElem?_of_mem (p.mem_iff.mp hk)
  have hl : i < ys.length := by rw [Paired.length y]; exact (List.getElem?_eq_some_iff.mp hi).1
  have hy : ys[i]? = some ys[i] := List.getElem?_eq_getElem hl
  obtain ⟨key2, hk2, f1, f2⟩ := prd_at y hy
  rw [hi] at hk2
  cases hk2
  dsimp only at e1 e2
  refine ⟨ys[i].2.1, _, e2, ?_⟩
  have : ys[i] = (k, ys[i].2.1, v) := Prod.ext (f1.trans e1.symm) (Prod.ext rfl (f2.trans e2.symm))
  rw [← this]
  exact List.mem_of_getElem? hy
theorem judges_eq {P : Program} {w : World} {K : PySem.W.Frag} {H : Hp} {v u : V} {J : JD} (hL : Lets J.L) (x : JAt P w H v J) (y : JAt P w H u J) : ∃ (a b : Addr) (xs ys : List V), v = .ref a ∧ u = .ref b ∧ H a = some (.tup xs) ∧ H b = some (.tup ys) ∧ xs.length = ys.length ∧ ∀ (j : Nat) (x y : V), xs[j]? = some x → ys[j]? = some y → EqHN K P w H 90 x y := by
  obtain ⟨a, d, g, xs, k1, rfl, a1, a2, a3, a4, a5, a6⟩ := x
  obtain ⟨b, e, f, ys, k2, rfl, b1, b2, b3, b4, b5, b6⟩ := y
  refine ⟨_, _, _, _, rfl, rfl, a1, b1, rfl, ?_⟩
  have i1 : ∀ m : Nat, EqH K H 90 (nI m) (nI m) := fun m => .dat (.int _) (.int _) (by simp only [PyData.canLay0]) (by simp [PyData.depth])
  intro j x y h1 h2
  rcases j with _ | _ | _ | _ | _ | _ | j
  · cases h1; cases h2
    exact .inl (.dat (.str _) (.str _) (by simp only [PyData.canLay0]; exact lets_ok hL) (by simp [PyData.depth]))
  · cases h1; cases h2; exact .inl (i1 _)
  · cases h1; cases h2; exact .inl (i1 _)
  · cases h1; cases h2; exact .inl (i1 _)
  · cases h1; cases h2
    exact .inr ⟨d, e, xs, ys, rfl, rfl, a2, a3, b2, b3, sameT_perm a4 b4 (a5.trans b5.symm)⟩
  · cases h1; cases h2
    refine .inl (.lst a6 b6 rfl fun j x y h1 h2 => ?_)
    rw [h1] at h2
    cases h2
    rw [List.getElem?_map] at h1
    cases hm : J.good[j]? with
    | none => rw [hm] at h1; cases h1
    | some m =>
      rw [hm] at h1
      cases h1
      exact .dat (.int _) (.int _) (by simp only [PyData.canLay0]) (by simp [PyData.depth])
  · cases h1


def spLaw (K : PySem.W.Frag) : Sp := fun vs H Q _ => ∃ (a : Addr) (ns : List Int), vs = [.ref a] ∧ SqL K H a (ns.map V.int) ∧ ns.length ≤ 63 ∧ ∀ H', Q (.bl true) H'

theorem keysC_steps {J : JD} {S : List Nat} (hS : ComeL J S) : KeysC J (stepsR J S (rowsTo J.n (J.few + J.turn))) := fun key => by
  rw [steps_mem]
  constructor
  · rintro ⟨h1, h2, h3⟩
    obtain ⟨g1, g2⟩ := rowsTo_mem h2
    exact ⟨keysOf_all h1 g1 g2, fun i x hx h0 => (hS.2 i).mp ((onlyR_iff g1).mp h3 i x hx h0)⟩
  · rintro ⟨h1, h2⟩
    obtain ⟨hc, hlen, hkk⟩ := keysOf_mem h1
    exact ⟨hc, rowsTo_all hlen hkk, (onlyR_iff hlen).mpr fun i x hx h0 => (hS.2 i).mpr (h2 i x hx h0)⟩
theorem come_one {J : JD} {S S' : List Nat} (h : ComeL J S) (h' : ComeL J S') : S = S' := by
  have nd := h.1.imp fun h => Nat.ne_of_lt h
  have nd' := h'.1.imp fun h => Nat.ne_of_lt h
  have p : S.Perm S' := perm_nodup nd nd' fun a => (h.2 a).trans (h'.2 a).symm
  exact List.Perm.eq_of_pairwise (le := fun a b => a < b) (fun a b _ _ h1 h2 => by omega) h.1 h'.1 p
theorem grp_one {J : JD} {S S' : List Nat} {ks ks' : List (Nat × List Nat)} (h : ComeL J S) (h' : ComeL J S') (k : KeysC J ks) (k' : KeysC J ks') : grp (RJ J ks J.n) S = grp (RJ J ks' J.n) S' := by
  rw [come_one h h']
  exact grp_same fun p _ q _ => rb_same (fun x => (k x).trans (k' x).symm) J.n p q
section
variable {P : Program} {w : World} {K : PySem.W.Frag} {mg : Str → Option Value} {base : Heap}
theorem ok_law (T : Txt K mg) : FnOk P w K mg base CX0 10 T.f_law T.d_law ["script"] (spLaw K) := by
  have G__law_draws : FnOk P w K mg base CX0 1 T.f__law_draws T.d__law_draws ["script", "many"] (sp__law_draws K) := ok__law_draws T
  have G__law_judge : FnOk P w K mg base CX0 2 T.f__law_judge T.d__law_judge ["d", "spot"] (sp__law_judge P w K) := ok__law_judge T
  have G__law_chain : FnOk P w K mg base CX0 2 T.f__law_chain T.d__law_chain [] (sp__law_chain P w) := ok__law_chain T
  have G__law_laid : FnOk P w K mg base CX0 1 T.f__law_laid T.d__law_laid ["judge", "x"] (sp__law_laid P w) := ok__law_laid T
  have G__law_coming : FnOk P w K mg base CX0 3 T.f__law_coming T.d__law_coming ["judge"] (sp__law_coming P w) := ok__law_coming T
  have G__law_groups : FnOk P w K mg base CX0 4 T.f__law_groups T.d__law_groups ["judge", "coming"] (sp__law_groups P w) := ok__law_groups T
  have G_alike_paper : FnOk P w K mg base CX0 6 T.f_alike_paper T.d_alike_paper ["judge"] (sp_alike_paper P w) := ok_alike_paper T
  have G__law_is_paper : FnOk P w K mg base CX0 1 T.f__law_is_paper T.d__law_is_paper ["found", "due"] sp__law_is_paper := ok__law_is_paper T
  refine T.F_law.ok sc_law (fun vs H Q E h => ?_) (fun cdv A outer s H vs Q E hr h => ?_)
  · obtain ⟨a, ns, rfl, _⟩ := h
    rfl
  obtain ⟨a, ns, rfl, hS, h63, qq⟩ := h
  refine ⟨_, (pss_cons (ps_set (i := 1) sc_law.nd rfl (Or.inl rfl) (pe_call G__law_draws (hr.mono (by omega)) (by rfl) T.m__law_draws T.F__law_draws.kp T.b__law_draws .nil pass0 (pa_cons (pv 0) (pa_cons pe_int pa_nil)))) (pss_cons (ps_for PassesOwn.never rfl (pi_range1 (by rfl) T.z_range (pa_cons pe_int pa_nil)) (pg_name (i := 2) sc_law.nd rfl (Or.inl rfl)) (pss_cons (ps_set (i := 3) sc_law.nd rfl (Or.inl rfl) (pe_call G__law_judge (hr.mono (by omega)) (by rfl) T.m__law_judge T.F__law_judge.kp T.b__law_judge .nil pass0 (pa_cons (pv 1) (pa_cons (pe_op op_mul pe_int (pv 2)) pa_nil)))) (C8.pss_cut (ps_if (PW.pt (pw_and (pt_cmpR op_eq (pv 2) pe_int (nomark _)) (pw_and1 (pt_cmpR op_eq (pe_op op_mod (pe_ix ix_list (pv 1) pe_int (fun _ _ => rfl)) pe_int) pe_int (nomark _))))) (pss_one (ps_set (i := 3) sc_law.nd rfl (Or.inl rfl) (pe_call0 G__law_chain (hr.mono (by omega)) (by rfl) T.m__law_chain T.F__law_chain.kp T.b__law_chain .nil pass0))) pss_nil) (pss_cons (ps_set (i := 4) sc_law.nd rfl (Or.inl rfl) (pe_call G__law_laid (hr.mono (by omega)) (by rfl) T.m__law_laid T.F__law_laid.kp T.b__law_laid .nil pass0 (pa_cons (pv 3) (pa_cons (pe_ix ix_list (pv 1) (pe_op op_add pe_int (pv 2)) (fun _ _ => rfl)) pa_nil)))) (pss_cons (ps_set (i := 5) sc_law.nd rfl (Or.inl rfl) (pe_call G__law_groups (hr.mono (by omega)) (by rfl) T.m__law_groups T.F__law_groups.kp T.b__law_groups .nil pass0 (pa_cons (pv 3) (pa_cons (pe_call G__law_coming (hr.mono (by omega)) (by rfl) T.m__law_coming T.F__law_coming.kp T.b__law_coming .nil pass0 (pa_cons (pv 3) pa_nil)) pa_nil)))) (pss_cons (ps_set (i := 6) sc_law.nd rfl (Or.inl rfl) (pe_call G_alike_paper (hr.mono (by omega)) (by rfl) T.m_alike_paper T.F_alike_paper.kp T.b_alike_paper .nil pass0 (pa_cons (pv 4) pa_nil))) (pss_cons (ps_if (PW.pt (pw_or (pt_not (pt_val (pe_call G__law_is_paper (hr.mono (by omega)) (by rfl) T.m__law_is_paper T.F__law_is_paper.kp T.b__law_is_paper .nil pass0 (pa_cons (pv 6) (pa_cons (pv 5) pa_nil))))) (pw_or1 (pt_cmpR (op_neHN (roomH hr)) (pv 4) (pv 3) (nomark _))))) (pss_one (ps_ret pe_bl)) pss_nil) (pss_cons (ps_expr (pe_bm PySem.F.plainAttrs_list PySem.F.slot_list_append PySem.F.type_list_append mt_append (pe_ix ix_list (pv 6) pe_int (fun _ _ => rfl)) (pa_cons pe_int pa_nil))) (pss_cons (ps_expr (pe_bm PySem.F.plainAttrs_list PySem.F.slot_list_append PySem.F.type_list_append mt_append (pv 6) (pa_cons (pe_lst pa_nil) pa_nil))) (pss_one (ps_if (PW.pt (pw_or (pt_not (pt_val (pe_call G__law_is_paper (hr.mono (by omega)) (by rfl) T.m__law_is_paper T.F__law_is_paper.kp T.b__law_is_paper .nil pass0 (pa_cons (pe_call G_alike_paper (hr.mono (by omega)) (by rfl) T.m_alike_paper T.F_alike_paper.kp T.b_alike_paper .nil pass0 (pa_cons (pv 4) pa_nil)) (pa_cons (pv 5) pa_nil))))) (pw_or1 (pt_cmpR (op_neHN (roomH hr)) (pv 4) (pv 3) (nomark _))))) (pss_one (ps_ret pe_bl)) pss_nil))))))))))) (pss_one (ps_ret pe_bl)))), ?_⟩
  refine ⟨_, rfl, a, ns, 90, rfl, hS, by decide, fun r ds H1 s1 r0 kr hds hl1 hl2 => ?_⟩
  have hdat : ∀ i : Nat, i < ds.length → ∃ x : Nat, atI (ds.map nI) (i : Int) = some (nI x) := fun i hi => by
    have e : ds[i]? = some ds[i] := List.getElem?_eq_getElem hi
    exact ⟨ds[i], atI_nat (by rw [List.getElem?_map, e]; rfl)⟩
  refine ⟨2, rfl, by decide, by decide, for_range (lo := 0) (n := 2) (fun i σ H' => (∃ y3 y4 y5 y6, ∃ y2, σ = [some (.ref a), some (.ref r), y2, y3, y4, y5, y6]) ∧ Same H1 H') ⟨⟨_, _, _, _, _, rfl⟩, Same.refl _⟩ ?_ ?_⟩
  · rintro i σ H2 hi ⟨⟨y3, y4, y5, y6, y2, rfl⟩, S2⟩
    have kr2 := S2 _ _ kr
    have e42 : (42 : Int) * (0 + (i : Int)) = ((42 * i : Nat) : Int) := by omega
    refine ⟨_, rfl, _, rfl, _, _, rfl, rfl, .inl ⟨by omega, by omega⟩, r, ds, 42 * i, congrArg (fun z => [V.ref r, V.int z]) e42, SqL.of kr2, by omega, by omega, fun jv0 J0 H3 s3 hok0 hri0 hup0 hJ0 => ?_⟩
    have S3 := S2.trans s3
    obtain ⟨x88, hx88⟩ := hdat 88 (by omega)
    obtain ⟨x84, hx84⟩ := hdat (84 + i) (by omega)
    have e84 : ((84 + i : Nat) : Int) = (84 : Int) + (0 + (i : Int)) := by omega
    rw [e84] at hx84
    refine ⟨fun σ' H' => ∃ (jv : V) (J : JD) (ok : Addr → Prop), σ' = [some (.ref a), some (.ref r), some (V.int (0 + (i : Int))), some jv, y4, y5, y6] ∧ J.ok ∧ Rises J.L ∧ JAtO P w ok H' jv J ∧ Same H1 H', ?_, ?_⟩
    · refine ⟨_, rfl, rfl, _, rfl, ite2 (fun h1 => ⟨_, rfl, r, _, 88, _, rfl, rfl, SqL.of (S3 _ _ kr), hx88, _, _, rfl, rfl, (by show (0 : Int) < 8; decide), rfl, _, rfl, ite2 (fun h2 => ?_) (fun h2 => ?_)⟩) fun h1 => ite2 (fun h2 => Bool.noConfusion h2) fun h2 => ?_⟩
      · exact ⟨rfl, fun jv H4 s4 hJ => ⟨jv, chainJ, _, rfl, chainJ_ok, chainJ_rises, hJ.o, S3.trans s4⟩⟩
      · exact ⟨jv0, J0, _, rfl, hok0, hri0, hJ0.o, S3⟩
      · exact ⟨jv0, J0, _, rfl, hok0, hri0, hJ0.o, S3⟩
    rintro σ' H4 ⟨jv, J, ok, rfl, hok, hri, hJ, S4⟩
    clear hJ0 hok0 hri0 hup0 S3 s3 S2 kr2
    refine ⟨_, rfl, _, rfl, _, rfl, _, _, rfl, rfl, r, _, _, _, rfl, rfl, SqL.of (S4 _ _ kr), hx84, jv, x84, J, ok, rfl, hJ, hok, hri, fun hv H5 s5 hH => ?_⟩
    have hJ5 := hJ.at.same s5
    have hH5 := hH.at
    have S5 := S4.trans s5
    refine ⟨_, rfl, _, rfl, jv, J, rfl, hJ5, hok, fun rc S H6 s6 rc0 krc pS mS => ?_⟩
    have hS : ComeL J S := ⟨pS, fun s => (mS s).trans (comes_lev hok s).symm⟩
    have hk := keysC_steps hS
    refine ⟨jv, J, rc, S, rfl, hJ5.same s6, hok, krc, pS, fun s hs => lev_small hok ((mS s).mp hs), fun key hkey p hp => beh_in hok hk hS hkey hp, fun dq gs H7 s7 dq0 gs0 kdq kG => ?_⟩
    have s67 := s6.trans s7
    have S7 := S5.trans s67
    have hJ7 := hJ5.same s67
    have hH7 := hH5.same s67
    refine ⟨_, rfl, hv, J, rfl, hH7, hok, fun fq us ks S' H8 hk' hS' ne' s8 fq0 us0 kfq kU => ?_⟩
    rw [grp_one hS' hS hk' hk] at kU
    have lG : (grp (RJ J (stepsR J S (rowsTo J.n (J.few + J.turn))) J.n) S).length ≤ 6 := by
      have h1 := grp_len (RJ J (stepsR J S (rowsTo J.n (J.few + J.turn))) J.n) S
      have h2 := rise_few S 0 J.n pS fun s hs => ⟨Nat.zero_le _, lev_small hok ((mS s).mp hs)⟩
      have := hok.n6
      omega
    have gne : grp (RJ J (stepsR J S (rowsTo J.n (J.few + J.turn))) J.n) S ≠ [] := fun e => by
      have h1 := grp_flat_len (rb_eqv (good := goodB J) (dl := behF J) (ks := stepsR J S (rowsTo J.n (J.few + J.turn))) J.n) pS
      rw [e] at h1
      exact come_ne hok hS (List.length_eq_zero_iff.mp h1.symm)
    refine ⟨_, rfl, _, rfl, fq, dq, us, gs, _, rfl, kfq, kU, s8 _ _ kdq, kG.same s8, by omega, fun H9 s9 => ⟨_, rfl, iteF ?_⟩⟩
    have s89 := s8.trans s9
    obtain ⟨ca, cb, cxs, cys, ce1, ce2, ca1, ca2, ca3, ca4⟩ := judges_eq (K := K) hok.L (hH7.same s89) (hJ7.same s89)
    refine ⟨_, rfl, _, rfl, ca, cb, cxs, cys, 90, ce1, ce2, ca1, ca2, ca3, ca4, by decide, _, rfl, iteF ?_⟩
    clear ca cb cxs cys ce1 ce2 ca1 ca2 ca3 ca4
    have kU9 := kU.same s9
    have kfq9 := s9 _ _ kfq
    have lus := Paired.length kU
    cases us with
    | nil =>
      exact absurd (List.length_eq_zero_iff.mp lus.symm) gne
    | cons u0 rest =>
    cases hgr : grp (RJ J (stepsR J S (rowsTo J.n (J.few + J.turn))) J.n) S with
    | nil => exact absurd hgr gne
    | cons g0 grest =>
    have ku0 : H9 u0 = some (.lst (g0.map nI)) := by
      have := kU9
      rw [hgr] at this
      cases this with
      | cons h t => exact h
    have lg0 : g0.length ≤ 6 := by
      have h1 := grp_flat_len (rb_eqv (good := goodB J) (dl := behF J) (ks := stepsR J S (rowsTo J.n (J.few + J.turn))) J.n) pS
      have hm : g0 ∈ grp (RJ J (stepsR J S (rowsTo J.n (J.few + J.turn))) J.n) S := by rw [hgr]; exact List.mem_cons_self
      have h2 : g0.length ≤ S.length := Nat.le_trans (List.sublist_flatten_of_mem hm).length_le (Nat.le_of_eq h1)
      have h3 := rise_few S 0 J.n pS fun s hs => ⟨Nat.zero_le _, lev_small hok ((mS s).mp hs)⟩
      have := hok.n6
      omega
    have nuf : u0 ≠ fq := fun e => by
      rw [e, kfq9] at ku0
      cases g0 with
      | nil => cases ku0
      | cons z t => cases ku0
    have u00 : H7 u0 = none := us0 u0 List.mem_cons_self
    refine ⟨_, rfl, fq, _, 0, .ref u0, rfl, rfl, SqL.of kfq9, atI_nat (j := 0) rfl, .inl ⟨rfl, _, SqL.of ku0⟩, u0, _, _, rfl, rfl, ku0, ?_, ?_⟩
    · rw [List.length_map]
      exact Nat.lt_of_le_of_lt (show _ ≤ 1000000 by omega) (by decide)
    have s10 : Same H7 (upd H9 u0 (.lst (g0.map nI ++ [V.int 9]))) := same_add s89 u00
    have kfq10 : (upd H9 u0 (.lst (g0.map nI ++ [V.int 9]))) fq = some (.lst ((u0 :: rest).map V.ref)) := by rw [upd_ne nuf.symm]; exact kfq9
    generalize upd H9 u0 (.lst (g0.map nI ++ [V.int 9])) = H10 at *
    refine ⟨_, rfl, .inl ⟨rfl, _, SqL.of kfq10⟩, (by show 0 ≤ sizeLine; decide), fun e he => ⟨fq, _, _, rfl, rfl, same_new he _ _ kfq10, ?_, ?_⟩⟩
    · rw [List.length_map]
      exact Nat.lt_of_le_of_lt (show _ ≤ 1000000 by omega) (by decide)
    have s12 : Same H7 (upd (upd H10 e (.lst [])) fq (.lst ((u0 :: rest).map V.ref ++ [V.ref e]))) := same_add (s10.trans (same_new he)) fq0
    generalize upd (upd H10 e (.lst [])) fq (.lst ((u0 :: rest).map V.ref ++ [V.ref e])) = H12 at *
    refine ⟨_, rfl, hv, J, rfl, hH7.same s12, hok, fun fq2 us2 ks2 S2 H13 hk2 hS2 ne2 s13 f20 u20 kf2 kU2 => ?_⟩
    rw [grp_one hS2 hS hk2 hk] at kU2
    have s713 := s12.trans s13
    refine ⟨_, rfl, fq2, dq, us2, gs, _, rfl, kf2, kU2, s713 _ _ kdq, kG.same s713, by omega, fun H14 s14 => ⟨_, rfl, iteF ?_⟩⟩
    have s714 := s713.trans s14
    obtain ⟨ca, cb, cxs, cys, ce1, ce2, ca1, ca2, ca3, ca4⟩ := judges_eq (K := K) hok.L (hH7.same s714) (hJ7.same s714)
    refine ⟨_, rfl, _, rfl, ca, cb, cxs, cys, 90, ce1, ce2, ca1, ca2, ca3, ca4, by decide, _, rfl, iteF ?_⟩
    exact ⟨⟨_, _, _, _, _, rfl⟩, S7.trans s714⟩
  · rintro σ H2 ⟨⟨y3, y4, y5, y6, y2, rfl⟩, S2⟩
    exact qq _
end

theorem all_mk {l : PySem.W.OpenLaw} {w : World} {K : PySem.W.Frag} {h : Heap} {mg : Str → Option Value} {fa f0 f1 f2 f3 f4 f5 f6 f7 f8 f9 f10 f11 f12 f13 f14 f15 f16 f17 f18 f19 f20 f21 f22 f23 f24 f25 f26 f27 : Addr} (X : K.In h) (G : h.Ns mainGlobals mg) (hfa : mg "law" = some (.ref fa))
    {od0 an0 od1 an1 od2 an2 od3 an3 od4 an4 od5 an5 od6 an6 od7 an7 od8 an8 od9 an9 od10 an10 od11 an11 od12 an12 od13 an13 od14 an14 od15 an15 od16 an16 od17 an17 od18 an18 od19 an19 od20 an20 od21 an21 od22 an22 od23 an23 od24 an24 od25 an25 od26 an26 od27 an27 : Option Addr} {sl0 sl1 sl2 sl3 sl4 sl5 sl6 sl7 sl8 sl9 sl10 sl11 sl12 sl13 sl14 sl15 sl16 sl17 sl18 sl19 sl20 sl21 sl22 sl23 sl24 sl25 sl26 sl27 : Array (Option Value)} {oc0 kV0 dc0 pm0 cd0 ct0 oc1 kV1 dc1 pm1 cd1 ct1 oc2 kV2 dc2 pm2 cd2 ct2 oc3 kV3 dc3 pm3 cd3 ct3 oc4 kV4 dc4 pm4 cd4 ct4 oc5 kV5 dc5 pm5 cd5 ct5 oc6 kV6 dc6 pm6 cd6 ct6 oc7 kV7 dc7 pm7 cd7 ct7 oc8 kV8 dc8 pm8 cd8 ct8 oc9 kV9 dc9 pm9 cd9 ct9 oc10 kV10 dc10 pm10 cd10 ct10 oc11 kV11 dc11 pm11 cd11 ct11 oc12 kV12 dc12 pm12 cd12 ct12 oc13 kV13 dc13 pm13 cd13 ct13 oc14 kV14 dc14 pm14 cd14 ct14 oc15 kV15 dc15 pm15 cd15 ct15 oc16 kV16 dc16 pm16 cd16 ct16 oc17 kV17 dc17 pm17 cd17 ct17 oc18 kV18 dc18 pm18 cd18 ct18 oc19 kV19 dc19 pm19 cd19 ct19 oc20 kV20 dc20 pm20 cd20 ct20 oc21 kV21 dc21 pm21 cd21 ct21 oc22 kV22 dc22 pm22 cd22 ct22 oc23 kV23 dc23 pm23 cd23 ct23 oc24 kV24 dc24 pm24 cd24 ct24 oc25 kV25 dc25 pm25 cd25 ct25 oc26 kV26 dc26 pm26 cd26 ct26 oc27 kV27 dc27 pm27 cd27 ct27 : Value}
    (a0 : PySem.W.nsIn K mainGlobals "class_of" = some (some (.ref f0))) (l0 : K.lookup f0 = some ⟨oc0, od0, .func (PySem.W.fnOf "class_of" "class_of" (defArgs s_class_of) (defBody s_class_of) (defScope s_class_of) .none kV0 dc0 pm0 an0 cd0 ct0), sl0⟩) (c0 : PySem.W.codeIn K cd0 "class_of" = true) (k0 : PySem.W.keepIn K (.ref f0) = true)
    (a1 : PySem.W.nsIn K mainGlobals "classes_with" = some (some (.ref f1))) (l1 : K.lookup f1 = some ⟨oc1, od1, .func (PySem.W.fnOf "classes_with" "classes_with" (defArgs s_classes_with) (defBody s_classes_with) (defScope s_classes_with) .none kV1 dc1 pm1 an1 cd1 ct1), sl1⟩) (c1 : PySem.W.codeIn K cd1 "classes_with" = true) (k1 : PySem.W.keepIn K (.ref f1) = true)
    (a2 : PySem.W.nsIn K mainGlobals "states_that_come" = some (some (.ref f2))) (l2 : K.lookup f2 = some ⟨oc2, od2, .func (PySem.W.fnOf "states_that_come" "states_that_come" (defArgs s_states_that_come) (defBody s_states_that_come) (defScope s_states_that_come) .none kV2 dc2 pm2 an2 cd2 ct2), sl2⟩) (c2 : PySem.W.codeIn K cd2 "states_that_come" = true) (k2 : PySem.W.keepIn K (.ref f2) = true)
    (a3 : PySem.W.nsIn K mainGlobals "_least_rows" = some (some (.ref f3))) (l3 : K.lookup f3 = some ⟨oc3, od3, .func (PySem.W.fnOf "_least_rows" "_least_rows" (defArgs s__least_rows) (defBody s__least_rows) (defScope s__least_rows) .none kV3 dc3 pm3 an3 cd3 ct3), sl3⟩) (c3 : PySem.W.codeIn K cd3 "_least_rows" = true) (k3 : PySem.W.keepIn K (.ref f3) = true)
    (a4 : PySem.W.nsIn K mainGlobals "_next_least_row" = some (some (.ref f4))) (l4 : K.lookup f4 = some ⟨oc4, od4, .func (PySem.W.fnOf "_next_least_row" "_next_least_row" (defArgs s__next_least_row) (defBody s__next_least_row) (defScope s__next_least_row) .none kV4 dc4 pm4 an4 cd4 ct4), sl4⟩) (c4 : PySem.W.codeIn K cd4 "_next_least_row" = true) (k4 : PySem.W.keepIn K (.ref f4) = true)
    (a5 : PySem.W.nsIn K mainGlobals "_least_size" = some (some (.ref f5))) (l5 : K.lookup f5 = some ⟨oc5, od5, .func (PySem.W.fnOf "_least_size" "_least_size" (defArgs s__least_size) (defBody s__least_size) (defScope s__least_size) .none kV5 dc5 pm5 an5 cd5 ct5), sl5⟩) (c5 : PySem.W.codeIn K cd5 "_least_size" = true) (k5 : PySem.W.keepIn K (.ref f5) = true)
    (a6 : PySem.W.nsIn K mainGlobals "are_only_of" = some (some (.ref f6))) (l6 : K.lookup f6 = some ⟨oc6, od6, .func (PySem.W.fnOf "are_only_of" "are_only_of" (defArgs s_are_only_of) (defBody s_are_only_of) (defScope s_are_only_of) .none kV6 dc6 pm6 an6 cd6 ct6), sl6⟩) (c6 : PySem.W.codeIn K cd6 "are_only_of" = true) (k6 : PySem.W.keepIn K (.ref f6) = true)
    (a7 : PySem.W.nsIn K mainGlobals "_keys_that_come" = some (some (.ref f7))) (l7 : K.lookup f7 = some ⟨oc7, od7, .func (PySem.W.fnOf "_keys_that_come" "_keys_that_come" (defArgs s__keys_that_come) (defBody s__keys_that_come) (defScope s__keys_that_come) .none kV7 dc7 pm7 an7 cd7 ct7), sl7⟩) (c7 : PySem.W.codeIn K cd7 "_keys_that_come" = true) (k7 : PySem.W.keepIn K (.ref f7) = true)
    (a8 : PySem.W.nsIn K mainGlobals "_states_behind" = some (some (.ref f8))) (l8 : K.lookup f8 = some ⟨oc8, od8, .func (PySem.W.fnOf "_states_behind" "_states_behind" (defArgs s__states_behind) (defBody s__states_behind) (defScope s__states_behind) .none kV8 dc8 pm8 an8 cd8 ct8), sl8⟩) (c8 : PySem.W.codeIn K cd8 "_states_behind" = true) (k8 : PySem.W.keepIn K (.ref f8) = true)
    (a9 : PySem.W.nsIn K mainGlobals "alike_paper" = some (some (.ref f9))) (l9 : K.lookup f9 = some ⟨oc9, od9, .func (PySem.W.fnOf "alike_paper" "alike_paper" (defArgs s_alike_paper) (defBody s_alike_paper) (defScope s_alike_paper) .none kV9 dc9 pm9 an9 cd9 ct9), sl9⟩) (c9 : PySem.W.codeIn K cd9 "alike_paper" = true) (k9 : PySem.W.keepIn K (.ref f9) = true)
    (a10 : PySem.W.nsIn K mainGlobals "_parted_behind" = some (some (.ref f10))) (l10 : K.lookup f10 = some ⟨oc10, od10, .func (PySem.W.fnOf "_parted_behind" "_parted_behind" (defArgs s__parted_behind) (defBody s__parted_behind) (defScope s__parted_behind) .none kV10 dc10 pm10 an10 cd10 ct10), sl10⟩) (c10 : PySem.W.codeIn K cd10 "_parted_behind" = true) (k10 : PySem.W.keepIn K (.ref f10) = true)
    (a11 : PySem.W.nsIn K mainGlobals "_parted" = some (some (.ref f11))) (l11 : K.lookup f11 = some ⟨oc11, od11, .func (PySem.W.fnOf "_parted" "_parted" (defArgs s__parted) (defBody s__parted) (defScope s__parted) .none kV11 dc11 pm11 an11 cd11 ct11), sl11⟩) (c11 : PySem.W.codeIn K cd11 "_parted" = true) (k11 : PySem.W.keepIn K (.ref f11) = true)
    (a12 : PySem.W.nsIn K mainGlobals "_each_once" = some (some (.ref f12))) (l12 : K.lookup f12 = some ⟨oc12, od12, .func (PySem.W.fnOf "_each_once" "_each_once" (defArgs s__each_once) (defBody s__each_once) (defScope s__each_once) .none kV12 dc12 pm12 an12 cd12 ct12), sl12⟩) (c12 : PySem.W.codeIn K cd12 "_each_once" = true) (k12 : PySem.W.keepIn K (.ref f12) = true)
    (a13 : PySem.W.nsIn K mainGlobals "_group_at" = some (some (.ref f13))) (l13 : K.lookup f13 = some ⟨oc13, od13, .func (PySem.W.fnOf "_group_at" "_group_at" (defArgs s__group_at) (defBody s__group_at) (defScope s__group_at) .none kV13 dc13 pm13 an13 cd13 ct13), sl13⟩) (c13 : PySem.W.codeIn K cd13 "_group_at" = true) (k13 : PySem.W.keepIn K (.ref f13) = true)
    (a14 : PySem.W.nsIn K mainGlobals "_law_draws" = some (some (.ref f14))) (l14 : K.lookup f14 = some ⟨oc14, od14, .func (PySem.W.fnOf "_law_draws" "_law_draws" (defArgs s__law_draws) (defBody s__law_draws) (defScope s__law_draws) .none kV14 dc14 pm14 an14 cd14 ct14), sl14⟩) (c14 : PySem.W.codeIn K cd14 "_law_draws" = true) (k14 : PySem.W.keepIn K (.ref f14) = true)
    (a15 : PySem.W.nsIn K mainGlobals "_law_rows" = some (some (.ref f15))) (l15 : K.lookup f15 = some ⟨oc15, od15, .func (PySem.W.fnOf "_law_rows" "_law_rows" (defArgs s__law_rows) (defBody s__law_rows) (defScope s__law_rows) .none kV15 dc15 pm15 an15 cd15 ct15), sl15⟩) (c15 : PySem.W.codeIn K cd15 "_law_rows" = true) (k15 : PySem.W.keepIn K (.ref f15) = true)
    (a16 : PySem.W.nsIn K mainGlobals "_law_shape" = some (some (.ref f16))) (l16 : K.lookup f16 = some ⟨oc16, od16, .func (PySem.W.fnOf "_law_shape" "_law_shape" (defArgs s__law_shape) (defBody s__law_shape) (defScope s__law_shape) .none kV16 dc16 pm16 an16 cd16 ct16), sl16⟩) (c16 : PySem.W.codeIn K cd16 "_law_shape" = true) (k16 : PySem.W.keepIn K (.ref f16) = true)
    (a17 : PySem.W.nsIn K mainGlobals "_law_judge" = some (some (.ref f17))) (l17 : K.lookup f17 = some ⟨oc17, od17, .func (PySem.W.fnOf "_law_judge" "_law_judge" (defArgs s__law_judge) (defBody s__law_judge) (defScope s__law_judge) .none kV17 dc17 pm17 an17 cd17 ct17), sl17⟩) (c17 : PySem.W.codeIn K cd17 "_law_judge" = true) (k17 : PySem.W.keepIn K (.ref f17) = true)
    (a18 : PySem.W.nsIn K mainGlobals "_law_laid" = some (some (.ref f18))) (l18 : K.lookup f18 = some ⟨oc18, od18, .func (PySem.W.fnOf "_law_laid" "_law_laid" (defArgs s__law_laid) (defBody s__law_laid) (defScope s__law_laid) .none kV18 dc18 pm18 an18 cd18 ct18), sl18⟩) (c18 : PySem.W.codeIn K cd18 "_law_laid" = true) (k18 : PySem.W.keepIn K (.ref f18) = true)
    (a19 : PySem.W.nsIn K mainGlobals "_law_class" = some (some (.ref f19))) (l19 : K.lookup f19 = some ⟨oc19, od19, .func (PySem.W.fnOf "_law_class" "_law_class" (defArgs s__law_class) (defBody s__law_class) (defScope s__law_class) .none kV19 dc19 pm19 an19 cd19 ct19), sl19⟩) (c19 : PySem.W.codeIn K cd19 "_law_class" = true) (k19 : PySem.W.keepIn K (.ref f19) = true)
    (a20 : PySem.W.nsIn K mainGlobals "_law_more" = some (some (.ref f20))) (l20 : K.lookup f20 = some ⟨oc20, od20, .func (PySem.W.fnOf "_law_more" "_law_more" (defArgs s__law_more) (defBody s__law_more) (defScope s__law_more) .none kV20 dc20 pm20 an20 cd20 ct20), sl20⟩) (c20 : PySem.W.codeIn K cd20 "_law_more" = true) (k20 : PySem.W.keepIn K (.ref f20) = true)
    (a21 : PySem.W.nsIn K mainGlobals "_law_steps" = some (some (.ref f21))) (l21 : K.lookup f21 = some ⟨oc21, od21, .func (PySem.W.fnOf "_law_steps" "_law_steps" (defArgs s__law_steps) (defBody s__law_steps) (defScope s__law_steps) .none kV21 dc21 pm21 an21 cd21 ct21), sl21⟩) (c21 : PySem.W.codeIn K cd21 "_law_steps" = true) (k21 : PySem.W.keepIn K (.ref f21) = true)
    (a22 : PySem.W.nsIn K mainGlobals "_law_coming" = some (some (.ref f22))) (l22 : K.lookup f22 = some ⟨oc22, od22, .func (PySem.W.fnOf "_law_coming" "_law_coming" (defArgs s__law_coming) (defBody s__law_coming) (defScope s__law_coming) .none kV22 dc22 pm22 an22 cd22 ct22), sl22⟩) (c22 : PySem.W.codeIn K cd22 "_law_coming" = true) (k22 : PySem.W.keepIn K (.ref f22) = true)
    (a23 : PySem.W.nsIn K mainGlobals "_law_far" = some (some (.ref f23))) (l23 : K.lookup f23 = some ⟨oc23, od23, .func (PySem.W.fnOf "_law_far" "_law_far" (defArgs s__law_far) (defBody s__law_far) (defScope s__law_far) .none kV23 dc23 pm23 an23 cd23 ct23), sl23⟩) (c23 : PySem.W.codeIn K cd23 "_law_far" = true) (k23 : PySem.W.keepIn K (.ref f23) = true)
    (a24 : PySem.W.nsIn K mainGlobals "_law_groups" = some (some (.ref f24))) (l24 : K.lookup f24 = some ⟨oc24, od24, .func (PySem.W.fnOf "_law_groups" "_law_groups" (defArgs s__law_groups) (defBody s__law_groups) (defScope s__law_groups) .none kV24 dc24 pm24 an24 cd24 ct24), sl24⟩) (c24 : PySem.W.codeIn K cd24 "_law_groups" = true) (k24 : PySem.W.keepIn K (.ref f24) = true)
    (a25 : PySem.W.nsIn K mainGlobals "_law_is_paper" = some (some (.ref f25))) (l25 : K.lookup f25 = some ⟨oc25, od25, .func (PySem.W.fnOf "_law_is_paper" "_law_is_paper" (defArgs s__law_is_paper) (defBody s__law_is_paper) (defScope s__law_is_paper) .none kV25 dc25 pm25 an25 cd25 ct25), sl25⟩) (c25 : PySem.W.codeIn K cd25 "_law_is_paper" = true) (k25 : PySem.W.keepIn K (.ref f25) = true)
    (a26 : PySem.W.nsIn K mainGlobals "_law_chain" = some (some (.ref f26))) (l26 : K.lookup f26 = some ⟨oc26, od26, .func (PySem.W.fnOf "_law_chain" "_law_chain" (defArgs s__law_chain) (defBody s__law_chain) (defScope s__law_chain) .none kV26 dc26 pm26 an26 cd26 ct26), sl26⟩) (c26 : PySem.W.codeIn K cd26 "_law_chain" = true) (k26 : PySem.W.keepIn K (.ref f26) = true)
    (a27 : PySem.W.nsIn K mainGlobals "law" = some (some (.ref f27))) (l27 : K.lookup f27 = some ⟨oc27, od27, .func (PySem.W.fnOf "law" "law" (defArgs s_law) (defBody s_law) (defScope s_law) .none kV27 dc27 pm27 an27 cd27 ct27), sl27⟩) (c27 : PySem.W.codeIn K cd27 "law" = true) (k27 : PySem.W.keepIn K (.ref f27) = true)
    (z_abs : PySem.W.nsIn K mainGlobals "abs" = some none)
    (z_all : PySem.W.nsIn K mainGlobals "all" = some none)
    (z_bool : PySem.W.nsIn K mainGlobals "bool" = some none)
    (z_dict : PySem.W.nsIn K mainGlobals "dict" = some none)
    (z_enumerate : PySem.W.nsIn K mainGlobals "enumerate" = some none)
    (z_int : PySem.W.nsIn K mainGlobals "int" = some none)
    (z_isinstance : PySem.W.nsIn K mainGlobals "isinstance" = some none)
    (z_len : PySem.W.nsIn K mainGlobals "len" = some none)
    (z_list : PySem.W.nsIn K mainGlobals "list" = some none)
    (z_max : PySem.W.nsIn K mainGlobals "max" = some none)
    (z_min : PySem.W.nsIn K mainGlobals "min" = some none)
    (z_range : PySem.W.nsIn K mainGlobals "range" = some none)
    (z_set : PySem.W.nsIn K mainGlobals "set" = some none)
    (z_sorted : PySem.W.nsIn K mainGlobals "sorted" = some none)
    (z_sum : PySem.W.nsIn K mainGlobals "sum" = some none)
    (z_zip : PySem.W.nsIn K mainGlobals "zip" = some none)
    : ∃ fd : FuncData, (∀ (s : Shared) (v : Value), BindsTo s fd ⟨[v], []⟩ [("script", v)]) ∧ ∀ base : Heap, K.In base → base.Ns mainGlobals mg → FnOk l.prog w K mg base CX0 10 fa fd ["script"] (spLaw K) := by
  have e := hfa.symm.trans (PySem.W.mg_of X G a27)
  cases e
  have F0 := fun_mk (st := s_class_of) l0 c0 k0
  have b0 := F0.binds (ps := ["number", "few", "turn"]) fun _ _ _ _ _ _ us hl => match us, hl with | [_, _, _], _ => rfl
  have F1 := fun_mk (st := s_classes_with) l1 c1 k1
  have b1 := F1.binds (ps := ["judge", "row", "state"]) fun _ _ _ _ _ _ us hl => match us, hl with | [_, _, _], _ => rfl
  have F2 := fun_mk (st := s_states_that_come) l2 c2 k2
  have b2 := F2.binds (ps := ["judge"]) fun _ _ _ _ _ _ us hl => match us, hl with | [_], _ => rfl
  have F3 := fun_mk (st := s__least_rows) l3 c3 k3
  have b3 := F3.binds (ps := ["judge"]) fun _ _ _ _ _ _ us hl => match us, hl with | [_], _ => rfl
  have F4 := fun_mk (st := s__next_least_row) l4 c4 k4
  have b4 := F4.binds (ps := ["judge", "sizes"]) fun _ _ _ _ _ _ us hl => match us, hl with | [_, _], _ => rfl
  have F5 := fun_mk (st := s__least_size) l5 c5 k5
  have b5 := F5.binds (ps := ["classes", "sizes"]) fun _ _ _ _ _ _ us hl => match us, hl with | [_, _], _ => rfl
  have F6 := fun_mk (st := s_are_only_of) l6 c6 k6
  have b6 := F6.binds (ps := ["classes", "states"]) fun _ _ _ _ _ _ us hl => match us, hl with | [_, _], _ => rfl
  have F7 := fun_mk (st := s__keys_that_come) l7 c7 k7
  have b7 := F7.binds (ps := ["judge"]) fun _ _ _ _ _ _ us hl => match us, hl with | [_], _ => rfl
  have F8 := fun_mk (st := s__states_behind) l8 c8 k8
  have b8 := F8.binds (ps := ["judge", "keys"]) fun _ _ _ _ _ _ us hl => match us, hl with | [_, _], _ => rfl
  have F9 := fun_mk (st := s_alike_paper) l9 c9 k9
  have b9 := F9.binds (ps := ["judge"]) fun _ _ _ _ _ _ us hl => match us, hl with | [_], _ => rfl
  have F10 := fun_mk (st := s__parted_behind) l10 c10 k10
  have b10 := F10.binds (ps := ["groups", "behind"]) fun _ _ _ _ _ _ us hl => match us, hl with | [_, _], _ => rfl
  have F11 := fun_mk (st := s__parted) l11 c11 k11
  have b11 := F11.binds (ps := ["groups", "marks"]) fun _ _ _ _ _ _ us hl => match us, hl with | [_, _], _ => rfl
  have F12 := fun_mk (st := s__each_once) l12 c12 k12
  have b12 := F12.binds (ps := ["row"]) fun _ _ _ _ _ _ us hl => match us, hl with | [_], _ => rfl
  have F13 := fun_mk (st := s__group_at) l13 c13 k13
  have b13 := F13.binds (ps := ["groups"]) fun _ _ _ _ _ _ us hl => match us, hl with | [_], _ => rfl
  have F14 := fun_mk (st := s__law_draws) l14 c14 k14
  have b14 := F14.binds (ps := ["script", "many"]) fun _ _ _ _ _ _ us hl => match us, hl with | [_, _], _ => rfl
  have F15 := fun_mk (st := s__law_rows) l15 c15 k15
  have b15 := F15.binds (ps := ["states", "classes"]) fun _ _ _ _ _ _ us hl => match us, hl with | [_, _], _ => rfl
  have F16 := fun_mk (st := s__law_shape) l16 c16 k16
  have b16 := F16.binds (ps := ["x"]) fun _ _ _ _ _ _ us hl => match us, hl with | [_], _ => rfl
  have F17 := fun_mk (st := s__law_judge) l17 c17 k17
  have b17 := F17.binds (ps := ["d", "spot"]) fun _ _ _ _ _ _ us hl => match us, hl with | [_, _], _ => rfl
  have F18 := fun_mk (st := s__law_laid) l18 c18 k18
  have b18 := F18.binds (ps := ["judge", "x"]) fun _ _ _ _ _ _ us hl => match us, hl with | [_, _], _ => rfl
  have F19 := fun_mk (st := s__law_class) l19 c19 k19
  have b19 := F19.binds (ps := ["number", "few", "turn"]) fun _ _ _ _ _ _ us hl => match us, hl with | [_, _, _], _ => rfl
  have F20 := fun_mk (st := s__law_more) l20 c20 k20
  have b20 := F20.binds (ps := ["judge", "row", "state"]) fun _ _ _ _ _ _ us hl => match us, hl with | [_, _, _], _ => rfl
  have F21 := fun_mk (st := s__law_steps) l21 c21 k21
  have b21 := F21.binds (ps := ["judge", "coming"]) fun _ _ _ _ _ _ us hl => match us, hl with | [_, _], _ => rfl
  have F22 := fun_mk (st := s__law_coming) l22 c22 k22
  have b22 := F22.binds (ps := ["judge"]) fun _ _ _ _ _ _ us hl => match us, hl with | [_], _ => rfl
  have F23 := fun_mk (st := s__law_far) l23 c23 k23
  have b23 := F23.binds (ps := ["judge", "coming"]) fun _ _ _ _ _ _ us hl => match us, hl with | [_, _], _ => rfl
  have F24 := fun_mk (st := s__law_groups) l24 c24 k24
  have b24 := F24.binds (ps := ["judge", "coming"]) fun _ _ _ _ _ _ us hl => match us, hl with | [_, _], _ => rfl
  have F25 := fun_mk (st := s__law_is_paper) l25 c25 k25
  have b25 := F25.binds (ps := ["found", "due"]) fun _ _ _ _ _ _ us hl => match us, hl with | [_, _], _ => rfl
  have F26 := fun_mk (st := s__law_chain) l26 c26 k26
  have b26 := F26.binds (ps := []) fun _ _ _ _ _ _ us hl => match us, hl with | [], _ => rfl
  have F27 := fun_mk (st := s_law) l27 c27 k27
  have b27 := F27.binds (ps := ["script"]) fun _ _ _ _ _ _ us hl => match us, hl with | [_], _ => rfl
  let T : Txt K mg := ⟨f0, _, F0, b0, PySem.W.mg_of X G a0, f1, _, F1, b1, PySem.W.mg_of X G a1, f2, _, F2, b2, PySem.W.mg_of X G a2, f3, _, F3, b3, PySem.W.mg_of X G a3, f4, _, F4, b4, PySem.W.mg_of X G a4, f5, _, F5, b5, PySem.W.mg_of X G a5, f6, _, F6, b6, PySem.W.mg_of X G a6, f7, _, F7, b7, PySem.W.mg_of X G a7, f8, _, F8, b8, PySem.W.mg_of X G a8, f9, _, F9, b9, PySem.W.mg_of X G a9, f10, _, F10, b10, PySem.W.mg_of X G a10, f11, _, F11, b11, PySem.W.mg_of X G a11, f12, _, F12, b12, PySem.W.mg_of X G a12, f13, _, F13, b13, PySem.W.mg_of X G a13, f14, _, F14, b14, PySem.W.mg_of X G a14, f15, _, F15, b15, PySem.W.mg_of X G a15, f16, _, F16, b16, PySem.W.mg_of X G a16, f17, _, F17, b17, PySem.W.mg_of X G a17, f18, _, F18, b18, PySem.W.mg_of X G a18, f19, _, F19, b19, PySem.W.mg_of X G a19, f20, _, F20, b20, PySem.W.mg_of X G a20, f21, _, F21, b21, PySem.W.mg_of X G a21, f22, _, F22, b22, PySem.W.mg_of X G a22, f23, _, F23, b23, PySem.W.mg_of X G a23, f24, _, F24, b24, PySem.W.mg_of X G a24, f25, _, F25, b25, PySem.W.mg_of X G a25, f26, _, F26, b26, PySem.W.mg_of X G a26, fa, _, F27, b27, PySem.W.mg_of X G a27, PySem.W.mg_none_of X G z_abs, PySem.W.mg_none_of X G z_all, PySem.W.mg_none_of X G z_bool, PySem.W.mg_none_of X G z_dict, PySem.W.mg_none_of X G z_enumerate, PySem.W.mg_none_of X G z_int, PySem.W.mg_none_of X G z_isinstance, PySem.W.mg_none_of X G z_len, PySem.W.mg_none_of X G z_list, PySem.W.mg_none_of X G z_max, PySem.W.mg_none_of X G z_min, PySem.W.mg_none_of X G z_range, PySem.W.mg_none_of X G z_set, PySem.W.mg_none_of X G z_sorted, PySem.W.mg_none_of X G z_sum, PySem.W.mg_none_of X G z_zip⟩
  exact ⟨PySem.W.fnOf "law" "law" (defArgs s_law) (defBody s_law) (defScope s_law) .none kV27 dc27 pm27 an27 cd27 ct27, fun s v => .of_eq rfl, fun base _ _ => ok_law T⟩
end My
open PySem PySem.W PyProof.Rows
set_option maxRecDepth 100000 in
set_option maxHeartbeats 0 in
theorem PySem.Challenge.cw_heaptrees_k60_alike_states_holds : PySem.Challenge.rw_heaptrees_k60_alike_states.Holds := by
  w_on; o_law; k_head; (case hw => w_witness2)
  k_fill
  refine L2.walk_of (l := PySem.Challenge.rw_heaptrees_k60_alike_states) (n := 63) (k := 10) (x := "script") (CX := fun _ => L2.CX0) (sp := fun w => My.spLaw _) rfl (by decide) rfl ⟨rfl, by decide, by decide⟩ (fun w h Y => PySem.W.kIn_of Y) ?F (fun _ _ a ns hl _ hS => ⟨a, ns, rfl, hS, hl, fun _ => rfl⟩) (fun _ _ _ _ _ h => h)
  case F =>
    intro w mg fa h KX G hmg
    refine' My.all_mk KX G hmg ?a0 ?l0 ?c0 ?k0 ?a1 ?l1 ?c1 ?k1 ?a2 ?l2 ?c2 ?k2 ?a3 ?l3 ?c3 ?k3 ?a4 ?l4 ?c4 ?k4 ?a5 ?l5 ?c5 ?k5 ?a6 ?l6 ?c6 ?k6 ?a7 ?l7 ?c7 ?k7 ?a8 ?l8 ?c8 ?k8 ?a9 ?l9 ?c9 ?k9 ?a10 ?l10 ?c10 ?k10 ?a11 ?l11 ?c11 ?k11 ?a12 ?l12 ?c12 ?k12 ?a13 ?l13 ?c13 ?k13 ?a14 ?l14 ?c14 ?k14 ?a15 ?l15 ?c15 ?k15 ?a16 ?l16 ?c16 ?k16 ?a17 ?l17 ?c17 ?k17 ?a18 ?l18 ?c18 ?k18 ?a19 ?l19 ?c19 ?k19 ?a20 ?l20 ?c20 ?k20 ?a21 ?l21 ?c21 ?k21 ?a22 ?l22 ?c22 ?k22 ?a23 ?l23 ?c23 ?k23 ?a24 ?l24 ?c24 ?k24 ?a25 ?l25 ?c25 ?k25 ?a26 ?l26 ?c26 ?k26 ?a27 ?l27 ?c27 ?k27 ?z_abs ?z_all ?z_bool ?z_dict ?z_enumerate ?z_int ?z_isinstance ?z_len ?z_list ?z_max ?z_min ?z_range ?z_set ?z_sorted ?z_sum ?z_zip
    (case a0 => k_is)
    (case l0 => k_is)
    (case c0 => k_is)
    (case k0 => k_is)
    (case a1 => k_is)
    (case l1 => k_is)
    (case c1 => k_is)
    (case k1 => k_is)
    (case a2 => k_is)
    (case l2 => k_is)
    (case c2 => k_is)
    (case k2 => k_is)
    (case a3 => k_is)
    (case l3 => k_is)
    (case c3 => k_is)
    (case k3 => k_is)
    (case a4 => k_is)
    (case l4 => k_is)
    (case c4 => k_is)
    (case k4 => k_is)
    (case a5 => k_is)
    (case l5 => k_is)
    (case c5 => k_is)
    (case k5 => k_is)
    (case a6 => k_is)
    (case l6 => k_is)
    (case c6 => k_is)
    (case k6 => k_is)
    (case a7 => k_is)
    (case l7 => k_is)
    (case c7 => k_is)
    (case k7 => k_is)
    (case a8 => k_is)
    (case l8 => k_is)
    (case c8 => k_is)
    (case k8 => k_is)
    (case a9 => k_is)
    (case l9 => k_is)
    (case c9 => k_is)
    (case k9 => k_is)
    (case a10 => k_is)
    (case l10 => k_is)
    (case c10 => k_is)
    (case k10 => k_is)
    (case a11 => k_is)
    (case l11 => k_is)
    (case c11 => k_is)
    (case k11 => k_is)
    (case a12 => k_is)
    (case l12 => k_is)
    (case c12 => k_is)
    (case k12 => k_is)
    (case a13 => k_is)
    (case l13 => k_is)
    (case c13 => k_is)
    (case k13 => k_is)
    (case a14 => k_is)
    (case l14 => k_is)
    (case c14 => k_is)
    (case k14 => k_is)
    (case a15 => k_is)
    (case l15 => k_is)
    (case c15 => k_is)
    (case k15 => k_is)
    (case a16 => k_is)
    (case l16 => k_is)
    (case c16 => k_is)
    (case k16 => k_is)
    (case a17 => k_is)
    (case l17 => k_is)
    (case c17 => k_is)
    (case k17 => k_is)
    (case a18 => k_is)
    (case l18 => k_is)
    (case c18 => k_is)
    (case k18 => k_is)
    (case a19 => k_is)
    (case l19 => k_is)
    (case c19 => k_is)
    (case k19 => k_is)
    (case a20 => k_is)
    (case l20 => k_is)
    (case c20 => k_is)
    (case k20 => k_is)
    (case a21 => k_is)
    (case l21 => k_is)
    (case c21 => k_is)
    (case k21 => k_is)
    (case a22 => k_is)
    (case l22 => k_is)
    (case c22 => k_is)
    (case k22 => k_is)
    (case a23 => k_is)
    (case l23 => k_is)
    (case c23 => k_is)
    (case k23 => k_is)
    (case a24 => k_is)
    (case l24 => k_is)
    (case c24 => k_is)
    (case k24 => k_is)
    (case a25 => k_is)
    (case l25 => k_is)
    (case c25 => k_is)
    (case k25 => k_is)
    (case a26 => k_is)
    (case l26 => k_is)
    (case c26 => k_is)
    (case k26 => k_is)
    (case a27 => k_is)
    (case l27 => k_is)
    (case c27 => k_is)
    (case k27 => k_is)
    (case z_abs => k_is)
    (case z_all => k_is)
    (case z_bool => k_is)
    (case z_dict => k_is)
    (case z_enumerate => k_is)
    (case z_int => k_is)
    (case z_isinstance => k_is)
    (case z_len => k_is)
    (case z_list => k_is)
    (case z_max => k_is)
    (case z_min => k_is)
    (case z_range => k_is)
    (case z_set => k_is)
    (case z_sorted => k_is)
    (case z_sum => k_is)
    (case z_zip => k_is)
#print axioms PySem.Challenge.cw_heaptrees_k60_alike_states_holds
