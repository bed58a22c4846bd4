import PyProof.Rows.All
import HandS.SetTxt0
import HandS.Strs
import Wide.All
import OpenK.AllK
import Wide.FinOn
import HandS.ForMost
import HandS.Wide
import HandS.IsInst
import HandS.Exc
import HandS.ExcOwn
import HandS.ExcValue
import HandS.ExcIs
import HandS.TryOnly
import HandS.WordsExc
import HandS.Flow
import HandS.Style
import HandS.Codes
import HandS.Lambda
import HandS.Star
import HandS.Nested
import HandS.EndTab
import HandS.SortKw
import HandS.FStr
import HandS.NoneIn
import HandS.More
import HandS.Zip
import HandS.Conv
import HandS.TupAny
import HandS.RaiseMore
import HandS.Walk
import HandS.Iter
import HandS.Dict
import PyProof.StrLawsRepr
import KE.SortKeyHeap
import KE.SortData
import KE.DataFind
import KE.DataMinMax
import KE.KEqNest
import PyProof.Draws
import PyProof.EnumMake
import KE.KeyNested
import KE.KDictKeyed
import HandS.Steps
import HandS.SetFor
import HandS.DictEq
import HandS.DictTup
import HandS.DictComp
import KE.KMathGC
import HandS.Gcd
import HandS.Replace
import HandS.SortInts
import KE.GoesMore
import KE.GoesZip
import PySem.Challenge.RW_heaptrees_k07_whole_children_in_any_orde
set_option Elab.async false
set_option linter.all false
set_option maxRecDepth 100000
set_option maxHeartbeats 4000000
namespace My
open PySem PySem.Spec PyProof.Rows L2
def topS (i : Nat) : Stmt := PySem.Challenge.pw_heaptrees_k07_whole_children_in_any_orde.main.body.getD i (.Pass ⟨0, 0, 0, 0⟩)
abbrev s_is_whole : Stmt := topS 4
theorem sc_is_whole : FnScope ["thing"] ["thing"] (defScope s_is_whole) := ⟨rfl, rfl, rfl, by decide +kernel, rfl, by decide +kernel, by decide +kernel⟩
abbrev s_is_letter : Stmt := topS 5
theorem sc_is_letter : FnScope ["thing"] ["thing"] (defScope s_is_letter) := ⟨rfl, rfl, rfl, by decide +kernel, rfl, by decide +kernel, by decide +kernel⟩
abbrev s_is_tree : Stmt := topS 7
theorem sc_is_tree : FnScope ["thing", "waiting", "part"] ["thing"] (defScope s_is_tree) := ⟨rfl, rfl, rfl, by decide +kernel, rfl, by decide +kernel, by decide +kernel⟩
abbrev s__is_part : Stmt := topS 8
theorem sc__is_part : FnScope ["thing"] ["thing"] (defScope s__is_part) := ⟨rfl, rfl, rfl, by decide +kernel, rfl, by decide +kernel, by decide +kernel⟩
abbrev s_check_tree : Stmt := topS 9
theorem sc_check_tree : FnScope ["thing"] ["thing"] (defScope s_check_tree) := ⟨rfl, rfl, rfl, by decide +kernel, rfl, by decide +kernel, by decide +kernel⟩
abbrev s_parts_upward : Stmt := topS 10
theorem sc_parts_upward : FnScope ["tree", "parts", "waiting", "part"] ["tree"] (defScope s_parts_upward) := ⟨rfl, rfl, rfl, by decide +kernel, rfl, by decide +kernel, by decide +kernel⟩
abbrev s_size_of : Stmt := topS 11
theorem sc_size_of : FnScope ["tree"] ["tree"] (defScope s_size_of) := ⟨rfl, rfl, rfl, by decide +kernel, rfl, by decide +kernel, by decide +kernel⟩
abbrev s_built_upward : Stmt := topS 12
theorem sc_built_upward : FnScope ["tree", "made", "waiting", "letter", "children", "first", "below"] ["tree", "made"] (defScope s_built_upward) := ⟨rfl, rfl, rfl, by decide +kernel, rfl, by decide +kernel, by decide +kernel⟩
abbrev s_depth_of : Stmt := topS 13
theorem sc_depth_of : FnScope ["tree", "depth", "level", "part", "child"] ["tree"] (defScope s_depth_of) := ⟨rfl, rfl, rfl, by decide +kernel, rfl, by decide +kernel, by decide +kernel⟩
abbrev s__written_and_told : Stmt := topS 14
theorem sc__written_and_told : FnScope ["tree"] ["tree"] (defScope s__written_and_told) := ⟨rfl, rfl, rfl, by decide +kernel, rfl, by decide +kernel, by decide +kernel⟩
abbrev s__joined : Stmt := topS 15
theorem sc__joined : FnScope ["letter", "below", "rows", "row"] ["letter", "below"] (defScope s__joined) := ⟨rfl, rfl, rfl, by decide +kernel, rfl, by decide +kernel, by decide +kernel⟩
abbrev s_written_part : Stmt := topS 16
theorem sc_written_part : FnScope ["letter", "texts", "written"] ["letter", "texts"] (defScope s_written_part) := ⟨rfl, rfl, rfl, by decide +kernel, rfl, by decide +kernel, by decide +kernel⟩
abbrev s_told_form : Stmt := topS 17
theorem sc_told_form : FnScope ["tree"] ["tree"] (defScope s_told_form) := ⟨rfl, rfl, rfl, by decide +kernel, rfl, by decide +kernel, by decide +kernel⟩
abbrev s_written_tree : Stmt := topS 18
theorem sc_written_tree : FnScope ["tree"] ["tree"] (defScope s_written_tree) := ⟨rfl, rfl, rfl, by decide +kernel, rfl, by decide +kernel, by decide +kernel⟩
abbrev s_are_same : Stmt := topS 19
theorem sc_are_same : FnScope ["one", "other"] ["one", "other"] (defScope s_are_same) := ⟨rfl, rfl, rfl, by decide +kernel, rfl, by decide +kernel, by decide +kernel⟩
abbrev s_heap_of : Stmt := topS 20
theorem sc_heap_of : FnScope ["tree", "rows", "child", "heap", "last", "written"] ["tree"] (defScope s_heap_of) := ⟨rfl, rfl, rfl, by decide +kernel, rfl, by decide +kernel, by decide +kernel⟩
abbrev s_from_heap : Stmt := topS 21
theorem sc_from_heap : FnScope ["letter", "heap", "row", "child", "many", "_"] ["letter", "heap"] (defScope s_from_heap) := ⟨rfl, rfl, rfl, by decide +kernel, rfl, by decide +kernel, by decide +kernel⟩
abbrev s__is_heap_row : Stmt := topS 22
theorem sc__is_heap_row : FnScope ["thing"] ["thing"] (defScope s__is_heap_row) := ⟨rfl, rfl, rfl, by decide +kernel, rfl, by decide +kernel, by decide +kernel⟩
abbrev s__law_pool : Stmt := topS 24
theorem sc__law_pool : FnScope ["script", "k", "cell"] ["script", "k"] (defScope s__law_pool) := ⟨rfl, rfl, rfl, by decide +kernel, rfl, by decide +kernel, by decide +kernel⟩
abbrev s__law_take : Stmt := topS 25
theorem sc__law_take : FnScope ["pool", "many", "found", "step", "mark"] ["pool", "many"] (defScope s__law_take) := ⟨rfl, rfl, rfl, by decide +kernel, rfl, by decide +kernel, by decide +kernel⟩
abbrev s__law_mixed_up : Stmt := topS 26
theorem sc__law_mixed_up : FnScope ["pool", "things", "left", "found"] ["pool", "things"] (defScope s__law_mixed_up) := ⟨rfl, rfl, rfl, by decide +kernel, rfl, by decide +kernel, by decide +kernel⟩
abbrev s__law_grown : Stmt := topS 27
theorem sc__law_grown : FnScope ["pool", "most", "letters", "many", "way", "depths", "rows", "k", "head", "trees", "children", "child"] ["pool", "most", "letters"] (defScope s__law_grown) := ⟨rfl, rfl, rfl, by decide +kernel, rfl, by decide +kernel, by decide +kernel⟩
abbrev s__law_shuffled : Stmt := topS 28
theorem sc__law_shuffled : FnScope ["pool", "tree", "child"] ["pool", "tree"] (defScope s__law_shuffled) := ⟨rfl, rfl, rfl, by decide +kernel, rfl, by decide +kernel, by decide +kernel⟩
abbrev s__law_tree : Stmt := topS 29
theorem sc__law_tree : FnScope ["pool", "most", "letters", "one", "other", "rows"] ["pool", "most", "letters"] (defScope s__law_tree) := ⟨rfl, rfl, rfl, by decide +kernel, rfl, by decide +kernel, by decide +kernel⟩
abbrev s__law_letters : Stmt := topS 30
theorem sc__law_letters : FnScope ["pool"] ["pool"] (defScope s__law_letters) := ⟨rfl, rfl, rfl, by decide +kernel, rfl, by decide +kernel, by decide +kernel⟩
abbrev s__law_changed : Stmt := topS 31
theorem sc__law_changed : FnScope ["pool", "tree", "way", "letter", "at", "rows"] ["pool", "tree"] (defScope s__law_changed) := ⟨rfl, rfl, rfl, by decide +kernel, rfl, by decide +kernel, by decide +kernel⟩
abbrev s__law_two_right : Stmt := topS 32
theorem sc__law_two_right : FnScope ["one", "other", "found"] ["one", "other"] (defScope s__law_two_right) := ⟨rfl, rfl, rfl, by decide +kernel, rfl, by decide +kernel, by decide +kernel⟩
abbrev s__law_one_right : Stmt := topS 33
theorem sc__law_one_right : FnScope ["tree", "form", "written", "heap", "sign", "child", "many"] ["tree"] (defScope s__law_one_right) := ⟨rfl, rfl, rfl, by decide +kernel, rfl, by decide +kernel, by decide +kernel⟩
abbrev s_law : Stmt := topS 34
theorem sc_law : FnScope ["script", "k", "pool", "letters", "tree", "rows", "one", "other"] ["script"] (defScope s_law) := ⟨rfl, rfl, rfl, by decide +kernel, rfl, by decide +kernel, by decide +kernel⟩
structure Txt (K : PySem.W.Frag) (mg : Str → Option Value) where
  f_is_whole : Addr
  d_is_whole : FuncData
  F_is_whole : Fun K "is_whole" "is_whole" s_is_whole f_is_whole d_is_whole
  b_is_whole : Binds K d_is_whole ["thing"] []
  m_is_whole : mg "is_whole" = some (.ref f_is_whole)
  f_is_letter : Addr
  d_is_letter : FuncData
  F_is_letter : Fun K "is_letter" "is_letter" s_is_letter f_is_letter d_is_letter
  b_is_letter : Binds K d_is_letter ["thing"] []
  m_is_letter : mg "is_letter" = some (.ref f_is_letter)
  f_is_tree : Addr
  d_is_tree : FuncData
  F_is_tree : Fun K "is_tree" "is_tree" s_is_tree f_is_tree d_is_tree
  b_is_tree : Binds K d_is_tree ["thing"] []
  m_is_tree : mg "is_tree" = some (.ref f_is_tree)
  f__is_part : Addr
  d__is_part : FuncData
  F__is_part : Fun K "_is_part" "_is_part" s__is_part f__is_part d__is_part
  b__is_part : Binds K d__is_part ["thing"] []
  m__is_part : mg "_is_part" = some (.ref f__is_part)
  f_check_tree : Addr
  d_check_tree : FuncData
  F_check_tree : Fun K "check_tree" "check_tree" s_check_tree f_check_tree d_check_tree
  b_check_tree : Binds K d_check_tree ["thing"] []
  m_check_tree : mg "check_tree" = some (.ref f_check_tree)
  f_parts_upward : Addr
  d_parts_upward : FuncData
  F_parts_upward : Fun K "parts_upward" "parts_upward" s_parts_upward f_parts_upward d_parts_upward
  b_parts_upward : Binds K d_parts_upward ["tree"] []
  m_parts_upward : mg "parts_upward" = some (.ref f_parts_upward)
  f_size_of : Addr
  d_size_of : FuncData
  F_size_of : Fun K "size_of" "size_of" s_size_of f_size_of d_size_of
  b_size_of : Binds K d_size_of ["tree"] []
  m_size_of : mg "size_of" = some (.ref f_size_of)
  f_built_upward : Addr
  d_built_upward : FuncData
  F_built_upward : Fun K "built_upward" "built_upward" s_built_upward f_built_upward d_built_upward
  b_built_upward : Binds K d_built_upward ["tree", "made"] []
  m_built_upward : mg "built_upward" = some (.ref f_built_upward)
  f_depth_of : Addr
  d_depth_of : FuncData
  F_depth_of : Fun K "depth_of" "depth_of" s_depth_of f_depth_of d_depth_of
  b_depth_of : Binds K d_depth_of ["tree"] []
  m_depth_of : mg "depth_of" = some (.ref f_depth_of)
  f__written_and_told : Addr
  d__written_and_told : FuncData
  F__written_and_told : Fun K "_written_and_told" "_written_and_told" s__written_and_told f__written_and_told d__written_and_told
  b__written_and_told : Binds K d__written_and_told ["tree"] []
  m__written_and_told : mg "_written_and_told" = some (.ref f__written_and_told)
  f__joined : Addr
  d__joined : FuncData
  F__joined : Fun K "_joined" "_joined" s__joined f__joined d__joined
  b__joined : Binds K d__joined ["letter", "below"] []
  m__joined : mg "_joined" = some (.ref f__joined)
  f_written_part : Addr
  d_written_part : FuncData
  F_written_part : Fun K "written_part" "written_part" s_written_part f_written_part d_written_part
  b_written_part : Binds K d_written_part ["letter", "texts"] []
  m_written_part : mg "written_part" = some (.ref f_written_part)
  f_told_form : Addr
  d_told_form : FuncData
  F_told_form : Fun K "told_form" "told_form" s_told_form f_told_form d_told_form
  b_told_form : Binds K d_told_form ["tree"] []
  m_told_form : mg "told_form" = some (.ref f_told_form)
  f_written_tree : Addr
  d_written_tree : FuncData
  F_written_tree : Fun K "written_tree" "written_tree" s_written_tree f_written_tree d_written_tree
  b_written_tree : Binds K d_written_tree ["tree"] []
  m_written_tree : mg "written_tree" = some (.ref f_written_tree)
  f_are_same : Addr
  d_are_same : FuncData
  F_are_same : Fun K "are_same" "are_same" s_are_same f_are_same d_are_same
  b_are_same : Binds K d_are_same ["one", "other"] []
  m_are_same : mg "are_same" = some (.ref f_are_same)
  f_heap_of : Addr
  d_heap_of : FuncData
  F_heap_of : Fun K "heap_of" "heap_of" s_heap_of f_heap_of d_heap_of
  b_heap_of : Binds K d_heap_of ["tree"] []
  m_heap_of : mg "heap_of" = some (.ref f_heap_of)
  f_from_heap : Addr
  d_from_heap : FuncData
  F_from_heap : Fun K "from_heap" "from_heap" s_from_heap f_from_heap d_from_heap
  b_from_heap : Binds K d_from_heap ["letter", "heap"] []
  m_from_heap : mg "from_heap" = some (.ref f_from_heap)
  f__is_heap_row : Addr
  d__is_heap_row : FuncData
  F__is_heap_row : Fun K "_is_heap_row" "_is_heap_row" s__is_heap_row f__is_heap_row d__is_heap_row
  b__is_heap_row : Binds K d__is_heap_row ["thing"] []
  m__is_heap_row : mg "_is_heap_row" = some (.ref f__is_heap_row)
  f__law_pool : Addr
  d__law_pool : FuncData
  F__law_pool : Fun K "_law_pool" "_law_pool" s__law_pool f__law_pool d__law_pool
  b__law_pool : Binds K d__law_pool ["script", "k"] []
  m__law_pool : mg "_law_pool" = some (.ref f__law_pool)
  f__law_take : Addr
  d__law_take : FuncData
  F__law_take : Fun K "_law_take" "_law_take" s__law_take f__law_take d__law_take
  b__law_take : Binds K d__law_take ["pool", "many"] []
  m__law_take : mg "_law_take" = some (.ref f__law_take)
  f__law_mixed_up : Addr
  d__law_mixed_up : FuncData
  F__law_mixed_up : Fun K "_law_mixed_up" "_law_mixed_up" s__law_mixed_up f__law_mixed_up d__law_mixed_up
  b__law_mixed_up : Binds K d__law_mixed_up ["pool", "things"] []
  m__law_mixed_up : mg "_law_mixed_up" = some (.ref f__law_mixed_up)
  f__law_grown : Addr
  d__law_grown : FuncData
  F__law_grown : Fun K "_law_grown" "_law_grown" s__law_grown f__law_grown d__law_grown
  b__law_grown : Binds K d__law_grown ["pool", "most", "letters"] []
  m__law_grown : mg "_law_grown" = some (.ref f__law_grown)
  f__law_shuffled : Addr
  d__law_shuffled : FuncData
  F__law_shuffled : Fun K "_law_shuffled" "_law_shuffled" s__law_shuffled f__law_shuffled d__law_shuffled
  b__law_shuffled : Binds K d__law_shuffled ["pool", "tree"] []
  m__law_shuffled : mg "_law_shuffled" = some (.ref f__law_shuffled)
  f__law_tree : Addr
  d__law_tree : FuncData
  F__law_tree : Fun K "_law_tree" "_law_tree" s__law_tree f__law_tree d__law_tree
  b__law_tree : Binds K d__law_tree ["pool", "most", "letters"] []
  m__law_tree : mg "_law_tree" = some (.ref f__law_tree)
  f__law_letters : Addr
  d__law_letters : FuncData
  F__law_letters : Fun K "_law_letters" "_law_letters" s__law_letters f__law_letters d__law_letters
  b__law_letters : Binds K d__law_letters ["pool"] []
  m__law_letters : mg "_law_letters" = some (.ref f__law_letters)
  f__law_changed : Addr
  d__law_changed : FuncData
  F__law_changed : Fun K "_law_changed" "_law_changed" s__law_changed f__law_changed d__law_changed
  b__law_changed : Binds K d__law_changed ["pool", "tree"] []
  m__law_changed : mg "_law_changed" = some (.ref f__law_changed)
  f__law_two_right : Addr
  d__law_two_right : FuncData
  F__law_two_right : Fun K "_law_two_right" "_law_two_right" s__law_two_right f__law_two_right d__law_two_right
  b__law_two_right : Binds K d__law_two_right ["one", "other"] []
  m__law_two_right : mg "_law_two_right" = some (.ref f__law_two_right)
  f__law_one_right : Addr
  d__law_one_right : FuncData
  F__law_one_right : Fun K "_law_one_right" "_law_one_right" s__law_one_right f__law_one_right d__law_one_right
  b__law_one_right : Binds K d__law_one_right ["tree"] []
  m__law_one_right : mg "_law_one_right" = some (.ref f__law_one_right)
  f_law : Addr
  d_law : FuncData
  F_law : Fun K "law" "law" s_law f_law d_law
  b_law : Binds K d_law ["script"] []
  m_law : mg "law" = some (.ref f_law)
  c__joined : Addr
  P__joined : Addr
  h__joined : d__joined.code = .ref c__joined
  c_heap_of : Addr
  P_heap_of : Addr
  h_heap_of : d_heap_of.code = .ref c_heap_of
  n__joined_heap_of : P__joined ≠ P_heap_of
  z_all : mg "all" = none
  z_bool : mg "bool" = none
  z_int : mg "int" = none
  z_isinstance : mg "isinstance" = none
  z_len : mg "len" = none
  z_list : mg "list" = none
  z_max : mg "max" = none
  z_min : mg "min" = none
  z_range : mg "range" = none
  z_set : mg "set" = none
  z_sorted : mg "sorted" = none
  z_str : mg "str" = none
  z_sum : mg "sum" = none
  z_tuple : mg "tuple" = none
structure Tbs {K : PySem.W.Frag} {mg : Str → Option Value} (T : Txt K mg) (base : Heap) : Prop where
  tb__joined : LamX.TabB base mg T.c__joined T.P__joined
  tb_heap_of : LamX.TabB base mg T.c_heap_of T.P_heap_of
abbrev q__joined : Str := "_joined" ++ ".<locals>." ++ "<lambda>"
abbrev q_heap_of : Str := "heap_of" ++ ".<locals>." ++ "<lambda>"
local macro_rules | `(tactic| walk_at "my rd") => `(tactic| repeat (first | refine ⟨_, rfl, ?_⟩ | refine ⟨_, _, rfl, rfl, ?_⟩ | refine ⟨rfl, ?_⟩))
local macro_rules | `(tactic| walk_at "my one") => `(tactic| first | refine ⟨_, rfl, ?_⟩ | refine ⟨_, _, rfl, rfl, ?_⟩ | refine ⟨rfl, ?_⟩)
def Chg (p : Addr) (H H' : Hp) : Prop := ∀ b, b ≠ p → H' b = H b
theorem Chg.refl (p : Addr) (H : Hp) : Chg p H H := fun _ _ => rfl
theorem Chg.trans {p : Addr} {H H1 H2 : Hp} (a : Chg p H H1) (b : Chg p H1 H2) : Chg p H H2 := fun c hc => (b c hc).trans (a c hc)
theorem Chg.upd {p : Addr} {H : Hp} {o : HO} : Chg p H (upd H p o) := fun _ h => upd_ne h
theorem Chg.at {p b : Addr} {H H' : Hp} {o : HO} (c : Chg p H H') (h : H b = some o) (n : b ≠ p) : H' b = some o := (c b n).trans h
theorem Chg.seq {K : PySem.W.Frag} {p a : Addr} {H H' : Hp} {xs : List V} (c : Chg p H H') (hp : H p = none) (h : SqL K H a xs) : SqL K H' a xs := by
  rcases h with (h | ⟨o, h⟩) | h
  · exact .inl (.inl (c.at h (ne_of_none h hp)))
  · exact .inl (.inr ⟨o, c.at h (ne_of_none h hp)⟩)
  · exact .inr h
theorem same_new {H : Hp} {p : Addr} {o : HO} (h : H p = none) : Same H (upd H p o) := fun b u q => by rw [upd_ne (ne_of_none q h)]; exact q
theorem nn_mul {a b A B : Int} (h0 : 0 ≤ a) (h1 : a ≤ A) (g0 : 0 ≤ b) (g1 : b ≤ B) : 0 ≤ a * b ∧ a * b ≤ A * B :=
  ⟨Int.mul_nonneg h0 g0, Int.mul_le_mul h1 g1 g0 (Int.le_trans h0 h1)⟩
theorem divW {i j : Int} (h : 0 < j) (h2 : j < 2 ^ 60) : CDivW i j := wide_div (b := 60) h (by omega) (by decide) (by decide)

theorem lay_ints : ∀ xs : List Int, PyData.canLayAll0 (xs.map PyData.int) = true
  | [] => by simp only [List.map_nil, PyData.canLayAll0]
  | x :: r => by simp only [List.map_cons, PyData.canLayAll0, PyData.canLay0, lay_ints r, Bool.and_self]
theorem dep_ints : ∀ xs : List Int, PyData.depthAll (xs.map PyData.int) ≤ 1
  | [] => by simp only [List.map_nil, PyData.depthAll]; omega
  | x :: r => by
    have := dep_ints r
    simp only [List.map_cons, PyData.depthAll, PyData.depth]
    omega
theorem shaped_ints (xs : List Int) : SeqAt.shaped (.list (xs.map PyData.int)) = true := by
  have a := lay_ints xs
  have b := dep_ints xs
  unfold SeqAt.shaped
  rw [Bool.and_eq_true]
  refine ⟨by simp only [PyData.canLay0]; exact a, decide_eq_true ?_⟩
  simp only [PyData.depth]
  omega
theorem dp_ints {K : PySem.W.Frag} {H : Hp} : ∀ xs : List Int, DpAll K H (xs.map V.int) (xs.map PyData.int)
  | [] => .nil
  | x :: r => .cons (.int x) (dp_ints r)
theorem dp_intsL {K : PySem.W.Frag} {H : Hp} {a : Addr} {xs : List Int} (h : SqL K H a (xs.map V.int)) : Dp K H (.ref a) (.list (xs.map PyData.int)) := .lst h (dp_ints xs)
theorem eqv_self {d : PyData} (h : SeqAt.shaped d = true) : PyData.eqv d d = true := SeqAt.eqv_refl d (SeqAt.canLay_of_shaped h)

inductive Tr where
  | node (c : Nat) (ks : List Tr)
def ch (c : Nat) : Str := ⟨#[c]⟩
mutual
def Tr.size : Tr → Nat
  | .node _ ks => 1 + sizes ks
def sizes : List Tr → Nat
  | [] => 0
  | t :: r => t.size + sizes r
end
mutual
def Tr.depth : Tr → Nat
  | .node _ ks => 1 + depths ks
def depths : List Tr → Nat
  | [] => 0
  | t :: r => max t.depth (depths r)
end
mutual
def Tr.post : Tr → List Tr
  | .node c ks => posts ks ++ [.node c ks]
def posts : List Tr → List Tr
  | [] => []
  | t :: r => t.post ++ posts r
end

mutual
def Tr.lets (p : Nat → Prop) : Tr → Prop
  | .node c ks => p c ∧ letss p ks
def letss (p : Nat → Prop) : List Tr → Prop
  | [] => True
  | t :: r => t.lets p ∧ letss p r
end
def Tr.kids : Tr → List Tr
  | .node _ ks => ks
def Tr.top : Tr → Nat
  | .node c _ => c
theorem sizes_append : ∀ a b : List Tr, sizes (a ++ b) = sizes a + sizes b
  | [], b => by simp only [List.nil_append, sizes]; omega
  | t :: r, b => by simp only [List.cons_append, sizes, sizes_append r b]; omega
theorem depths_append : ∀ a b : List Tr, depths (a ++ b) = max (depths a) (depths b)
  | [], b => by simp only [List.nil_append, depths]; omega
  | t :: r, b => by simp only [List.cons_append, depths, depths_append r b]; omega
theorem posts_append : ∀ a b : List Tr, posts (a ++ b) = posts a ++ posts b
  | [], b => by simp only [List.nil_append, posts]
  | t :: r, b => by simp only [List.cons_append, posts, posts_append r b, List.append_assoc]
theorem letss_append (p : Nat → Prop) : ∀ a b : List Tr, letss p (a ++ b) ↔ letss p a ∧ letss p b
  | [], b => by simp only [List.nil_append, letss, true_and]
  | t :: r, b => by simp only [List.cons_append, letss, letss_append p r b, and_assoc]
theorem size_pos : ∀ t : Tr, 1 ≤ t.size
  | .node c ks => by simp only [Tr.size]; omega
theorem len_sizes : ∀ ts : List Tr, ts.length ≤ sizes ts
  | [] => Nat.le_refl _
  | t :: r => by
    have a := size_pos t
    have b := len_sizes r
    simp only [List.length_cons, sizes]
    omega
mutual
theorem post_len : ∀ t : Tr, t.post.length = t.size
  | .node c ks => by simp only [Tr.post, List.length_append, posts_len ks, List.length_singleton, Tr.size]; omega
theorem posts_len : ∀ ts : List Tr, (posts ts).length = sizes ts
  | [] => rfl
  | t :: r => by simp only [posts, List.length_append, post_len t, posts_len r, sizes]
end
theorem sizes_mem : ∀ {ts : List Tr} {t : Tr}, t ∈ ts → t.size ≤ sizes ts
  | u :: r, t, h => by
    rcases List.mem_cons.mp h with e | h
    · subst e; simp only [sizes]; omega
    · have := sizes_mem h
      simp only [sizes]; omega
theorem depths_mem : ∀ {ts : List Tr} {t : Tr}, t ∈ ts → t.depth ≤ depths ts
  | u :: r, t, h => by
    rcases List.mem_cons.mp h with e | h
    · subst e; simp only [depths]; omega
    · have := depths_mem h
      simp only [depths]; omega
theorem letss_mem {p : Nat → Prop} : ∀ {ts : List Tr} {t : Tr}, letss p ts → t ∈ ts → t.lets p
  | u :: r, t, hl, h => by
    simp only [letss] at hl
    rcases List.mem_cons.mp h with e | h
    · subst e; exact hl.1
    · exact letss_mem hl.2 h
mutual
theorem lets_mono {p q : Nat → Prop} (h : ∀ c, p c → q c) : ∀ t : Tr, t.lets p → t.lets q
  | .node c ks, a => by
    simp only [Tr.lets] at a ⊢
    exact ⟨h _ a.1, letss_mono h ks a.2⟩
theorem letss_mono {p q : Nat → Prop} (h : ∀ c, p c → q c) : ∀ ts : List Tr, letss p ts → letss q ts
  | [], _ => trivial
  | t :: r, a => by
    simp only [letss] at a ⊢
    exact ⟨lets_mono h t a.1, letss_mono h r a.2⟩
end
mutual
inductive TrAt (ok : Addr → Prop) (H : Hp) : V → Tr → Prop
  | node {a l : Addr} {vs : List V} {c : Nat} {ks : List Tr} : H a = some (.tup [.str (ch c), .ref l]) → H l = some (.lst vs) → ok a → ok l → 97 ≤ c → c ≤ 122 → TrsAt ok H vs ks → TrAt ok H (.ref a) (.node c ks)
inductive TrsAt (ok : Addr → Prop) (H : Hp) : List V → List Tr → Prop
  | nil : TrsAt ok H [] []
  | cons {v : V} {vs : List V} {t : Tr} {ts : List Tr} : TrAt ok H v t → TrsAt ok H vs ts → TrsAt ok H (v :: vs) (t :: ts)
end
section
variable {ok ok' : Addr → Prop} {H H' : Hp}
mutual
theorem TrAt.imp (hk : ∀ b, ok b → ok' b) (h : ∀ b o, ok b → H b = some o → H' b = some o) : ∀ (t : Tr) (v : V), TrAt ok H v t → TrAt ok' H' v t
  | .node c ks, v, x => by
    cases x with
    | node h1 h2 k1 k2 c1 c2 r => exact .node (h _ _ k1 h1) (h _ _ k2 h2) (hk _ k1) (hk _ k2) c1 c2 (TrsAt.imp hk h ks _ r)
theorem TrsAt.imp (hk : ∀ b, ok b → ok' b) (h : ∀ b o, ok b → H b = some o → H' b = some o) : ∀ (ts : List Tr) (vs : List V), TrsAt ok H vs ts → TrsAt ok' H' vs ts
  | [], _, x => by cases x; exact .nil
  | t :: r, _, x => by
    cases x with
    | cons a b => exact .cons (TrAt.imp hk h t _ a) (TrsAt.imp hk h r _ b)
end
theorem TrAt.keep {v : V} {t : Tr} (x : TrAt ok H v t) (h : ∀ b o, ok b → H b = some o → H' b = some o) : TrAt ok H' v t := TrAt.imp (fun _ k => k) h t v x
theorem TrsAt.keep {vs : List V} {ts : List Tr} (x : TrsAt ok H vs ts) (h : ∀ b o, ok b → H b = some o → H' b = some o) : TrsAt ok H' vs ts := TrsAt.imp (fun _ k => k) h ts vs x
theorem TrAt.weak {v : V} {t : Tr} (x : TrAt ok H v t) (h : ∀ b, ok b → ok' b) : TrAt ok' H v t := TrAt.imp h (fun _ _ _ e => e) t v x
theorem TrsAt.weak {vs : List V} {ts : List Tr} (x : TrsAt ok H vs ts) (h : ∀ b, ok b → ok' b) : TrsAt ok' H vs ts := TrsAt.imp h (fun _ _ _ e => e) ts vs x
mutual
theorem TrAt.there : ∀ (t : Tr) (v : V), TrAt ok H v t → TrAt (fun b => ok b ∧ ∃ o, H b = some o) H v t
  | .node c ks, v, x => by
    cases x with
    | node h1 h2 k1 k2 c1 c2 r => exact .node h1 h2 ⟨k1, _, h1⟩ ⟨k2, _, h2⟩ c1 c2 (TrsAt.there ks _ r)
theorem TrsAt.there : ∀ (ts : List Tr) (vs : List V), TrsAt ok H vs ts → TrsAt (fun b => ok b ∧ ∃ o, H b = some o) H vs ts
  | [], _, x => by cases x; exact .nil
  | t :: r, _, x => by
    cases x with
    | cons a b => exact .cons (TrAt.there t _ a) (TrsAt.there r _ b)
end
theorem TrsAt.len : ∀ {vs : List V} {ts : List Tr}, TrsAt ok H vs ts → vs.length = ts.length
  | [], [], _ => rfl
  | v :: vs, t :: ts, h => by
    cases h with
    | cons a b => simp only [List.length_cons, TrsAt.len b]
  | [], _ :: _, h => by cases h
  | _ :: _, [], h => by cases h
theorem TrsAt.get : ∀ {vs : List V} {ts : List Tr} {i : Nat} {t : Tr}, TrsAt ok H vs ts → ts[i]? = some t → ∃ v, vs[i]? = some v ∧ TrAt ok H v t
  | _, _, i, t, .nil, e => by simp at e
  | _, _, 0, t, .cons a _, e => by simp at e; subst e; exact ⟨_, rfl, a⟩
  | _, _, i + 1, t, .cons _ b, e => by
    obtain ⟨v, h1, h2⟩ := TrsAt.get (i := i) (t := t) b (by simpa using e)
    exact ⟨v, by simpa using h1, h2⟩
theorem TrsAt.getV : ∀ {vs : List V} {ts : List Tr} {i : Nat} {v : V}, TrsAt ok H vs ts → vs[i]? = some v → ∃ t, ts[i]? = some t ∧ TrAt ok H v t
  | _, _, i, t, .nil, e => by simp at e
  | _, _, 0, t, .cons a _, e => by simp at e; subst e; exact ⟨_, rfl, a⟩
  | _, _, i + 1, t, .cons _ b, e => by
    obtain ⟨v, h1, h2⟩ := TrsAt.getV (i := i) (v := t) b (by simpa using e)
    exact ⟨v, by simpa using h1, h2⟩
theorem TrsAt.append : ∀ {vs ws : List V} {ts us : List Tr}, TrsAt ok H vs ts → TrsAt ok H ws us → TrsAt ok H (vs ++ ws) (ts ++ us)
  | [], _, [], _, _, h => h
  | v :: vs, _, t :: ts, _, h, g => by
    cases h with
    | cons a b => exact .cons a (TrsAt.append b g)
  | [], _, _ :: _, _, h, _ => by cases h
  | _ :: _, _, [], _, h, _ => by cases h
theorem TrsAt.split : ∀ {vs ws : List V} {ts : List Tr}, TrsAt ok H (vs ++ ws) ts → ∃ a b, ts = a ++ b ∧ TrsAt ok H vs a ∧ TrsAt ok H ws b
  | [], ws, ts, h => ⟨[], ts, rfl, .nil, h⟩
  | v :: vs, ws, _, h => by
    cases h with
    | cons x y =>
      obtain ⟨a, b, e, h1, h2⟩ := TrsAt.split y
      exact ⟨_ :: a, b, by rw [e]; rfl, .cons x h1, h2⟩
theorem TrsAt.perm {vs ws : List V} (p : vs.Perm ws) : ∀ {ts : List Tr}, TrsAt ok H vs ts → ∃ us, ts.Perm us ∧ TrsAt ok H ws us := by
  induction p with
  | nil => intro ts h; exact ⟨ts, .refl _, h⟩
  | cons x _ ih =>
    intro ts h
    cases h with
    | cons a b =>
      obtain ⟨us, p1, h1⟩ := ih b
      exact ⟨_ :: us, p1.cons _, .cons a h1⟩
  | swap x y l =>
    intro ts h
    cases h with
    | cons a b =>
      cases b with
      | cons c d => exact ⟨_, .swap _ _ _, .cons c (.cons a d)⟩
  | trans _ _ ih1 ih2 =>
    intro ts h
    obtain ⟨us, p1, h1⟩ := ih1 h
    obtain ⟨ws, p2, h2⟩ := ih2 h1
    exact ⟨ws, p1.trans p2, h2⟩
theorem TrsAt.rev {vs : List V} {ts : List Tr} (h : TrsAt ok H vs ts) : TrsAt ok H vs.reverse ts.reverse := by
  induction vs generalizing ts with
  | nil => cases h; exact .nil
  | cons v vs ih =>
    cases h with
    | cons a b =>
      rw [List.reverse_cons, List.reverse_cons]
      exact (ih b).append (.cons a .nil)
end
theorem sizes_perm {a b : List Tr} (p : a.Perm b) : sizes a = sizes b := by
  induction p with
  | nil => rfl
  | cons x _ ih => simp only [sizes, ih]
  | swap x y l => simp only [sizes]; omega
  | trans _ _ ih1 ih2 => exact ih1.trans ih2
theorem depths_perm {a b : List Tr} (p : a.Perm b) : depths a = depths b := by
  induction p with
  | nil => rfl
  | cons x _ ih => simp only [depths, ih]
  | swap x y l => simp only [depths]; omega
  | trans _ _ ih1 ih2 => exact ih1.trans ih2
theorem letss_perm {p : Nat → Prop} {a b : List Tr} (h : a.Perm b) : letss p a → letss p b := by
  induction h with
  | nil => exact id
  | cons x _ ih =>
    intro q
    simp only [letss] at q ⊢
    exact ⟨q.1, ih q.2⟩
  | swap x y l =>
    intro q
    simp only [letss] at q ⊢
    exact ⟨q.2.1, q.1, q.2.2⟩
  | trans _ _ ih1 ih2 => exact fun q => ih2 (ih1 q)
mutual
inductive Sh : Tr → Tr → Prop
  | node {c : Nat} {ks us ls : List Tr} : ks.Perm us → Shs us ls → Sh (.node c ks) (.node c ls)
inductive Shs : List Tr → List Tr → Prop
  | nil : Shs [] []
  | cons {t u : Tr} {ts us : List Tr} : Sh t u → Shs ts us → Shs (t :: ts) (u :: us)
end
mutual
theorem Sh.refl : ∀ t : Tr, Sh t t
  | .node c ks => .node (.refl _) (Shs.refl ks)
theorem Shs.refl : ∀ ts : List Tr, Shs ts ts
  | [] => .nil
  | t :: r => .cons (Sh.refl t) (Shs.refl r)
end
mutual
theorem Sh.size : ∀ {t u : Tr}, Sh t u → t.size = u.size
  | _, _, .node p h => by simp only [Tr.size, sizes_perm p, Shs.sizes h]
theorem Shs.sizes : ∀ {ts us : List Tr}, Shs ts us → My.sizes ts = My.sizes us
  | _, _, .nil => rfl
  | _, _, .cons a b => by simp only [My.sizes, Sh.size a, Shs.sizes b]
end
mutual
theorem Sh.depth : ∀ {t u : Tr}, Sh t u → t.depth = u.depth
  | _, _, .node p h => by simp only [Tr.depth, depths_perm p, Shs.depths h]
theorem Shs.depths : ∀ {ts us : List Tr}, Shs ts us → My.depths ts = My.depths us
  | _, _, .nil => rfl
  | _, _, .cons a b => by simp only [My.depths, Sh.depth a, Shs.depths b]
end
mutual
theorem Sh.lets {p : Nat → Prop} : ∀ {t u : Tr}, Sh t u → t.lets p → u.lets p
  | _, _, .node q h, a => by
    simp only [Tr.lets] at a ⊢
    exact ⟨a.1, Shs.letss h (letss_perm q a.2)⟩
theorem Shs.letss {p : Nat → Prop} : ∀ {ts us : List Tr}, Shs ts us → My.letss p ts → My.letss p us
  | _, _, .nil, a => a
  | _, _, .cons x y, a => by
    simp only [My.letss] at a ⊢
    exact ⟨Sh.lets x a.1, Shs.letss y a.2⟩
end
theorem Shs.len : ∀ {ts us : List Tr}, Shs ts us → ts.length = us.length
  | _, _, .nil => rfl
  | _, _, .cons a b => by simp only [List.length_cons, Shs.len b]
theorem Shs.append : ∀ {ts us ts' us' : List Tr}, Shs ts us → Shs ts' us' → Shs (ts ++ ts') (us ++ us')
  | _, _, _, _, .nil, h => h
  | _, _, _, _, .cons a b, h => .cons a (Shs.append b h)

def Fr (p : Addr) (H H' : Hp) : Prop := ∀ b o, b ≠ p → H b = some o → H' b = some o
theorem Fr.refl (p : Addr) (H : Hp) : Fr p H H := fun _ _ _ h => h
theorem Fr.trans {p : Addr} {H H1 H2 : Hp} (a : Fr p H H1) (b : Fr p H1 H2) : Fr p H H2 := fun c o n h => b c o n (a c o n h)
theorem Fr.same {p : Addr} {H H' : Hp} (s : Same H H') : Fr p H H' := fun b o _ h => s b o h
theorem Fr.chg {p : Addr} {H H' : Hp} (c : Chg p H H') : Fr p H H' := fun _ _ n h => c.at h n
theorem Fr.new {p q : Addr} {H H' : Hp} {o : HO} (f : Fr p H H') (h : H q = none) : Fr p H (upd H' q o) := fun b u n e => by
  rw [upd_ne (ne_of_none e h)]
  exact f b u n e
theorem same_add {q : Addr} {H H' : Hp} {o : HO} (f : Same H H') (h : H q = none) : Same H (upd H' q o) := fun b u e => by
  rw [upd_ne (ne_of_none e h)]
  exact f b u e
theorem Fr.free {p q : Addr} {H H' : Hp} (f : Fr p H H') (hp : H' p ≠ none) (h : H' q = none) : H q = none := by
  cases e : H q with
  | none => rfl
  | some o =>
    by_cases hq : q = p
    · subst hq; exact absurd h hp
    · rw [f q o hq e] at h; cases h
theorem Fr.seq {K : PySem.W.Frag} {p a : Addr} {H H' : Hp} {xs : List V} (c : Fr p H H') (hp : H p = none) (h : SqL K H a xs) : SqL K H' a xs := by
  rcases h with (h | ⟨o, h⟩) | h
  · exact .inl (.inl (c _ _ (ne_of_none h hp) h))
  · exact .inl (.inr ⟨o, c _ _ (ne_of_none h hp) h⟩)
  · exact .inr h
theorem TrAt.same {ok : Addr → Prop} {H H' : Hp} {v : V} {t : Tr} (x : TrAt ok H v t) (s : Same H H') : TrAt ok H' v t := x.keep fun b o _ h => s b o h
theorem TrsAt.same {ok : Addr → Prop} {H H' : Hp} {vs : List V} {ts : List Tr} (x : TrsAt ok H vs ts) (s : Same H H') : TrsAt ok H' vs ts := x.keep fun b o _ h => s b o h
theorem TrAt.off {ok : Addr → Prop} {H : Hp} {v : V} {t : Tr} {w : Addr} (x : TrAt ok H v t) (h : H w = none) : TrAt (fun b => ok b ∧ b ≠ w) H v t :=
  (TrAt.there t v x).weak fun b ⟨k, o, e⟩ => ⟨k, ne_of_none e h⟩
theorem TrsAt.off {ok : Addr → Prop} {H : Hp} {vs : List V} {ts : List Tr} {w : Addr} (x : TrsAt ok H vs ts) (h : H w = none) : TrsAt (fun b => ok b ∧ b ≠ w) H vs ts :=
  (TrsAt.there ts vs x).weak fun b ⟨k, o, e⟩ => ⟨k, ne_of_none e h⟩
theorem upd_keep {H : Hp} {w : Addr} {o : HO} {ok : Addr → Prop} (h : ∀ b, ok b → b ≠ w) : ∀ b u, ok b → H b = some u → (upd H w o) b = some u := fun b u k e => by
  rw [upd_ne (h b k)]
  exact e
theorem lc_outer {K : PySem.W.Frag} {a : Addr} {xs : List V} {Bd : V → Hp → (Hp → Prop) → Prop} {Qd : Hp → Prop} {H0 : Hp} (Pv : Nat → Hp → Prop) (h0 : Pv 0 H0) (hl : ∀ i H, i ≤ xs.length → Pv i H → SqL K H a xs)
    (hs : ∀ i x H, xs[i]? = some x → Pv i H → Bd x H (Pv (i + 1))) (hd : ∀ H, Pv xs.length H → Qd H) :
    ∃ W : Nat → Nat → Hp → Prop, (∃ m, W 0 m H0) ∧ ∀ i m H, W i m H → ((Itl K a).stop i H ∧ Qd H) ∨ ((Itl K a).go i H ∧ ∃ Nx : Hp → Prop, (∀ H', Nx H' → ∃ m', m' < m ∧ W (i + 1) m' H') ∧ ∀ x H', (Itl K a).yld i H x H' → Bd x H' Nx) := by
  refine ⟨fun i m H => m = xs.length - i ∧ i ≤ xs.length ∧ Pv i H, ⟨xs.length, by simp, Nat.zero_le _, h0⟩, ?_⟩
  rintro i m H ⟨rfl, hi, p⟩
  have q := hl i H hi p
  by_cases hlt : i < xs.length
  · refine .inr ⟨⟨xs, xs[i], q, by simp [hlt]⟩, Pv (i + 1), fun H' p' => ⟨xs.length - (i + 1), by omega, rfl, hlt, p'⟩, fun x H' y => ?_⟩
    obtain ⟨e, y⟩ := y
    subst e
    exact hs i x _ (y xs q) p
  · have e : i = xs.length := by omega
    subst e
    exact .inl ⟨⟨xs, q, Nat.le_refl _⟩, hd H p⟩
theorem take_succ_of {α : Type} {l : List α} {i : Nat} {x : α} (h : l[i]? = some x) : l.take (i + 1) = l.take i ++ [x] := by
  rw [List.take_add_one, h]
  rfl

def RowL (params : Arguments) (scope : PySem.Scope) (body : PySem.Expr) : Prop :=
  (∃ (x : Str) (p1 p2 p3 : Pos) (k0 : Nat), body = .Subscript (.Name x p1) (.Constant (.int 0) k0 p2) p3 ∧ (x == Str.ofString "__debug__") = false ∧ scope.names = [(x, .local)] ∧
    ∀ (fd : FuncData) (u : Value), fd.params = params → fd.defaults = .none → fd.kwdefaults = .none → bindArgs fd ⟨[u], []⟩ = pure [(x, u)]) ∧
  scope.kind = .function ∧ scope.isGenerator = false ∧ scope.isCoroutine = false
theorem row_call {P : Program} {w : World} {A : Around} {s : Shared} {f p c' : Addr} {nm q : Str} {params : Arguments} {scope : PySem.Scope} {body : PySem.Expr} {clos : List (Str × Addr)} {pm ctv : Value} {its : Array Value} {x : Str} {tx : Tok}
    (R : RowL params scope body) (hd : A.depth < recursionLimit) (hf : s.heap.get? f = some (PySem.W.kla_obj nm q params body scope clos pm c' ctv))
    (hc : s.heap.CodeRec (.ref c') q) (hn : s.heap.NoLimit) (ht : IsTup s.heap p its) (h0 : its[0]? = some (.str x tx)) :
    wpAny (model P w) A (call (.ref f) [.ref p]) (PySem.W.KeyPure (.str x) s) (fun _ _ => False) s := by
  obtain ⟨⟨z, p1, p2, p3, k0, rfl, hz, hnm, hb⟩, hk, hg, ho⟩ := R
  refine wpAny_call ?_
  refine PySem.W.kla_callFunE hd hf rfl ho hg rfl hc ?_
  refine BindsTo.of_eq (hb _ _ rfl rfl rfl) _ _ _ _ ?_
  refine wpAny_newFunctionEnv (by intro y hy; rw [show (PySem.W.kla_fn nm q params _ scope clos pm (.ref c') ctv).scope.names = _ from hnm] at hy; simp only [List.mem_singleton] at hy; subst hy; simp) (by intro y hy; simp only [List.mem_singleton] at hy; subst hy; rw [show (PySem.W.kla_fn nm q params _ scope clos pm (.ref c') ctv).scope.names = _ from hnm]; simp) (fun h' hns hsame => ?_) hk
  have hkeep : ∀ b o, s.heap.get? b = some o → h'.get? b = some o := by
    intro b o hb
    have hne : b ≠ s.heap.objs.size := fun e => by
      rw [e] at hb
      simp [Heap.get?] at hb
    rw [hsame.2 b hne]
    exact Heap.get?_push_of_some _ hb
  refine ⟨hn.keeps hkeep, PySem.W.kla_codeExpr ?_⟩
  refine Subscript_Constant (wpAny_Name (wpAny_loadName_local (m := fun y => List.lookup y [(z, Value.ref p)].reverse) (v := .ref p) hk ?_ hns ?_ ?_) hz)
  · simp [Env.kindOf, newEnv, hnm]
  · simp
  refine wpAny_Constant_int ?_
  obtain ⟨o, g1, g2, n, g3⟩ := ht
  have ht' : IsTup h' p its := ⟨o, hkeep _ _ g1, g2, n, g3⟩
  refine ⟨"tuple", _, rfl, ⟨o, hkeep _ _ g1, g2⟩, ?_⟩
  have hz0 : its.size ≠ 0 := fun e => by
    rw [Array.getElem?_eq_none (by omega)] at h0
    cases h0
  refine getItem_tuple (j := 0) ht' (by decide) (by decide) ?_ h0 ?_
  · simp [seqIndex?]
    intro e
    rw [e] at hz0
    exact hz0 rfl
  exact ⟨h', _, rfl, hkeep, .str _ _⟩

def leS (a b : V × Str) : Bool := decide (a.2.cps.toList ≤ b.2.cps.toList)
def RowO (f c : Addr) (q : Str) : HO := .ext fun h => ∃ nm params body scope clos pm ctv, h.get? f = some (PySem.W.kla_obj nm q params body scope clos pm c ctv) ∧ RowL params scope body
def rSortRow : List V → List V → Hp → VK → Prop := fun xs zs H Q => ∃ (a f c : Addr) (q : Str) (bs : List (V × Str)), xs = [.ref a] ∧ zs = [.ref f] ∧ H f = some (RowO f c q) ∧ H c = some (LamX.CodeO c q) ∧ H a = some (.lst (bs.map Prod.fst)) ∧
  (∀ b ∈ bs, ∃ p rest, b.1 = .ref p ∧ H p = some (.tup (.str b.2 :: rest))) ∧ bs.length ≤ sizeLine ∧ ∀ r, H r = none → Q (.ref r) (upd H r (.lst ((bs.mergeSort leS).map Prod.fst)))
def RowR (H : Hp) (v : Value) (b : V × Str) : Prop := RelV b.1 v ∧ ∃ p rest, b.1 = .ref p ∧ H p = some (.tup (.str b.2 :: rest))
theorem eachRow {H : Hp} : ∀ {bs : List (V × Str)} {its : List Value}, Vals (bs.map Prod.fst) its → (∀ b ∈ bs, ∃ p rest, b.1 = .ref p ∧ H p = some (.tup (.str b.2 :: rest))) → PySem.W.EachIs (RowR H) its bs
  | [], _, v, _ => by cases v; exact .nil
  | b :: r, _, v, h => by
    cases v with
    | cons g1 g2 => exact .cons ⟨g1, h b (by simp)⟩ (eachRow g2 fun x hx => h x (by simp [hx]))
theorem rowEach {H : Hp} : ∀ {bs : List (V × Str)} {its : List Value}, PySem.W.EachIs (RowR H) its bs → Vals (bs.map Prod.fst) its
  | [], _, v => by cases v; exact .nil
  | b :: r, _, v => by
    cases v with
    | cons g1 g2 => exact .cons g1.1 (rowEach g2)
theorem cr_sortRow {X : Cx} {k : Nat} (hr : Room k X.A) : CallRK X (.builtin "sorted") ["key"] rSortRow := by
  intro pins s σ H xs zs us ws Q I hv hw h
  obtain ⟨a, f, c, q, bs, rfl, rfl, hf, hc, ha, hp, hz, q2⟩ := h
  cases hv with
  | cons g1 g2 =>
  cases g2
  cases hw with
  | cons g3 g4 =>
  cases g4
  cases g1
  cases g3
  have oa := I.hok _ _ ha
  have of := I.hok _ _ hf
  have oc := I.hok _ _ hc
  obtain ⟨nm, params, body, scope, clos, pm, ctv, hfo, hR⟩ := of.1
  obtain ⟨oz, its, n, hits, hao⟩ := oa
  refine PySem.W.sorted_key_data (vs := its) (bs := bs) (R := RowR H) (f := .ref f) (b := false) (fun b => .str b.2) ⟨_, hao, rfl, n, rfl⟩ (eachRow hits hp) ?_ ?_ hz ?_ (ksk_s1 _ _) (fun x => ksk_l1 _ _) (fun x => ?_) (fun v x hv hx h tk hk => ?_) (fun out c' h' tk hk hn ho hl he => ?_)
  · intro d hd d' hd'
    simp only [List.mem_map] at hd hd'
    obtain ⟨_, _, rfl⟩ := hd
    obtain ⟨_, _, rfl⟩ := hd'
    rfl
  · refine .inr fun d hd => ?_
    simp only [List.mem_map] at hd
    obtain ⟨_, _, rfl⟩ := hd
    exact ⟨by simp, by simp⟩
  · intro x _
    have := hr.un
    have e : (PyData.str x.2).depth = 0 := rfl
    omega
  · rfl
  · obtain ⟨hv1, p, rest, e1, e2⟩ := hv
    obtain ⟨v1, w1⟩ := x
    dsimp only at e1 hv1 e2 hx ⊢
    subst e1
    cases hv1
    have op := I.hok _ _ e2
    obtain ⟨_, its2, g1, g2, g3, n2, g4⟩ := op
    cases g1 with
    | cons k1 k2 =>
    obtain ⟨tx, rfl⟩ := k1
    obtain ⟨oc', vs', t', c1, c2, c3⟩ := oc.1
    refine row_call (its := _) (x := w1) (tx := tx) hR ?_ (hk _ _ hfo) ⟨_, _, _, _, rfl, hk _ _ c1, c2, c3⟩ (I.nolimit.keeps hk) ⟨g2, hk _ _ g3, n2, g4⟩ (by simp)
    have := hr.dp
    show X.A.depth < recursionLimit
    omega
  · refine ⟨.ref (s.heap.objs.size + 1), _, I.laid (a := s.heap.objs.size + 1) (o := .lst ((bs.mergeSort leS).map Prod.fst)) hk (by omega) ?_, rfl, q2 _ ?_⟩
    · have e : PySem.W.dataLe false (fun b : V × Str => PyData.str b.2) = leS := PySem.W.dataLe_str _
      rw [e] at he
      exact ⟨by simpa using hz, out, c', rowEach he, ho⟩
    · exact I.hok.fresh (by omega)
theorem rowO_ok {P : Program} {w : World} {H : Hp} {h : Heap} {c : Addr} {nm q : Str} {params : Arguments} {scope : PySem.Scope} {body : PySem.Expr} {clos : List (Str × Addr)} {pm ctv : Value} (hR : RowL params scope body) :
    ObjOk P w H (h.push (PySem.W.kla_obj nm q params body scope clos pm c ctv)) h.objs.size (RowO h.objs.size c q) := by
  have e : (h.push (PySem.W.kla_obj nm q params body scope clos pm c ctv)).get? h.objs.size = some (PySem.W.kla_obj nm q params body scope clos pm c ctv) := Heap.get?_push_size _ rfl
  refine ⟨⟨_, _, _, _, _, _, _, e, hR⟩, ⟨_, e⟩, fun h1 h2 ⟨a1, a2, a3, a4, a5, a6, a7, e1, e2⟩ k => ⟨a1, a2, a3, a4, a5, a6, a7, k _ e1, e2⟩⟩
theorem pe_lamRow {X : Cx} {c P : Addr} {params : Arguments} {body : PySem.Expr} {scope : PySem.Scope} {pos : Pos} (tb : LamX.TabB X.base X.mg c P) (hc : X.env.code = .ref c) (hd : defaultsOf params X.env = ([], []))
    (hR : RowL params scope body) : PE X (.Lambda params body scope pos) (fun σ H Q => LamX.TabS H P (X.env.qual ++ "<lambda>") ∧ ∀ (f c : Addr) (H1 : Hp), Fr P H H1 → LamX.TabS H1 P (X.env.qual ++ "<lambda>") → H1 f = some (RowO f c (X.env.qual ++ "<lambda>")) → H1 c = some (LamX.CodeO c (X.env.qual ++ "<lambda>")) → Q (.ref f) H1) := by
  refine ⟨fun pins s σ H Q I h => ?_⟩
  obtain ⟨ht, q⟩ := h
  have hclo : closureFor scope X.env = pure (cloFrom X.env.cells scope.names []) := by
    refine closure_ok ?_
    intro y hy he
    obtain ⟨⟨z, p1, p2, p3, k0, rfl, hz, hnm, hb⟩, hk, hg, ho⟩ := hR
    rw [hnm] at hy
    simp only [List.mem_singleton] at hy
    subst hy
    cases he
  have ht' := ht
  obtain ⟨ps, hP, hT, hA⟩ := ht'
  have oP : s.heap.get? P = some (PySem.W.tabObj ps) := I.hok _ _ hP
  refine PySem.W.kla_eval hd ?_
  cases hcd : codeAmong pos ps.toList with
  | some cv =>
    obtain ⟨c', rfl, hc'⟩ := hA _ _ hcd
    refine PySem.W.kla_makeFunctionHit hclo I.ok.glob (I.mod.glob.keeps I.bk) hc (tb.code.keeps I.bk) oP hT hcd (tb.bm.keeps I.bk) (fun ctv h' tk hk hs => ?_)
    have I1 := I.kept (t' := tk) hk
    have hz : s.heap.objs.size ≤ h'.objs.size := hs
    have hn : H h'.objs.size = none := I.hok.fresh hz
    refine ⟨.ref h'.objs.size, upd H h'.objs.size (RowO h'.objs.size c' (X.env.qual ++ "<lambda>")), ?_, rfl, q _ c' _ (fun b o _ hb => ?_) (ht.ext fun b o hb => ?_) upd_same ?_⟩
    · exact I1.laid (h' := h'.push _) (t' := tk) (fun b u hb => Heap.get?_push_of_some _ hb) (Nat.le_refl _) (rowO_ok hR)
    · rw [upd_ne (ne_of_none hb hn)]; exact hb
    · rw [upd_ne (ne_of_none hb hn)]; exact hb
    · rw [upd_ne (ne_of_none hc' hn)]; exact hc'
  | none =>
    refine PySem.W.kla_makeFunction hclo I.ok.glob (I.mod.glob.keeps I.bk) hc (tb.code.keeps I.bk) oP hT hcd tb.gP (tb.bm.keeps I.bk) (fun c' ctv h' tk he hl hu hrec hP' => ?_)
    obtain ⟨c2, o2, vs2, t2, ec, e1, e2, e3⟩ := hrec
    cases ec
    have I2 := LamX.inv_table (t' := tk) (c := c') (q := X.env.qual ++ "<lambda>") I hP he (more := #[rawInt ↑pos.line, rawInt ↑pos.col, .ref c']) hP' hl ⟨_, _, _, e1, e2, e3⟩
    have hn : (upd (upd H P (.tbl (ps ++ #[rawInt ↑pos.line, rawInt ↑pos.col, .ref c']))) c' (LamX.CodeO c' (X.env.qual ++ "<lambda>"))) h'.objs.size = none := I2.hok.fresh (Nat.le_refl _)
    have hcn : H c' = none := I.hok.fresh hl
    have hPc : P ≠ c' := fun e => by rw [e] at hP; rw [hcn] at hP; cases hP
    refine ⟨.ref h'.objs.size, _, I2.laid (h' := h'.push _) (o := RowO h'.objs.size c' (X.env.qual ++ "<lambda>")) (t' := tk) (fun b u hb => Heap.get?_push_of_some _ hb) (Nat.le_refl _) (rowO_ok hR), rfl, q _ c' _ ?_ ?_ upd_same ?_⟩
    · intro b o hbP hb
      have h1 : (upd (upd H P (.tbl (ps ++ #[rawInt ↑pos.line, rawInt ↑pos.col, .ref c']))) c' (LamX.CodeO c' (X.env.qual ++ "<lambda>"))) b = some o := by
        rw [upd_ne (ne_of_none hb hcn), upd_ne hbP]; exact hb
      rw [upd_ne (ne_of_none h1 hn)]; exact h1
    · refine LamX.TabS.ext (H := upd (upd H P (.tbl (ps ++ #[rawInt ↑pos.line, rawInt ↑pos.col, .ref c']))) c' (LamX.CodeO c' (X.env.qual ++ "<lambda>"))) ?_ (fun b o hb => by rw [upd_ne (ne_of_none hb hn)]; exact hb)
      refine ⟨_, by rw [upd_ne hPc]; exact upd_same, ?_, ?_⟩
      · simpa using TriplesOk_snoc _ _ _ _ hT
      · intro pos2 cv hcv
        rw [Array.toList_append] at hcv
        rcases LamX.among_app _ hT hcv with h | h
        · obtain ⟨c3, e3, h3⟩ := hA _ _ h
          refine ⟨c3, e3, ?_⟩
          rw [upd_ne (ne_of_none h3 hcn), upd_ne (fun e => by rw [e, hP] at h3; cases h3)]
          exact h3
        · exact ⟨c', h, upd_same⟩
    · have h1 : (upd (upd H P (.tbl (ps ++ #[rawInt ↑pos.line, rawInt ↑pos.col, .ref c']))) c' (LamX.CodeO c' (X.env.qual ++ "<lambda>"))) c' = some (LamX.CodeO c' (X.env.qual ++ "<lambda>")) := upd_same
      rw [upd_ne (ne_of_none h1 hn)]; exact h1

theorem take_zip {α : Type} (sel : Nat → Bool) (j : Nat) : ∀ (xs : List α) (i : Nat), (∀ k, k < i + xs.length → sel k = decide (j ≤ k)) → (xs.zipIdx i).filterMap (fun x => if sel x.2 = true then none else some x.1) = xs.take (j - i)
  | [], i, _ => by simp
  | x :: r, i, hs => by
    rw [List.zipIdx_cons, List.filterMap_cons]
    have ih := take_zip sel j r (i + 1) fun k hk => hs k (by rw [List.length_cons]; omega)
    have h0 := hs i (by rw [List.length_cons]; omega)
    by_cases h : j ≤ i
    · have e : j - i = 0 := by omega
      have e2 : j - (i + 1) = 0 := by omega
      rw [e2] at ih
      simp only [h0, h, decide_true, if_true, e, List.take_zero]
      simpa using ih
    · have e : j - i = (j - (i + 1)) + 1 := by omega
      rw [e, List.take_succ_cons, ← ih]
      simp [h0, h]
theorem run_delFrom {P : Program} {w : World} {A : Around} {E : Value → Shared → Prop} {s : Shared} {l sl : Addr} {items : Array Value} {n j : Nat} {t : Tok} {Q : Unit → Shared → Prop}
    (hl : s.heap.get? l = some { cls := Value.type "list", data := Data.seq items n }) (hs : s.heap.get? sl = some { cls := .type "slice", data := .fields #[.int j t, .none, .none] }) (hj : j ≤ items.size) (hz : items.size ≤ sizeLine)
    (q : ∀ f : Array Value → Array Value, f items = (items.toList.take j).toArray → Q () { s with heap := s.heap.update l (Obj.mapSeq f) }) :
    wpAny (model P w) A (delItem (.ref l) (.ref sl)) Q E s := by
  refine wpAny_delItem_slot (T := "list") ⟨_, hl, rfl⟩ (by decide) PySem.F.slot_list_delitem ?_
  refine wpAny_call_entry PySem.F.slot_list_delitem ⟨_, hl, rfl⟩ PySem.F.entry_list_delitem ?_ (PySem.F.args_list_delitem_2 _ _)
  show wpAny _ _ (do
      let __x ← slotArgs "__delitem__" 1 { pos := [.ref l, .ref sl] }
      _) _ _ _
  refine wpAny_bind (wpAny_pure ?_)
  refine wpAny_bind ?_
  refine wpAny_bind (wpAny_specialOf (T := "slice") (r := none) ⟨_, hs, rfl⟩ rfl ?_)
  refine wpAny_pure ?_
  refine wpAny_bind (wpAny_typeOf (T := "slice") ⟨_, hs, rfl⟩ ?_)
  dsimp only
  rw [if_neg (by decide)]
  refine wpAny_bind ?_
  rw [listSliceParts_eq]
  refine wpAny_bind (wpAny_field hs rfl (i := 2) rfl (wpAny_bind (wpAny_listPart .none ?_)))
  dsimp only [rawPart]
  rw [if_neg (by decide)]
  refine wpAny_bind (wpAny_field hs rfl (i := 0) rfl (wpAny_bind (wpAny_listPart (.int _ _) ?_)))
  refine wpAny_bind (wpAny_field hs rfl (i := 1) rfl (wpAny_bind (wpAny_listPart .none (wpAny_pure ?_))))
  dsimp only
  refine wpAny_bind (wpAny_listItems hl rfl ?_)
  have eb : sliceBounds (some (j : Int)) none none items.size = ((j : Int), (items.size : Int), 1) := by
    simp [sliceBounds]
    omega
  rw [show sliceIndices (rawPart (some (j : Int))) (rawPart none) .none items.size = pure (sliceBounds (some (j : Int)) none none items.size) from sliceIndices_raw (some (j : Int)) none none items.size (by simp), eb]
  refine wpAny_bind (wpAny_pure ?_)
  dsimp only
  refine wpAny_bind (wpAny_rule ?_)
  refine wpAny_bind (wpAny_updateSeq hl rfl (wpAny_bind (wpAny_letGo (wpAny_pure ⟨_, rfl, q _ ?_⟩))) hz ?_)
  · refine congrArg List.toArray ((take_zip (fun k => _) j items.toList 0 ?_).trans (by rw [Nat.sub_zero]))
    intro k hk
    show (if (1 : Int) > 0 then decide ((j : Int) ≤ (k : Int)) && decide ((k : Int) < (items.size : Int)) && ((k : Int) - j) % 1 == 0 else _) = _
    rw [Nat.zero_add, Array.length_toList] at hk
    rw [if_pos (by decide), Int.emod_one, decide_eq_true (show (k : Int) < (items.size : Int) by omega)]
    by_cases h : j ≤ k
    · simp [h]
    · simp [h]
  · refine Nat.le_trans ?_ (Nat.le_succ_of_le hz)
    rw [List.size_toArray]
    refine Nat.le_trans (List.length_filterMap_le _ _) ?_
    simp
theorem ps_delFrom {X : Cx} {pos p2 : Pos} {o e : PySem.Expr} {to te : TE} {tpos : Pos} (ho : PE X o to) (he : PE X e te) :
    PS X (.Delete [.Subscript o (.Slice (some e) none none p2) tpos] pos) (fun D σ H => to σ H fun x H1 => te σ H1 fun y H2 => ∃ (l : Addr) (xs : List V) (j : Nat), x = .ref l ∧ y = .int j ∧ H2 l = some (.lst xs) ∧ j ≤ xs.length ∧ D.nx σ (upd H2 l (.lst (xs.take j)))) := by
  refine ⟨fun pins s σ H D I h => ?_⟩
  refine wpAny_Delete (wpAny_deleteEach_cons (wpAny_delete_Subscript ?_))
  refine thn (ho.run pins s σ H _ I h) fun u s1 hx => ?_
  obtain ⟨x, H1, I1, r1, h1⟩ := hx
  refine wpAny_Slice ?_
  rw [evalPart_some]
  refine thn (he.run pins s1 σ H1 _ I1 h1) fun u2 s2 hx => ?_
  obtain ⟨y, H2, I2, r2, l, xs, j, rfl, rfl, hl, hj, q⟩ := hx
  cases r1
  obtain ⟨t, rfl⟩ := r2
  rw [evalPart_none]
  refine wpAny_pure ?_
  refine wpAny_pure ?_
  have hsl : (s2.heap.push { cls := .type "slice", data := .fields #[.int j t, .none, .none] }).get? s2.heap.objs.size = some { cls := .type "slice", data := .fields #[.int j t, .none, .none] } := Heap.get?_push_size _ rfl
  have I3 := I2.kept (h' := s2.heap.push { cls := .type "slice", data := .fields #[.int j t, .none, .none] }) (t' := s2.toks) (fun b u hb => Heap.get?_push_of_some _ hb)
  obtain ⟨oz, its, n, hits, hao⟩ := I3.hok _ _ hl
  have ll : xs.length = its.length := L2.Vals.length hits
  refine run_delFrom (items := its.toArray) hao hsl (by simp; omega) (by simp; omega) (fun f hf => ?_)
  refine wpAny_deleteEach_nil ?_
  refine ⟨σ, _, I3.lset (its := its) (its' := its.take j) (ys := xs.take j) hl hao (by simpa using hf) ?_ ?_, q⟩
  · exact L2.Vals.take j hits
  · rw [List.length_take]; omega

theorem okC {P : Program} {w : World} {K : PySem.W.Frag} {mg : Str → Option Value} {base : Heap} {x qual : Str} {st : Stmt} {f c : Addr} {fd : FuncData} {N ps : List Str} {k : Nat} {sp : Sp} (F : Fun K x qual st f fd) (hc : fd.code = .ref c) (S : FnScope N ps (defScope st))
    (len : ∀ vs H Q E, sp vs H Q E → vs.length = ps.length)
    (hb : ∀ (A : Around) (outer : List Env) (s : Shared) (H : Hp) (vs : List V) (Q : VK) (E : XK), Room k (A.deeper (envOfC qual (defScope st) s.heap.objs.size f (.ref c))) → sp vs H Q E →
      ∃ t, PSs (cxOf CX0 P w K mg base N qual (defScope st) f (.ref c) A outer s H E).nox (defBody st) t ∧ t { nx := fun _ H' => Q .non H', rt := Q } (L2.start N vs) H) : FnOk P w K mg base CX0 (k + 1) f fd ps sp := by
  obtain ⟨oc, od, kV, doc, pm, an, cdv, ct, osl, rfl, lk, hcd⟩ := F.ex
  cases hc
  exact fn_of lk hcd S len fun A outer s H vs Q E hr hsp => by
    obtain ⟨t, h, q⟩ := hb A outer s H vs Q E hr hsp
    exact ⟨t, h.nox, q⟩
theorem rowL_mk {x : Str} {p0 p1 p2 p3 : Pos} {k0 : Nat} {scope : PySem.Scope} (hz : (x == Str.ofString "__debug__") = false) (hn : scope.names = [(x, .local)]) (hk : scope.kind = .function) (hg : scope.isGenerator = false) (hc : scope.isCoroutine = false)
    (hb : ∀ (nm q : Str) (b : FuncBody) (sc : PySem.Scope) (g : Addr) (cl : List (Str × Addr)) (pm an : Value) (cd : Option Addr) (ct bl : Value) (bu : Addr) (u : Value), bindArgs ⟨nm, q, { posonlyargs := [], args := [{ arg := x, annotation := none, pos := p0 }], vararg := none, kwonlyargs := [], kw_defaults := [], kwarg := none, defaults := [] }, b, sc, g, cl, .none, .none, pm, an, cd, ct, bl, bu⟩ ⟨[u], []⟩ = pure [(x, u)]) :
    RowL { posonlyargs := [], args := [{ arg := x, annotation := none, pos := p0 }], vararg := none, kwonlyargs := [], kw_defaults := [], kwarg := none, defaults := [] } scope (.Subscript (.Name x p1) (.Constant (.int 0) k0 p2) p3) := by
  refine ⟨⟨x, p1, p2, p3, k0, rfl, hz, hn, fun fd u e1 e2 e3 => ?_⟩, hk, hg, hc⟩
  obtain ⟨nm, q, pr, b, sc, g, cl, d, kd, pm, an, cd, ct, bl, bu⟩ := fd
  subst e1 e2 e3
  exact hb _ _ _ _ _ _ _ _ _ _ _ _ _
def spLawT (K : PySem.W.Frag) (Ps : List Addr) : Sp := fun vs H Q _ => ∃ (a : Addr) (ns : List Int), vs = [.ref a] ∧ SqL K H a (ns.map V.int) ∧ ns.length ≤ 63 ∧ (∀ P ∈ Ps, H P = some (.tbl #[])) ∧ ∀ H', Q (.bl true) H'
def LawT (l : PySem.W.OpenLaw) (w : World) (K : PySem.W.Frag) (k : Nat) (x : Str) (mg : Str → Option Value) (fa : Addr) (cs : List (Str × Addr × Addr)) : Prop :=
  (∀ z ∈ cs, PySem.W.tabIn K z.1 = some (z.2.1, z.2.2) ∧ K.lookup z.2.2 = none) ∧ ∃ fd : FuncData, (∀ (s : Shared) (v : Value), BindsTo s fd ⟨[v], []⟩ [(x, v)]) ∧
    ∀ base : Heap, K.In base → base.Ns mainGlobals mg → (∀ z ∈ cs, LamX.TabB base mg z.2.1 z.2.2) → FnOk l.prog w K mg base CX0 k fa fd [x] (spLawT K (cs.map fun z => z.2.2))
theorem walk_ofT {l : PySem.W.OpenLaw} {n k : Nat} {q : Program} {loose : List Str} {XP : (Str → Option Value) → Heap → Prop} {YP : World → Heap → Prop} {d : DefRec} {K : Params → PySem.W.Frag} {x : Str}
    (hn : l.most = some n) (hz : n ≤ sizeLine) (h63 : n ≤ 63) (hd : d.params.defaults = []) (hr : Room k callerA) (hY : ∀ w h, YP w h → (K w.params).In h) (names : List Str)
    (hR : (names.all fun z => (recsOf q).any fun e => e.name == z) = true)
    (hF : ∀ (w : World) (mg : Str → Option Value) (fa : Addr) (h : Heap), (K w.params).In h → h.Ns mainGlobals mg → mg d.name = some (.ref fa) → ∃ cs : List (Str × Addr × Addr), cs.map Prod.fst = names ∧ LawT l w (K w.params) k x mg fa cs) :
    PySem.W.WalkO q loose XP YP l.row.toRowW d [] fun f vs => call f vs := by
  refine Att.attach_callB hn hd fun w s0 s1 mg mb fa o pm cd doc a vs ns G Y ho hod hcr hmg ha hi hl hb hg => ?_
  obtain ⟨cs, hcs, hT, fd, hB, hOk⟩ := hF w mg fa s1.heap (hY w _ Y) G.T.g hmg
  have key : ∀ z ∈ cs, PySem.W.CodeHd s1.heap z.2.1 z.2.2 ∧ s1.heap.get? z.2.2 = some (PySem.W.tabObj #[]) := by
    intro z hz
    have h1 : z.1 ∈ names := by rw [← hcs]; exact List.mem_map_of_mem hz
    have h2 := List.all_eq_true.mp hR _ h1
    cases hf : (recsOf q).find? fun e => e.name == z.1 with
    | none =>
      rw [List.find?_eq_none] at hf
      rw [List.any_eq_true] at h2
      obtain ⟨e, he, h3⟩ := h2
      exact absurd h3 (hf e he)
    | some dd => exact PySem.W.tab_of G.T (hY w _ Y) hf (hT z hz).1
  refine LamX.law_callTs (K := K w.params) (cs := cs.map fun z => z.2) (hY w _ Y) G.T.g G.T.b G.T.builtins G.T.nolimit hg ?_ ?_ ?_ G.T.bmain ha hi (Nat.le_trans hl hz) hr (fun base h1 h2 h3 => hOk base h1 h2 fun z hz => h3 _ (List.mem_map_of_mem hz)) (fun s u => hB s u) (fun H hH hS => ⟨a, ns, rfl, hS, ?_, ?_, fun _ => rfl⟩) (fun _ _ _ h => h)
  · intro p hp
    obtain ⟨z, hz, rfl⟩ := List.mem_map.mp hp
    exact (key z hz).2
  · intro p hp
    obtain ⟨z, hz, rfl⟩ := List.mem_map.mp hp
    exact (hT z hz).2
  · intro p hp
    obtain ⟨z, hz, rfl⟩ := List.mem_map.mp hp
    exact (key z hz).1
  · exact Nat.le_trans hl h63
  · intro P hP
    obtain ⟨z, hz, rfl⟩ := List.mem_map.mp hP
    exact hH _ (List.mem_map_of_mem hz)

mutual
def Tr.dat : Tr → PyData
  | .node c ks => .tuple [.str (ch c), .list (dats ks)]
def dats : List Tr → List PyData
  | [] => []
  | t :: r => t.dat :: dats r
end
mutual
theorem dat_depth : ∀ t : Tr, t.dat.depth ≤ 2 * t.depth
  | .node c ks => by
    have := dats_depth ks
    simp only [Tr.dat, PyData.depth, PyData.depthAll, Tr.depth]
    omega
theorem dats_depth : ∀ ts : List Tr, PyData.depthAll (dats ts) ≤ 2 * depths ts
  | [] => by simp only [dats, PyData.depthAll, depths]; omega
  | t :: r => by
    have a := dat_depth t
    have b := dats_depth r
    simp only [dats, PyData.depthAll, depths]
    omega
end
section
variable {ok : Addr → Prop} {H : Hp} {K : PySem.W.Frag}
theorem strOk_ch {c : Nat} (h : c ≤ 122) : PyData.strOk (ch c) = true := by
  unfold PyData.strOk ch
  simp
  omega
mutual
theorem TrAt.lay : ∀ (t : Tr) (v : V), TrAt ok H v t → t.dat.canLay0 = true
  | .node c ks, v, x => by
    cases x with
    | node h1 h2 k1 k2 c1 c2 r => simp only [Tr.dat, PyData.canLay0, PyData.canLayAll0, strOk_ch c2, TrsAt.lay ks _ r, Bool.and_self]
theorem TrsAt.lay : ∀ (ts : List Tr) (vs : List V), TrsAt ok H vs ts → PyData.canLayAll0 (dats ts) = true
  | [], _, _ => by simp only [dats, PyData.canLayAll0]
  | t :: r, _, x => by
    cases x with
    | cons a b => simp only [dats, PyData.canLayAll0, TrAt.lay t _ a, TrsAt.lay r _ b, Bool.and_self]
end
mutual
theorem TrAt.dp : ∀ (t : Tr) (v : V), TrAt ok H v t → Dp K H v t.dat
  | .node c ks, v, x => by
    cases x with
    | node h1 h2 k1 k2 c1 c2 r =>
      simp only [Tr.dat]
      exact .tup (SqT.of h1) (.cons (.str _) (.cons (.lst (SqL.of h2) (TrsAt.dp ks _ r)) .nil))
theorem TrsAt.dp : ∀ (ts : List Tr) (vs : List V), TrsAt ok H vs ts → DpAll K H vs (dats ts)
  | [], _, x => by cases x; exact .nil
  | t :: r, _, x => by
    cases x with
    | cons a b => exact .cons (TrAt.dp t _ a) (TrsAt.dp r _ b)
end
theorem shaped_tr {v : V} {t : Tr} (x : TrAt ok H v t) (h : t.depth ≤ 32) : SeqAt.shaped t.dat = true := by
  unfold SeqAt.shaped
  rw [Bool.and_eq_true]
  exact ⟨TrAt.lay t v x, decide_eq_true (by have := dat_depth t; omega)⟩
theorem shaped_trs {vs : List V} {ts : List Tr} (x : TrsAt ok H vs ts) (h : depths ts ≤ 31) : SeqAt.shaped (.list (dats ts)) = true := by
  unfold SeqAt.shaped
  rw [Bool.and_eq_true]
  refine ⟨by simp only [PyData.canLay0]; exact TrsAt.lay ts vs x, decide_eq_true ?_⟩
  have := dats_depth ts
  simp only [PyData.depth]
  omega
end
def DatOk (K : PySem.W.Frag) (H : Hp) (v : V) : Prop := ∃ d, Dp K H v d ∧ d.canLay0 = true ∧ d.depth ≤ 63
theorem DatOk.all {K : PySem.W.Frag} {H : Hp} : ∀ {vs : List V}, (∀ v ∈ vs, DatOk K H v) → ∃ ds, DpAll K H vs ds ∧ SeqAt.shaped (.list ds) = true ∧ ds.length = vs.length
  | [], _ => ⟨[], .nil, by decide +kernel, rfl⟩
  | v :: r, h => by
    obtain ⟨d, h1, h2, h3⟩ := h v List.mem_cons_self
    obtain ⟨ds, g1, g2, g3⟩ := DatOk.all (vs := r) fun u hu => h u (List.mem_cons_of_mem _ hu)
    unfold SeqAt.shaped at g2
    rw [Bool.and_eq_true] at g2
    have g4 := of_decide_eq_true g2.2
    have g5 := g2.1
    simp only [PyData.canLay0] at g5
    simp only [PyData.depth] at g4
    refine ⟨d :: ds, .cons h1 g1, ?_, by simp only [List.length_cons, g3]⟩
    unfold SeqAt.shaped
    rw [Bool.and_eq_true]
    refine ⟨by simp only [PyData.canLay0, PyData.canLayAll0, h2, g5, Bool.and_self], decide_eq_true ?_⟩
    simp only [PyData.depth, PyData.depthAll]
    omega
theorem datOk_int {K : PySem.W.Frag} {H : Hp} (i : Int) : DatOk K H (.int i) := ⟨.int i, .int i, by simp only [PyData.canLay0], by simp only [PyData.depth]; omega⟩
theorem datOk_tr {K : PySem.W.Frag} {H : Hp} {ok : Addr → Prop} {v : V} {t : Tr} (x : TrAt ok H v t) (h : t.depth ≤ 31) : DatOk K H v := ⟨t.dat, TrAt.dp t v x, TrAt.lay t v x, by have := dat_depth t; omega⟩
theorem eqv_nil (ds : List PyData) : PyData.eqv (.list ds) (.list []) = decide (ds.length = 0) := by
  cases ds with
  | nil => simp [PyData.eqv, PyData.eqvAll]
  | cons d r => simp [PyData.eqv, PyData.eqvAll]
theorem shaped_nil : SeqAt.shaped (.list []) = true := by decide +kernel
theorem dp_nil {K : PySem.W.Frag} {H : Hp} {a : Addr} (h : H a = some (.lst [])) : Dp K H (.ref a) (.list []) := .lst (SqL.of h) .nil

open PySem.Froz (SD sObj addTx tailTx TxOk add_ok add_x addTail_x is_str get_upd)
theorem roomTx {k : Nat} {A : Around} (r : Room k A) : A.units + 200 < cLine := by have := r.un; omega
def TxR (P : Program) (w : World) (h : Heap) (a : Addr) (l : List Str) : Prop :=
  ∃ D : SD, h.get? a = some (sObj "set" D) ∧ TxOk P w D l ∧ l.Nodup ∧ Ris D.2.2.place.toList ∧ (w.params.followText "set-order" = true ∨ D.2.2.led = true)
def insT (l : List Str) (k : Str) : List Str := if k ∈ l then l else k :: l
theorem insT_nd {l : List Str} {k : Str} (h : l.Nodup) : (insT l k).Nodup := by
  unfold insT
  split
  · exact h
  · rename_i n
    exact List.nodup_cons.mpr ⟨n, h⟩
theorem insT_len {l : List Str} {k : Str} : (insT l k).length ≤ l.length + 1 := by
  unfold insT
  split
  · omega
  · rw [List.length_cons]; omega
theorem insT_mem {l : List Str} {k x : Str} : x ∈ insT l k ↔ x = k ∨ x ∈ l := by
  unfold insT
  split
  · rename_i h
    exact ⟨.inr, fun z => z.elim (fun e => e ▸ h) id⟩
  · rw [List.mem_cons]
theorem tail_ris {ep : Nat} {es : Array (Int × Value)} {t : SetTable} {b : Bool} (r : Ris t.place.toList) : Ris (tailTx ep es t b).2.2.place.toList ∧ (tailTx ep es t b).2.2.led = t.led := by
  unfold tailTx
  split
  · exact ⟨relayAll_ris t es _, relayAll_led t es _⟩
  · exact ⟨r, rfl⟩
theorem addTx_ris {h : Int} {v : Value} {D : SD} (r : Ris D.2.2.place.toList) : Ris (addTx h v D).2.2.place.toList ∧ (addTx h v D).2.2.led = D.2.2.led := by
  obtain ⟨es, ep, t⟩ := D
  have g1 := layNew_ris t es h v r
  have g2 := layNew_led t es h v
  unfold addTx
  split
  · obtain ⟨z1, z2⟩ := tail_ris (ep := ep) (es := (layNew t es h v).1) (t := { (layNew t es h v).2.1 with plain := false }) (b := (layNew t es h v).2.2.1) g1
    exact ⟨z1, z2.trans g2⟩
  · obtain ⟨z1, z2⟩ := tail_ris (ep := ep) (es := (layNew t es h v).1) (t := (layNew t es h v).2.1) (b := (layNew t es h v).2.2.1) g1
    exact ⟨z1, z2.trans g2⟩
section
variable {P : Program} {w : World} {A : Around} {E : Value → Shared → Prop} {s : Shared} {a : Addr} {l : List Str}
theorem TxR.of {h h' : Heap} (x : TxR P w h a l) (k : ∀ o, h.get? a = some o → h'.get? a = some o) : TxR P w h' a l := let ⟨D, e, r⟩ := x; ⟨D, k _ e, r⟩
theorem tx_put {k : Str} {u : Tok} {Q : Bool → Shared → Prop} (R : TxR P w s.heap a l) (room : l.length + 1 < scanBound)
    (q : ∀ (b : Bool) (h' : Heap), (∀ c o, c ≠ a → s.heap.get? c = some o → h'.get? c = some o) → TxR P w h' a (insT l k) → Q b { s with heap := h' }) :
    wpAny (model P w) A (setAddHashed a (.str k u) (hashStr w k)) Q E s := by
  obtain ⟨D, ho, F, nd, rs, ld⟩ := R
  by_cases hk : k ∈ l
  · obtain ⟨es, ep, t⟩ := D
    obtain ⟨e, he, ke⟩ := (F.mem k).mp hk
    have e0 : insT l k = l := by unfold insT; rw [if_pos hk]
    unfold setAddHashed setAddHashedIn
    refine wpAny_holding (wpAny_bind (wpAny_setState_of ho rfl F.fit ?_))
    dsimp only
    rw [byScan_of rfl (show es.size < scanBound by have := F.sz; dsimp only at this; omega) F.el]
    simp only [↓reduceIte]
    unfold setAddByScan
    refine wpAny_bind (wpAny_bind (wpAny_rule (wpAny_bind (wpAny_setScan_of (knd := strKind P w) (k := k) (is_str k u) ho rfl F.fit F.el ?_))))
    cases hf : List.findIdx? (fun e => (strKind P w).is k e.2) es.toList with
    | none => exact absurd ke (by rw [List.findIdx?_eq_none_iff.mp hf e he]; simp)
    | some j =>
      dsimp only
      exact wpAny_pure (wpAny_pure (q false s.heap (fun _ _ _ z => z) (by rw [e0]; exact ⟨_, ho, F, nd, rs, ld⟩)))
  · have e0 : insT l k = k :: l := by unfold insT; rw [if_neg hk]
    obtain ⟨z1, z2⟩ := addTx_ris (h := hashStr w k) (v := .str k u) rs
    refine add_x (T := "set") ho F hk room (q true _ (fun c o n z => (Heap.get?_update_other _ _ (Ne.symm n)).trans z) ?_)
    rw [e0]
    exact ⟨_, get_upd _ ho rfl, add_ok u F, List.nodup_cons.mpr ⟨hk, nd⟩, z1, ld.imp id fun z => z2.trans z⟩
end
section
variable {P : Program} {w : World} {A : Around} {R : Result → Shared → Prop} {I : Addr} {fp wr : List Addr} {G : Array GenState → Array GenState → Prop} {n : Nat} {Y : Nat → Value → Prop} {St : Nat → Shared → Prop}
theorem tx_loop (W : WalksS P w A.in1 I fp wr G n Y St) (a : Addr) (off : a ∉ fp) (f : Nat → Str) (each : ∀ i v, Y i v → ∃ u, v = .str (f i) u) (few : n < 4000) :
    ∀ (left i : Nat) (l : List Str) (s : Shared), i + left = n → l.length ≤ i → St i s → TxR P w s.heap a l →
      (∀ s' m, Moved (a :: wr) G s s' → TxR P w s'.heap a m → (∀ x, x ∈ m ↔ x ∈ l ∨ ∃ j, i ≤ j ∧ j < n ∧ x = f j) → R (.ok (.ret .none)) s') →
      codeAny (model P w) A (.builtin "set.update.loop" ⟨[.ref a, .ref I], []⟩) R s := by
  have noW : a ∉ wr := fun z => off (W.sub _ z)
  have more : ∀ b ∈ wr, b ∈ a :: wr := fun b z => List.mem_cons_of_mem _ z
  intro left
  induction left with
  | zero =>
    intro i l s hi _ hst hR q
    have e : i = n := by omega
    subst e
    refine codeAny_builtin F.entry_set_update_loop ?_
    rw [Around.under_plainId F.plain_set_update_loop _]
    show wpAny _ A.in1 (pyNext (.ref I) >>= _) _ _ s
    refine wpAny_bind (W.done s _ _ hst fun s1 mv => ?_)
    show wpAny _ A.in1 (ret Value.none) _ _ s1
    refine wpAny_pure (q s1 l (mv.mono more) (hR.of fun o z => mv.heap a o noW z) fun x => ⟨.inl, fun z => z.elim id fun ⟨j, h1, h2, _⟩ => by omega⟩)
  | succ left ih =>
    intro i l s hi hl hst hR q
    have lt : i < n := by omega
    refine codeAny_builtin F.entry_set_update_loop ?_
    rw [Around.under_plainId F.plain_set_update_loop _]
    show wpAny _ A.in1 (pyNext (.ref I) >>= _) _ _ s
    refine wpAny_bind (W.item i s _ _ lt hst fun v s1 hy hst1 mv => ?_)
    obtain ⟨u, rfl⟩ := each i v hy
    show wpAny _ A.in1 (holding [Value.str (f i) u] (setAdd a (.str (f i) u)) >>= _) _ _ s1
    refine wpAny_bind (wpAny_holding ?_)
    unfold setAdd
    refine wpAny_holding (wpAny_bind ((strKind P w).pyHash (k := f i) (is_str _ _) ?_))
    refine tx_put (s := { s1 with toks := s1.toks + 1 }) (hR.of fun o z => mv.heap a o noW z) (by unfold scanBound; omega) fun _ h2 keep put => ?_
    have keep2 : ∀ b ∈ fp, ∀ o, s1.heap.get? b = some o → h2.get? b = some o := fun b hb o z => keep b o (fun e => off (e ▸ hb)) z
    refine wpAny_pure ⟨plainId_quiet F.plain_set_update_loop _, ih (i + 1) _ _ (by omega) (Nat.le_trans insT_len (by omega)) (W.frame _ s1 _ _ hst1 (Nat.le_succ _) keep2) put fun s3 m mv3 R3 mem => ?_⟩
    refine q s3 m (Moved.trans W.gtrans ((mv.mono more).then_heap (Nat.le_succ _) fun b o hb z => keep b o (fun e => hb (e ▸ List.mem_cons_self)) z) mv3) R3 fun x => ?_
    rw [mem x, insT_mem]
    constructor
    · rintro ((rfl | z) | ⟨j, h1, h2, e⟩)
      · exact .inr ⟨i, Nat.le_refl _, lt, rfl⟩
      · exact .inl z
      · exact .inr ⟨j, by omega, h2, e⟩
    · rintro (z | ⟨j, h1, h2, e⟩)
      · exact .inl (.inr z)
      · by_cases c : j = i
        · exact .inl (.inl (by rw [e, c]))
        · exact .inr ⟨j, by omega, h2, e⟩
end
section
variable {P : Program} {w : World} {A : Around} {E : Value → Shared → Prop} {s : Shared}
theorem set_of_texts {at_ : Addr} {its : Array Value} {xs : List Str} {Q : Value → Shared → Prop} (calm : A.handled = none) (isl : s.heap.IsList at_ its) (are : StrsAre its.toList xs) (few : xs.length < 4000)
    (q : ∀ (h1 : Heap) (u : Tok) (m : List Str), TxR P w h1 s.heap.objs.size m → (∀ x, x ∈ m ↔ x ∈ xs) → (∀ b o, s.heap.get? b = some o → h1.get? b = some o) → Q (.ref s.heap.objs.size) { s with heap := h1, toks := u }) :
    wpAny (model P w) A (call (.type "set") [.ref at_]) Q E s := by
  have len : its.size = xs.length := by rw [← Array.length_toList, StrsAre.len_eq are]
  obtain ⟨_, _, mro⟩ := F.called_set.mro
  have made := F.called_set.made
  have sub := F.called_set.sub
  have kind := F.called_set.notType
  have may := F.called_set.canCreate
  have takes := F.typeCall_set_1 (.ref at_)
  refine wpAny_call (codeAny_of_tree (show wpAny _ _ (callAny (.type "set") _) _ _ _ from wpAny_pure ⟨Code.quiet_builtin _ (by decide +kernel), codeAny_builtin F.entry_type_call ?_⟩))
  rw [Around.under_plain (weight_type_call_type "set" [.ref at_] []) rfl]
  repeat (any_goals (first | assumption | wp_step))
  refine codeAny_mono (code_set_led1 (.ref at_) (E := E) (Q₁ := fun v s1 => v = .ref s.heap.objs.size ∧ s1 = { s with heap := s.heap.push (sObj "set" (#[], 0, .fresh 0 0 (!w.params.followText "set-order"))) }) ⟨rfl, rfl⟩) fun r s1 z => ?_
  generalize hN : sObj "set" (#[], 0, .fresh 0 0 (!w.params.followText "set-order")) = N at z
  cases r with
  | error e => exact z
  | ok fl =>
    cases fl with
    | ret v =>
      obtain ⟨rfl, rfl⟩ := z
      have new : (s.heap.push N).get? s.heap.objs.size = some N := Heap.get?_push_size _ (by subst hN; rfl)
      have isS : Shared.TypeIs { s with heap := s.heap.push N } (.ref s.heap.objs.size) "set" := ⟨_, new, by subst hN; rfl⟩
      have look := F.called_set.init.lookup
      have bnd := F.called_set.init.bind (.ref s.heap.objs.size)
      repeat (any_goals (first | assumption | wp_step))
      refine codeAny_mono (codeAny_call_builtin (R := wants (fun v s2 => v = .none ∧ ∃ (h1 : Heap) (u : Tok) (m : List Str), s2 = { s with heap := h1, toks := u } ∧ TxR P w h1 s.heap.objs.size m ∧ (∀ x, x ∈ m ↔ x ∈ xs) ∧ ∀ b o, s.heap.get? b = some o → h1.get? b = some o) E) F.called_set.init.plain F.entry_set_init (check_set_init_1 isS ?_)) fun r2 s2 z2 => ?_
      · obtain ⟨⟨c1, d1, dt1, sl1⟩, lat, lcl, ln, ldt⟩ := isl
        simp only at lcl ldt
        subst lcl ldt
        have lat1 : (s.heap.push N).get? at_ = some { cls := .type "list", dict := d1, data := .seq its ln, slots := sl1 } := Heap.get?_push_of_some _ lat
        have no1 := F.sub_list_set
        have no2 := F.sub_list_frozenset
        have no3 : (Value.type "list" == Value.type "dict") = false := by decide
        have isl1 : (s.heap.push N).IsList at_ its := ⟨_, lat1, rfl, ln, rfl⟩
        subst hN
        unfold sObj at new isS lat1 isl1 ⊢
        unfold Builtin.«set.__init__» noKeywords Builtin.Frozenset.updateFrom
        generalize hIt : pyIter = It
        wp_walk
        subst hIt
        refine wpAny_pyIter_list isl1 ?_
        refine wpAny_bind (wpAny_runValue ?_)
        have low : at_ < s.heap.objs.size := Heap.lt_size lat
        have calm3 : A.in1.in1.in1.handled = none := by simp [calm]
        have apart : at_ ≠ (s.heap.push { cls := .type "set", data := .set #[] 0 (.fresh 0 0 (!w.params.followText "set-order")) }).objs.size := by rw [Heap.size_push]; exact Nat.ne_of_lt (Nat.lt_succ_of_lt low)
        have off : s.heap.objs.size ∉ [(s.heap.push { cls := .type "set", data := .set #[] 0 (.fresh 0 0 (!w.params.followText "set-order")) }).objs.size, at_] := by
          rw [Heap.size_push]
          simp only [List.mem_cons, List.not_mem_nil, or_false, not_or]
          exact ⟨Nat.ne_of_lt (Nat.lt_succ_self _), Nat.ne_of_gt low⟩
        have each : ∀ (i : Nat) (v : Value), its[i]? = some v → ∃ u, v = .str (xs.getD i Str.empty) u := fun i v hv => SS.strs_at are i v (by rw [Array.getElem?_toList]; exact hv)
        refine tx_loop ((Walks.list calm3 _ at_ apart its).toS) s.heap.objs.size off (fun i => xs.getD i Str.empty) each (by rw [len]; exact few) its.size 0 [] _ (by omega) (Nat.le_refl _) ⟨⟨_, Heap.get?_push_size _ rfl, rfl, rfl⟩, isl1.push _⟩ ?_ ?_
        · refine ⟨(#[], 0, .fresh 0 0 (!w.params.followText "set-order")), Heap.get?_push_of_some _ new, TxOk.nil rfl, List.nodup_nil, ?_, ?_⟩
          · show Ris (SetTable.fresh 0 0 (!w.params.followText "set-order")).place.toList
            exact List.Pairwise.nil
          · show w.params.followText "set-order" = true ∨ (!w.params.followText "set-order") = true
            cases w.params.followText "set-order" <;> simp
        · intro s3 m mv R3 mem
          obtain ⟨h3, g3, d3, t3, o3⟩ := s3
          have eg : g3 = s.gens := mv.gens
          have ed : d3 = s.drawn := mv.drawn
          have eo : o3 = s.os := mv.os
          subst eg ed eo
          show wpAny _ _ _ _ _ _
          refine wpAny_pure ?_
          show wpAny _ _ (ret Value.none) _ _ _
          refine wpAny_pure ⟨rfl, h3, t3, m, rfl, R3, fun x => ?_, fun b o e => ?_⟩
          · rw [mem x]
            constructor
            · rintro (z | ⟨j, _, lt, rfl⟩)
              · cases z
              · rw [len] at lt
                rw [List.getD_eq_getElem?_getD, List.getElem?_eq_getElem lt]
                exact List.getElem_mem lt
            · intro z
              obtain ⟨j, e⟩ := List.getElem?_of_mem z
              have lt := (List.getElem?_eq_some_iff.mp e).1
              exact .inr ⟨j, Nat.zero_le _, by rw [len]; exact lt, by rw [List.getD_eq_getElem?_getD, e]; rfl⟩
          · have lb := Heap.lt_size e
            refine mv.heap b o ?_ (Heap.get?_push_of_some _ (Heap.get?_push_of_some _ e))
            simp only [List.mem_cons, List.not_mem_nil, or_false, not_or]
            refine ⟨Nat.ne_of_lt lb, ?_⟩
            rw [Heap.size_push]
            exact Nat.ne_of_lt (Nat.lt_succ_of_lt lb)
      · cases r2 with
        | error e => exact z2
        | ok f2 =>
          cases f2 with
          | ret v =>
            obtain ⟨rfl, h1, u, m, rfl, R1, mem, keep⟩ := z2
            repeat (any_goals (first | assumption | wp_step))
            exact q _ _ _ R1 mem keep
          | _ => exact z2.elim
    | _ => exact z.elim
end
def TxO (P : Program) (w : World) (a : Addr) (l : List Str) : HO := .ext fun h => TxR P w h a l
def leT (a b : Str) : Bool := decide (a.cps.toList ≤ b.cps.toList)
theorem txO_ok {P : Program} {w : World} {H : Hp} {h : Heap} {a : Addr} {l : List Str} (x : TxR P w h a l) : ObjOk P w H h a (TxO P w a l) := by
  have ⟨D, e, _⟩ := x
  exact ⟨x, ⟨_, e⟩, fun _ _ z k => TxR.of z k⟩
theorem sub_perm {α : Type} [DecidableEq α] : ∀ (l ys : List α), l.Nodup → (∀ x ∈ l, x ∈ ys) → ys.length ≤ l.length → ys.Perm l
  | [], ys, _, _, h => by
    have : ys = [] := List.length_eq_zero_iff.mp (Nat.le_zero.mp h)
    rw [this]
  | k :: r, ys, nd, h, hl => by
    obtain ⟨n1, n2⟩ := List.nodup_cons.mp nd
    have p := List.perm_cons_erase (h k List.mem_cons_self)
    have e := p.length_eq
    rw [List.length_cons] at e hl
    refine p.trans ((sub_perm r (ys.erase k) n2 (fun x hx => ?_) (by omega)).cons k)
    have := p.mem_iff.mp (h x (List.mem_cons_of_mem _ hx))
    rcases List.mem_cons.mp this with z | z
    · exact absurd (z ▸ hx) n1
    · exact z
theorem tx_strs {P : Program} {w : World} {D : SD} {l : List Str} (F : TxOk P w D l) (nd : l.Nodup) : ∀ vs : List Value, vs.Perm (D.1.toList.map (·.2)) → ∃ ys : List Str, StrsAre vs ys ∧ ys.Perm l := by
  intro vs pm
  have one : ∀ v ∈ vs, ∃ x u, v = Value.str x u := fun v hv => by
    obtain ⟨e, he, rfl⟩ := List.mem_map.mp (pm.mem_iff.mp hv)
    obtain ⟨⟨k, hk, _⟩, _⟩ := F.el e he
    obtain ⟨u, h⟩ := Value.isStrOf_shape (x := k) (v := e.2) hk
    exact ⟨k, u, h⟩
  have mk : ∀ vs : List Value, (∀ v ∈ vs, ∃ x u, v = Value.str x u) → ∃ ys : List Str, StrsAre vs ys ∧ ∀ x, x ∈ ys ↔ ∃ u, Value.str x u ∈ vs := by
    intro vs
    induction vs with
    | nil => intro _; exact ⟨[], .nil, fun x => ⟨fun h => (by cases h), fun ⟨_, h⟩ => (by cases h)⟩⟩
    | cons v r ih =>
      intro h
      obtain ⟨x, u, rfl⟩ := h v List.mem_cons_self
      obtain ⟨ys, a1, a2⟩ := ih fun v hv => h v (List.mem_cons_of_mem _ hv)
      refine ⟨x :: ys, .cons x u a1, fun z => ?_⟩
      rw [List.mem_cons, a2 z]
      constructor
      · rintro (rfl | ⟨t, ht⟩)
        · exact ⟨u, List.mem_cons_self⟩
        · exact ⟨t, List.mem_cons_of_mem _ ht⟩
      · rintro ⟨t, ht⟩
        rcases List.mem_cons.mp ht with e | e
        · cases e; exact .inl rfl
        · exact .inr ⟨t, e⟩
  obtain ⟨ys, a1, a2⟩ := mk vs one
  refine ⟨ys, a1, ?_⟩
  have mem : ∀ x, x ∈ ys ↔ x ∈ l := fun x => by
    rw [a2 x, F.mem x]
    constructor
    · rintro ⟨u, hu⟩
      obtain ⟨e, he, h⟩ := List.mem_map.mp (pm.mem_iff.mp hu)
      exact ⟨e, he, by rw [h]; exact is_str x u⟩
    · rintro ⟨e, he, h⟩
      obtain ⟨u, hu⟩ := Value.isStrOf_shape (x := x) (v := e.2) h
      exact ⟨u, pm.mem_iff.mpr (List.mem_map.mpr ⟨e, he, hu⟩)⟩
  have len : ys.length = l.length := by
    rw [← StrsAre.len_eq a1, pm.length_eq, List.length_map, Array.length_toList, F.sz]
  exact sub_perm l ys nd (fun x hx => (mem x).mpr hx) (Nat.le_of_eq len)
section
variable {X : Cx}
def rSetTx (P : Program) (w : World) (K : PySem.W.Frag) : List V → Hp → VK → Prop := fun vs H Q => ∃ (a : Addr) (xs : List Str), vs = [.ref a] ∧ SqL K H a (xs.map V.str) ∧ xs.length < 4000 ∧ ∀ (r : Addr) (m : List Str), H r = none → (∀ x, x ∈ m ↔ x ∈ xs) → m.Nodup → Q (.ref r) (upd H r (TxO P w r m))
theorem call_setTx (hc : X.calm = true) : CallR X (.type "set") (rSetTx X.prog X.w X.K) := by
  intro pins s σ H vs us Q I rv h
  obtain ⟨a, xs, rfl, ha, few, q⟩ := h
  obtain ⟨its, ri, ⟨o, n, g1, g2, _, g4⟩, _⟩ := I.list ha
  rw [Vals.ref1 rv]
  refine set_of_texts (its := its.toArray) (I.ok.hd hc) ⟨o, g1, g2, n, g4⟩ (by simpa using strsAre_of ri) few fun h1 u m R mem keep => ?_
  exact ⟨.ref s.heap.objs.size, _, I.laid (t' := u) keep (Nat.le_refl _) (txO_ok R), rfl, q _ m (I.hok.fresh (Nat.le_refl _)) mem (let ⟨_, _, _, nd, _⟩ := R; nd)⟩
end
theorem leT_sort {A B : List Str} (h : A.Pairwise fun a b => leT a b = true) (p : A.Perm B) : A = B.mergeSort leT := by
  have tr : ∀ a b c : Str, leT a b = true → leT b c = true → leT a c = true := fun a b c x y => decide_eq_true (List.le_trans (of_decide_eq_true x) (of_decide_eq_true y))
  have tt : ∀ a b : Str, (leT a b || leT b a) = true := fun a b => by
    rcases List.le_total a.cps.toList b.cps.toList with z | z
    · simp [leT, z]
    · simp [leT, z]
  refine List.Perm.eq_of_pairwise (le := fun a b => leT a b = true) (fun a b _ _ x y => ?_) h (List.pairwise_mergeSort tr tt B) (p.trans (List.mergeSort_perm B leT).symm)
  have e := List.le_antisymm (of_decide_eq_true x) (of_decide_eq_true y)
  cases a
  cases b
  simp only at e
  rw [Array.toList_inj.mp e]
section
variable {X : Cx}
def rSortTx (P : Program) (w : World) : List V → Hp → VK → Prop := fun vs H Q => ∃ (a : Addr) (m : List Str), vs = [.ref a] ∧ H a = some (TxO P w a m) ∧ m.length < 4000 ∧ ∀ r, H r = none → Q (.ref r) (upd H r (.lst ((m.mergeSort leT).map V.str)))
theorem call_sortedTx (hc : X.calm = true) (hu : X.A.units + 200 < cLine) : CallR X (.builtin "sorted") (rSortTx X.prog X.w) := by
  intro pins s σ H vs us Q I rv h
  obtain ⟨a, m, rfl, ha, few, q⟩ := h
  rw [Vals.ref1 rv]
  obtain ⟨⟨es, ep, t⟩, at0, F, nd, rs, ld⟩ := (I.hok a _ ha).1
  have sz : es.size = m.length := F.sz
  refine Calls.call_function_entry (kind_sorted) (plain_sorted) (entry_sorted) (args_sorted1 _) (show _ from ?_)
  unfold Builtin.«sorted»
  refine wpAny_bind (m := checkCount "sorted" 1 1 _) (wpAny_pure (wpAny_bind ?_))
  refine collect_set (A := X.A.in1) (es := es) (ep := ep) (t := t) (I.ok.hd hc) ⟨_, at0, rfl, rfl⟩ F.fit (by unfold scanBound; omega) rs ld fun s1 vs keep _ eg eo pm => ?_
  obtain ⟨ys, are, py⟩ := tx_strs F nd vs pm
  have lv : vs.length = m.length := by rw [StrsAre.len_eq are, py.length_eq]
  obtain ⟨h1, g1, d1, t1, o1⟩ := s1
  subst eg
  subst eo
  refine wpAny_bind (wpAny_newList ?_ (by rw [lv]; exact Nat.le_trans (Nat.le_of_lt few) (by decide)))
  have stood : (h1.push (seqObj "list" vs.toArray 0)).get? h1.objs.size = some (seqObj "list" vs.toArray 0) := Heap.get?_push_size _ rfl
  show wpAny _ _ _ _ _ ({ heap := h1.push (seqObj "list" vs.toArray 0), gens := s.gens, drawn := d1, toks := t1, os := s.os } : Shared)
  have each : ∀ (ys : List Str) (vs : List Value), StrsAre vs ys → PySem.W.EachIs (fun v (b : Str) => ∃ u, v = Value.str b u) vs ys := by
    intro ys vs are
    induction are with
    | nil => exact .nil
    | cons x u _ ih => exact .cons ⟨u, rfl⟩ ih
  have back : ∀ (ys : List Str) (vs : List Value), PySem.W.EachIs (fun v (b : Str) => ∃ u, v = Value.str b u) vs ys → Vals (ys.map V.str) vs := by
    intro ys
    induction ys with
    | nil => intro vs h; cases h; exact .nil
    | cons y r ih => intro vs h; cases h with | cons a b => exact .cons a (ih _ b)
  have ez := each ys vs are
  refine wpAny_bind (wpAny_holding (PySem.W.list_sort_data (vs := vs) (bs := ys) (enc := fun b => .str b) (R := fun v b => ∃ u, v = Value.str b u) stood ez (ez.mono fun v b ⟨u, hu⟩ => ⟨[], by rw [hu]; exact .str b u, by simp⟩) (PySem.W.AllAlike.of fun _ _ => by simp [PySem.W.alike]) (PySem.W.Sortable.others fun _ => ⟨(fun z => nomatch z), (fun _ z => nomatch z)⟩) ?_ ?_ fun out lo he => ?_))
  · rw [← StrsAre.len_eq are, lv]; exact Nat.le_trans (Nat.le_of_lt few) (by decide)
  · intro b _
    have e : (PyData.str b).depth = 0 := by simp [PyData.depth]
    show X.A.units + 1 + 1 + (PyData.str b).depth < cLine
    omega
  obtain ⟨e1, he1⟩ := sortedHeap_at (vs := vs) (out := out.toArray) stood
  have srt : ys.mergeSort (PySem.W.dataLe false fun b => PyData.str b) = m.mergeSort leT := by
    have e : (PySem.W.dataLe false fun b : Str => PyData.str b) = leT := PySem.W.dataLe_str fun b : Str => b
    rw [e]
    have tr : ∀ a b c : Str, leT a b = true → leT b c = true → leT a c = true := fun a b c x y => decide_eq_true (List.le_trans (of_decide_eq_true x) (of_decide_eq_true y))
    have tt : ∀ a b : Str, (leT a b || leT b a) = true := fun a b => by
      rcases List.le_total a.cps.toList b.cps.toList with z | z
      · simp [leT, z]
      · simp [leT, z]
    exact leT_sort (List.pairwise_mergeSort tr tt ys) ((List.mergeSort_perm ys leT).trans py)
  rw [srt] at he
  have few2 : ((m.mergeSort leT).map V.str).length ≤ sizeLine := by rw [List.length_map, List.length_mergeSort]; exact Nat.le_trans (Nat.le_of_lt few) (by decide)
  have old : ∀ b o, s.heap.get? b = some o → (sortedHeap (h1.push (seqObj "list" vs.toArray 0)) h1.objs.size vs out.toArray).get? b = some o := fun b o e => by
    have z := keep b o e
    have low := Heap.lt_size z
    rw [sortedHeap_old (Nat.ne_of_lt low) (by rw [size_push']; exact Nat.lt_succ_of_lt low)]
    exact Heap.get?_push_of_some _ z
  have le : s.heap.objs.size ≤ h1.objs.size := by assumption
  have free : H h1.objs.size = none := I.hok.fresh le
  have J : Inv X pins σ (upd H h1.objs.size (.lst ((m.mergeSort leT).map V.str))) { s with heap := sortedHeap (h1.push (seqObj "list" vs.toArray 0)) h1.objs.size vs out.toArray, gens := s.gens, drawn := d1, toks := t1 } :=
    I.call (ch := []) (Un.laid old le free) (I.hok.laid old le ⟨few2, out, e1, back _ _ he, he1⟩) I.bare (fun _ z => nomatch z)
  exact wpAny_pure ⟨_, rfl, .ref h1.objs.size, _, J, rfl, q _ free⟩
end


def sp_is_letter : Sp := fun vs H Q _ => ∃ c : Nat, vs = [.str (ch c)] ∧ 97 ≤ c ∧ c ≤ 122 ∧ Q (.bl true) H
def sp__is_part : Sp := fun vs H Q _ => ∃ (v : V) (t : Tr), vs = [v] ∧ TrAt (fun _ => True) H v t ∧ Q (.bl true) H
def sp_is_tree : Sp := fun vs H Q _ => ∃ (v : V) (t : Tr), vs = [v] ∧ TrAt (fun _ => True) H v t ∧ t.size ≤ 1000000 ∧ ∀ H', Same H H' → Q (.bl true) H'
def sp_check_tree : Sp := fun vs H Q _ => ∃ (v : V) (t : Tr), vs = [v] ∧ TrAt (fun _ => True) H v t ∧ t.size ≤ 1000000 ∧ ∀ H', Same H H' → Q .non H'
def sp_parts_upward : Sp := fun vs H Q _ => ∃ (v : V) (t : Tr) (ok : Addr → Prop), vs = [v] ∧ TrAt ok H v t ∧ t.size ≤ 1000000 ∧
  ∀ r ws H', Same H H' → H r = none → H' r = some (.lst ws) → TrsAt (fun b => ok b ∧ H b ≠ none) H' ws t.post → Q (.ref r) H'
theorem le_a {c : Nat} (h : 97 ≤ c) : (!decide ((ch c).cps.toList < (Str.ofString "a").cps.toList)) = true := by
  have e : (Str.ofString "a").cps.toList = [97] := by decide +kernel
  rw [e]
  show (!decide (([c] : List Nat) < [97])) = true
  have : ¬ (([c] : List Nat) < [97]) := by
    intro q
    have := List.cons_lt_cons_iff.mp q
    rcases this with z | ⟨z, y⟩
    · omega
    · exact absurd y (by decide)
  simp [this]
theorem le_z {c : Nat} (h : c ≤ 122) : (!decide ((Str.ofString "z").cps.toList < (ch c).cps.toList)) = true := by
  have e : (Str.ofString "z").cps.toList = [122] := by decide +kernel
  rw [e]
  show (!decide (([122] : List Nat) < [c])) = true
  have : ¬ (([122] : List Nat) < [c]) := by
    intro q
    have := List.cons_lt_cons_iff.mp q
    rcases this with z | ⟨z, y⟩
    · omega
    · exact absurd y (by decide)
  simp [this]
theorem concat_of {α : Type} {l : List α} (h : l ≠ []) : ∃ a b, l = a ++ [b] := ⟨l.dropLast, l.getLast h, (List.dropLast_concat_getLast h).symm⟩
section
variable {P : Program} {w : World} {K : PySem.W.Frag} {mg : Str → Option Value} {base : Heap}
theorem ok_is_letter (T : Txt K mg) : FnOk P w K mg base CX0 1 T.f_is_letter T.d_is_letter ["thing"] sp_is_letter := by
  refine T.F_is_letter.ok sc_is_letter (fun vs H Q E h => ?_) (fun cdv A outer s H vs Q E hr h => ?_)
  · obtain ⟨c, rfl, _⟩ := h
    rfl
  obtain ⟨c, rfl, h0, h1, q⟩ := h
  refine ⟨_, (pss_one (ps_ret (pe_and (pe_callB call_isi (by rfl) T.z_isinstance (by decide +kernel) (pa_cons (pv 0) (pa_cons (pe_bltn (v := .ty "str") (by rfl) T.z_str (by decide +kernel) rfl) pa_nil))) (pe_and (pe_cmpR op_eq (pe_callB call_len_str (by rfl) T.z_len PySem.boot_len (pa_cons (pv 0) pa_nil)) pe_int (nomark _)) (pe_one (pe_chain op_le_str op_le_str pe_str (pv 0) pe_str)))))), ?_⟩
  refine ⟨_, rfl, _, _, _, _, true, rfl, .ty "str", .base (.str _), kit_ty (by decide +kernel), _, rfl, iteT ?_⟩
  refine ⟨_, rfl, _, rfl, (by show 1 ≤ sizeLine; decide), rfl, _, rfl, iteT ?_⟩
  refine ⟨_, rfl, _, _, rfl, rfl, _, rfl, ?_⟩
  rw [if_pos (le_a h0)]
  refine ⟨_, _, rfl, rfl, ?_⟩
  rw [le_z h1]
  exact q
theorem ok__is_part (T : Txt K mg) : FnOk P w K mg base CX0 2 T.f__is_part T.d__is_part ["thing"] sp__is_part := by
  have G_is_letter : FnOk P w K mg base CX0 1 T.f_is_letter T.d_is_letter ["thing"] sp_is_letter := ok_is_letter T
  refine T.F__is_part.ok sc__is_part (fun vs H Q E h => ?_) (fun cdv A outer s H vs Q E hr h => ?_)
  · obtain ⟨v, t, rfl, _⟩ := h
    rfl
  obtain ⟨v, t, rfl, ht, q⟩ := h
  refine ⟨_, (pss_cons (ps_if (PW.pt (pw_or (pt_not (pt_val (pe_callB call_isi (by rfl) T.z_isinstance (by decide +kernel) (pa_cons (pv 0) (pa_cons (pe_bltn (v := .ty "tuple") (by rfl) T.z_tuple (by decide +kernel) rfl) pa_nil))))) (pw_or1 (pt_cmpR op_ne (pe_callB call_len_seq (by rfl) T.z_len PySem.boot_len (pa_cons (pv 0) pa_nil)) pe_int (nomark _))))) (pss_one (ps_ret pe_bl)) pss_nil) (pss_one (ps_ret (pe_and (pe_call G_is_letter (hr.mono (by omega)) (by rfl) T.m_is_letter T.F_is_letter.kp T.b_is_letter .nil pass0 (pa_cons (pe_ix ix_tup (pv 0) pe_int (fun _ _ => rfl)) pa_nil)) (pe_one (pe_callB call_isi (by rfl) T.z_isinstance (by decide +kernel) (pa_cons (pe_ix ix_tup (pv 0) pe_int (fun _ _ => rfl)) (pa_cons (pe_bltn (v := .ty "list") (by rfl) T.z_list (by decide +kernel) rfl) pa_nil)))))))), ?_⟩
  obtain ⟨c, ks⟩ := t
  cases ht with
  | node h1 h2 _ _ c1 c2 _ =>
    refine ⟨_, rfl, _, _, _, _, true, rfl, .ty "tuple", .base (.tup h1), kit_ty (by decide +kernel), _, rfl, iteF ?_⟩
    refine ⟨_, rfl, _, _, rfl, .inr (SqT.of h1), rfl, _, rfl, iteF ?_⟩
    refine ⟨_, rfl, _, _, 0, _, rfl, rfl, SqT.of h1, atI_nat (j := 0) rfl, _, rfl, c1, c2, _, rfl, iteT ?_⟩
    exact ⟨_, rfl, _, _, 1, _, rfl, rfl, SqT.of h1, atI_nat (j := 1) rfl, _, _, _, _, true, rfl, .ty "list", .base (.lst h2), kit_ty (by decide +kernel), q⟩
theorem ok_is_tree (T : Txt K mg) : FnOk P w K mg base CX0 3 T.f_is_tree T.d_is_tree ["thing"] sp_is_tree := by
  have G__is_part : FnOk P w K mg base CX0 2 T.f__is_part T.d__is_part ["thing"] sp__is_part := ok__is_part T
  refine T.F_is_tree.ok sc_is_tree (fun vs H Q E h => ?_) (fun cdv A outer s H vs Q E hr h => ?_)
  · obtain ⟨v, t, rfl, _⟩ := h
    rfl
  obtain ⟨v, t, rfl, ht, hz, q⟩ := h
  refine ⟨_, (pss_cons (ps_set (i := 1) sc_is_tree.nd rfl (Or.inl rfl) (pe_lst (pa_cons (pv 0) pa_nil))) (pss_cons (ps_while PassesOwn.never (pt_truth (pv 1) (by intro _; rfl)) (pss_cons (ps_set (i := 2) sc_is_tree.nd rfl (Or.inl rfl) (pe_bm0 PySem.F.plainAttrs_list PySem.F.slot_list_pop PySem.F.type_list_pop mt_pop (pv 1))) (pss_cons (ps_if (pt_not (pt_val (pe_call G__is_part (hr.mono (by omega)) (by rfl) T.m__is_part T.F__is_part.kp T.b__is_part .nil pass0 (pa_cons (pv 2) pa_nil)))) (pss_one (ps_ret pe_bl)) pss_nil) (pss_one (ps_expr (pe_bm PySem.F.plainAttrs_list PySem.F.slot_list_extend PySem.F.type_list_extend mt_extend (pv 1) (pa_cons (pe_ix ix_tup (pv 2) pe_int (fun _ _ => rfl)) pa_nil))))))) (pss_one (ps_ret pe_bl)))), ?_⟩
  refine ⟨_, rfl, (by show 1 ≤ sizeLine; decide), fun p hp => ?_⟩
  refine ⟨fun m σ H' => ∃ y ws ts, σ = [some v, some (.ref p), y] ∧ H' p = some (.lst ws) ∧ TrsAt (fun b => True ∧ b ≠ p) H' ws ts ∧ sizes ts = m ∧ m ≤ 1000000 ∧ Same H H',
    ⟨t.size, none, [v], [t], rfl, upd_same, .cons ((ht.off hp).same (same_new hp)) .nil, by simp only [sizes]; omega, hz, same_new hp⟩, ?_⟩
  rintro m σ H' ⟨y, ws, ts, rfl, hw, hts, hm, hm2, hs⟩
  by_cases he : ws = []
  · subst he
    refine ⟨_, rfl, false, .inl ⟨_, SqL.of hw, rfl⟩, iteF ?_⟩
    exact q _ hs
  · refine ⟨_, rfl, true, .inl ⟨_, SqL.of hw, by cases ws with | nil => exact absurd rfl he | cons a b => rfl⟩, iteT ?_⟩
    obtain ⟨ws', x, rfl⟩ := concat_of he
    obtain ⟨ts', tl, rfl, h1, h2⟩ := TrsAt.split hts
    cases h2 with
    | cons hx hn =>
      cases hn
      rename_i tx
      obtain ⟨c, ks⟩ := tx
      refine ⟨fun σ2 H2 => ∃ y ws ts, σ2 = [some v, some (.ref p), y] ∧ H2 p = some (.lst ws) ∧ TrsAt (fun b => True ∧ b ≠ p) H2 ws ts ∧ sizes ts < m ∧ Same H H2, fun σ2 H2 ⟨y, ws, ts, e1, e2, e3, e4, e5⟩ => ⟨sizes ts, e4, y, ws, ts, e1, e2, e3, rfl, by omega, e5⟩, ?_⟩
      refine ⟨_, rfl, .inl ⟨rfl, _, SqL.of hw⟩, _, _, x, rfl, rfl, hw, by simp, ?_⟩
      have kp : ∀ b u, (True ∧ b ≠ p) → H' b = some u → (upd H' p (.lst (ws' ++ [x]).dropLast)) b = some u := upd_keep fun b h => h.2
      have hx2 := hx.keep kp
      have hp3 : (upd H' p (.lst (ws' ++ [x]).dropLast)) p = some (.lst ws') := by rw [upd_same, List.dropLast_concat]
      refine ⟨_, rfl, x, _, rfl, hx2.weak fun _ _ => trivial, _, rfl, iteF ?_⟩
      cases hx2 with
      | node g1 g2 k1 k2 c1 c2 r =>
        have ll := r.len
        have l2 := h1.len
        have l3 := len_sizes ts'
        have l4 := len_sizes ks
        rw [sizes_append] at hm
        simp only [sizes, Tr.size] at hm
        refine ⟨_, rfl, .inl ⟨rfl, _, SqL.of hp3⟩, _, rfl, _, _, 1, _, rfl, rfl, SqT.of g1, atI_nat (j := 1) rfl, p, _, ws', _, rfl, rfl, hp3, g2, ?_, ?_⟩
        · exact Nat.le_trans (show ws'.length + _ ≤ 1000000 by omega) (by decide)
        · refine ⟨some _, _, ts' ++ ks, rfl, upd_same, ?_, ?_, ?_⟩
          · exact ((h1.keep kp).append r).keep (upd_keep fun b h => h.2)
          · rw [sizes_append]
            omega
          · exact same_add (same_add hs hp) hp
theorem ok_check_tree (T : Txt K mg) : FnOk P w K mg base CX0 4 T.f_check_tree T.d_check_tree ["thing"] sp_check_tree := by
  have G_is_tree : FnOk P w K mg base CX0 3 T.f_is_tree T.d_is_tree ["thing"] sp_is_tree := ok_is_tree T
  refine T.F_check_tree.ok sc_check_tree (fun vs H Q E h => ?_) (fun cdv A outer s H vs Q E hr h => ?_)
  · obtain ⟨v, t, rfl, _⟩ := h
    rfl
  obtain ⟨v, t, rfl, ht, hz, q⟩ := h
  refine ⟨_, (pss_one (ps_if (pt_not (pt_val (pe_call G_is_tree (hr.mono (by omega)) (by rfl) T.m_is_tree T.F_is_tree.kp T.b_is_tree .nil pass0 (pa_cons (pv 0) pa_nil)))) (pss_one ps_never) pss_nil)), ?_⟩
  refine ⟨_, rfl, v, t, rfl, ht, hz, fun H' hs => ⟨_, rfl, iteF ?_⟩⟩
  exact q _ hs
theorem ok_parts_upward (T : Txt K mg) : FnOk P w K mg base CX0 5 T.f_parts_upward T.d_parts_upward ["tree"] sp_parts_upward := by
  have G_check_tree : FnOk P w K mg base CX0 4 T.f_check_tree T.d_check_tree ["thing"] sp_check_tree := ok_check_tree T
  refine T.F_parts_upward.ok sc_parts_upward (fun vs H Q E h => ?_) (fun cdv A outer s H vs Q E hr h => ?_)
  · obtain ⟨v, t, ok, rfl, _⟩ := h
    rfl
  obtain ⟨v, t, ok, rfl, ht, hz, q⟩ := h
  refine ⟨_, (pss_cons (ps_expr (pe_call G_check_tree (hr.mono (by omega)) (by rfl) T.m_check_tree T.F_check_tree.kp T.b_check_tree .nil pass0 (pa_cons (pv 0) pa_nil))) (pss_cons (ps_set (i := 1) sc_parts_upward.nd rfl (Or.inl rfl) (pe_lst pa_nil)) (pss_cons (ps_set (i := 2) sc_parts_upward.nd rfl (Or.inl rfl) (pe_lst (pa_cons (pv 0) pa_nil))) (pss_cons (ps_while PassesOwn.never (pt_truth (pv 2) (by intro _; rfl)) (pss_cons (ps_set (i := 3) sc_parts_upward.nd rfl (Or.inl rfl) (pe_bm0 PySem.F.plainAttrs_list PySem.F.slot_list_pop PySem.F.type_list_pop mt_pop (pv 2))) (pss_cons (ps_expr (pe_bm PySem.F.plainAttrs_list PySem.F.slot_list_append PySem.F.type_list_append mt_append (pv 1) (pa_cons (pv 3) pa_nil))) (pss_one (ps_expr (pe_bm PySem.F.plainAttrs_list PySem.F.slot_list_extend PySem.F.type_list_extend mt_extend (pv 2) (pa_cons (pe_ix ix_tup (pv 3) pe_int (fun _ _ => rfl)) pa_nil))))))) (pss_one (ps_ret (pe_revL (pv 1)))))))), ?_⟩
  refine ⟨_, rfl, v, t, rfl, ht.weak fun _ _ => trivial, hz, fun H1 s1 => ?_⟩
  have ht1 := ((TrAt.there t v ht).same s1).weak (ok' := fun b => ok b ∧ H b ≠ none) fun b ⟨k, o, e⟩ => ⟨k, by rw [e]; simp⟩
  refine ⟨(by show 0 ≤ sizeLine; decide), fun a ha => ?_⟩
  refine ⟨_, rfl, (by show 1 ≤ sizeLine; decide), fun p hp => ?_⟩
  have nap : a ≠ p := fun e => by rw [e, upd_same] at hp; cases hp
  have hp1 : H1 p = none := by rw [upd_ne (fun e => nap e.symm)] at hp; exact hp
  have ha0 : H a = none := s1.free ha
  have hp0 : H p = none := s1.free hp1
  have oka : ∀ b, (ok b ∧ H b ≠ none) → b ≠ a := fun b h e => h.2 (by rw [e]; exact ha0)
  have okp : ∀ b, (ok b ∧ H b ≠ none) → b ≠ p := fun b h e => h.2 (by rw [e]; exact hp0)
  refine ⟨fun m σ H' => ∃ y as tas ws ts, σ = [some v, some (.ref a), some (.ref p), y] ∧ H' a = some (.lst as) ∧ H' p = some (.lst ws) ∧ TrsAt (fun b => ok b ∧ H b ≠ none) H' as tas ∧ TrsAt (fun b => ok b ∧ H b ≠ none) H' ws ts ∧
      tas ++ (posts ts).reverse = t.post.reverse ∧ sizes ts = m ∧ Same H H',
    ⟨t.size, none, [], [], [v], [t], rfl, by rw [upd_ne nap]; exact upd_same, upd_same, .nil, .cons ((ht1.keep (upd_keep oka)).keep (upd_keep okp)) .nil, by simp only [posts, List.append_nil, List.nil_append], by simp only [sizes]; omega, same_add (same_add s1 ha0) hp0⟩, ?_⟩
  rintro m σ H' ⟨y, as, tas, ws, ts, rfl, hA, hw, hta, hts, hpo, hm, hs⟩
  have hlen : tas.length + sizes ts = t.size := by
    have := congrArg List.length hpo
    rw [List.length_append, List.length_reverse, List.length_reverse, posts_len, post_len] at this
    exact this
  by_cases he : ws = []
  · subst he
    cases hts
    refine ⟨_, rfl, false, .inl ⟨_, SqL.of hw, rfl⟩, iteF ?_⟩
    refine ⟨_, rfl, a, as, rfl, SqL.of hA, fun r hr' => ?_⟩
    have hr0 : H r = none := hs.free hr'
    refine q r as.reverse _ (same_add hs hr0) hr0 upd_same ?_
    have e : tas.reverse = t.post := by
      simp only [posts, List.reverse_nil, List.append_nil] at hpo
      rw [hpo, List.reverse_reverse]
    rw [← e]
    exact hta.rev.keep (upd_keep fun b h e => h.2 (by rw [e]; exact hr0))
  · refine ⟨_, rfl, true, .inl ⟨_, SqL.of hw, by cases ws with | nil => exact absurd rfl he | cons a b => rfl⟩, iteT ?_⟩
    obtain ⟨ws', x, rfl⟩ := concat_of he
    obtain ⟨ts', tl, rfl, h1, h2⟩ := TrsAt.split hts
    cases h2 with
    | cons hx hn =>
      cases hn
      rename_i tx
      obtain ⟨c, ks⟩ := tx
      rw [sizes_append] at hm hlen
      simp only [sizes, Tr.size] at hm hlen
      refine ⟨fun σ2 H2 => ∃ y as tas ws ts, σ2 = [some v, some (.ref a), some (.ref p), y] ∧ H2 a = some (.lst as) ∧ H2 p = some (.lst ws) ∧ TrsAt (fun b => ok b ∧ H b ≠ none) H2 as tas ∧ TrsAt (fun b => ok b ∧ H b ≠ none) H2 ws ts ∧
        tas ++ (posts ts).reverse = t.post.reverse ∧ sizes ts < m ∧ Same H H2, fun σ2 H2 ⟨y, as, tas, ws, ts, e1, e2, e3, e4, e5, e6, e7, e8⟩ => ⟨sizes ts, e7, y, as, tas, ws, ts, e1, e2, e3, e4, e5, e6, rfl, e8⟩, ?_⟩
      refine ⟨_, rfl, .inl ⟨rfl, _, SqL.of hw⟩, _, _, x, rfl, rfl, hw, by simp, ?_⟩
      have kp : ∀ b u, (ok b ∧ H b ≠ none) → H' b = some u → (upd H' p (.lst (ws' ++ [x]).dropLast)) b = some u := upd_keep okp
      have hA2 : (upd H' p (.lst (ws' ++ [x]).dropLast)) a = some (.lst as) := by rw [upd_ne nap]; exact hA
      have la := hta.len
      refine ⟨_, rfl, .inl ⟨rfl, _, SqL.of hA2⟩, _, rfl, a, as, x, rfl, rfl, hA2, Nat.lt_of_le_of_lt (show as.length ≤ 1000000 by omega) (by decide), ?_⟩
      have hx3 := (hx.keep kp).keep (upd_keep (o := .lst (as ++ [x])) oka)
      have hp3 : (upd (upd H' p (.lst (ws' ++ [x]).dropLast)) a (.lst (as ++ [x]))) p = some (.lst ws') := by
        rw [upd_ne (fun e => nap e.symm), upd_same, List.dropLast_concat]
      have hx3' := hx3
      cases hx3 with
      | node g1 g2 k1 k2 c1 c2 r =>
        have ll := r.len
        have l2 := h1.len
        have l3 := len_sizes ts'
        have l4 := len_sizes ks
        refine ⟨_, rfl, .inl ⟨rfl, _, SqL.of hp3⟩, _, rfl, _, _, 1, _, rfl, rfl, SqT.of g1, atI_nat (j := 1) rfl, p, _, ws', _, rfl, rfl, hp3, g2, ?_, ?_⟩
        · exact Nat.le_trans (show ws'.length + _ ≤ 1000000 by omega) (by decide)
        · refine ⟨some _, as ++ [_], tas ++ [Tr.node c ks], _, ts' ++ ks, rfl, by rw [upd_ne nap]; exact upd_same, upd_same, ?_, ?_, ?_, ?_, ?_⟩
          · exact (((hta.keep kp).keep (upd_keep oka)).append (.cons hx3' .nil)).keep (upd_keep okp)
          · exact (((h1.keep kp).keep (upd_keep oka)).append r).keep (upd_keep okp)
          · rw [← hpo, posts_append, posts_append]
            simp only [posts, Tr.post, List.reverse_append, List.append_assoc, List.append_nil, List.reverse_cons, List.reverse_nil, List.nil_append, List.singleton_append, List.cons_append]
          · rw [sizes_append]
            omega
          · exact same_add (same_add (same_add hs hp0) ha0) hp0
end


def kidss : List Tr → List Tr
  | [] => []
  | t :: r => t.kids ++ kidss r
theorem kidss_append : ∀ a b : List Tr, kidss (a ++ b) = kidss a ++ kidss b
  | [], b => rfl
  | t :: r, b => by simp only [List.cons_append, kidss, kidss_append r b, List.append_assoc]
theorem kidss_sizes : ∀ ts : List Tr, sizes (kidss ts) + ts.length = sizes ts
  | [] => rfl
  | .node c ks :: r => by
    have := kidss_sizes r
    simp only [kidss, Tr.kids, sizes_append, sizes, Tr.size, List.length_cons]
    omega
theorem depths_zero : ∀ {ts : List Tr}, ts = [] → depths ts = 0
  | _, rfl => rfl
theorem kidss_depths : ∀ ts : List Tr, ts ≠ [] → depths (kidss ts) + 1 = depths ts
  | [], h => absurd rfl h
  | .node c ks :: r, _ => by
    by_cases e : r = []
    · subst e
      simp only [kidss, Tr.kids, List.append_nil, depths, Tr.depth]
      omega
    · have := kidss_depths r e
      simp only [kidss, Tr.kids, depths_append, depths, Tr.depth]
      omega
def sp_size_of : Sp := fun vs H Q _ => ∃ (v : V) (t : Tr), vs = [v] ∧ TrAt (fun _ => True) H v t ∧ t.size ≤ 1000000 ∧ ∀ H', Same H H' → Q (.int t.size) H'
def sp_depth_of : Sp := fun vs H Q _ => ∃ (v : V) (t : Tr), vs = [v] ∧ TrAt (fun _ => True) H v t ∧ t.size ≤ 1000000 ∧ ∀ H', Same H H' → Q (.int t.depth) H'
section
variable {P : Program} {w : World} {K : PySem.W.Frag} {mg : Str → Option Value} {base : Heap}
theorem ok_size_of (T : Txt K mg) : FnOk P w K mg base CX0 6 T.f_size_of T.d_size_of ["tree"] sp_size_of := by
  have G_parts_upward : FnOk P w K mg base CX0 5 T.f_parts_upward T.d_parts_upward ["tree"] sp_parts_upward := ok_parts_upward T
  refine T.F_size_of.ok sc_size_of (fun vs H Q E h => ?_) (fun cdv A outer s H vs Q E hr h => ?_)
  · obtain ⟨v, t, rfl, _⟩ := h
    rfl
  obtain ⟨v, t, rfl, ht, hz, q⟩ := h
  refine ⟨_, (pss_one (ps_ret (pe_callB call_len_seq (by rfl) T.z_len PySem.boot_len (pa_cons (pe_call G_parts_upward (hr.mono (by omega)) (by rfl) T.m_parts_upward T.F_parts_upward.kp T.b_parts_upward .nil pass0 (pa_cons (pv 0) pa_nil)) pa_nil)))), ?_⟩
  refine ⟨_, rfl, v, t, _, rfl, ht, hz, fun r ws H' hs hr0 hr1 hts => ?_⟩
  refine ⟨_, _, rfl, .inl (SqL.of hr1), ?_⟩
  rw [hts.len, post_len]
  exact q _ hs
theorem ok_depth_of (T : Txt K mg) : FnOk P w K mg base CX0 5 T.f_depth_of T.d_depth_of ["tree"] sp_depth_of := by
  have G_check_tree : FnOk P w K mg base CX0 4 T.f_check_tree T.d_check_tree ["thing"] sp_check_tree := ok_check_tree T
  refine T.F_depth_of.ok sc_depth_of (fun vs H Q E h => ?_) (fun cdv A outer s H vs Q E hr h => ?_)
  · obtain ⟨v, t, rfl, _⟩ := h
    rfl
  obtain ⟨v, t, rfl, ht, hz, q⟩ := h
  refine ⟨_, (pss_cons (ps_expr (pe_call G_check_tree (hr.mono (by omega)) (by rfl) T.m_check_tree T.F_check_tree.kp T.b_check_tree .nil pass0 (pa_cons (pv 0) pa_nil))) (pss_cons (ps_set (i := 1) sc_depth_of.nd rfl (Or.inl rfl) pe_int) (pss_cons (ps_set (i := 2) sc_depth_of.nd rfl (Or.inl rfl) (pe_lst (pa_cons (pv 0) pa_nil))) (pss_cons (ps_while PassesOwn.never (pt_truth (pv 2) (by intro _; rfl)) (pss_cons (ps_aug (i := 1) sc_depth_of.nd rfl (Or.inl rfl) pe_int ip_add) (pss_one (ps_setLc2 (i := 2) (own := [("part", 3), ("child", 4)]) (vs1 := [4]) (g := gName 3) (g1 := gName 4) (tt := tYes) (tt1 := tYes) (wi1 := iList K (tOp (rIxT K) (tVar 3) (tC (.int 1)))) rfl sc_depth_of.nd rfl rfl (sw_true rfl rfl rfl (by decide +kernel)) (pi_list (pv 2)) (blkOk_by (own := [("part", 3), ("child", 4)]) (N := ["tree", "depth", "level", "part", "child"]) (sc := (defScope s_depth_of)) (by decide +kernel)) (by decide) (fun _ _ _ _ _ => (pg_name (i := 3) sc_depth_of.nd rfl (Or.inl rfl))) (fun _ _ _ _ _ => pts_nil) (fun _ _ _ _ _ => (pi_list (pe_ix ix_tup (pv 3) pe_int (fun _ _ => rfl)))) (fun _ _ _ _ _ => (pg_name (i := 4) sc_depth_of.nd rfl (Or.inl rfl))) (fun _ _ _ _ _ => pts_nil) (fun _ _ _ _ _ => (pv 4)))))) (pss_one (ps_ret (pv 1))))))), ?_⟩
  refine ⟨_, rfl, v, t, rfl, ht, hz, fun H1 s1 => ?_⟩
  have ht1 := ((TrAt.there t v ht).same s1).weak (ok' := fun b => H b ≠ none) fun b ⟨_, o, e⟩ => by rw [e]; simp
  refine ⟨_, rfl, (by show 1 ≤ sizeLine; decide), fun l0 hl0 => ?_⟩
  refine ⟨fun m σ H' => ∃ (d : Nat) (lv : Addr) (ws : List V) (ts : List Tr) (y3 y4 : Option V), σ = [some v, some (.int d), some (.ref lv), y3, y4] ∧ H' lv = some (.lst ws) ∧ TrsAt (fun b => H b ≠ none) H' ws ts ∧ d + depths ts = t.depth ∧ sizes ts ≤ 1000000 ∧ m = depths ts ∧ Same H H',
    ⟨t.depth, 0, l0, [v], [t], none, none, rfl, upd_same, .cons (ht1.same (same_new hl0)) .nil, by simp only [depths]; omega, by simp only [sizes]; omega, by simp only [depths]; omega, same_add s1 (s1.free hl0)⟩, ?_⟩
  rintro m σ H' ⟨d, lv, ws, ts, y3, y4, rfl, hL, hts, hd, hz2, rfl, hs⟩
  by_cases he : ws = []
  · subst he
    refine ⟨_, rfl, false, .inl ⟨_, SqL.of hL, rfl⟩, iteF ?_⟩
    cases hts
    simp only [depths, Nat.add_zero] at hd
    rw [← hd] at q
    exact ⟨_, rfl, q _ hs⟩
  · refine ⟨_, rfl, true, .inl ⟨_, SqL.of hL, by cases ws with | nil => exact absurd rfl he | cons a b => rfl⟩, iteT ?_⟩
    have hne : ts ≠ [] := fun e => by
      subst e
      cases hts
      exact he rfl
    refine ⟨fun σ2 H2 => ∃ (d : Nat) (lv : Addr) (ws : List V) (ts2 : List Tr) (y3 y4 : Option V), σ2 = [some v, some (.int d), some (.ref lv), y3, y4] ∧ H2 lv = some (.lst ws) ∧ TrsAt (fun b => H b ≠ none) H2 ws ts2 ∧ d + depths ts2 = t.depth ∧ sizes ts2 ≤ 1000000 ∧ depths ts2 < depths ts ∧ Same H H2,
      fun σ2 H2 ⟨d, lv, ws, ts2, y3, y4, e1, e2, e3, e4, e5, e6, e7⟩ => ⟨depths ts2, e6, d, lv, ws, ts2, y3, y4, e1, e2, e3, e4, e5, rfl, e7⟩, ?_⟩
    refine ⟨_, rfl, _, 1, rfl, rfl, _, rfl, lv, rfl, ⟨_, SqL.of hL⟩, fun D hD => ?_⟩
    have hD0 : H D = none := hs.free hD
    have nDl : lv ≠ D := ne_of_none hL hD
    have okD : ∀ b, H b ≠ none → b ≠ D := fun b h e => h (by rw [e]; exact hD0)
    have ks := kidss_sizes ts
    have kd := kidss_depths ts hne
    refine lc_outer (xs := ws) (fun i H2 => ∃ acc, H2 D = some (.lst acc) ∧ TrsAt (fun b => H b ≠ none) H2 acc (kidss (ts.take i)) ∧ H2 lv = some (.lst ws) ∧ TrsAt (fun b => H b ≠ none) H2 ws ts ∧ Same H H2)
      ⟨[], upd_same, .nil, by rw [upd_ne nDl]; exact hL, hts.keep (upd_keep okD), same_add hs hD0⟩ (fun i H2 _ ⟨acc, _, _, h3, _⟩ => SqL.of h3) ?_ ?_
    · rintro i x H2 hx ⟨acc, h1, h2, h3, h4, h5⟩
      obtain ⟨t1, ht1, hx2⟩ := h4.getV hx
      obtain ⟨c, k1⟩ := t1
      refine ⟨rfl, ?_⟩
      cases hx2 with
      | node g1 g2 o1 o2 c1 c2 r =>
        refine ⟨_, rfl, _, _, 1, _, rfl, rfl, SqT.of g1, atI_nat (j := 1) rfl, _, rfl, ⟨_, SqL.of g2⟩, ?_⟩
        rename_i ad l kv
        refine lc_outer (xs := kv) (fun j H3 => ∃ acc, H3 D = some (.lst acc) ∧ TrsAt (fun b => H b ≠ none) H3 acc (kidss (ts.take i) ++ k1.take j) ∧ H3 l = some (.lst kv) ∧ TrsAt (fun b => H b ≠ none) H3 kv k1 ∧ H3 lv = some (.lst ws) ∧ TrsAt (fun b => H b ≠ none) H3 ws ts ∧ Same H H3)
          ⟨acc, h1, by simpa using h2, g2, r, h3, h4, h5⟩ (fun j H3 _ ⟨_, _, _, q3, _⟩ => SqL.of q3) ?_ ?_
        · rintro j y H3 hy ⟨acc, q1, q2, q3, q4, q5, q6, q7⟩
          obtain ⟨u, hu, hy2⟩ := q4.getV hy
          have ez : kidss (ts.take (i + 1)) = kidss (ts.take i) ++ k1 := by
            rw [take_succ_of ht1, kidss_append]
            simp only [kidss, Tr.kids, List.append_nil]
          have zs : sizes (kidss (ts.take i) ++ k1) ≤ sizes (kidss ts) := by
            rw [← ez]
            have := congrArg sizes (congrArg kidss (List.take_append_drop (i + 1) ts))
            rw [kidss_append, sizes_append] at this
            omega
          have zl : acc.length ≤ 1000000 := by
            have a1 := q2.len
            have a2 := len_sizes (kidss (ts.take i) ++ k1.take j)
            have a3 := congrArg sizes (List.take_append_drop j k1)
            rw [sizes_append] at a3
            rw [sizes_append] at a2 zs
            omega
          have nl : l ≠ D := fun e => o2 (by rw [e]; exact hD0)
          refine ⟨rfl, _, rfl, acc, q1, Nat.lt_of_le_of_lt zl (by decide), acc ++ [y], upd_same, ?_, by rw [upd_ne nl]; exact q3, q4.keep (upd_keep okD), by rw [upd_ne nDl]; exact q5, q6.keep (upd_keep okD), same_add q7 hD0⟩
          rw [take_succ_of hu, ← List.append_assoc]
          exact (q2.append (.cons hy2 .nil)).keep (upd_keep okD)
        · rintro H3 ⟨acc, q1, q2, q3, q4, q5, q6, q7⟩
          refine ⟨acc, q1, ?_, q5, q6, q7⟩
          rw [r.len, List.take_length] at q2
          rw [take_succ_of ht1, kidss_append]
          simp only [kidss, Tr.kids, List.append_nil]
          exact q2
    · rintro H2 ⟨acc, h1, h2, h3, h4, h5⟩
      rw [hts.len, List.take_length] at h2
      exact ⟨d + 1, D, acc, kidss ts, _, _, rfl, h1, h2, by omega, by omega, by omega, h5⟩
end


def Pool (H : Hp) (p : Addr) (n : Nat) : Prop := ∃ x f s : Int, H p = some (.lst [.int x, .int f, .int s]) ∧ 0 ≤ s ∧ s ≤ (n : Int)
theorem Pool.mono {H : Hp} {p : Addr} {n m : Nat} (h : Pool H p n) (l : n ≤ m) : Pool H p m := let ⟨x, f, s, a, b, c⟩ := h; ⟨x, f, s, a, b, by omega⟩
theorem Pool.keep {H H' : Hp} {p : Addr} {n : Nat} (h : Pool H p n) (e : Same H H') : Pool H' p n := let ⟨x, f, s, a, b, c⟩ := h; ⟨x, f, s, e _ _ a, b, c⟩
theorem Pool.ne {H : Hp} {p q : Addr} {n : Nat} (h : Pool H p n) (e : H q = none) : p ≠ q := let ⟨_, _, _, a, _⟩ := h; ne_of_none a e
theorem Pool.some {H : Hp} {p : Addr} {n : Nat} (h : Pool H p n) : H p ≠ none := let ⟨_, _, _, a, _⟩ := h; by rw [a]; simp
def sp__law_pool (K : PySem.W.Frag) : Sp := fun vs H Q _ => ∃ (a : Addr) (ns : List Int) (k : Int), vs = [.ref a, .int k] ∧ SqL K H a (ns.map V.int) ∧ ns.length ≤ 63 ∧ 0 ≤ k ∧ k ≤ 63 ∧
  ∀ p H', H p = none → Chg p H H' → Pool H' p 3000 → Q (.ref p) H'
def sp__law_take : Sp := fun vs H Q _ => ∃ (p : Addr) (m : Int) (n : Nat), vs = [.ref p, .int m] ∧ Pool H p n ∧ n < 1000000 ∧ 0 < m ∧ m < 2 ^ 60 ∧
  ∀ r H', 0 ≤ r → r < m → Chg p H H' → Pool H' p (n + 1) → Q (.int r) H'
section
variable {P : Program} {w : World} {K : PySem.W.Frag} {mg : Str → Option Value} {base : Heap}
theorem ok__law_pool (T : Txt K mg) : FnOk P w K mg base CX0 1 T.f__law_pool T.d__law_pool ["script", "k"] (sp__law_pool K) := by
  refine T.F__law_pool.ok sc__law_pool (fun vs H Q E h => ?_) (fun cdv A outer s H vs Q E hr h => ?_)
  · obtain ⟨a, ns, k, rfl, _⟩ := h
    rfl
  obtain ⟨a, ns, k, rfl, hS, h63, h0, h1, q⟩ := h
  refine ⟨_, (pss_cons (ps_set (i := 2) sc__law_pool.nd rfl (Or.inl rfl) pe_int) (pss_cons (ps_if (pt_cmpR op_lt (pv 1) (pe_callB call_len_seq (by rfl) T.z_len PySem.boot_len (pa_cons (pv 0) pa_nil)) (nomark _)) (pss_one (ps_set (i := 2) sc__law_pool.nd rfl (Or.inl rfl) (pe_ix ix_list (pv 0) (pv 1) (fun _ _ => rfl)))) pss_nil) (pss_cons (ps_if (pt_cmpR op_ge (pv 2) (pe_op op_pow pe_int pe_int) (nomark _)) (pss_one (ps_ret (pe_lst (pa_cons (pe_op op_sub (pv 2) (pe_op op_pow pe_int pe_int)) (pa_cons pe_int (pa_cons pe_int pa_nil)))))) pss_nil) (pss_one (ps_ret (pe_lst (pa_cons (pv 2) (pa_cons pe_int (pa_cons (pe_op op_mul pe_int (pv 1)) pa_nil))))))))), ?_⟩
  have fin : ∀ p, H p = none → ∀ x f s : Int, 0 ≤ s → s ≤ 3000 → Q (.ref p) (upd H p (.lst [.int x, .int f, .int s])) := fun p hp x f s hs0 hs1 =>
    q p _ hp Chg.upd ⟨x, f, s, upd_same, hs0, by omega⟩
  refine ⟨_, rfl, _, rfl, a, _, rfl, .inl hS, _, _, rfl, rfl, _, rfl, ?_⟩
  refine ite2 (fun c => ?_) (fun c => ?_)
  · have hk : k.toNat < ns.length := by
      have c' : k < (((ns.map V.int).length : Nat) : Int) := of_decide_eq_true c
      rw [List.length_map] at c'
      omega
    refine ⟨_, rfl, _, rfl, a, _, _, _, rfl, rfl, hS, at_of (j := k.toNat) (v := V.int ns[k.toNat]) (by omega) (by rw [List.getElem?_map, List.getElem?_eq_getElem hk]; rfl), ?_⟩
    refine ⟨_, rfl, 10, 18, rfl, rfl, ⟨by decide, by decide, by decide⟩, _, _, rfl, rfl, _, rfl, ?_⟩
    refine ite2 (fun c2 => ?_) (fun c2 => ?_)
    · refine ⟨_, rfl, 10, 18, rfl, rfl, ⟨by decide, by decide, by decide⟩, _, _, rfl, rfl, (by show 3 ≤ sizeLine; decide), fun p hp => ?_⟩
      exact fin p hp _ _ _ (by decide) (by decide)
    · refine ⟨_, rfl, _, rfl, _, _, rfl, rfl, .inl ⟨by decide, by decide⟩, (by show 3 ≤ sizeLine; decide), fun p hp => ?_⟩
      exact fin p hp _ _ _ (by omega) (by omega)
  · refine ⟨_, rfl, 10, 18, rfl, rfl, ⟨by decide, by decide, by decide⟩, _, _, rfl, rfl, _, rfl, ?_⟩
    refine ite2 (fun c2 => ?_) (fun c2 => ?_)
    · exact absurd (of_decide_eq_true c2) (by decide)
    · refine ⟨_, rfl, _, rfl, _, _, rfl, rfl, .inl ⟨by decide, by decide⟩, (by show 3 ≤ sizeLine; decide), fun p hp => ?_⟩
      exact fin p hp _ _ _ (by omega) (by omega)
theorem ok__law_take (T : Txt K mg) : FnOk P w K mg base CX0 1 T.f__law_take T.d__law_take ["pool", "many"] sp__law_take := by
  refine T.F__law_take.ok sc__law_take (fun vs H Q E h => ?_) (fun cdv A outer s H vs Q E hr h => ?_)
  · obtain ⟨p, m, n, rfl, _⟩ := h
    rfl
  obtain ⟨p, m, n, rfl, ⟨x, f, t, hp, ht0, ht1⟩, hn, hm0, hm1, q⟩ := h
  refine ⟨_, (pss_cons (ps_if (pt_cmpR op_eq (pe_ix ix_list (pv 0) pe_int (fun _ _ => rfl)) pe_int (nomark _)) (pss_cons (ps_set (i := 2) sc__law_take.nd rfl (Or.inl rfl) (pe_op op_mod (pe_ix ix_list (pv 0) pe_int (fun _ _ => rfl)) (pv 1))) (pss_cons (ps_asg (pe_op op_fdivW (pe_ix ix_list (pv 0) pe_int (fun _ _ => rfl)) (pv 1)) (pg_sub (pv 0) pe_int set_list)) (pss_one (ps_ret (pv 2))))) pss_nil) (pss_cons (ps_asg (pe_op op_add (pe_ix ix_list (pv 0) pe_int (fun _ _ => rfl)) pe_int) (pg_sub (pv 0) pe_int set_list)) (pss_cons (ps_set (i := 3) sc__law_take.nd rfl (Or.inl rfl) (pe_ix ix_list (pv 0) pe_int (fun _ _ => rfl))) (pss_cons (ps_set (i := 4) sc__law_take.nd rfl (Or.inl rfl) (pe_op op_mul (pe_op op_add (pe_op op_mod (pe_ix ix_list (pv 0) pe_int (fun _ _ => rfl)) pe_int) pe_int) (pe_op op_add (pe_op op_mul pe_int (pv 3)) pe_int))) (pss_cons (ps_set (i := 4) sc__law_take.nd rfl (Or.inl rfl) (pe_op op_add (pv 4) (pe_op op_mul (pe_op op_mul pe_int (pv 3)) (pv 3)))) (pss_cons (ps_set (i := 4) sc__law_take.nd rfl (Or.inl rfl) (pe_op op_mod (pe_op op_mul (pv 4) (pv 4)) pe_int)) (pss_one (ps_ret (pe_op op_mod (pe_op op_fdivW (pe_op op_mod (pe_op op_mul (pv 4) (pe_op op_add (pv 4) pe_int)) pe_int) pe_int) (pv 1)))))))))), ?_⟩
  have i0 : atI [V.int x, V.int f, V.int t] 0 = some (.int x) := atI_nat (j := 0) rfl
  have i1 : atI [V.int x, V.int f, V.int t] 1 = some (.int f) := atI_nat (j := 1) rfl
  have i2 : atI [V.int x, V.int f, V.int t] 2 = some (.int t) := atI_nat (j := 2) rfl
  refine ⟨_, rfl, p, _, 1, _, rfl, rfl, SqL.of hp, i1, rfl, _, rfl, ?_⟩
  refine ite2 (fun c => ?_) (fun c => ?_)
  · -- the digits
    refine ⟨_, rfl, p, _, 0, _, rfl, rfl, SqL.of hp, i0, _, rfl, x, m, rfl, rfl, hm0, ?_⟩
    refine ⟨_, rfl, p, _, 0, _, rfl, rfl, SqL.of hp, i0, _, rfl, x, m, rfl, rfl, divW hm0 hm1, ?_⟩
    refine ⟨_, rfl, p, _, 0, 0, rfl, rfl, hp, rfl, ?_⟩
    refine ⟨_, rfl, q _ _ (Int.emod_nonneg _ (by omega)) (Int.emod_lt_of_pos _ hm0) Chg.upd ⟨_, _, _, upd_same, ht0, by omega⟩⟩
  · -- mixed
    refine ⟨_, rfl, p, _, 2, _, rfl, rfl, SqL.of hp, i2, t, 1, rfl, rfl, ?_⟩
    refine ⟨_, rfl, p, _, 2, 2, rfl, rfl, hp, rfl, ?_⟩
    have hp' : (upd H p (.lst [V.int x, V.int f, V.int (t + 1)])) p = some (.lst [V.int x, V.int f, V.int (t + 1)]) := upd_same
    have j0 : atI [V.int x, V.int f, V.int (t + 1)] 0 = some (.int x) := atI_nat (j := 0) rfl
    have j2 : atI [V.int x, V.int f, V.int (t + 1)] 2 = some (.int (t + 1)) := atI_nat (j := 2) rfl
    refine ⟨_, rfl, p, _, 2, _, rfl, rfl, SqL.of hp', j2, ?_⟩
    have a0 : 0 ≤ x % 9999999557 := Int.emod_nonneg _ (by decide)
    have a1 : x % 9999999557 < 9999999557 := Int.emod_lt_of_pos _ (by decide)
    refine ⟨_, rfl, p, _, 0, _, rfl, rfl, SqL.of hp', j0, x, 9999999557, rfl, rfl, (by show (0 : Int) < 9999999557; decide), _, 1013, rfl, rfl, _, rfl, 41, t + 1, rfl, rfl, .inl ⟨by decide, by decide⟩, _, 71, rfl, rfl, _, _, rfl, rfl, .inl ⟨by omega, by omega⟩, ?_⟩
    have b1 := nn_mul (a := x % 9999999557 + 1013) (A := 10000000570) (b := 41 * (t + 1) + 71) (B := 41000112) (by omega) (by omega) (by omega) (by omega)
    obtain ⟨M, hM⟩ : ∃ M, (x % 9999999557 + 1013) * (41 * (t + 1) + 71) = M := ⟨_, rfl⟩
    rw [hM] at b1
    have b2 := nn_mul (a := 3571 * (t + 1)) (A := 3571000000) (b := t + 1) (B := 1000000) (by omega) (by omega) (by omega) (by omega)
    refine ⟨_, rfl, _, rfl, 3571, t + 1, rfl, rfl, .inl ⟨by decide, by decide⟩, _, rfl, _, t + 1, rfl, rfl, .inl ⟨by omega, by omega⟩, M, _, congrArg V.int hM, rfl, ?_⟩
    obtain ⟨M2, hM2⟩ : ∃ M2, M + 3571 * (t + 1) * (t + 1) = M2 := ⟨_, rfl⟩
    refine ⟨_, rfl, _, rfl, M2, M2, congrArg V.int hM2, congrArg V.int hM2, .inl ⟨by omega, by omega⟩, _, 99999999587, rfl, rfl, (by show (0 : Int) < 99999999587; decide), ?_⟩
    have d0 : 0 ≤ M2 * M2 % 99999999587 := Int.emod_nonneg _ (by decide)
    have d1 : M2 * M2 % 99999999587 < 99999999587 := Int.emod_lt_of_pos _ (by decide)
    obtain ⟨M3, hM3⟩ : ∃ M3, M2 * M2 % 99999999587 = M3 := ⟨_, rfl⟩
    rw [hM3] at d0 d1
    refine ⟨_, rfl, _, rfl, M3, 53, congrArg V.int hM3, rfl, M3, M3 + 53, congrArg V.int hM3, rfl, .inl ⟨by omega, by omega⟩, _, 99999999881, rfl, rfl, (by show (0 : Int) < 99999999881; decide), _, 103, rfl, rfl, divW (by decide) (by decide), _, rfl, _, m, rfl, rfl, hm0, ?_⟩
    exact q _ _ (Int.emod_nonneg _ (by omega)) (Int.emod_lt_of_pos _ hm0) Chg.upd ⟨_, _, _, upd_same, by omega, by omega⟩
end


section
variable {ok : Addr → Prop} {H : Hp} {p : Addr} {x : Int} {zs : List V}
mutual
theorem TrAt.offL (hp : H p = some (.lst (.int x :: zs))) : ∀ (t : Tr) (v : V), TrAt ok H v t → TrAt (fun b => ok b ∧ b ≠ p) H v t
  | .node c ks, v, h => by
    cases h with
    | node h1 h2 k1 k2 c1 c2 r =>
      refine .node h1 h2 ⟨k1, ne_of h1 hp (by intro z; cases z)⟩ ⟨k2, fun e => ?_⟩ c1 c2 (TrsAt.offL hp ks _ r)
      subst e
      rw [h2] at hp
      cases hp
      cases r with
      | cons a _ => cases a
theorem TrsAt.offL (hp : H p = some (.lst (.int x :: zs))) : ∀ (ts : List Tr) (vs : List V), TrsAt ok H vs ts → TrsAt (fun b => ok b ∧ b ≠ p) H vs ts
  | [], _, h => by cases h; exact .nil
  | t :: r, _, h => by
    cases h with
    | cons a b => exact .cons (TrAt.offL hp t _ a) (TrsAt.offL hp r _ b)
end
end
theorem Pool.off {ok : Addr → Prop} {H : Hp} {p : Addr} {n : Nat} {v : V} {t : Tr} (hp : Pool H p n) (h : TrAt ok H v t) : TrAt (fun b => ok b ∧ b ≠ p) H v t := let ⟨_, _, _, hx, _⟩ := hp; TrAt.offL hx t v h
theorem Pool.offs {ok : Addr → Prop} {H : Hp} {p : Addr} {n : Nat} {vs : List V} {ts : List Tr} (hp : Pool H p n) (h : TrsAt ok H vs ts) : TrsAt (fun b => ok b ∧ b ≠ p) H vs ts := let ⟨_, _, _, hx, _⟩ := hp; TrsAt.offL hx ts vs h
theorem TrAt.fr {ok : Addr → Prop} {H H' : Hp} {p : Addr} {v : V} {t : Tr} (h : TrAt (fun b => ok b ∧ b ≠ p) H v t) (f : Fr p H H') : TrAt (fun b => ok b ∧ b ≠ p) H' v t := h.keep fun b o k e => f b o k.2 e
theorem TrsAt.fr {ok : Addr → Prop} {H H' : Hp} {p : Addr} {vs : List V} {ts : List Tr} (h : TrsAt (fun b => ok b ∧ b ≠ p) H vs ts) (f : Fr p H H') : TrsAt (fun b => ok b ∧ b ≠ p) H' vs ts := h.keep fun b o k e => f b o k.2 e
theorem Pool.new {H : Hp} {p q : Addr} {n : Nat} {o : HO} (hp : Pool H p n) (h : H q = none) : Pool (upd H q o) p n := hp.keep (same_new h)
theorem Pool.ne' {H : Hp} {p q : Addr} {n : Nat} (hp : Pool H p n) (h : H q = none) : q ≠ p := fun e => (hp.ne h) e.symm
theorem Pool.upd {H : Hp} {p q : Addr} {n : Nat} {o : HO} (hp : Pool H p n) (h : q ≠ p) : Pool (upd H q o) p n := by
  obtain ⟨x, f, s, a, b, c⟩ := hp
  exact ⟨x, f, s, by rw [upd_ne (fun e => h e.symm)]; exact a, b, c⟩
theorem erase_perm {α : Type} : ∀ (l : List α) (i : Nat) (h : i < l.length), l.Perm (l[i] :: l.eraseIdx i)
  | a :: r, 0, _ => .refl _
  | a :: r, i + 1, h => by
    have ih := erase_perm r i (by simpa using h)
    exact (ih.cons a).trans (.swap _ _ _)
def sp__law_mixed_up (K : PySem.W.Frag) : Sp := fun vs H Q _ => ∃ (p l : Addr) (n : Nat) (xs : List V), vs = [.ref p, .ref l] ∧ Pool H p n ∧ n + xs.length < 1000000 ∧ SqL K H l xs ∧
  (∀ H', Fr p H H' → ∀ v ∈ xs, DatOk K H' v) ∧ ∀ r ws H', xs.Perm ws → H r = none → Fr p H H' → H' r = some (.lst ws) → Pool H' p (n + xs.length) → Q (.ref r) H'
section
variable {P : Program} {w : World} {K : PySem.W.Frag} {mg : Str → Option Value} {base : Heap}
theorem ok__law_mixed_up (T : Txt K mg) : FnOk P w K mg base CX0 2 T.f__law_mixed_up T.d__law_mixed_up ["pool", "things"] (sp__law_mixed_up K) := by
  have G__law_take : FnOk P w K mg base CX0 1 T.f__law_take T.d__law_take ["pool", "many"] sp__law_take := ok__law_take T
  refine T.F__law_mixed_up.ok sc__law_mixed_up (fun vs H Q E h => ?_) (fun cdv A outer s H vs Q E hr h => ?_)
  · obtain ⟨p, l, n, xs, rfl, _⟩ := h
    rfl
  obtain ⟨p, l, n, xs, rfl, hp, hn, hl, hd, q⟩ := h
  refine ⟨_, (pss_cons (ps_set (i := 2) sc__law_mixed_up.nd rfl (Or.inl rfl) (pe_callTy call_list_of (by rfl) T.z_list (by decide +kernel) (pa_cons (pv 1) pa_nil))) (pss_cons (ps_set (i := 3) sc__law_mixed_up.nd rfl (Or.inl rfl) (pe_lst pa_nil)) (pss_cons (ps_while PassesOwn.never (pt_cmpR (op_neD hr.units) (pv 2) (pe_lst pa_nil) (nomark _)) (pss_one (ps_expr (pe_bm PySem.F.plainAttrs_list PySem.F.slot_list_append PySem.F.type_list_append mt_append (pv 3) (pa_cons (pe_bm PySem.F.plainAttrs_list PySem.F.slot_list_pop PySem.F.type_list_pop mt_popAt (pv 2) (pa_cons (pe_call G__law_take (hr.mono (by omega)) (by rfl) T.m__law_take T.F__law_take.kp T.b__law_take .nil pass0 (pa_cons (pv 0) (pa_cons (pe_callB call_len_seq (by rfl) T.z_len PySem.boot_len (pa_cons (pv 2) pa_nil)) pa_nil))) pa_nil)) pa_nil))))) (pss_one (ps_ret (pv 3)))))), ?_⟩
  refine ⟨_, rfl, l, xs, rfl, .inl hl, fun a ha => ?_⟩
  refine ⟨(by show 0 ≤ sizeLine; decide), fun f hf => ?_⟩
  have naf : a ≠ f := fun e => by rw [e, upd_same] at hf; cases hf
  have hf0 : H f = none := by rw [upd_ne (fun e => naf e.symm)] at hf; exact hf
  have nap : a ≠ p := hp.ne' ha
  have nfp : f ≠ p := hp.ne' hf0
  refine ⟨fun m σ H' => ∃ us ys, σ = [some (.ref p), some (.ref l), some (.ref a), some (.ref f)] ∧ H' a = some (.lst us) ∧ H' f = some (.lst ys) ∧ xs.Perm (us ++ ys) ∧ m = us.length ∧ Pool H' p (n + ys.length) ∧ Fr p H H',
    ⟨xs.length, xs, [], rfl, by rw [upd_ne naf]; exact upd_same, upd_same, by rw [List.append_nil], rfl, (hp.new ha).new hf, ((Fr.refl p H).new ha).new hf0⟩, ?_⟩
  rintro m σ H' ⟨us, ys, rfl, hA, hF, hP, rfl, pp, fr⟩
  have hlen : us.length + ys.length = xs.length := by
    have := hP.length_eq
    rw [List.length_append] at this
    omega
  refine ⟨_, rfl, (by show 0 ≤ sizeLine; decide), fun e he => ?_⟩
  have he0 : H e = none := fr.free pp.some he
  have fr2 : Fr p H (upd H' e (.lst [])) := fr.new he0
  obtain ⟨ds, hds, hsh, hdl⟩ := DatOk.all (K := K) (H := upd H' e (.lst [])) (vs := us) fun v hv => hd _ fr2 v (hP.mem_iff.mpr (List.mem_append_left _ hv))
  have hA2 : (upd H' e (.lst [])) a = some (.lst us) := by rw [upd_ne (ne_of_none hA he)]; exact hA
  have hF2 : (upd H' e (.lst [])) f = some (.lst ys) := by rw [upd_ne (ne_of_none hF he)]; exact hF
  refine ⟨_, _, .lst (SqL.of hA2) hds, dp_nil upd_same, hsh, shaped_nil, _, rfl, ?_⟩
  rw [eqv_nil, hdl]
  by_cases hu : us.length = 0
  · rw [decide_eq_true hu]
    refine iteF ?_
    have : us = [] := List.length_eq_zero_iff.mp hu
    subst this
    refine ⟨_, rfl, q f ys _ (by simpa using hP) hf0 fr2 hF2 ?_⟩
    have e1 : ys.length = xs.length := by simpa using hlen
    rw [← e1]
    exact pp.new he
  · rw [decide_eq_false hu]
    refine iteT ?_
    refine ⟨fun σ2 H2 => ∃ us2 ys, σ2 = [some (.ref p), some (.ref l), some (.ref a), some (.ref f)] ∧ H2 a = some (.lst us2) ∧ H2 f = some (.lst ys) ∧ xs.Perm (us2 ++ ys) ∧ us2.length < us.length ∧ Pool H2 p (n + ys.length) ∧ Fr p H H2,
      fun σ2 H2 ⟨us2, ys, e1, e2, e3, e4, e5, e6, e7⟩ => ⟨us2.length, e5, us2, ys, e1, e2, e3, e4, rfl, e6, e7⟩, ?_⟩
    refine ⟨_, rfl, .inl ⟨rfl, _, SqL.of hF2⟩, _, rfl, .inl ⟨rfl, _, SqL.of hA2⟩, _, rfl, _, rfl, a, us, rfl, .inl (SqL.of hA2), ?_⟩
    refine ⟨p, _, n + ys.length, rfl, pp.new he, by omega, by omega, by omega, fun r H2 r0 r1 c2 p2 => ?_⟩
    obtain ⟨k, rfl⟩ : ∃ k : Nat, r = (k : Int) := ⟨r.toNat, by omega⟩
    have hk : k < us.length := by omega
    have hA3 := c2.at hA2 nap
    have hF3 := c2.at hF2 nfp
    refine ⟨a, us, k, k, us[k], rfl, rfl, hA3, by omega, by omega, PySem.seqIndex_of (by omega) (by omega) |>.trans (by simp), List.getElem?_eq_getElem hk, ?_⟩
    have hF4 : (upd H2 a (.lst (us.eraseIdx k))) f = some (.lst ys) := by rw [upd_ne (fun e => naf e.symm)]; exact hF3
    refine ⟨f, ys, us[k], rfl, rfl, hF4, Nat.lt_of_le_of_lt (show ys.length ≤ 1000000 by omega) (by decide), ?_⟩
    refine ⟨us.eraseIdx k, ys ++ [us[k]], rfl, by rw [upd_ne naf]; exact upd_same, upd_same, ?_, ?_, ?_, ?_⟩
    · refine hP.trans ?_
      have pe : us.Perm (us[k] :: us.eraseIdx k) := erase_perm us k hk
      refine (pe.append_right ys).trans ?_
      rw [← List.append_assoc, List.cons_append]
      exact (List.perm_append_singleton _ _).symm
    · rw [List.length_eraseIdx_of_lt hk]
      omega
    · rw [List.length_append, List.length_singleton, ← Nat.add_assoc]
      exact (p2.upd nap).upd nfp
    · intro b o hb e
      have nb1 : b ≠ f := ne_of_none e hf0
      have nb2 : b ≠ a := ne_of_none e ha
      rw [upd_ne nb1, upd_ne nb2]
      exact c2.at (fr2 b o hb e) hb
end

def Lets (L : Str) : Prop := 1 ≤ L.length ∧ L.length ≤ 26 ∧ ∀ c ∈ L.cps.toList, 97 ≤ c ∧ c ≤ 122
def sp__law_shuffled (d : Nat) : Sp := fun vs H Q _ => ∃ (p : Addr) (n : Nat) (v : V) (t : Tr), vs = [.ref p, v] ∧ Pool H p n ∧ n + t.size < 1000000 ∧ TrAt (fun _ => True) H v t ∧ t.depth ≤ d ∧ t.depth ≤ 32 ∧
  ∀ r u H', Sh t u → Fr p H H' → TrAt (fun b => H b = none) H' r u → Pool H' p (n + (t.size - 1)) → Q r H'
def sp__law_copy (d : Nat) : Sp := fun vs H Q _ => ∃ (v : V) (t : Tr), vs = [v] ∧ TrAt (fun _ => True) H v t ∧ t.depth ≤ d ∧ t.size ≤ 1000000 ∧
  ∀ r H', Same H H' → TrAt (fun b => H b = none) H' r t → Q r H'
def sp__law_letters : Sp := fun vs H Q _ => ∃ (p : Addr) (n : Nat), vs = [.ref p] ∧ Pool H p n ∧ n < 1000000 ∧ ∀ L H', Lets L → Fr p H H' → Pool H' p (n + 1) → Q (.str L) H'
theorem none_of {sp : Sp} {P : Program} {w : World} {K : PySem.W.Frag} {mg : Str → Option Value} {base : Heap} {f : Addr} {fd : FuncData} {ps : List Str} {k : Nat} (no : ∀ vs H Q E, ¬ sp vs H Q E) : FnOk P w K mg base CX0 k f fd ps sp :=
  ⟨fun vs H Q E h => absurd h (no vs H Q E), fun A outer s H args us vs Q E _ _ _ _ h => absurd h (no vs H Q E)⟩
theorem depth_pos : ∀ t : Tr, 1 ≤ t.depth
  | .node c ks => by simp only [Tr.depth]; omega
section
variable {P : Program} {w : World} {K : PySem.W.Frag} {mg : Str → Option Value} {base : Heap}
theorem ok__law_shuffled (T : Txt K mg) : ∀ d : Nat, FnOk P w K mg base CX0 (d + 2) T.f__law_shuffled T.d__law_shuffled ["pool", "tree"] (sp__law_shuffled d)
  | 0 => none_of fun vs H Q E ⟨p, n, v, t, _, _, _, _, h, _⟩ => by have := depth_pos t; omega
  | d + 1 => by
    have G__law_shuffled : FnOk P w K mg base CX0 (d + 2) T.f__law_shuffled T.d__law_shuffled ["pool", "tree"] (sp__law_shuffled d) := ok__law_shuffled T d
    have G__law_mixed_up : FnOk P w K mg base CX0 2 T.f__law_mixed_up T.d__law_mixed_up ["pool", "things"] (sp__law_mixed_up K) := ok__law_mixed_up T
    refine T.F__law_shuffled.ok sc__law_shuffled (fun vs H Q E h => ?_) (fun cdv A outer s H vs Q E hr h => ?_)
    · obtain ⟨p, n, v, t, rfl, _⟩ := h
      rfl
    obtain ⟨p, n, v, t, rfl, hp, hn, ht, hd, hd2, q⟩ := h
    refine ⟨_, (pss_one (ps_ret (pe_tup (pa_cons (pe_ix ix_tup (pv 1) pe_int (fun _ _ => rfl)) (pa_cons (pe_lc (own := [("child", 2)]) (g := gName 2) (tt := tYes) rfl sc__law_shuffled.nd (pi_list (pe_call G__law_mixed_up (hr.mono (by omega)) (by rfl) T.m__law_mixed_up T.F__law_mixed_up.kp T.b__law_mixed_up .nil pass0 (pa_cons (pv 0) (pa_cons (pe_ix ix_tup (pv 1) pe_int (fun _ _ => rfl)) pa_nil)))) (blkOk_by (own := [("child", 2)]) (N := ["pool", "tree", "child"]) (sc := (defScope s__law_shuffled)) (by decide +kernel)) (fun _ _ _ _ _ => (pg_name (i := 2) sc__law_shuffled.nd rfl (Or.inl rfl))) (fun _ _ _ _ _ => pts_nil) (fun _ _ _ _ _ => (pe_call G__law_shuffled (hr.mono (by omega)) (by rfl) T.m__law_shuffled T.F__law_shuffled.kp T.b__law_shuffled .nil pass0 (pa_cons (pv 0) (pa_cons (pv 2) pa_nil))))) pa_nil))))), ?_⟩
    obtain ⟨c, ks⟩ := t
    simp only [Tr.depth] at hd hd2
    simp only [Tr.size] at hn q
    have lz := len_sizes ks
    cases hp.off ht with
    | node h1 h2 k1 k2 c1 c2 r =>
      rename_i a l xs
      have lr := r.len
      refine ⟨_, rfl, _, _, 0, _, rfl, rfl, SqT.of h1, atI_nat (j := 0) rfl, ?_⟩
      refine ⟨_, rfl, _, rfl, _, _, 1, _, rfl, rfl, SqT.of h1, atI_nat (j := 1) rfl, p, l, n, xs, rfl, hp, by omega, SqL.of h2, ?_, fun m ws H1 pw m0 f1 hm p1 => ?_⟩
      · intro H' f v hv
        obtain ⟨i, hi⟩ := List.getElem?_of_mem hv
        obtain ⟨t1, ht1, hx⟩ := (r.fr f).getV hi
        have dt := depths_mem (List.mem_of_getElem? ht1)
        exact datOk_tr hx (by omega)
      obtain ⟨us, pu, hus⟩ := (r.fr f1).perm pw
      have lu := hus.len
      have zu := sizes_perm pu
      have du := depths_perm pu
      have nu := pu.length_eq
      refine ⟨m, rfl, ⟨_, SqL.of hm⟩, fun D hD => ?_⟩
      have hD0 : H D = none := f1.free p1.some hD
      have hmD : m ≠ D := ne_of_none hm hD
      have nmp : m ≠ p := hp.ne' m0
      have nDp : D ≠ p := p1.ne' hD
      have husD := hus.off hD
      refine lc_list (xs := ws) (fun i H2 => ∃ acc vs2, H2 D = some (.lst acc) ∧ TrsAt (fun b => H b = none ∧ b ≠ D) H2 acc vs2 ∧ Shs (us.take i) vs2 ∧ H2 m = some (.lst ws) ∧ Pool H2 p (n + xs.length + (sizes (us.take i) - i)) ∧ Fr p H1 H2 ∧ i ≤ us.length)
        ⟨[], [], upd_same, .nil, .nil, by rw [upd_ne hmD]; exact hm, p1.new hD, (Fr.refl p H1).new hD, Nat.zero_le _⟩ (fun i H2 _ ⟨_, _, _, _, _, s, _⟩ => SqL.of s) ?_ ?_
      · rintro i x H2 hx ⟨acc, vs2, g1, g2, g3, g4, g5, g6, g7⟩
        obtain ⟨t1, ht1, hx2⟩ := hus.getV hx
        have dt := depths_mem (List.mem_of_getElem? ht1)
        have st := sizes_mem (List.mem_of_getElem? ht1)
        have tk := congrArg sizes (List.take_append_drop (i + 1) us)
        rw [sizes_append] at tk
        have e1 := take_succ_of ht1
        have li : i < us.length := (List.getElem?_eq_some_iff.mp ht1).1
        have lt := len_sizes (us.take i)
        rw [List.length_take] at lt
        have ld := len_sizes (us.drop (i + 1))
        rw [List.length_drop] at ld
        have pz := size_pos t1
        have la := g2.len
        have lb := Shs.len g3
        rw [List.length_take] at lb
        have e2 : sizes (us.take (i + 1)) = sizes (us.take i) + t1.size := by
          rw [e1, sizes_append]
          simp only [sizes]
          omega
        refine ⟨rfl, _, rfl, _, rfl, p, _, x, t1, rfl, g5, by omega, (hx2.fr g6).weak fun _ _ => trivial, by omega, by omega, fun y u H3 hsh f3 hy p3 => ?_⟩
        have g1' := f3 _ _ nDp g1
        refine ⟨acc, g1', Nat.lt_of_le_of_lt (show acc.length ≤ 1000000 by omega) (by decide), acc ++ [y], vs2 ++ [u], upd_same, ?_, ?_, ?_, ?_, ?_, by omega⟩
        · have hy2 : TrAt (fun b => H b = none ∧ b ≠ D) H3 y u := hy.weak fun b hb => ⟨f1.free p1.some (g6.free g5.some hb), fun e => by rw [e, g1] at hb; cases hb⟩
          refine ((?_ : TrsAt (fun b => H b = none ∧ b ≠ D) H3 acc vs2).append (.cons hy2 .nil)).keep (upd_keep fun b h => h.2)
          exact g2.keep fun b o k e => f3 b o (hp.ne' k.1) e
        · rw [e1]
          exact g3.append (.cons hsh .nil)
        · rw [upd_ne hmD]
          exact f3 _ _ nmp g4
        · refine (p3.upd nDp).mono ?_
          omega
        · exact (g6.trans f3).new hD
      · rintro H2 ⟨acc, vs2, g1, g2, g3, g4, g5, g6, g7⟩
        rw [lu, List.take_length] at g3 g5
        refine ⟨(by show 2 ≤ sizeLine; decide), fun e he => ?_⟩
        have he0 := f1.free p1.some (g6.free g5.some he)
        have nDe : D ≠ e := ne_of_none g1 he
        refine q _ (.node c vs2) _ (.node pu g3) ((f1.trans g6).new he0) (.node upd_same (by rw [upd_ne nDe]; exact g1) he0 hD0 c1 c2 ?_) ((g5.new he).mono ?_)
        · exact (g2.same (same_new he)).weak fun b h => h.1
        · omega
end


def rowOf (par : Nat → Nat) (k i : Nat) : List Nat := (List.range k).filter fun j => decide (1 ≤ j ∧ par j = i)
def setF {α : Type} (f : Nat → α) (k : Nat) (v : α) : Nat → α := fun j => if j = k then v else f j
theorem setF_same {α : Type} {f : Nat → α} {k : Nat} {v : α} : setF f k v k = v := if_pos rfl
theorem setF_ne {α : Type} {f : Nat → α} {k j : Nat} {v : α} (h : j ≠ k) : setF f k v j = f j := if_neg h
theorem rng_set {α β : Type} (G : α → β) (f : Nat → α) (k : Nat) (v : α) : ((List.range (k + 1)).map fun j => G (setF f k v j)) = ((List.range k).map fun j => G (f j)) ++ [G v] := by
  rw [List.range_succ, List.map_append]
  refine congr (congrArg _ (List.map_congr_left fun j hj => ?_)) ?_
  · rw [setF_ne (Nat.ne_of_lt (List.mem_range.mp hj))]
  · show [G (setF f k v k)] = [G v]
    rw [setF_same]
theorem rng_get {α : Type} (F : Nat → α) {k j : Nat} (h : j < k) : ((List.range k).map F)[j]? = some (F j) := by
  rw [List.getElem?_map, List.getElem?_range h]
  rfl
theorem row_succ (par : Nat → Nat) (k h i : Nat) (hk : 1 ≤ k) : rowOf (setF par k h) (k + 1) i = rowOf par k i ++ (if i = h then [k] else []) := by
  unfold rowOf
  rw [List.range_succ, List.filter_append]
  refine congr (congrArg _ (List.filter_congr fun j hj => ?_)) ?_
  · rw [setF_ne (Nat.ne_of_lt (List.mem_range.mp hj))]
  · rw [List.filter_cons, List.filter_nil, setF_same]
    by_cases e : i = h
    · subst e
      rw [if_pos rfl, if_pos (by simpa using hk)]
    · rw [if_neg e, if_neg (by simp; intro _ z; exact e z.symm)]
theorem row_out (par : Nat → Nat) (k i : Nat) (h : ∀ j, 1 ≤ j → j < k → par j < j) (hi : k ≤ i) : rowOf par k i = [] := by
  unfold rowOf
  rw [List.filter_eq_nil_iff]
  intro j hj e
  have e' := of_decide_eq_true e
  have hj' := List.mem_range.mp hj
  have := h j e'.1 hj'
  omega
theorem row_mem {par : Nat → Nat} {k i j : Nat} (h : j ∈ rowOf par k i) : 1 ≤ j ∧ par j = i ∧ j < k := by
  unfold rowOf at h
  have a := List.mem_filter.mp h
  have b := of_decide_eq_true a.2
  exact ⟨b.1, b.2, List.mem_range.mp a.1⟩
theorem row_len (par : Nat → Nat) (k i : Nat) : (rowOf par k i).length ≤ k := by
  have := List.length_filter_le (fun j => decide (1 ≤ j ∧ par j = i)) (List.range k)
  rw [List.length_range] at this
  exact this
def tot (par f : Nat → Nat) (s : Nat) : Nat → Nat
  | 0 => 0
  | m + 1 => tot par f s m + if s ≤ m ∧ (m = 0 ∨ par m < s) then f m else 0
def rowSum (par f : Nat → Nat) (i : Nat) : Nat → Nat
  | 0 => 0
  | m + 1 => rowSum par f i m + if 1 ≤ m ∧ par m = i then f m else 0
theorem rowSum_eq (par f : Nat → Nat) (i : Nat) : ∀ m, ((rowOf par m i).map f).sum = rowSum par f i m
  | 0 => rfl
  | m + 1 => by
    have ih := rowSum_eq par f i m
    unfold rowOf at ih ⊢
    rw [List.range_succ, List.filter_append, List.map_append, List.sum_append, ih, List.filter_cons, List.filter_nil]
    by_cases e : 1 ≤ m ∧ par m = i
    · rw [if_pos (decide_eq_true e)]
      simp only [rowSum, if_pos e, List.map_cons, List.map_nil, List.sum_cons, List.sum_nil, Nat.add_zero]
    · rw [if_neg (by simpa using e)]
      simp only [rowSum, if_neg e, List.map_nil, List.sum_nil]
theorem tot_step (par f : Nat → Nat) (s g : Nat) : ∀ m, (∀ j, 1 ≤ j → j < m → par j < j) → tot par (setF f s g) s m + rowSum par f s m = tot par f (s + 1) m + if s < m then g else 0
  | 0, _ => by simp [tot, rowSum]
  | m + 1, h => by
    have ih := tot_step par f s g m fun j a b => h j a (by omega)
    have hm := h m
    simp only [tot, rowSum]
    by_cases e : m = s
    · subst e
      rw [setF_same, if_pos (show m ≤ m ∧ (m = 0 ∨ par m < m) by omega), if_neg (show ¬ (1 ≤ m ∧ par m = m) by omega), if_neg (show ¬ (m + 1 ≤ m ∧ (m = 0 ∨ par m < m + 1)) by omega), if_pos (show m < m + 1 by omega)]
      rw [if_neg (show ¬ m < m by omega)] at ih
      omega
    · rw [setF_ne e]
      split <;> split <;> split <;> split <;> (split at ih) <;> omega
theorem tot_top (par f : Nat → Nat) : ∀ m, tot par f 0 (m + 1) = f 0
  | 0 => by simp [tot]
  | m + 1 => by
    have ih := tot_top par f m
    rw [tot, ih, if_neg (by omega)]
    rfl
theorem tot_none (par f : Nat → Nat) (s : Nat) : ∀ m, m ≤ s → tot par f s m = 0
  | 0, _ => rfl
  | m + 1, h => by
    rw [tot, tot_none par f s m (by omega), if_neg (by omega)]
theorem perm_map {α β : Type} (f : α → β) {l ws : List β} (p : l.Perm ws) : ∀ {xs : List α}, l = xs.map f → ∃ us, xs.Perm us ∧ ws = us.map f := by
  induction p with
  | nil =>
    intro xs e
    exact ⟨xs, .refl _, e⟩
  | cons x _ ih =>
    intro xs e
    cases xs with
    | nil => cases e
    | cons a r =>
      rw [List.map_cons] at e
      injection e with e1 e2
      obtain ⟨us, h1, h2⟩ := ih e2
      exact ⟨a :: us, h1.cons a, by rw [h2, e1, List.map_cons]⟩
  | swap x y l =>
    intro xs e
    match xs, e with
    | a :: b :: r, e =>
      simp only [List.map_cons, List.cons.injEq] at e
      exact ⟨b :: a :: r, .swap _ _ _, by simp only [List.map_cons, e.1, e.2.1, e.2.2]⟩
  | trans _ _ ih1 ih2 =>
    intro xs e
    obtain ⟨us, h1, h2⟩ := ih1 e
    obtain ⟨ws, h3, h4⟩ := ih2 h2
    exact ⟨ws, h1.trans h3, h4⟩
theorem trs_map {ok : Addr → Prop} {H : Hp} (tv : Nat → V) (tt : Nat → Tr) : ∀ {us : List Nat}, (∀ c ∈ us, TrAt ok H (tv c) (tt c)) → TrsAt ok H (us.map tv) (us.map tt)
  | [], _ => .nil
  | c :: r, h => .cons (h c List.mem_cons_self) (trs_map tv tt fun d hd => h d (List.mem_cons_of_mem _ hd))
theorem sizes_map (tt : Nat → Tr) : ∀ us : List Nat, sizes (us.map tt) = (us.map fun c => (tt c).size).sum
  | [] => rfl
  | c :: r => by simp only [List.map_cons, sizes, List.sum_cons, sizes_map tt r]
theorem depths_map (tt : Nat → Tr) (b : Nat) : ∀ us : List Nat, (∀ c ∈ us, (tt c).depth ≤ b) → depths (us.map tt) ≤ b
  | [], _ => Nat.zero_le _
  | c :: r, h => by
    have h1 := h c List.mem_cons_self
    have h2 := depths_map tt b r fun d hd => h d (List.mem_cons_of_mem _ hd)
    simp only [List.map_cons, depths]
    omega
theorem letss_map {p : Nat → Prop} (tt : Nat → Tr) : ∀ us : List Nat, (∀ c ∈ us, (tt c).lets p) → letss p (us.map tt)
  | [], _ => trivial
  | c :: r, h => by
    simp only [List.map_cons, letss]
    exact ⟨h c List.mem_cons_self, letss_map tt r fun d hd => h d (List.mem_cons_of_mem _ hd)⟩
theorem sum_perm {a b : List Nat} (p : a.Perm b) : a.sum = b.sum := by
  induction p with
  | nil => rfl
  | cons x _ ih => simp only [List.sum_cons, ih]
  | swap x y l => simp only [List.sum_cons]; omega
  | trans _ _ h1 h2 => exact h1.trans h2
theorem rep_rng {α : Type} (x : α) : ∀ k : Nat, (List.replicate k [x]).flatten = (List.range k).map fun _ => x
  | 0 => rfl
  | k + 1 => by
    rw [List.replicate_succ', List.flatten_append, rep_rng x k, List.range_succ, List.map_append]
    rfl
theorem ixN_nat {n k : Nat} (h : k < n) : ixN n (k : Int) = some k := by
  unfold ixN
  rw [if_pos (by omega), if_pos (by omega)]
  simp
theorem set_rng {α : Type} {F F' : Nat → α} {n k : Nat} {v : α} (h : ∀ j, j < n → j ≠ k → F j = F' j) (hk : F' k = v) : ((List.range n).map F).set k v = (List.range n).map F' := by
  refine List.ext_getElem? fun j => ?_
  rw [List.getElem?_set]
  by_cases hj : j < n
  · by_cases e : k = j
    · subst e
      rw [if_pos rfl, if_pos (by rw [List.length_map, List.length_range]; exact hj), rng_get _ hj, hk]
    · rw [if_neg e, rng_get _ hj, rng_get _ hj, h j hj (fun z => e z.symm)]
  · have o1 : ((List.range n).map F)[j]? = none := List.getElem?_eq_none_iff.mpr (by rw [List.length_map, List.length_range]; omega)
    have o2 : ((List.range n).map F')[j]? = none := List.getElem?_eq_none_iff.mpr (by rw [List.length_map, List.length_range]; omega)
    rw [o1, o2]
    split
    · rw [if_neg (by rw [List.length_map, List.length_range]; omega)]
    · rfl
theorem setF_size (tt : Nat → Tr) (k : Nat) (u : Tr) : (fun j => (setF tt k u j).size) = setF (fun j => (tt j).size) k u.size := by
  funext j
  unfold setF
  split <;> rfl
structure Rows (H0 H' : Hp) (p ro de : Addr) (n k : Nat) (par dep : Nat → Nat) (ad : Nat → Addr) : Prop where
  fr : Fr p H0 H'
  pool : Pool H' p n
  ro_ : H' ro = some (.lst ((List.range k).map fun j => V.ref (ad j)))
  de_ : H' de = some (.lst ((List.range k).map fun j => V.int (dep j : Nat)))
  row : ∀ j, j < k → H' (ad j) = some (.lst ((rowOf par k j).map fun i : Nat => V.int (i : Nat)))
  new : H0 ro = none ∧ H0 de = none ∧ ro ≠ de
  off : ∀ j, j < k → H0 (ad j) = none ∧ ad j ≠ ro ∧ ad j ≠ de
  inj : ∀ i j, i < k → j < k → ad i = ad j → i = j
  par_ : ∀ j, 1 ≤ j → j < k → par j < j ∧ dep j = dep (par j) + 1
  dep_ : ∀ j, j < k → 1 ≤ dep j ∧ dep j ≤ 30
  dep0 : dep 0 = 1
theorem Rows.go {H0 H' H2 : Hp} {p ro de : Addr} {n n2 k : Nat} {par dep : Nat → Nat} {ad : Nat → Addr} (R : Rows H0 H' p ro de n k par dep ad) (hp : H0 p ≠ none) (f : Fr p H' H2) (p2 : Pool H2 p n2) : Rows H0 H2 p ro de n2 k par dep ad := by
  have np : ∀ b, H0 b = none → b ≠ p := fun b h e => hp (by rw [← e]; exact h)
  exact ⟨R.fr.trans f, p2, f _ _ (np _ R.new.1) R.ro_, f _ _ (np _ R.new.2.1) R.de_, fun j hj => f _ _ (np _ (R.off j hj).1) (R.row j hj), R.new, R.off, R.inj, R.par_, R.dep_, R.dep0⟩
theorem Rows.step {H0 H' : Hp} {p ro de b : Addr} {n k h : Nat} {par dep : Nat → Nat} {ad : Nat → Addr} (R : Rows H0 H' p ro de n k par dep ad) (hp : H0 p ≠ none) (hk : 1 ≤ k) (hh : h < k) (hd : dep h ≤ 29)
    (hb : (upd H' (ad h) (.lst (((rowOf par k h).map fun i : Nat => V.int (i : Nat)) ++ [V.int (k : Nat)]))) b = none) :
    Rows H0 (upd (upd (upd (upd H' (ad h) (.lst (((rowOf par k h).map fun i : Nat => V.int (i : Nat)) ++ [V.int (k : Nat)]))) b (.lst [])) ro (.lst (((List.range k).map fun j => V.ref (ad j)) ++ [V.ref b]))) de (.lst (((List.range k).map fun j => V.int (dep j : Nat)) ++ [V.int ((dep h + 1 : Nat) : Int)])))
      p ro de n (k + 1) (setF par k h) (setF dep k (dep h + 1)) (setF ad k b) := by
  have np : ∀ b, H0 b = none → b ≠ p := fun b h e => hp (by rw [← e]; exact h)
  obtain ⟨n1, n2, n3⟩ := R.new
  have nah := R.off h hh
  have nb1 : b ≠ ad h := fun e => by rw [e, upd_same] at hb; cases hb
  have hb' : H' b = none := by rw [upd_ne nb1] at hb; exact hb
  have hb0 : H0 b = none := R.fr.free R.pool.some hb'
  have nbr : b ≠ ro := fun e => by rw [e, R.ro_] at hb'; cases hb'
  have nbd : b ≠ de := fun e => by rw [e, R.de_] at hb'; cases hb'
  have nba : ∀ j, j < k → b ≠ ad j := fun j hj e => by rw [e, R.row j hj] at hb'; cases hb'
  refine ⟨?_, ?_, ?_, ?_, fun j hj => ?_, R.new, fun j hj => ?_, fun i j hi hj e => ?_, fun j h1 hj => ?_, fun j hj => ?_, ?_⟩
  · intro c o hc e
    rw [upd_ne (ne_of_none e n2), upd_ne (ne_of_none e n1), upd_ne (ne_of_none e hb0), upd_ne (ne_of_none e nah.1)]
    exact R.fr c o hc e
  · exact (((R.pool.upd (np _ nah.1)).upd (np _ hb0)).upd (np _ n1)).upd (np _ n2)
  · rw [upd_ne n3, upd_same, rng_set V.ref]
  · rw [upd_same, rng_set (fun d : Nat => V.int (d : Nat))]
  · by_cases e : j = k
    · subst e
      rw [setF_same, upd_ne nbd, upd_ne nbr, upd_same, row_succ _ _ _ _ hk, if_neg (by omega), row_out par j j (fun i a c => (R.par_ i a c).1) (Nat.le_refl _)]
      rfl
    · have hj' : j < k := by omega
      have o := R.off j hj'
      rw [setF_ne e, upd_ne o.2.2, upd_ne o.2.1, upd_ne (fun z => nba j hj' z.symm), row_succ _ _ _ _ hk]
      by_cases ej : j = h
      · subst ej
        rw [upd_same, if_pos rfl, List.map_append]
        rfl
      · rw [upd_ne (fun z => ej (R.inj j h hj' hh z)), if_neg ej, List.append_nil]
        exact R.row j hj'
  · by_cases e : j = k
    · subst e
      rw [setF_same]
      exact ⟨hb0, nbr, nbd⟩
    · rw [setF_ne e]
      exact R.off j (by omega)
  · by_cases e1 : i = k
    · by_cases e2 : j = k
      · omega
      · rw [e1, setF_same, setF_ne e2] at e
        exact absurd e (nba j (by omega))
    · by_cases e2 : j = k
      · rw [e2, setF_same, setF_ne e1] at e
        exact absurd e.symm (nba i (by omega))
      · rw [setF_ne e1, setF_ne e2] at e
        exact R.inj i j (by omega) (by omega) e
  · by_cases e : j = k
    · subst e
      rw [setF_same, setF_same, setF_ne (by omega)]
      exact ⟨hh, rfl⟩
    · have q := R.par_ j h1 (by omega)
      rw [setF_ne e, setF_ne e, setF_ne (by omega)]
      exact q
  · by_cases e : j = k
    · subst e
      rw [setF_same]
      omega
    · rw [setF_ne e]
      exact R.dep_ j (by omega)
  · rw [setF_ne (by omega)]
    exact R.dep0
def sp__law_grown : Sp := fun vs H Q _ => ∃ (p : Addr) (n : Nat) (m : Nat) (L : Str), vs = [.ref p, .int m, .str L] ∧ Pool H p n ∧ n + 20000 < 1000000 ∧ 1 ≤ m ∧ m ≤ 100 ∧ Lets L ∧
  ∀ r t H', t.size ≤ m → t.depth ≤ 30 → t.lets (fun c => c ∈ L.cps.toList) → Fr p H H' → TrAt (fun b => H b = none) H' r t → Pool H' p (n + 20000) → Q r H'
section
variable {P : Program} {w : World} {K : PySem.W.Frag} {mg : Str → Option Value} {base : Heap}
theorem ok__law_grown (T : Txt K mg) : FnOk P w K mg base CX0 3 T.f__law_grown T.d__law_grown ["pool", "most", "letters"] sp__law_grown := by
  have G__law_take : FnOk P w K mg base CX0 1 T.f__law_take T.d__law_take ["pool", "many"] sp__law_take := ok__law_take T
  have G__law_mixed_up : FnOk P w K mg base CX0 2 T.f__law_mixed_up T.d__law_mixed_up ["pool", "things"] (sp__law_mixed_up K) := ok__law_mixed_up T
  refine T.F__law_grown.ok sc__law_grown (fun vs H Q E h => ?_) (fun cdv A outer s H vs Q E hr h => ?_)
  · obtain ⟨p, n, m, L, rfl, _⟩ := h
    rfl
  obtain ⟨p, n, m, L, rfl, hp, hn, hm0, hm1, hL, q⟩ := h
  refine ⟨_, (pss_cons (ps_set (i := 3) sc__law_grown.nd rfl (Or.inl rfl) (pe_op op_add pe_int (pe_ix ix_list (pe_lst (pa_cons (pe_call G__law_take (hr.mono (by omega)) (by rfl) T.m__law_take T.F__law_take.kp T.b__law_take .nil pass0 (pa_cons (pv 0) (pa_cons (pe_callB (call_min2 rfl) (by rfl) T.z_min (by decide +kernel) (pa_cons (pv 1) (pa_cons pe_int pa_nil))) pa_nil))) (pa_cons (pe_call G__law_take (hr.mono (by omega)) (by rfl) T.m__law_take T.F__law_take.kp T.b__law_take .nil pass0 (pa_cons (pv 0) (pa_cons (pv 1) pa_nil))) pa_nil))) (pe_call G__law_take (hr.mono (by omega)) (by rfl) T.m__law_take T.F__law_take.kp T.b__law_take .nil pass0 (pa_cons (pv 0) (pa_cons pe_int pa_nil))) (fun _ _ => rfl)))) (pss_cons (ps_set (i := 4) sc__law_grown.nd rfl (Or.inl rfl) (pe_call G__law_take (hr.mono (by omega)) (by rfl) T.m__law_take T.F__law_take.kp T.b__law_take .nil pass0 (pa_cons (pv 0) (pa_cons pe_int pa_nil)))) (pss_cons (ps_set (i := 5) sc__law_grown.nd rfl (Or.inl rfl) (pe_lst (pa_cons pe_int pa_nil))) (pss_cons (ps_set (i := 6) sc__law_grown.nd rfl (Or.inl rfl) (pe_lst (pa_cons (pe_lst pa_nil) pa_nil))) (pss_cons (ps_for PassesOwn.never rfl (pi_range2 (by rfl) T.z_range (pa_cons pe_int (pa_cons (pv 3) pa_nil))) (pg_name (i := 7) sc__law_grown.nd rfl (Or.inl rfl)) (pss_cons (ps_set (i := 8) sc__law_grown.nd rfl (Or.inl rfl) (pe_ix ix_list (pe_lst (pa_cons (pe_call G__law_take (hr.mono (by omega)) (by rfl) T.m__law_take T.F__law_take.kp T.b__law_take .nil pass0 (pa_cons (pv 0) (pa_cons (pv 7) pa_nil))) (pa_cons (pe_op op_sub (pv 7) pe_int) (pa_cons (pe_call G__law_take (hr.mono (by omega)) (by rfl) T.m__law_take T.F__law_take.kp T.b__law_take .nil pass0 (pa_cons (pv 0) (pa_cons (pe_callB (call_min2 rfl) (by rfl) T.z_min (by decide +kernel) (pa_cons (pv 7) (pa_cons pe_int pa_nil))) pa_nil))) pa_nil)))) (pv 4) (fun _ _ => rfl))) (C8.pss_cut (ps_if (pt_cmpR op_gt (pe_ix ix_list (pv 5) (pv 8) (fun _ _ => rfl)) pe_int (nomark _)) (pss_one (ps_set (i := 8) sc__law_grown.nd rfl (Or.inl rfl) pe_int)) pss_nil) (pss_cons (ps_expr (pe_bm PySem.F.plainAttrs_list PySem.F.slot_list_append PySem.F.type_list_append mt_append (pe_ix ix_list (pv 6) (pv 8) (fun _ _ => rfl)) (pa_cons (pv 7) pa_nil))) (pss_cons (ps_expr (pe_bm PySem.F.plainAttrs_list PySem.F.slot_list_append PySem.F.type_list_append mt_append (pv 6) (pa_cons (pe_lst pa_nil) pa_nil))) (pss_one (ps_expr (pe_bm PySem.F.plainAttrs_list PySem.F.slot_list_append PySem.F.type_list_append mt_append (pv 5) (pa_cons (pe_op op_add (pe_ix ix_list (pv 5) (pv 8) (fun _ _ => rfl)) pe_int) pa_nil))))))))) (pss_cons (ps_set (i := 9) sc__law_grown.nd rfl (Or.inr rfl) (pe_op op_rep (pe_lst (pa_cons pe_non pa_nil)) (pv 3))) (pss_cons (ps_for PassesOwn.never rfl (pi_range3 (by rfl) T.z_range (pa_cons (pe_op op_sub (pv 3) pe_int) (pa_cons (pe_un un_neg pe_int) (pa_cons (pe_un un_neg pe_int) pa_nil)))) (pg_name (i := 7) sc__law_grown.nd rfl (Or.inl rfl)) (pss_cons (ps_setLc (i := 10) (own := [("child", 11)]) (g := gName 11) (te := tOp (rIxL K) (tVar 9) (tVar 11)) (tt := tYes) rfl sc__law_grown.nd rfl rfl (sw_true rfl rfl rfl (by decide +kernel)) (pi_list (pe_call G__law_mixed_up (hr.mono (by omega)) (by rfl) T.m__law_mixed_up T.F__law_mixed_up.kp T.b__law_mixed_up .nil pass0 (pa_cons (pv 0) (pa_cons (pe_ix ix_list (pv 6) (pv 7) (fun _ _ => rfl)) pa_nil)))) (blkOk_by (own := [("child", 11)]) (N := ["pool", "most", "letters", "many", "way", "depths", "rows", "k", "head", "trees", "children", "child"]) (sc := (defScope s__law_grown)) (by decide +kernel)) (fun _ _ _ _ _ => (pg_name (i := 11) sc__law_grown.nd rfl (Or.inl rfl))) (fun _ _ _ _ _ => pts_nil) (fun _ _ _ _ _ => (pe_ix ix_list (pv 9) (pv 11) (fun _ _ => rfl)))) (pss_one (ps_asg (pe_tup (pa_cons (pe_ix ix_str (pv 2) (pe_call G__law_take (hr.mono (by omega)) (by rfl) T.m__law_take T.F__law_take.kp T.b__law_take .nil pass0 (pa_cons (pv 0) (pa_cons (pe_callB call_len_str (by rfl) T.z_len PySem.boot_len (pa_cons (pv 2) pa_nil)) pa_nil))) (fun _ _ => rfl)) (pa_cons (pv 10) pa_nil))) (pg_sub (pv 9) (pv 7) set_list))))) (pss_one (ps_ret (pe_ix ix_list (pv 9) pe_int (fun _ _ => rfl))))))))))), ?_⟩
  refine ⟨_, rfl, _, rfl, m, 7, rfl, p, _, n, rfl, hp, by omega, ?_, ?_, fun r1 H1 a0 a1 c1 p1 => ?_⟩
  · split <;> omega
  · split <;> omega
  refine ⟨_, rfl, _, rfl, p, m, n + 1, rfl, p1, by omega, by omega, by omega, fun r2 H2 b0 b1 c2 p2 => ?_⟩
  refine ⟨(by show 2 ≤ sizeLine; decide), fun l1 hl1 => ?_⟩
  refine ⟨_, rfl, p, 2, n + 2, rfl, p2.new hl1, by omega, by decide, by decide, fun r3 H3 d0 d1 c3 p3 => ?_⟩
  have nl1 : l1 ≠ p := p2.ne' hl1
  have hl3 := c3.at (upd_same (H := H2) (a := l1) (o := .lst [.int r1, .int r2])) nl1
  obtain ⟨many, hmany, hmv⟩ : ∃ many : Nat, (1 ≤ many ∧ many ≤ m) ∧ ∃ z : Int, atI [V.int r1, V.int r2] r3 = some (.int z) ∧ 1 + z = (many : Int) := by
    have a1' : r1 < m := by
      have := a1
      split at this <;> omega
    by_cases e : r3 = 0
    · subst e
      exact ⟨(1 + r1).toNat, by omega, r1, atI_nat (j := 0) rfl, by omega⟩
    · have e1 : r3 = 1 := by omega
      subst e1
      exact ⟨(1 + r2).toNat, by omega, r2, atI_nat (j := 1) rfl, by omega⟩
  obtain ⟨z, hz, hzm⟩ := hmv
  refine ⟨l1, _, r3, _, rfl, rfl, SqL.of hl3, hz, 1, z, rfl, rfl, ?_⟩
  have f3 : Fr p H H3 := (((Fr.chg c1).trans (Fr.chg c2)).new (by
    have := (c1.trans c2) l1 nl1
    rw [hl1] at this
    exact this.symm)).trans (Fr.chg c3)
  refine ⟨_, rfl, p, 3, n + 3, rfl, p3, by omega, by decide, by decide, fun way H4 w0 w1 c4 p4 => ?_⟩
  refine ⟨(by show 1 ≤ sizeLine; decide), fun de hde => ?_⟩
  refine ⟨(by show 0 ≤ sizeLine; decide), fun a0_ ha0 => ⟨(by show 1 ≤ sizeLine; decide), fun ro hro => ?_⟩⟩
  have n0 : H4 de = none := hde
  have na0 : a0_ ≠ de := fun e => by rw [e, upd_same] at ha0; cases ha0
  have ha0' : H4 a0_ = none := by rw [upd_ne na0] at ha0; exact ha0
  have nro1 : ro ≠ a0_ := fun e => by rw [e, upd_same] at hro; cases hro
  have hro1 := hro
  rw [upd_ne nro1] at hro1
  have nro2 : ro ≠ de := fun e => by rw [e, upd_same] at hro1; cases hro1
  rw [upd_ne nro2] at hro1
  have f4 : Fr p H H4 := f3.trans (Fr.chg c4)
  have e0 : ∀ {b}, H4 b = none → H b = none := fun h => f4.free p4.some h
  have hps : H p ≠ none := hp.some
  have np : ∀ b, H b = none → b ≠ p := fun b h e => hps (by rw [← e]; exact h)
  have R0 : Rows H (upd (upd (upd H4 de (.lst [V.int 1])) a0_ (.lst [])) ro (.lst [V.ref a0_])) p ro de (n + 4) 1 (fun _ => 0) (fun _ => 1) (fun _ => a0_) := by
    refine ⟨((f4.new (e0 hde)).new (e0 ha0')).new (e0 hro1), ?_, upd_same, by rw [upd_ne (fun e => nro2 e.symm), upd_ne (fun e => na0 e.symm)]; exact upd_same, fun j hj => ?_, ⟨e0 hro1, e0 hde, nro2⟩, fun j hj => ⟨e0 ha0', fun e => nro1 e.symm, na0⟩, fun i j hi hj _ => by omega, fun j h1 h2 => by omega, fun j hj => ⟨Nat.le_refl _, by decide⟩, rfl⟩
    · exact ((p4.upd (np _ (e0 hde))).upd (np _ (e0 ha0'))).upd (np _ (e0 hro1))
    · rw [upd_ne (fun e => nro1 e.symm)]
      exact upd_same
  refine ⟨_, rfl, 1, many, congrArg (fun x => [V.int 1, V.int x]) hzm, ⟨by decide, by decide, by omega, by omega⟩, for_range (lo := 1) (n := ((many : Int) - 1).toNat)
    (fun i σ H' => ∃ par dep ad y7 y8 y9 y10 y11, σ = [some (.ref p), some (.int m), some (.str L), some (.int many), some (.int way), some (.ref de), some (.ref ro), y7, y8, y9, y10, y11] ∧ Rows H H' p ro de (n + 4 + 2 * i) (1 + i) par dep ad)
    ⟨_, _, _, none, none, none, none, none, by rw [← hzm]; rfl, R0⟩ ?_ ?_⟩
  · rintro i σ H5 hi ⟨par, dep, ad, y7, y8, y9, y10, y11, rfl, R⟩
    have hk : 1 + i < many := by omega
    rw [show (1 : Int) + (i : Int) = ((1 + i : Nat) : Int) by omega]
    refine ⟨_, rfl, _, rfl, p, _, _, rfl, R.pool, by omega, by omega, by omega, fun s1 H6 a0 a1 c6 p6 => ?_⟩
    refine ⟨_, rfl, _, 1, rfl, rfl, _, rfl, _, rfl, _, 3, rfl, p, _, _, rfl, p6, by omega, ?_, ?_, fun s2 H7 b0 b1 c7 p7 => ?_⟩
    · split <;> omega
    · split <;> omega
    refine ⟨(by show 3 ≤ sizeLine; decide), fun e he => ?_⟩
    obtain ⟨hd, hdk, hdv⟩ : ∃ hd : Nat, hd < 1 + i ∧ atI [V.int s1, V.int (((1 + i : Nat) : Int) - 1), V.int s2] way = some (.int (hd : Nat)) := by
      have b1' : s2 < ((1 + i : Nat) : Int) := by
        have := b1
        split at this <;> omega
      obtain rfl | rfl | rfl : way = 0 ∨ way = 1 ∨ way = 2 := by omega
      · exact ⟨s1.toNat, by omega, at_of (j := 0) rfl (congrArg (fun z => some (V.int z)) (show s1 = ((s1.toNat : Nat) : Int) by omega))⟩
      · exact ⟨i, by omega, at_of (j := 1) rfl (congrArg (fun z => some (V.int z)) (show ((1 + i : Nat) : Int) - 1 = (i : Int) by omega))⟩
      · exact ⟨s2.toNat, by omega, at_of (j := 2) rfl (congrArg (fun z => some (V.int z)) (show s2 = ((s2.toNat : Nat) : Int) by omega))⟩
    have R7 : Rows H (upd H7 e (.lst [V.int s1, V.int (((1 + i : Nat) : Int) - 1), V.int s2])) p ro de (n + 4 + 2 * i + 2) (1 + i) par dep ad :=
      R.go hps ((Fr.chg (c6.trans c7)).new (by
        have := (c6.trans c7) e (p7.ne' he)
        rw [he] at this
        exact this.symm)) (p7.new he)
    refine ⟨_, rfl, e, _, way, _, rfl, rfl, SqL.of upd_same, hdv, ?_⟩
    generalize (upd H7 e (.lst [V.int s1, V.int (((1 + i : Nat) : Int) - 1), V.int s2])) = H8 at R7
    refine ⟨fun σ' H' => ∃ hd : Nat, hd < 1 + i ∧ dep hd ≤ 29 ∧ H' = H8 ∧ σ' = [some (.ref p), some (.int m), some (.str L), some (.int many), some (.int way), some (.ref de), some (.ref ro), some (.int ((1 + i : Nat) : Int)), some (.int (hd : Nat)), y9, y10, y11], ?_, ?_⟩
    · refine ⟨_, rfl, _, rfl, de, _, hd, _, rfl, rfl, SqL.of R7.de_, at_of (j := hd) rfl (rng_get _ hdk), _, 28, rfl, rfl, _, rfl, ?_⟩
      refine ite2 (fun c => ?_) (fun c => ?_)
      · exact ⟨0, by omega, by rw [R7.dep0]; decide, rfl, rfl⟩
      · have c' : ¬ (28 : Int) < (dep hd : Nat) := of_decide_eq_false (Bool.eq_false_iff.mpr c)
        exact ⟨hd, hdk, by omega, rfl, rfl⟩
    · rintro σ' H' ⟨hd, hdk, hd29, rfl, rfl⟩
      have rl := row_len par (1 + i) hd
      refine ⟨_, rfl, _, rfl, ro, _, hd, _, rfl, rfl, SqL.of R7.ro_, at_of (j := hd) rfl (rng_get _ hdk), .inl ⟨rfl, _, SqL.of (R7.row hd hdk)⟩, _, rfl, ad hd, _, _, rfl, rfl, R7.row hd hdk, ?_, ?_⟩
      · rw [List.length_map]
        exact small1000 (by omega)
      have o := R7.off hd hdk
      have hro9 : (upd H' (ad hd) (.lst (((rowOf par (1 + i) hd).map fun i : Nat => V.int (i : Nat)) ++ [V.int ((1 + i : Nat) : Int)]))) ro = some (.lst ((List.range (1 + i)).map fun j => V.ref (ad j))) := by
        rw [upd_ne (fun z => o.2.1 z.symm)]
        exact R7.ro_
      refine ⟨_, rfl, .inl ⟨rfl, _, SqL.of hro9⟩, (by show 0 ≤ sizeLine; decide), fun b hb => ?_⟩
      have nrb : ro ≠ b := ne_of_none hro9 hb
      refine ⟨ro, _, .ref b, rfl, rfl, by rw [upd_ne nrb]; exact hro9, by rw [List.length_map, List.length_range]; exact small1000 (by omega), ?_⟩
      have hde9 : (upd H' (ad hd) (.lst (((rowOf par (1 + i) hd).map fun i : Nat => V.int (i : Nat)) ++ [V.int ((1 + i : Nat) : Int)]))) de = some (.lst ((List.range (1 + i)).map fun j => V.int (dep j : Nat))) := by
        rw [upd_ne (fun z => o.2.2 z.symm)]
        exact R7.de_
      have hde10 : ∀ o1 o2, (upd (upd (upd H' (ad hd) (.lst (((rowOf par (1 + i) hd).map fun i : Nat => V.int (i : Nat)) ++ [V.int ((1 + i : Nat) : Int)]))) b o1) ro o2) de = some (.lst ((List.range (1 + i)).map fun j => V.int (dep j : Nat))) := fun o1 o2 => by
        rw [upd_ne (fun z => R7.new.2.2 z.symm), upd_ne (ne_of_none hde9 hb)]
        exact hde9
      refine ⟨_, rfl, .inl ⟨rfl, _, SqL.of (hde10 _ _)⟩, _, rfl, _, rfl, de, _, hd, _, rfl, rfl, SqL.of (hde10 _ _), at_of (j := hd) rfl (rng_get _ hdk), _, 1, rfl, rfl, de, _, _, rfl, rfl, hde10 _ _, by rw [List.length_map, List.length_range]; exact small1000 (by omega), ?_⟩
      have R8 := R7.step hps (by omega) hdk hd29 hb
      exact ⟨_, _, _, _, _, _, _, _, rfl, R8⟩
  · rintro σ H5 ⟨par, dep, ad, y7, y8, y9, y10, y11, rfl, R⟩
    have ek : 1 + ((many : Int) - 1).toNat = many := by omega
    rw [ek] at R
    refine ⟨(by show 1 ≤ sizeLine; decide), fun t0 ht0 => ⟨_, rfl, t0, many, [.non], rfl, rfl, upd_same, by omega, by omega, Nat.le_trans (show 1 * (many : Int).toNat ≤ 1000 by omega) (by decide), fun tr htr => ?_⟩⟩
    have nt : tr ≠ t0 := fun e => by rw [e, upd_same] at htr; cases htr
    have htr5 : H5 tr = none := by rw [upd_ne nt] at htr; exact htr
    have htr0 : H tr = none := R.fr.free R.pool.some htr5
    have ntp : tr ≠ p := np _ htr0
    refine ⟨_, rfl, _, 1, rfl, rfl, _, rfl, _, rfl, (many : Int) - 1, -1, -1, many, rfl, ?_, for_rangeC (lo := (many : Int) - 1) (c := -1) (n := many)
      (fun i σ H' => ∃ tv tt y7 y8 y10 y11, σ = [some (.ref p), some (.int m), some (.str L), some (.int many), some (.int way), some (.ref de), some (.ref ro), y7, y8, some (.ref tr), y10, y11] ∧
        H' tr = some (.lst ((List.range many).map fun j => if many - i ≤ j then tv j else .non)) ∧ (∀ j, many - i ≤ j → j < many → TrAt (fun b => H b = none ∧ b ≠ tr) H' (tv j) (tt j) ∧ (tt j).depth + dep j ≤ 31 ∧ (tt j).lets (fun c => c ∈ L.cps.toList)) ∧
        tot par (fun j => (tt j).size) (many - i) many = i ∧ Fr p H5 H' ∧ Pool H' p (n + 300 + 101 * i))
      ⟨fun _ => .non, fun _ => .node 97 [], _, _, _, _, rfl, ?_, fun j h1 h2 => by omega, tot_none _ _ _ _ (by omega), ((Fr.refl p H5).new (by exact ht0)).new htr5, ((R.pool.new ht0).new htr).mono (by omega)⟩ ?_ ?_⟩
    · have e := RgC.neg (i := (many : Int) - 1) (j := -1) (by omega) (by omega) (by omega) (by omega)
      rw [show ((many : Int) - 1 - -1).toNat = many by omega] at e
      exact e
    · rw [upd_same, show (many : Int).toNat = many by omega, rep_rng]
      refine congrArg (fun z => some (HO.lst z)) (List.map_congr_left fun j hj => ?_)
      rw [if_neg (by have := List.mem_range.mp hj; omega)]
    · rintro i σ H6 hi ⟨tv, tt, y7, y8, y10, y11, rfl, hT, hTr, hTot, f6, p6⟩
      obtain ⟨k, hk⟩ : ∃ k : Nat, k + 1 + i = many := ⟨many - 1 - i, by omega⟩
      rw [show (many : Int) - 1 + (i : Int) * -1 = (k : Int) by omega]
      have R6 := R.go hps f6 p6
      have hkm : k < many := by omega
      have rl := row_len par many k
      refine ⟨_, rfl, _, rfl, _, rfl, ro, _, k, _, rfl, rfl, SqL.of R6.ro_, at_of (j := k) rfl (rng_get _ hkm), p, ad k, _, _, rfl, p6, by rw [List.length_map]; omega, SqL.of (R6.row k hkm), ?_, fun mm ws H7 pw m0 f7 hm p7 => ?_⟩
      · intro H' f v hv
        obtain ⟨c, _, rfl⟩ := List.mem_map.mp hv
        exact datOk_int _
      obtain ⟨us, pu, rfl⟩ := perm_map _ pw rfl
      have lu : us.length = (rowOf par many k).length := pu.length_eq.symm
      have mem : ∀ c ∈ us, 1 ≤ c ∧ par c = k ∧ c < many ∧ k < c := fun c hc => by
        have a := row_mem (pu.mem_iff.mpr hc)
        have b := (R.par_ c a.1 a.2.2).1
        omega
      refine ⟨mm, rfl, ⟨_, SqL.of hm⟩, fun D hD => ?_⟩
      have hD6 : H6 D = none := f7.free p7.some hD
      have hD0 : H D = none := R6.fr.free p6.some hD6
      have nDt : D ≠ tr := fun e => by rw [e, hT] at hD6; cases hD6
      have hT7 := f7 _ _ ntp hT
      have nmD : mm ≠ D := ne_of_none hm hD
      refine lc_list (xs := us.map fun i : Nat => V.int (i : Nat)) (fun j H8 => H8 = upd H7 D (.lst ((us.take j).map tv))) rfl (fun j H8 _ e => by rw [e]; exact SqL.of (by rw [upd_ne nmD]; exact hm)) ?_ ?_
      · rintro j x H8 hx rfl
        rw [List.getElem?_map] at hx
        cases hc : us[j]? with
        | none => rw [hc] at hx; cases hx
        | some c =>
          rw [hc] at hx
          cases hx
          have hcm := mem c (List.mem_of_getElem? hc)
          have hg : ((List.range many).map fun j => if many - i ≤ j then tv j else .non)[c]? = some (tv c) := by
            rw [rng_get _ hcm.2.2.1, if_pos (by omega)]
          refine ⟨rfl, _, rfl, _, rfl, tr, _, c, tv c, rfl, rfl, SqL.of (by rw [upd_ne (fun z => nDt z.symm)]; exact hT7), at_of (j := c) rfl hg, _, upd_same, ?_, ?_⟩
          · rw [List.length_map, List.length_take]
            exact small1000 (by omega)
          · rw [upd_upd, take_succ_of hc, List.map_append]
            rfl
      · rintro H8 rfl
        rw [List.length_map, List.take_length]
        have hT8 : (upd H7 D (.lst (us.map tv))) tr = some (.lst ((List.range many).map fun j => if many - i ≤ j then tv j else .non)) := by
          rw [upd_ne (fun z => nDt z.symm)]
          exact hT7
        have hLs : L.cps.toList.length = L.length := by
          show L.cps.toList.length = L.cps.size
          exact Array.length_toList
        have p8 : Pool (upd H7 D (.lst (us.map tv))) p _ := p7.new hD
        refine ⟨_, rfl, _, rfl, _, rfl, L, rfl, Nat.le_trans hL.2.1 (by decide), p, _, _, rfl, p8, by rw [List.length_map]; omega, by have := hL.1; omega, by have := hL.2.1; omega, fun r H9 r0 r1 c9 p9 => ?_⟩
        obtain ⟨rn, rfl⟩ : ∃ rn : Nat, r = (rn : Int) := ⟨r.toNat, by omega⟩
        have hrn : rn < L.cps.toList.length := by rw [hLs]; omega
        obtain ⟨c, hc⟩ : ∃ c, L.cps.toList[rn]? = some c := ⟨_, List.getElem?_eq_getElem hrn⟩
        have cL := hL.2.2 c (List.mem_of_getElem? hc)
        refine ⟨L, rn, c, rfl, rfl, Nat.le_trans hL.2.1 (by decide), atI_nat hc, _, rfl, (by show 2 ≤ sizeLine; decide), fun g hg => ?_⟩
        have hT9 := c9.at hT8 ntp
        have ngt : g ≠ tr := fun e => by rw [e, hT9] at hg; cases hg
        have f9 : Fr p H6 H9 := (f7.new hD6).trans (Fr.chg c9)
        have hg6 : H6 g = none := f9.free p9.some hg
        have hg0 : H g = none := R6.fr.free p6.some hg6
        have hD9 : H9 D = some (.lst (us.map tv)) := c9.at upd_same (np _ hD0)
        have nDg : D ≠ g := ne_of_none hD9 hg
        refine ⟨_, rfl, _, rfl, tr, _, k, k, rfl, rfl, by rw [upd_ne (fun z => ngt z.symm)]; exact hT9, ixN_nat (by rw [List.length_map, List.length_range]; exact hkm), ?_⟩
        have keep : ∀ v t, TrAt (fun b => H b = none ∧ b ≠ tr) H6 v t → ∀ o, TrAt (fun b => H b = none ∧ b ≠ tr) (upd (upd H9 g (.tup [.str (ch c), .ref D])) tr o) v t := fun v t h o =>
          ((h.keep fun b o k e => f9 b o (np b k.1) e).same (same_new hg)).keep (upd_keep fun b k => k.2)
        refine ⟨setF tv k (.ref g), setF tt k (.node c (us.map tt)), _, _, _, _, rfl, ?_, ?_, ?_, ?_, ?_⟩
        · rw [upd_same]
          refine congrArg (fun z => some (HO.lst z)) (set_rng (fun j hj ne => ?_) ?_)
          · rw [setF_ne ne]
            by_cases e : many - i ≤ j
            · rw [if_pos e, if_pos (by omega)]
            · rw [if_neg e, if_neg (by omega)]
          · rw [if_pos (by omega), setF_same]
        · intro j h1 h2
          by_cases e : j = k
          · subst e
            rw [setF_same, setF_same]
            refine ⟨.node (by rw [upd_ne ngt]; exact upd_same) (by rw [upd_ne nDt, upd_ne nDg]; exact hD9) ⟨hg0, ngt⟩ ⟨hD0, nDt⟩ cL.1 cL.2 (trs_map tv tt fun d hd => keep _ _ (hTr d (by have := mem d hd; omega) (mem d hd).2.2.1).1 _), ?_, ?_⟩
            · have := depths_map tt (30 - dep j) us fun d hd => by
                have a := mem d hd
                have b := (hTr d (by omega) a.2.2.1).2.1
                have e := (R.par_ d a.1 a.2.2.1).2
                rw [a.2.1] at e
                omega
              have b := R.dep_ j hkm
              simp only [Tr.depth]
              omega
            · simp only [Tr.lets]
              exact ⟨List.mem_of_getElem? hc, letss_map tt us fun d hd => (hTr d (by have := mem d hd; omega) (mem d hd).2.2.1).2.2⟩
          · rw [setF_ne e, setF_ne e]
            have a := hTr j (by omega) h2
            exact ⟨keep _ _ a.1 _, a.2⟩
        · have st := tot_step par (fun j => (tt j).size) k (1 + sizes (us.map tt)) many fun j a b => (R.par_ j a b).1
          rw [← rowSum_eq, if_pos hkm, sum_perm (pu.map fun j => (tt j).size)] at st
          rw [setF_size, show many - (i + 1) = k by omega]
          rw [show many - i = k + 1 by omega] at hTot
          simp only [Tr.size]
          rw [sizes_map] at st ⊢
          omega
        · intro b o hb e
          rw [upd_ne (ne_of_none e htr5)]
          exact same_new hg _ _ (f9 b o hb (f6 b o hb e))
        · refine ((p9.new hg).upd ntp).mono ?_
          rw [List.length_map]
          omega
    · rintro σ H6 ⟨tv, tt, y7, y8, y10, y11, rfl, hT, hTr, hTot, f6, p6⟩
      have h0 := hTr 0 (by omega) (by omega)
      rw [show many - many = 0 by omega] at hTot
      obtain ⟨m', rfl⟩ : ∃ m', many = m' + 1 := ⟨many - 1, by omega⟩
      rw [tot_top] at hTot
      have hd0 := R.dep0
      refine ⟨_, rfl, tr, _, 0, tv 0, rfl, rfl, SqL.of hT, at_of (j := 0) rfl (by rw [rng_get _ (by omega), if_pos (by omega)]), ?_⟩
      refine q _ (tt 0) _ (by omega) (by omega) h0.2.2 (R.fr.trans f6) (h0.1.weak fun b k => k.1) (p6.mono (by omega))
end

section
variable {P : Program} {w : World} {K : PySem.W.Frag} {mg : Str → Option Value} {base : Heap}
theorem ok__law_letters (T : Txt K mg) : FnOk P w K mg base CX0 2 T.f__law_letters T.d__law_letters ["pool"] sp__law_letters := by
  have G__law_take : FnOk P w K mg base CX0 1 T.f__law_take T.d__law_take ["pool", "many"] sp__law_take := ok__law_take T
  refine T.F__law_letters.ok sc__law_letters (fun vs H Q E h => ?_) (fun cdv A outer s H vs Q E hr h => ?_)
  · obtain ⟨p, n, rfl, _⟩ := h
    rfl
  obtain ⟨p, n, rfl, hp, hn, q⟩ := h
  refine ⟨_, (pss_one (ps_ret (pe_ix ix_list (pe_lst (pa_cons pe_str (pa_cons pe_str (pa_cons pe_str (pa_cons pe_str (pa_cons pe_str pa_nil)))))) (pe_call G__law_take (hr.mono (by omega)) (by rfl) T.m__law_take T.F__law_take.kp T.b__law_take .nil pass0 (pa_cons (pv 0) (pa_cons pe_int pa_nil))) (fun _ _ => rfl)))), ?_⟩
  refine ⟨(by show 5 ≤ sizeLine; decide), fun l hl => ?_⟩
  refine ⟨_, rfl, p, 5, n, rfl, hp.new hl, hn, by decide, by decide, fun r H2 r0 r1 c2 p2 => ?_⟩
  have hl2 := c2.at upd_same (hp.ne' hl)
  have f2 : Fr p H H2 := ((Fr.refl p H).new hl).trans (Fr.chg c2)
  have fin : ∀ L, Lets L → Q (.str L) H2 := fun L h => q L H2 h f2 p2
  obtain rfl | rfl | rfl | rfl | rfl : r = 0 ∨ r = 1 ∨ r = 2 ∨ r = 3 ∨ r = 4 := by omega
  · exact ⟨l, _, 0, _, rfl, rfl, SqL.of hl2, at_of (j := 0) rfl rfl, fin _ ⟨by decide +kernel, by decide +kernel, by decide +kernel⟩⟩
  · exact ⟨l, _, 1, _, rfl, rfl, SqL.of hl2, at_of (j := 1) rfl rfl, fin _ ⟨by decide +kernel, by decide +kernel, by decide +kernel⟩⟩
  · exact ⟨l, _, 2, _, rfl, rfl, SqL.of hl2, at_of (j := 2) rfl rfl, fin _ ⟨by decide +kernel, by decide +kernel, by decide +kernel⟩⟩
  · exact ⟨l, _, 3, _, rfl, rfl, SqL.of hl2, at_of (j := 3) rfl rfl, fin _ ⟨by decide +kernel, by decide +kernel, by decide +kernel⟩⟩
  · exact ⟨l, _, 4, _, rfl, rfl, SqL.of hl2, at_of (j := 4) rfl rfl, fin _ ⟨by decide +kernel, by decide +kernel, by decide +kernel⟩⟩
end


theorem TrAt.go {H H1 H2 : Hp} {p : Addr} {v : V} {t : Tr} (x : TrAt (fun b => H b = none) H1 v t) (hp : H p ≠ none) (f : Fr p H1 H2) : TrAt (fun b => H b = none) H2 v t :=
  x.keep fun b o k e => f b o (fun z => hp (by rw [← z]; exact k)) e
theorem TrsAt.go {H H1 H2 : Hp} {p : Addr} {vs : List V} {ts : List Tr} (x : TrsAt (fun b => H b = none) H1 vs ts) (hp : H p ≠ none) (f : Fr p H1 H2) : TrsAt (fun b => H b = none) H2 vs ts :=
  x.keep fun b o k e => f b o (fun z => hp (by rw [← z]; exact k)) e
theorem TrAt.base {H H1 H2 : Hp} {p : Addr} {v : V} {t : Tr} (x : TrAt (fun b => H1 b = none) H2 v t) (f : Fr p H H1) (hp : H1 p ≠ none) : TrAt (fun b => H b = none) H2 v t := x.weak fun _ h => f.free hp h
theorem letss_of {p : Nat → Prop} : ∀ {ts : List Tr}, (∀ t ∈ ts, t.lets p) → letss p ts
  | [], _ => trivial
  | t :: r, h => by
    simp only [letss]
    exact ⟨h t List.mem_cons_self, letss_of fun u hu => h u (List.mem_cons_of_mem _ hu)⟩
def sp__law_tree : Sp := fun vs H Q _ => ∃ (p : Addr) (n : Nat) (m : Nat) (L : Str), vs = [.ref p, .int m, .str L] ∧ Pool H p n ∧ n + 50000 < 1000000 ∧ 6 ≤ m ∧ m ≤ 100 ∧ Lets L ∧
  ∀ r t H', t.size ≤ m → t.depth ≤ 31 → t.lets (fun c => c ∈ L.cps.toList) → Fr p H H' → TrAt (fun b => H b = none) H' r t → Pool H' p (n + 50000) → Q r H'
section
variable {P : Program} {w : World} {K : PySem.W.Frag} {mg : Str → Option Value} {base : Heap}
theorem ok__law_tree (T : Txt K mg) : FnOk P w K mg base CX0 40 T.f__law_tree T.d__law_tree ["pool", "most", "letters"] sp__law_tree := by
  have G__law_take : FnOk P w K mg base CX0 1 T.f__law_take T.d__law_take ["pool", "many"] sp__law_take := ok__law_take T
  have G__law_grown : FnOk P w K mg base CX0 3 T.f__law_grown T.d__law_grown ["pool", "most", "letters"] sp__law_grown := ok__law_grown T
  have G__law_mixed_up : FnOk P w K mg base CX0 2 T.f__law_mixed_up T.d__law_mixed_up ["pool", "things"] (sp__law_mixed_up K) := ok__law_mixed_up T
  have G__law_shuffled : FnOk P w K mg base CX0 (32 + 2) T.f__law_shuffled T.d__law_shuffled ["pool", "tree"] (sp__law_shuffled 32) := ok__law_shuffled T 32
  refine T.F__law_tree.ok sc__law_tree (fun vs H Q E h => ?_) (fun cdv A outer s H vs Q E hr h => ?_)
  · obtain ⟨p, n, m, L, rfl, _⟩ := h
    rfl
  obtain ⟨p, n, m, L, rfl, hp, hn, hm0, hm1, hL, q⟩ := h
  refine ⟨_, (pss_cons (ps_if (pt_cmpR op_eq (pe_call G__law_take (hr.mono (by omega)) (by rfl) T.m__law_take T.F__law_take.kp T.b__law_take .nil pass0 (pa_cons (pv 0) (pa_cons pe_int pa_nil))) pe_int (nomark _)) (pss_one (ps_ret (pe_call G__law_grown (hr.mono (by omega)) (by rfl) T.m__law_grown T.F__law_grown.kp T.b__law_grown .nil pass0 (pa_cons (pv 0) (pa_cons (pv 1) (pa_cons (pv 2) pa_nil)))))) pss_nil) (pss_cons (ps_set (i := 3) sc__law_tree.nd rfl (Or.inl rfl) (pe_call G__law_grown (hr.mono (by omega)) (by rfl) T.m__law_grown T.F__law_grown.kp T.b__law_grown .nil pass0 (pa_cons (pv 0) (pa_cons (pe_op op_fdivW (pv 1) pe_int) (pa_cons (pv 2) pa_nil))))) (pss_cons (ps_set (i := 4) sc__law_tree.nd rfl (Or.inl rfl) (pe_call G__law_grown (hr.mono (by omega)) (by rfl) T.m__law_grown T.F__law_grown.kp T.b__law_grown .nil pass0 (pa_cons (pv 0) (pa_cons (pe_op op_sub (pe_op op_fdivW (pv 1) pe_int) pe_int) (pa_cons (pv 2) pa_nil))))) (pss_cons (ps_set (i := 5) sc__law_tree.nd rfl (Or.inl rfl) (pe_lst (pa_cons (pe_lst (pa_cons (pv 3) (pa_cons (pe_call G__law_shuffled (hr.mono (by omega)) (by rfl) T.m__law_shuffled T.F__law_shuffled.kp T.b__law_shuffled .nil pass0 (pa_cons (pv 0) (pa_cons (pv 3) pa_nil))) pa_nil))) (pa_cons (pe_lst (pa_cons (pv 3) (pa_cons (pv 4) (pa_cons (pe_call G__law_shuffled (hr.mono (by omega)) (by rfl) T.m__law_shuffled T.F__law_shuffled.kp T.b__law_shuffled .nil pass0 (pa_cons (pv 0) (pa_cons (pv 3) pa_nil))) pa_nil)))) (pa_cons (pe_lst (pa_cons (pv 4) (pa_cons (pv 3) (pa_cons (pv 3) pa_nil)))) pa_nil))))) (pss_one (ps_ret (pe_tup (pa_cons (pe_ix ix_str (pv 2) (pe_call G__law_take (hr.mono (by omega)) (by rfl) T.m__law_take T.F__law_take.kp T.b__law_take .nil pass0 (pa_cons (pv 0) (pa_cons (pe_callB call_len_str (by rfl) T.z_len PySem.boot_len (pa_cons (pv 2) pa_nil)) pa_nil))) (fun _ _ => rfl)) (pa_cons (pe_call G__law_mixed_up (hr.mono (by omega)) (by rfl) T.m__law_mixed_up T.F__law_mixed_up.kp T.b__law_mixed_up .nil pass0 (pa_cons (pv 0) (pa_cons (pe_ix ix_list (pv 5) (pe_call G__law_take (hr.mono (by omega)) (by rfl) T.m__law_take T.F__law_take.kp T.b__law_take .nil pass0 (pa_cons (pv 0) (pa_cons pe_int pa_nil))) (fun _ _ => rfl)) pa_nil))) pa_nil))))))))), ?_⟩
  have hps : H p ≠ none := hp.some
  have np : ∀ b, H b = none → b ≠ p := fun b h e => hps (by rw [← e]; exact h)
  refine ⟨_, rfl, p, 2, n, rfl, hp, by omega, by decide, by decide, fun r0 H1 a0 a1 c1 p1 => ⟨rfl, _, rfl, ?_⟩⟩
  have f1 : Fr p H H1 := Fr.chg c1
  refine ite2 (fun _ => ?_) (fun _ => ?_)
  · refine ⟨_, rfl, _, rfl, _, rfl, p, n + 1, m, L, rfl, p1, by omega, by omega, hm1, hL, fun r t H' z1 z2 z3 f T1 p2 => ?_⟩
    exact q r t H' z1 (by omega) z3 (f1.trans f) (T1.base f1 p1.some) (p2.mono (by omega))
  · refine ⟨_, rfl, _, rfl, m, 3, rfl, rfl, divW (by decide) (by decide), _, rfl, p, n + 1, m / 3, L, congrArg (fun z => [V.ref p, V.int z, V.str L]) (show (m : Int) / 3 = ((m / 3 : Nat) : Int) by omega), p1, by omega, by omega, by omega, hL, fun one t1 H2 z1 d1 l1 f2 T1 p2 => ?_⟩
    refine ⟨_, rfl, _, rfl, m, 3, rfl, rfl, divW (by decide) (by decide), (m : Int) / 3, 1, rfl, rfl, _, rfl, p, _, m / 3 - 1, L, congrArg (fun z => [V.ref p, V.int z, V.str L]) (show (m : Int) / 3 - 1 = ((m / 3 - 1 : Nat) : Int) by omega), p2, by omega, by omega, by omega, hL, fun other t2 H3 z2 d2 l2 f3 T2 p3 => ?_⟩
    have T1a := T1.base f1 p1.some
    have T2a := T2.base (f1.trans f2) p2.some
    have T1b := T1a.go hps f3
    refine ⟨_, rfl, _, rfl, _, rfl, p, _, one, t1, rfl, p3, by omega, T1b.weak fun _ _ => trivial, by omega, by omega, fun s1 u1 H4 sh1 f4 S1 p4 => ⟨(by show 2 ≤ sizeLine; decide), fun ra hra => ?_⟩⟩
    have S1a := S1.base ((f1.trans f2).trans f3) p3.some
    have p5 := p4.new (o := .lst [one, s1]) hra
    have f5 : Fr p H4 (upd H4 ra (.lst [one, s1])) := (Fr.refl p H4).new hra
    have F5 := (((f1.trans f2).trans f3).trans f4).trans f5
    have T1c := T1b.go hps (f4.trans f5)
    have e1 := sh1.size
    have e2 := sh1.depth
    refine ⟨_, rfl, _, rfl, _, rfl, _, rfl, p, _, one, t1, rfl, p5, by omega, T1c.weak fun _ _ => trivial, by omega, by omega, fun s2 u2 H6 sh2 f6 S2 p6 => ⟨(by show 3 ≤ sizeLine; decide), fun rb hrb => ?_⟩⟩
    have S2a := S2.base F5 p5.some
    have e3 := sh2.size
    have e4 := sh2.depth
    have p7 := p6.new (o := .lst [one, other, s2]) hrb
    have f7 : Fr p H6 (upd H6 rb (.lst [one, other, s2])) := (Fr.refl p H6).new hrb
    refine ⟨_, rfl, _, rfl, _, rfl, (by show 3 ≤ sizeLine; decide), fun rc hrc => ⟨(by show 3 ≤ sizeLine; decide), fun rr hrr => ?_⟩⟩
    have nab : H (ra) = none := (((f1.trans f2).trans f3).trans f4).free p4.some hra
    have nbb : H rb = none := (F5.trans f6).free p6.some hrb
    have p8 := (p7.new (o := .lst [other, one, one]) hrc).new (o := .lst [.ref ra, .ref rb, .ref rc]) hrr
    have f8 : Fr p (upd H6 rb (.lst [one, other, s2])) _ := ((Fr.refl p _).new (o := .lst [other, one, one]) hrc).trans ((Fr.refl p _).new (o := .lst [.ref ra, .ref rb, .ref rc]) hrr)
    have ncb : H rc = none := ((F5.trans f6).trans f7).free p7.some hrc
    have nrb : H rr = none := ((F5.trans f6).trans f7).free p7.some (by
      by_cases e : rr = rc
      · rw [e, upd_same] at hrr; cases hrr
      · rw [upd_ne e] at hrr; exact hrr)
    have nrc : rr ≠ rc := fun e => by rw [e, upd_same] at hrr; cases hrr
    have hLs : L.cps.toList.length = L.length := by
      show L.cps.toList.length = L.cps.size
      exact Array.length_toList
    refine ⟨_, rfl, _, rfl, _, rfl, L, rfl, Nat.le_trans hL.2.1 (by decide), p, _, _, rfl, p8, by omega, by have := hL.1; omega, by have := hL.2.1; omega, fun r H9 r0 r1 c9 p9 => ?_⟩
    obtain ⟨rn, rfl⟩ : ∃ rn : Nat, r = (rn : Int) := ⟨r.toNat, by omega⟩
    have hrn : rn < L.cps.toList.length := by rw [hLs]; omega
    obtain ⟨c, hc⟩ : ∃ c, L.cps.toList[rn]? = some c := ⟨_, List.getElem?_eq_getElem hrn⟩
    have cL := hL.2.2 c (List.mem_of_getElem? hc)
    refine ⟨L, rn, c, rfl, rfl, Nat.le_trans hL.2.1 (by decide), atI_nat hc, _, rfl, _, rfl, _, rfl, p, 3, _, rfl, p9, by omega, by decide, by decide, fun r' H10 b0 b1 c10 p10 => ?_⟩
    have f10 : Fr p (upd H6 rb (.lst [one, other, s2])) H10 := (f8.trans (Fr.chg c9)).trans (Fr.chg c10)
    have F10 := ((F5.trans f6).trans f7).trans f10
    have T1e := T1c.go hps ((f6.trans f7).trans f10)
    have T2e := T2a.go hps ((((f4.trans f5).trans f6).trans f7).trans f10)
    have S1e := S1a.go hps (((f5.trans f6).trans f7).trans f10)
    have S2e := S2a.go hps (f7.trans f10)
    have hrr10 : H10 rr = some (.lst [.ref ra, .ref rb, .ref rc]) := c10.at (c9.at upd_same (np _ nrb)) (np _ nrb)
    have hra10 : H10 ra = some (.lst [one, s1]) := ((f6.trans f7).trans f10) _ _ (np _ nab) upd_same
    have hrb10 : H10 rb = some (.lst [one, other, s2]) := f10 _ _ (np _ nbb) upd_same
    have hrc10 : H10 rc = some (.lst [other, one, one]) := c10.at (c9.at (by rw [upd_ne (fun e => nrc e.symm)]; exact upd_same) (np _ ncb)) (np _ ncb)
    have done : ∀ (x : Addr) (xs : List V) (ts : List Tr), H10 x = some (.lst xs) → TrsAt (fun b => H b = none) H10 xs ts → 1 + sizes ts ≤ m → depths ts ≤ 30 → letss (fun c => c ∈ L.cps.toList) ts → ts.length ≤ 3 →
        sp__law_mixed_up K [.ref p, .ref x] H10 (fun y H' => 2 ≤ sizeLine ∧ ∀ e, H' e = none → Q (.ref e) (upd H' e (.tup [.str (ch c), y]))) E0 := by
      intro x xs ts hx hts hz hdp hlt hln
      have hlen := hts.len
      refine ⟨p, x, _, xs, rfl, p10, by omega, SqL.of hx, fun H' f v hv => ?_, fun r ws H' pw r0 f11 hr' p11 => ⟨by decide, fun e he => ?_⟩⟩
      · obtain ⟨i, hi⟩ := List.getElem?_of_mem hv
        obtain ⟨t1, ht1, hx⟩ := (hts.go hps f).getV hi
        have dt := depths_mem (List.mem_of_getElem? ht1)
        exact datOk_tr hx (by omega)
      · obtain ⟨us, pu, hus⟩ := (hts.go hps f11).perm pw
        have zu := sizes_perm pu
        have du := depths_perm pu
        have nr0 : H r = none := F10.free p10.some r0
        have ne0 : H e = none := (F10.trans f11).free p11.some he
        refine q _ (.node c us) _ (by simp only [Tr.size]; omega) (by simp only [Tr.depth]; omega) ?_ ((F10.trans f11).new ne0) (.node upd_same (by rw [upd_ne (ne_of_none hr' he)]; exact hr') ne0 nr0 cL.1 cL.2 (hus.same (same_new he))) ((p11.new he).mono (by omega))
        simp only [Tr.lets]
        exact ⟨List.mem_of_getElem? hc, letss_perm pu hlt⟩
    obtain rfl | rfl | rfl : r' = 0 ∨ r' = 1 ∨ r' = 2 := by omega
    · refine ⟨rr, _, 0, .ref ra, rfl, rfl, SqL.of hrr10, at_of (j := 0) rfl rfl, done ra _ [t1, u1] hra10 (.cons T1e (.cons S1e .nil)) ?_ ?_ ?_ (by simp)⟩
      · simp only [sizes]; omega
      · simp only [depths]; omega
      · simp only [letss]; exact ⟨l1, sh1.lets l1, trivial⟩
    · refine ⟨rr, _, 1, .ref rb, rfl, rfl, SqL.of hrr10, at_of (j := 1) rfl rfl, done rb _ [t1, t2, u2] hrb10 (.cons T1e (.cons T2e (.cons S2e .nil))) ?_ ?_ ?_ (by simp)⟩
      · simp only [sizes]; omega
      · simp only [depths]; omega
      · simp only [letss]; exact ⟨l1, l2, sh2.lets l1, trivial⟩
    · refine ⟨rr, _, 2, .ref rc, rfl, rfl, SqL.of hrr10, at_of (j := 2) rfl rfl, done rc _ [t2, t1, t1] hrc10 (.cons T2e (.cons T1e (.cons T1e .nil))) ?_ ?_ ?_ (by simp)⟩
      · simp only [sizes]; omega
      · simp only [depths]; omega
      · simp only [letss]; exact ⟨l2, l1, l1, trivial⟩
end

def brk : List Nat → List Nat
  | [] => []
  | x :: l => 40 :: ((x :: l) ++ [41])
mutual
def Tr.wr : Tr → List Nat
  | .node c ks => c :: brk (wrs ks)
def wrs : List Tr → List Nat
  | [] => []
  | t :: r => t.wr ++ wrs r
end
def leW (a b : Tr) : Bool := decide (a.wr ≤ b.wr)
mutual
def Tr.told : Tr → Tr
  | .node c ks => .node c ((tolds ks).mergeSort leW)
def tolds : List Tr → List Tr
  | [] => []
  | t :: r => t.told :: tolds r
end
theorem tolds_map : ∀ ts : List Tr, tolds ts = ts.map Tr.told
  | [] => rfl
  | t :: r => by simp only [tolds, List.map_cons, tolds_map r]
theorem tolds_len (ts : List Tr) : (tolds ts).length = ts.length := by rw [tolds_map, List.length_map]
theorem wrs_append : ∀ a b : List Tr, wrs (a ++ b) = wrs a ++ wrs b
  | [], b => rfl
  | t :: r, b => by simp only [List.cons_append, wrs, wrs_append r b, List.append_assoc]
theorem leW_trans (a b c : Tr) (h : leW a b = true) (g : leW b c = true) : leW a c = true :=
  decide_eq_true (List.le_trans (of_decide_eq_true h) (of_decide_eq_true g))
theorem leW_total (a b : Tr) : (leW a b || leW b a) = true := by
  rcases List.le_total a.wr b.wr with h | h
  · simp [leW, h]
  · simp [leW, h]
abbrev Ltr (c : Nat) : Prop := 97 ≤ c ∧ c ≤ 122
theorem wr_ne (t : Tr) : t.wr ≠ [] := by
  cases t
  simp [Tr.wr]
theorem wr_head {t : Tr} (h : t.lets Ltr) : ∃ c l, t.wr = c :: l ∧ 97 ≤ c := by
  cases t with
  | node c ks =>
    simp only [Tr.lets] at h
    exact ⟨c, _, rfl, h.1.1⟩
theorem wrs_ne {t : Tr} {r : List Tr} : ∃ x l, wrs (t :: r) = x :: l := by
  cases t
  simp [wrs, Tr.wr]
theorem brk_wrs (t : Tr) (r : List Tr) : brk (wrs (t :: r)) = 40 :: (wrs (t :: r) ++ [41]) := by
  obtain ⟨x, l, e⟩ := wrs_ne (t := t) (r := r)
  rw [e]
  rfl
def nb (u : List Nat) : Prop := u.head? ≠ some 40
mutual
theorem wr_inj : ∀ (a b : Tr) (u v : List Nat), a.lets Ltr → b.lets Ltr → a.wr ++ u = b.wr ++ v → nb u → nb v → a = b ∧ u = v
  | .node c ks, .node d js, u, v, ha, hb, h, hu, hv => by
    simp only [Tr.lets] at ha hb
    simp only [Tr.wr, List.cons_append, List.cons.injEq] at h
    obtain ⟨rfl, h⟩ := h
    cases ks with
    | nil =>
      cases js with
      | nil => exact ⟨rfl, h⟩
      | cons j js =>
        obtain ⟨x, l, e⟩ := wrs_ne (t := j) (r := js)
        rw [e] at h
        simp only [wrs, brk, List.nil_append, List.cons_append] at h
        rw [h] at hu
        exact absurd rfl hu
    | cons k ks =>
      rw [brk_wrs k ks] at h
      cases js with
      | nil =>
        simp only [wrs, brk, List.nil_append, List.cons_append] at h
        rw [← h] at hv
        exact absurd rfl hv
      | cons j js =>
        rw [brk_wrs j js] at h
        simp only [List.cons_append, List.append_assoc, List.cons.injEq, true_and, List.singleton_append] at h
        obtain ⟨e1, e2⟩ := wrs_inj (k :: ks) (j :: js) u v ha.2 hb.2 h
        exact ⟨by rw [e1], e2⟩
theorem wrs_inj : ∀ (ks js : List Tr) (u v : List Nat), letss Ltr ks → letss Ltr js → wrs ks ++ 41 :: u = wrs js ++ 41 :: v → ks = js ∧ u = v
  | [], [], u, v, _, _, h => ⟨rfl, by simpa [wrs] using h⟩
  | [], j :: js, u, v, _, hb, h => by
    simp only [letss] at hb
    obtain ⟨c, l, e, hc⟩ := wr_head hb.1
    simp only [wrs, e, List.nil_append, List.cons_append, List.cons.injEq] at h
    omega
  | k :: ks, [], u, v, ha, _, h => by
    simp only [letss] at ha
    obtain ⟨c, l, e, hc⟩ := wr_head ha.1
    simp only [wrs, e, List.nil_append, List.cons_append, List.cons.injEq] at h
    omega
  | k :: ks, j :: js, u, v, ha, hb, h => by
    simp only [letss] at ha hb
    simp only [wrs, List.append_assoc] at h
    have nbk : ∀ (l : List Tr) (w : List Nat), letss Ltr l → nb (wrs l ++ 41 :: w) := by
      intro l w hl
      cases l with
      | nil => simp [nb, wrs]
      | cons a b =>
        simp only [letss] at hl
        obtain ⟨c, m, e, hc⟩ := wr_head hl.1
        simp only [nb, wrs, e, List.cons_append, List.head?_cons]
        intro h
        cases h
        omega
    have := wr_inj k j _ _ ha.1 hb.1 h (nbk _ _ ha.2) (nbk _ _ hb.2)
    obtain ⟨rfl, h2⟩ := this
    obtain ⟨rfl, h3⟩ := wrs_inj ks js u v ha.2 hb.2 h2
    exact ⟨rfl, h3⟩
end
theorem wr_eq {a b : Tr} (ha : a.lets Ltr) (hb : b.lets Ltr) (h : a.wr = b.wr) : a = b :=
  (wr_inj a b [] [] ha hb (by rw [h]) (by simp [nb]) (by simp [nb])).1
mutual
theorem told_lets {p : Nat → Prop} : ∀ t : Tr, t.lets p → t.told.lets p
  | .node c ks, h => by
    simp only [Tr.lets, Tr.told] at h ⊢
    exact ⟨h.1, letss_perm (List.mergeSort_perm _ _).symm (tolds_lets ks h.2)⟩
theorem tolds_lets {p : Nat → Prop} : ∀ ts : List Tr, letss p ts → letss p (tolds ts)
  | [], _ => trivial
  | t :: r, h => by
    simp only [letss, tolds] at h ⊢
    exact ⟨told_lets t h.1, tolds_lets r h.2⟩
end
theorem sorted_is {a b : List Tr} (ha : letss Ltr b) (hp : a.Perm b) (hs : a.Pairwise fun x y => leW x y = true) : a = b.mergeSort leW := by
  refine List.Perm.eq_of_pairwise (le := fun x y => leW x y = true) ?_ hs (List.pairwise_mergeSort leW_trans leW_total _) (hp.trans (List.mergeSort_perm _ _).symm)
  intro x y hx hy h g
  have hx2 := letss_mem ha (hp.mem_iff.mp hx)
  have hy2 := letss_mem ha ((List.mergeSort_perm _ _).mem_iff.mp hy)
  exact wr_eq hx2 hy2 (List.le_antisymm (of_decide_eq_true h) (of_decide_eq_true g))
theorem sort_perm {a b : List Tr} (ha : letss Ltr b) (hp : a.Perm b) : a.mergeSort leW = b.mergeSort leW :=
  sorted_is ha ((List.mergeSort_perm _ _).trans hp) (List.pairwise_mergeSort leW_trans leW_total _)
theorem tolds_perm {a b : List Tr} (h : a.Perm b) : (tolds a).Perm (tolds b) := by
  rw [tolds_map, tolds_map]
  exact h.map _
mutual
theorem Sh.told : ∀ {t u : Tr}, Sh t u → t.lets Ltr → t.told = u.told
  | _, _, .node (ks := ks) (us := us) (ls := ls) p h, hl => by
    simp only [Tr.lets] at hl
    simp only [Tr.told]
    have e := Shs.told h (letss_perm p hl.2)
    rw [sort_perm (tolds_lets _ (letss_perm p hl.2)) (tolds_perm p), e]
theorem Shs.told : ∀ {ts us : List Tr}, Shs ts us → My.letss Ltr ts → tolds ts = tolds us
  | _, _, .nil, _ => rfl
  | _, _, .cons a b, hl => by
    simp only [My.letss] at hl
    simp only [tolds, Sh.told a hl.1, Shs.told b hl.2]
end
theorem sizes_sort (ts : List Tr) : sizes (ts.mergeSort leW) = sizes ts := sizes_perm (List.mergeSort_perm _ _)
theorem depths_sort (ts : List Tr) : depths (ts.mergeSort leW) = depths ts := depths_perm (List.mergeSort_perm _ _)
mutual
theorem told_size : ∀ t : Tr, t.told.size = t.size
  | .node c ks => by simp only [Tr.told, Tr.size, sizes_sort, tolds_sizes ks]
theorem tolds_sizes : ∀ ts : List Tr, sizes (tolds ts) = sizes ts
  | [] => rfl
  | t :: r => by simp only [tolds, sizes, told_size t, tolds_sizes r]
end
mutual
theorem told_depth : ∀ t : Tr, t.told.depth = t.depth
  | .node c ks => by simp only [Tr.told, Tr.depth, depths_sort, tolds_depths ks]
theorem tolds_depths : ∀ ts : List Tr, depths (tolds ts) = depths ts
  | [] => rfl
  | t :: r => by simp only [tolds, depths, told_depth t, tolds_depths r]
end
mutual
theorem wr_len : ∀ t : Tr, t.wr.length ≤ 3 * t.size
  | .node c ks => by
    have := wrs_len ks
    have e : (brk (wrs ks)).length ≤ (wrs ks).length + 2 := by
      cases wrs ks with
      | nil => simp [brk]
      | cons x l => simp [brk]
    simp only [Tr.wr, Tr.size, List.length_cons]
    omega
theorem wrs_len : ∀ ts : List Tr, (wrs ts).length ≤ 3 * sizes ts
  | [] => by simp [wrs]
  | t :: r => by
    have a := wr_len t
    have b := wrs_len r
    simp only [wrs, sizes, List.length_append]
    omega
end
def steps : List Tr → List Tr → Option (List Tr)
  | s, [] => some s
  | s, .node c ks :: r => if ks.length ≤ s.length then steps (s.take (s.length - ks.length) ++ [.node c ((s.drop (s.length - ks.length)).mergeSort leW)]) r else none
mutual
theorem steps_post : ∀ (t : Tr) (s r : List Tr), steps s (t.post ++ r) = steps (s ++ [t.told]) r
  | .node c ks, s, r => by
    have e := steps_posts ks s (.node c ks :: r)
    simp only [Tr.post, List.append_assoc, List.singleton_append]
    rw [e]
    have l := tolds_len ks
    simp only [steps, List.length_append, l, Nat.add_sub_cancel, Nat.le_add_left, if_true, Tr.told]
    rw [List.take_left, List.drop_left]
theorem steps_posts : ∀ (ts : List Tr) (s r : List Tr), steps s (posts ts ++ r) = steps (s ++ tolds ts) r
  | [], s, r => by simp only [posts, tolds, List.nil_append, List.append_nil]
  | t :: ts, s, r => by
    simp only [posts, tolds, List.append_assoc]
    rw [steps_post t s (posts ts ++ r), steps_posts ts (s ++ [t.told]) r]
    simp only [List.append_assoc, List.singleton_append]
end
theorem steps_all (t : Tr) : steps [] t.post = some [t.told] := by
  have := steps_post t [] []
  rw [List.append_nil] at this
  rw [this]
  rfl
mutual
theorem told_told : ∀ t : Tr, t.lets Ltr → t.told.told = t.told
  | .node c ks, h => by
    simp only [Tr.lets] at h
    simp only [Tr.told]
    have e : tolds ((tolds ks).mergeSort leW) = (tolds ks).mergeSort leW := by
      rw [tolds_map]
      have : ∀ x ∈ (tolds ks).mergeSort leW, x.told = x := fun x hx => tolds_fix ks h.2 x ((List.mergeSort_perm _ _).mem_iff.mp hx)
      exact (List.map_congr_left this).trans (List.map_id' _)
    rw [e, sort_perm (tolds_lets ks h.2) (List.mergeSort_perm _ _)]
theorem tolds_fix : ∀ ts : List Tr, letss Ltr ts → ∀ x ∈ tolds ts, x.told = x
  | [], _, x, hx => by simp [tolds] at hx
  | t :: r, h, x, hx => by
    simp only [letss] at h
    simp only [tolds, List.mem_cons] at hx
    rcases hx with rfl | hx
    · exact told_told t h.1
    · exact tolds_fix r h.2 x hx
end

mutual
inductive TrO (ok : Addr → Prop) (H : Hp) : V → Tr → List Addr → Prop
  | node {a l : Addr} {vs : List V} {c : Nat} {ks : List Tr} {as : List Addr} : H a = some (.tup [.str (ch c), .ref l]) → H l = some (.lst vs) → ok a → ok l → 97 ≤ c → c ≤ 122 → TrsO ok H vs ks as → TrO ok H (.ref a) (.node c ks) (l :: as)
inductive TrsO (ok : Addr → Prop) (H : Hp) : List V → List Tr → List Addr → Prop
  | nil : TrsO ok H [] [] []
  | cons {v : V} {vs : List V} {t : Tr} {ts : List Tr} {as bs : List Addr} : TrO ok H v t as → TrsO ok H vs ts bs → TrsO ok H (v :: vs) (t :: ts) (as ++ bs)
end
section
variable {ok ok' : Addr → Prop} {H H' : Hp}
mutual
theorem TrO.imp (hk : ∀ b, ok b → ok' b) (h : ∀ b o, ok b → H b = some o → H' b = some o) : ∀ (t : Tr) (v : V) (as : List Addr), TrO ok H v t as → TrO ok' H' v t as
  | .node c ks, v, as, x => by
    cases x with
    | node h1 h2 k1 k2 c1 c2 r => exact .node (h _ _ k1 h1) (h _ _ k2 h2) (hk _ k1) (hk _ k2) c1 c2 (TrsO.imp hk h ks _ _ r)
theorem TrsO.imp (hk : ∀ b, ok b → ok' b) (h : ∀ b o, ok b → H b = some o → H' b = some o) : ∀ (ts : List Tr) (vs : List V) (as : List Addr), TrsO ok H vs ts as → TrsO ok' H' vs ts as
  | [], vs, as, x => by cases x; exact .nil
  | t :: r, vs, as, x => by
    cases x with
    | cons a b => exact .cons (TrO.imp hk h t _ _ a) (TrsO.imp hk h r _ _ b)
end
theorem TrO.keep {v : V} {t : Tr} {as : List Addr} (x : TrO ok H v t as) (h : ∀ b o, ok b → H b = some o → H' b = some o) : TrO ok H' v t as := TrO.imp (fun _ k => k) h t v as x
theorem TrO.same {v : V} {t : Tr} {as : List Addr} (x : TrO ok H v t as) (s : Same H H') : TrO ok H' v t as := x.keep fun b o _ h => s b o h
theorem TrO.weak {v : V} {t : Tr} {as : List Addr} (x : TrO ok H v t as) (h : ∀ b, ok b → ok' b) : TrO ok' H v t as := TrO.imp h (fun _ _ _ e => e) t v as x
theorem TrsO.keep {vs : List V} {ts : List Tr} {as : List Addr} (x : TrsO ok H vs ts as) (h : ∀ b o, ok b → H b = some o → H' b = some o) : TrsO ok H' vs ts as := TrsO.imp (fun _ k => k) h ts vs as x
theorem TrsO.same {vs : List V} {ts : List Tr} {as : List Addr} (x : TrsO ok H vs ts as) (s : Same H H') : TrsO ok H' vs ts as := x.keep fun b o _ h => s b o h
theorem TrsO.weak {vs : List V} {ts : List Tr} {as : List Addr} (x : TrsO ok H vs ts as) (h : ∀ b, ok b → ok' b) : TrsO ok' H vs ts as := TrsO.imp h (fun _ _ _ e => e) ts vs as x
mutual
theorem TrO.at : ∀ (t : Tr) (v : V) (as : List Addr), TrO ok H v t as → TrAt ok H v t
  | .node c ks, v, as, x => by
    cases x with
    | node h1 h2 k1 k2 c1 c2 r => exact .node h1 h2 k1 k2 c1 c2 (TrsO.at ks _ _ r)
theorem TrsO.at : ∀ (ts : List Tr) (vs : List V) (as : List Addr), TrsO ok H vs ts as → TrsAt ok H vs ts
  | [], vs, as, x => by cases x; exact .nil
  | t :: r, vs, as, x => by
    cases x with
    | cons a b => exact .cons (TrO.at t _ _ a) (TrsO.at r _ _ b)
end
mutual
theorem TrO.lst : ∀ (t : Tr) (v : V) (as : List Addr), TrO ok H v t as → ∀ b ∈ as, ok b ∧ ∃ xs, H b = some (.lst xs)
  | .node c ks, v, as, x => by
    cases x with
    | node h1 h2 k1 k2 c1 c2 r =>
      intro b hb
      rcases List.mem_cons.mp hb with e | hb
      · subst e; exact ⟨k2, _, h2⟩
      · exact TrsO.lst ks _ _ r b hb
theorem TrsO.lst : ∀ (ts : List Tr) (vs : List V) (as : List Addr), TrsO ok H vs ts as → ∀ b ∈ as, ok b ∧ ∃ xs, H b = some (.lst xs)
  | [], vs, as, x => by cases x; intro b hb; cases hb
  | t :: r, vs, as, x => by
    cases x with
    | cons x1 x2 =>
      intro b hb
      rcases List.mem_append.mp hb with hb | hb
      · exact TrO.lst t _ _ x1 b hb
      · exact TrsO.lst r _ _ x2 b hb
end
mutual
theorem TrO.there : ∀ (t : Tr) (v : V) (as : List Addr), TrO ok H v t as → TrO (fun b => ok b ∧ ∃ o, H b = some o) H v t as
  | .node c ks, v, as, x => by
    cases x with
    | node h1 h2 k1 k2 c1 c2 r => exact .node h1 h2 ⟨k1, _, h1⟩ ⟨k2, _, h2⟩ c1 c2 (TrsO.there ks _ _ r)
theorem TrsO.there : ∀ (ts : List Tr) (vs : List V) (as : List Addr), TrsO ok H vs ts as → TrsO (fun b => ok b ∧ ∃ o, H b = some o) H vs ts as
  | [], vs, as, x => by cases x; exact .nil
  | t :: r, vs, as, x => by
    cases x with
    | cons a b => exact .cons (TrO.there t _ _ a) (TrsO.there r _ _ b)
end
theorem TrO.off {v : V} {t : Tr} {as : List Addr} {w : Addr} (x : TrO ok H v t as) (h : H w = none) : TrO (fun b => ok b ∧ b ≠ w) H v t as :=
  (TrO.there t v as x).weak fun b ⟨k, o, e⟩ => ⟨k, ne_of_none e h⟩
theorem TrsO.off {vs : List V} {ts : List Tr} {as : List Addr} {w : Addr} (x : TrsO ok H vs ts as) (h : H w = none) : TrsO (fun b => ok b ∧ b ≠ w) H vs ts as :=
  (TrsO.there ts vs as x).weak fun b ⟨k, o, e⟩ => ⟨k, ne_of_none e h⟩
theorem TrsO.of : ∀ bs : List (V × Tr × List Addr), (∀ b ∈ bs, TrO ok H b.1 b.2.1 b.2.2) → TrsO ok H (bs.map (·.1)) (bs.map (·.2.1)) (bs.map (·.2.2)).flatten
  | [], _ => .nil
  | b :: r, h => by
    simp only [List.map_cons, List.flatten_cons]
    exact .cons (h b (by simp)) (TrsO.of r fun x hx => h x (by simp [hx]))
theorem TrsO.split1 : ∀ {vs : List V} {ts : List Tr} {as : List Addr}, TrsO ok H vs ts as → ∃ bs : List (V × Tr × List Addr), vs = bs.map (·.1) ∧ ts = bs.map (·.2.1) ∧ as = (bs.map (·.2.2)).flatten ∧ ∀ b ∈ bs, TrO ok H b.1 b.2.1 b.2.2
  | _, _, _, .nil => ⟨[], rfl, rfl, rfl, fun _ h => by cases h⟩
  | _, _, _, .cons (v := v) (t := t) (as := as) a b => by
    obtain ⟨bs, rfl, rfl, rfl, h⟩ := TrsO.split1 b
    refine ⟨(v, t, as) :: bs, rfl, rfl, rfl, fun x hx => ?_⟩
    rcases List.mem_cons.mp hx with e | hx
    · subst e; exact a
    · exact h x hx
theorem TrsO.snoc {vs : List V} {ts : List Tr} {as bs : List Addr} {v : V} {t : Tr} (x : TrsO ok H vs ts as) (y : TrO ok H v t bs) : TrsO ok H (vs ++ [v]) (ts ++ [t]) (as ++ bs) := by
  obtain ⟨cs, rfl, rfl, rfl, h⟩ := x.split1
  have := TrsO.of (ok := ok) (H := H) (cs ++ [(v, t, bs)]) (by
    intro b hb
    rcases List.mem_append.mp hb with hb | hb
    · exact h b hb
    · simp only [List.mem_singleton] at hb
      subst hb
      exact y)
  simpa using this
theorem TrsO.len {vs : List V} {ts : List Tr} {as : List Addr} (x : TrsO ok H vs ts as) : vs.length = ts.length := (TrsO.at ts vs as x).len
end
def ws (t : Tr) : Str := ⟨t.wr.toArray⟩
def RowO1 (ok : Addr → Prop) (H : Hp) (b : V × Tr × List Addr) : Prop := ∃ p x, b.1 = .ref p ∧ H p = some (.tup [.str (ws b.2.1), x]) ∧ ok p ∧ TrO ok H x b.2.1 b.2.2
theorem RowO1.imp {ok ok' : Addr → Prop} {H H' : Hp} {b : V × Tr × List Addr} (x : RowO1 ok H b) (hk : ∀ b, ok b → ok' b) (h : ∀ b o, ok b → H b = some o → H' b = some o) : RowO1 ok' H' b := by
  obtain ⟨p, x, e, h1, h2, h3⟩ := x
  exact ⟨p, x, e, h _ _ h2 h1, hk _ h2, TrO.imp hk h _ _ _ h3⟩
theorem RowO1.same {ok : Addr → Prop} {H H' : Hp} {b : V × Tr × List Addr} (x : RowO1 ok H b) (s : Same H H') : RowO1 ok H' b := x.imp (fun _ k => k) fun b o _ h => s b o h
theorem nodup_snoc {α : Type} {as bs : List α} (ha : as.Nodup) (hb : bs.Nodup) (h : ∀ x ∈ as, x ∉ bs) : (as ++ bs).Nodup := by
  rw [List.nodup_append]
  exact ⟨ha, hb, fun a h1 b h2 e => h a h1 (e ▸ h2)⟩

open LamX NdefX in
structure CalX (P : Program) (w : World) (K : PySem.W.Frag) (mg : Str → Option Value) (base : Heap) (k : Nat) (f : Addr) (G : Hp → Prop) (np : Nat) (sp : Sp) : Prop where
  len : ∀ vs H Q E, sp vs H Q E → vs.length = np
  at_ : ∀ (s : Shared) (H : Hp), HOk P w H s.heap → K.In s.heap → G H → PySem.W.FnAt f s.heap
  run : ∀ (A : Around) (outer : List Env) (s : Shared) (H : Hp) (us : List Value) (vs : List V) (Q : VK) (E : XK), Room k A → Env0 P w K mg base A outer s H → G H → Vals vs us → sp vs H Q E → codeAny (model P w) A (.call (.ref f) ⟨us, []⟩) (CR CX0 outer P w H s Q E) s
def tCalX (i : Nat) (f : Addr) (G : Hp → Prop) (sp : Sp) (t : TA) : TE := fun σ H Q => σ[i]? = some (some (.ref f)) ∧ G H ∧ t σ H fun vs H1 => G H1 ∧ sp vs H1 Q C8.E0
theorem pe_calX {X : Cx} {k i np : Nat} {f : Addr} {G : Hp → Prop} {sp : Sp} {x : Str} {p pos : Pos} {e : PySem.Expr} {es : List PySem.Expr} {t : TA}
    (C : CalX X.prog X.w X.K X.mg X.base k f G np sp) (hr : Room k X.A) (hN : X.N[i]? = some x) (hv : Vis X.env.scope x) (ha : PA X (e :: es) t)
    (hdb : (x == ("__debug__" : Str)) = false := by decide) (hcd : (x == ("__classdict__" : Str)) = false := by decide)
    (he : starEach (e :: es) X.env = (false, eval e X.env) :: starEach es X.env := by rfl) (hpl : (backTo pos (starEach es X.env)).any (·.1) = false := by rfl) : PE X (.Call (.Name x p) (e :: es) [] pos) (tCalX i f G sp t) := by
  refine ⟨fun pins s σ H Q I h => ?_⟩
  obtain ⟨hs, hg, ht⟩ := h
  refine wpAny_Call_Name_kw (thn ((pe_var (pos := p) hN hv hdb hcd).run pins s σ H (fun v H1 => v = .ref f ∧ H1 = H) I ⟨.ref f, hs, rfl, rfl⟩) fun u s1 ⟨v, H1, I1, r1, q1⟩ => ?_)
  obtain ⟨ev, eH⟩ := q1
  subst ev
  rw [eH] at I1
  obtain rfl : u = Value.ref f := r1
  refine PySem.W.callWith_F (first := []) (C.at_ s1 H I1.hok I1.kIn hg) (thn (ha.run pos pins s1 σ H _ I1 ht) fun us s2 ⟨vs, H2, I2, r, h1, q⟩ => ⟨C.at_ s2 H2 I2.hok I2.kIn h1, ?_⟩) he hpl
  show wpAny _ _ (call (.ref f) us) _ _ _
  refine wpAny_call (codeAny_mono (C.run X.A X.stack s2 H2 us vs Q C8.E0 hr I2.env0 h1 r q) fun r s' hq => ?_)
  cases r with
  | error e => exact (show False from hq).elim
  | ok fl =>
    cases fl with
    | ret u => exact I2.after hq
    | next => exact False.elim hq
    | brk => exact False.elim hq
    | cont => exact False.elim hq
theorem calX_of {P : Program} {w : World} {K : PySem.W.Frag} {mg : Str → Option Value} {base : Heap} {k : Nat} {x q : Str} {st : Stmt} {f : Addr} {fd : FuncData} {ps : List Str} {sp : Sp} (F : FnOk P w K mg base CX0 k f fd ps sp) (U : Fun K x q st f fd) (hb : Binds K fd ps []) {G : Hp → Prop} : CalX P w K mg base k f G ps.length sp := by
  refine ⟨F.len, fun s H _ hk _ => ?_, fun A outer s H us vs Q E hr e0 _ r h => ?_⟩
  · obtain ⟨oc, od, kV, doc, pm, an, cdv, ct, osl, rfl, lk, hcd⟩ := U.ex
    exact ⟨_, _, _, _, hk _ _ lk⟩
  · have KX : K.In s.heap := e0.mod.kin.keeps fun b o e => (e0.bs b o e).1
    have hl : us.length = ps.length := by rw [← r.length]; exact F.len _ _ _ _ h
    have hb' := hb s us KX (by rw [List.append_nil]; exact hl)
    rw [List.append_nil] at hb'
    exact F.run A outer s H ⟨us, []⟩ us vs Q E hr e0 hb' r h
structure LF where
  qual : Str
  params : Arguments
  body : PySem.Expr
  scope : PySem.Scope
  cl : List (Str × Addr)
  c : Addr
abbrev LF.nf (F : LF) : NdefX.NF := ⟨"<lambda>", F.qual, F.params, [], F.scope, F.cl, F.c⟩
def LamO (f : Addr) (F : LF) : HO := .ext fun h => ∃ pm ctv, h.get? f = some (PySem.W.kla_obj "<lambda>" F.qual F.params F.body F.scope F.cl pm F.c ctv)
theorem lamO_ok {P : Program} {w : World} {H : Hp} {h : Heap} {F : LF} {pm ctv : Value} :
    ObjOk P w H (h.push (PySem.W.kla_obj "<lambda>" F.qual F.params F.body F.scope F.cl pm F.c ctv)) h.objs.size (LamO h.objs.size F) := by
  have e : (h.push (PySem.W.kla_obj "<lambda>" F.qual F.params F.body F.scope F.cl pm F.c ctv)).get? h.objs.size = some (PySem.W.kla_obj "<lambda>" F.qual F.params F.body F.scope F.cl pm F.c ctv) := Heap.get?_push_size _ rfl
  exact ⟨⟨pm, ctv, e⟩, ⟨_, e⟩, fun h1 h2 ⟨a1, a2, e1⟩ k => ⟨a1, a2, k _ e1⟩⟩
theorem calX_lam {P : Program} {w : World} {K : PySem.W.Frag} {mg : Str → Option Value} {base : Heap} {k : Nat} {N ps : List Str} {f : Addr} {F : LF} {sp : Sp} (S : NdefX.NScope N ps [] F.scope) (hcl : F.cl = [])
    (hb : ∀ (pm ctv : Value) (us : List Value), us.length = ps.length → bindArgs (PySem.W.kla_fn "<lambda>" F.qual F.params F.body F.scope F.cl pm (.ref F.c) ctv) ⟨us, []⟩ = pure (ps.zip us)) (len : ∀ vs H Q E, sp vs H Q E → vs.length = ps.length)
    (hbody : ∀ (A : Around) (outer : List Env) (s : Shared) (H : Hp) (vs : List V) (Q : VK) (E : XK), Room k (A.deeper (NdefX.envF F.nf f s.heap.objs.size)) → sp vs H Q E →
      ∃ t, PE (NdefX.ncx CX0 P w K mg base N F.nf f A outer s H E) F.body t ∧ t (NdefX.startF N vs []) H Q) :
    CalX P w K mg base (k + 1) f (fun H => H f = some (LamO f F) ∧ H F.c = some (LamX.CodeO F.c F.qual)) ps.length sp := by
  refine ⟨len, fun s H hok _ hg => ?_, fun A outer s H us vs Q E hr e0 hg r hsp => ?_⟩
  · obtain ⟨⟨pm, ctv, e⟩, _, _⟩ := hok _ _ hg.1
    exact ⟨_, _, _, _, e⟩
  obtain ⟨⟨pm, ctv, ho⟩, _, _⟩ := e0.hok _ _ hg.1
  have hl := len _ _ _ _ hsp
  have lim : s.heap.NoLimit := e0.mod.nolimit.keeps fun b o e => (e0.bs b o e).1
  refine PySem.W.kla_callFunE hr.depth ho rfl S.co S.gen rfl (NdefX.codeO_at e0.hok hg.2) ?_
  rw [hb pm ctv us (by rw [← r.length]; exact hl)]
  refine wpAny_pure (wpAny_newFunctionEnv S.nocell (fun ⟨n, _⟩ hy => S.par n (List.of_mem_zip hy).1) (fun h₁ hns hsb => ⟨lim.fresh _ hsb, ?_⟩) S.kind)
  show codeAny _ _ (.expr F.body (NdefX.envF F.nf f s.heap.objs.size)) _ _
  have kp : ∀ b o, s.heap.get? b = some o → h₁.get? b = some o := fun b o e => hsb.extBut b o (Nat.ne_of_lt (Heap.lt_size e)) (Heap.get?_push_of_some _ e)
  obtain ⟨t, ht, hq⟩ := hbody A outer s H vs Q E (hr.deeper _) hsp
  have C : NdefX.CellsAt F.nf.cl [] [] s.heap H := by
    have e : F.nf.cl = [] := hcl
    rw [e]
    exact ⟨rfl, (fun y c e => by cases e), (fun x y c e => by cases e), (fun i y e => by simp at e)⟩
  have I : Inv (NdefX.ncx CX0 P w K mg base N F.nf f A outer s H E) [] (NdefX.startF N vs []) H { s with heap := h₁, toks := s.toks + (ps.zip us).length } := NdefX.inv_startN S hr.hd e0 hl r C hns kp
  refine PySem.W.kla_codeExpr (wpAny_mono (ht.run [] _ _ H Q I hq) (fun v s' hq => ?_) fun e s' hq => hq)
  obtain ⟨w', H', J', rv, q⟩ := hq
  exact ⟨w', H', J'.os, J'.bare, J'.base, J'.hok, rv, q⟩
theorem pe_lamX {X : Cx} {c P : Addr} {params : Arguments} {body : PySem.Expr} {scope : PySem.Scope} {pos : Pos} (tb : LamX.TabB X.base X.mg c P) (hc : X.env.code = .ref c) (hd : defaultsOf params X.env = ([], []))
    (hfree : ∀ y ∈ scope.names, y.2 = .free → ∃ c, X.env.cells.lookup y.1 = some c) : PE X (.Lambda params body scope pos) (fun σ H Q => LamX.TabS H P (X.env.qual ++ "<lambda>") ∧ ∀ (f c : Addr) (H1 : Hp), Fr P H H1 → (∀ b, H1 b = none → H b = none) → LamX.TabS H1 P (X.env.qual ++ "<lambda>") → H f = none →
      H1 f = some (LamO f ⟨X.env.qual ++ "<lambda>", params, body, scope, cloFrom X.env.cells scope.names [], c⟩) → H1 c = some (LamX.CodeO c (X.env.qual ++ "<lambda>")) → Q (.ref f) H1) := by
  refine ⟨fun pins s σ H Q I h => ?_⟩
  obtain ⟨ht, q⟩ := h
  have hclo : closureFor scope X.env = pure (cloFrom X.env.cells scope.names []) := closure_ok hfree
  have ht' := ht
  obtain ⟨ps, hP, hT, hA⟩ := ht'
  have oP : s.heap.get? P = some (PySem.W.tabObj ps) := I.hok _ _ hP
  refine PySem.W.kla_eval hd ?_
  cases hcd : codeAmong pos ps.toList with
  | some cv =>
    obtain ⟨c', rfl, hc'⟩ := hA _ _ hcd
    refine PySem.W.kla_makeFunctionHit hclo I.ok.glob (I.mod.glob.keeps I.bk) hc (tb.code.keeps I.bk) oP hT hcd (tb.bm.keeps I.bk) (fun ctv h' tk hk hs => ?_)
    have I1 := I.kept (t' := tk) hk
    have hz : s.heap.objs.size ≤ h'.objs.size := hs
    have hn : H h'.objs.size = none := I.hok.fresh hz
    refine ⟨.ref h'.objs.size, upd H h'.objs.size (LamO h'.objs.size ⟨X.env.qual ++ "<lambda>", params, body, scope, cloFrom X.env.cells scope.names [], c'⟩), ?_, rfl, q _ c' _ (fun b o _ hb => ?_) (fun b e => NdefX.upd_none e) (ht.ext fun b o hb => ?_) hn upd_same ?_⟩
    · exact I1.laid (h' := h'.push _) (t' := tk) (fun b u hb => Heap.get?_push_of_some _ hb) (Nat.le_refl _) (lamO_ok (F := ⟨X.env.qual ++ "<lambda>", params, body, scope, cloFrom X.env.cells scope.names [], c'⟩))
    · rw [upd_ne (ne_of_none hb hn)]; exact hb
    · rw [upd_ne (ne_of_none hb hn)]; exact hb
    · rw [upd_ne (ne_of_none hc' hn)]; exact hc'
  | none =>
    refine PySem.W.kla_makeFunction hclo I.ok.glob (I.mod.glob.keeps I.bk) hc (tb.code.keeps I.bk) oP hT hcd tb.gP (tb.bm.keeps I.bk) (fun c' ctv h' tk he hl hu hrec hP' => ?_)
    obtain ⟨c2, o2, vs2, t2, ec, e1, e2, e3⟩ := hrec
    cases ec
    have I2 := LamX.inv_table (t' := tk) (c := c') (q := X.env.qual ++ "<lambda>") I hP he (more := #[rawInt ↑pos.line, rawInt ↑pos.col, .ref c']) hP' hl ⟨_, _, _, e1, e2, e3⟩
    have hn : (upd (upd H P (.tbl (ps ++ #[rawInt ↑pos.line, rawInt ↑pos.col, .ref c']))) c' (LamX.CodeO c' (X.env.qual ++ "<lambda>"))) h'.objs.size = none := I2.hok.fresh (Nat.le_refl _)
    have hcn : H c' = none := I.hok.fresh hl
    have hPc : P ≠ c' := fun e => by rw [e] at hP; rw [hcn] at hP; cases hP
    refine ⟨.ref h'.objs.size, _, I2.laid (h' := h'.push _) (o := LamO h'.objs.size ⟨X.env.qual ++ "<lambda>", params, body, scope, cloFrom X.env.cells scope.names [], c'⟩) (t' := tk) (fun b u hb => Heap.get?_push_of_some _ hb) (Nat.le_refl _) (lamO_ok (F := ⟨X.env.qual ++ "<lambda>", params, body, scope, cloFrom X.env.cells scope.names [], c'⟩)), rfl, q _ c' _ ?_ (fun b e => NdefX.upd_none (NdefX.upd_none (NdefX.upd_none e))) ?_ (NdefX.upd_none (NdefX.upd_none hn)) upd_same ?_⟩
    · intro b o hbP hb
      have h1 : (upd (upd H P (.tbl (ps ++ #[rawInt ↑pos.line, rawInt ↑pos.col, .ref c']))) c' (LamX.CodeO c' (X.env.qual ++ "<lambda>"))) b = some o := by
        rw [upd_ne (ne_of_none hb hcn), upd_ne hbP]; exact hb
      rw [upd_ne (ne_of_none h1 hn)]; exact h1
    · refine LamX.TabS.ext (H := upd (upd H P (.tbl (ps ++ #[rawInt ↑pos.line, rawInt ↑pos.col, .ref c']))) c' (LamX.CodeO c' (X.env.qual ++ "<lambda>"))) ?_ (fun b o hb => by rw [upd_ne (ne_of_none hb hn)]; exact hb)
      refine ⟨_, by rw [upd_ne hPc]; exact upd_same, ?_, ?_⟩
      · simpa using TriplesOk_snoc _ _ _ _ hT
      · intro pos2 cv hcv
        rw [Array.toList_append] at hcv
        rcases LamX.among_app _ hT hcv with h | h
        · obtain ⟨c3, e3, h3⟩ := hA _ _ h
          refine ⟨c3, e3, ?_⟩
          rw [upd_ne (ne_of_none h3 hcn), upd_ne (fun e => by rw [e, hP] at h3; cases h3)]
          exact h3
        · exact ⟨c', h, upd_same⟩
    · have h1 : (upd (upd H P (.tbl (ps ++ #[rawInt ↑pos.line, rawInt ↑pos.col, .ref c']))) c' (LamX.CodeO c' (X.env.qual ++ "<lambda>"))) c' = some (LamX.CodeO c' (X.env.qual ++ "<lambda>")) := upd_same
      rw [upd_ne (ne_of_none h1 hn)]; exact h1
theorem nofree_by {scope : PySem.Scope} {cells : List (Str × Addr)} (h : (scope.names.all fun y => !decide (y.2 = .free)) = true) : ∀ y ∈ scope.names, y.2 = .free → ∃ c, cells.lookup y.1 = some c := fun y hy e => by
  have := List.all_eq_true.mp h y hy
  simp only [e, decide_true, Bool.not_true] at this
  cases this
theorem CalX.imp {P : Program} {w : World} {K : PySem.W.Frag} {mg : Str → Option Value} {base : Heap} {k j : Nat} {f : Addr} {G G' : Hp → Prop} {np : Nat} {sp sp' : Sp} (C : CalX P w K mg base k f G np sp) (hk : k ≤ j) (hG : ∀ H, G' H → G H) (hs : ∀ vs H Q E, sp' vs H Q E → sp vs H Q E) : CalX P w K mg base j f G' np sp' :=
  ⟨fun vs H Q E q => C.len vs H Q E (hs _ _ _ _ q), fun s H a b g => C.at_ s H a b (hG H g), fun A outer s H us vs Q E hr e0 g r q => C.run A outer s H us vs Q E (hr.mono hk) e0 (hG H g) r (hs _ _ _ _ q)⟩
inductive Runs : List Tr → List Tr → List Tr → Prop
  | nil {us : List Tr} : Runs us [] us
  | cons {us ks r z : List Tr} {c : Nat} : Runs (us ++ [.node c ks]) r z → Runs (us ++ ks) (.node c ks :: r) z
mutual
theorem runs_post : ∀ (t : Tr) (us r z : List Tr), Runs (us ++ [t]) r z → Runs us (t.post ++ r) z
  | .node c ks, us, r, z, h => by
    simp only [Tr.post, List.append_assoc, List.singleton_append]
    exact runs_posts ks us _ z (.cons h)
theorem runs_posts : ∀ (ts us r z : List Tr), Runs (us ++ ts) r z → Runs us (posts ts ++ r) z
  | [], us, r, z, h => by simpa [posts] using h
  | t :: ts, us, r, z, h => by
    simp only [posts, List.append_assoc]
    refine runs_post t us _ z (runs_posts ts (us ++ [t]) r z ?_)
    rw [List.append_assoc]
    exact h
end
theorem runs_all (t : Tr) : Runs [] t.post [t] := by
  have := runs_post t [] [] [t] .nil
  rwa [List.append_nil] at this
abbrev ItP := (Addr → Prop) → Hp → V → Tr → List Addr → Prop
structure ItOk (It : ItP) : Prop where
  imp : ∀ {ok ok' : Addr → Prop} {H H' : Hp} {v : V} {t : Tr} {as : List Addr}, (∀ b, ok b → ok' b) → (∀ b o, ok b → H b = some o → H' b = some o) → It ok H v t as → It ok' H' v t as
  lst : ∀ {ok : Addr → Prop} {H : Hp} {v : V} {t : Tr} {as : List Addr}, It ok H v t as → ∀ b ∈ as, ok b ∧ ∃ xs, H b = some (.lst xs)
abbrev lstsI (bs : List (V × Tr × List Addr)) : List Addr := (bs.map fun b => b.2.2).flatten
def sp_made (It : ItP) (Pt : Addr) (q : Str) : Sp := fun vs H Q _ => ∃ (c : Nat) (bl : Addr) (bs : List (V × Tr × List Addr)) (ok : Addr → Prop), vs = [.str (ch c), .ref bl] ∧ 97 ≤ c ∧ c ≤ 122 ∧ H bl = some (.lst (bs.map (·.1))) ∧ ok bl ∧
  (∀ b ∈ bs, It ok H b.1 b.2.1 b.2.2) ∧ (bl :: lstsI bs).Nodup ∧ sizes (bs.map (·.2.1)) ≤ 1000000 ∧ (∀ b, ok b → b ≠ Pt) ∧ LamX.TabS H Pt q ∧
  ∀ v as H', Fr Pt H H' → LamX.TabS H' Pt q → It (fun b => ok b ∨ H b = none) H' v (.node c (bs.map (·.2.1))) as → as.Nodup → (∀ a ∈ as, a ∈ bl :: lstsI bs ∨ H a = none) → Q v H'
def sp_built_upward (P : Program) (w : World) (K : PySem.W.Frag) (mg : Str → Option Value) (base : Heap) (k : Nat) (Pt : Addr) (q : Str) : Sp := fun vs H Q _ => ∃ (v : V) (t : Tr) (f : Addr) (It : ItP), vs = [v, .ref f] ∧ TrAt (fun _ => True) H v t ∧ t.size ≤ 1000000 ∧ ItOk It ∧ LamX.TabS H Pt q ∧
  CalX P w K mg base k f (fun H' => Fr Pt H H') 2 (sp_made It Pt q) ∧ ∀ r as H', Fr Pt H H' → LamX.TabS H' Pt q → It (fun b => H b = none) H' r t as → as.Nodup → Q r H'


theorem cut_fromU (xs : List V) (k : Nat) (h : k ≤ xs.length) : cutV xs (some (k : Int)) none = xs.drop k := by
  have e : HT.sIx xs.length 0 (some (k : Int)) = k := by
    show (if (k : Int) < 0 then ((k : Int) + (xs.length : Int)).toNat else min ((k : Int).toNat) xs.length) = k
    rw [if_neg (by omega)]
    omega
  have e2 : HT.sIx xs.length xs.length none = xs.length := rfl
  unfold cutV
  rw [e, e2]
  exact List.take_of_length_le (by rw [List.length_drop]; omega)
theorem TabS.fr1 {H H' : Hp} {P p : Addr} {q : Str} {xs : List V} (h : LamX.TabS H P q) (hp : H p = some (.lst xs)) (f : Fr p H H') : LamX.TabS H' P q := by
  obtain ⟨ps, h1, h2, h3⟩ := h
  refine ⟨ps, f _ _ (fun e => by rw [e, hp] at h1; cases h1) h1, h2, fun pos cv hc => ?_⟩
  obtain ⟨c, e, h4⟩ := h3 pos cv hc
  exact ⟨c, e, f _ _ (fun e => by rw [e, hp] at h4; cases h4) h4⟩
mutual
theorem TrAt.kind1 {ok : Addr → Prop} {H : Hp} : ∀ (t : Tr) (v : V), TrAt ok H v t → TrAt (fun b => ok b ∧ ∀ ps, H b ≠ some (.tbl ps)) H v t
  | .node c ks, v, x => by
    cases x with
    | node h1 h2 k1 k2 c1 c2 r => exact .node h1 h2 ⟨k1, fun ps e => by rw [h1] at e; cases e⟩ ⟨k2, fun ps e => by rw [h2] at e; cases e⟩ c1 c2 (TrsAt.kind1 ks _ r)
theorem TrsAt.kind1 {ok : Addr → Prop} {H : Hp} : ∀ (ts : List Tr) (vs : List V), TrsAt ok H vs ts → TrsAt (fun b => ok b ∧ ∀ ps, H b ≠ some (.tbl ps)) H vs ts
  | [], vs, x => by cases x; exact .nil
  | t :: r, vs, x => by
    cases x with
    | cons a b => exact .cons (TrAt.kind1 t _ a) (TrsAt.kind1 r _ b)
end
section
variable {P : Program} {w : World} {K : PySem.W.Frag} {mg : Str → Option Value} {base : Heap}
theorem ok_built_upward (T : Txt K mg) (k : Nat) (hk : 5 ≤ k) (Pt : Addr) (qn : Str) : FnOk P w K mg base CX0 (k + 1) T.f_built_upward T.d_built_upward ["tree", "made"] (sp_built_upward P w K mg base k Pt qn) := by
  have G_parts_upward : FnOk P w K mg base CX0 5 T.f_parts_upward T.d_parts_upward ["tree"] sp_parts_upward := ok_parts_upward T
  refine T.F_built_upward.ok sc_built_upward (fun vs H Q E h => ?_) (fun cdv A outer s H vs Q E hr h => ?_)
  · obtain ⟨v, t, f, It, rfl, _⟩ := h
    rfl
  obtain ⟨v, t, f, It, rfl, ht, hz, hIt, hT, C, q⟩ := h
  have C_made := C
  refine ⟨_, (pss_cons (ps_set (i := 2) sc_built_upward.nd rfl (Or.inl rfl) (pe_lst pa_nil)) (pss_cons (ps_for PassesOwn.never rfl (pi_list (pe_call G_parts_upward (hr.mono (by omega)) (by rfl) T.m_parts_upward T.F_parts_upward.kp T.b_parts_upward .nil pass0 (pa_cons (pv 0) pa_nil))) (pg_tup rfl (pgs_cons (pg_name (i := 3) sc_built_upward.nd rfl (Or.inl rfl)) (pgs_cons (pg_name (i := 4) sc_built_upward.nd rfl (Or.inl rfl)) pgs_nil))) (pss_cons (ps_set (i := 5) sc_built_upward.nd rfl (Or.inl rfl) (pe_op op_sub (pe_callB call_len_seq (by rfl) T.z_len PySem.boot_len (pa_cons (pv 2) pa_nil)) (pe_callB call_len_seq (by rfl) T.z_len PySem.boot_len (pa_cons (pv 4) pa_nil)))) (pss_cons (ps_set (i := 6) sc_built_upward.nd rfl (Or.inl rfl) (pe_slice sl_list (pv 2) (po_some (pv 5)) po_none)) (pss_cons (ps_delFrom (pv 2) (pv 5)) (pss_one (ps_expr (pe_bm PySem.F.plainAttrs_list PySem.F.slot_list_append PySem.F.type_list_append mt_append (pv 2) (pa_cons (pe_calX (i := 1) C_made (hr.mono (by omega)) rfl (.inl (by rfl)) (pa_cons (pv 3) (pa_cons (pv 6) pa_nil))) pa_nil)))))))) (pss_one (ps_ret (pe_ix ix_list (pv 2) pe_int (fun _ _ => rfl)))))), ?_⟩
  obtain ⟨ps0, hP0, _, _⟩ := id hT
  refine ⟨(by show 0 ≤ sizeLine; decide), fun wl hwl => ?_⟩
  have nPw : Pt ≠ wl := ne_of_none hP0 hwl
  have ht1 := (ht.off hwl).same (same_new (o := .lst []) hwl)
  refine ⟨_, rfl, v, t, _, rfl, ht1, hz, fun r wsv H1 s1 hr0 hr1 hparts => ?_⟩
  have hw1 : H1 wl = some (.lst []) := s1 _ _ upd_same
  have nrw : r ≠ wl := fun e => by rw [e, upd_same] at hr0; cases hr0
  have sH1 : Same H H1 := (same_new hwl).trans s1
  have hr00 : H r = none := by rw [upd_ne nrw] at hr0; exact hr0
  have nPr : Pt ≠ r := ne_of_none hP0 hr00
  have hp2 : TrsAt (fun b => b ≠ wl ∧ b ≠ r ∧ b ≠ Pt) H1 wsv t.post := by
    exact (TrsAt.kind1 _ _ hparts).weak fun b ⟨⟨k, h⟩, n⟩ => ⟨k.2, fun e => h (by rw [e]; exact hr0), fun e => n ps0 (by rw [e]; exact sH1 _ _ hP0)⟩
  refine ⟨r, rfl, ⟨_, SqL.of hr1⟩, for_list (xs := wsv) (fun i σ H2 => ∃ (y3 y4 y5 y6 : Option V) (bs : List (V × Tr × List Addr)), σ = [some v, some (.ref f), some (.ref wl), y3, y4, y5, y6] ∧ H2 wl = some (.lst (bs.map (·.1))) ∧
      (∀ b ∈ bs, It (fun b => H b = none ∧ b ≠ wl) H2 b.1 b.2.1 b.2.2) ∧ (lstsI bs).Nodup ∧ Runs (bs.map (·.2.1)) (t.post.drop i) [t] ∧ sizes (bs.map (·.2.1)) ≤ i ∧ Fr Pt H H2 ∧ LamX.TabS H2 Pt qn ∧ H2 r = some (.lst wsv) ∧ TrsAt (fun b => b ≠ wl ∧ b ≠ r ∧ b ≠ Pt) H2 wsv t.post)
    ⟨none, none, none, none, [], rfl, hw1, (fun _ h => by cases h), List.nodup_nil, (by rw [List.drop_zero]; exact runs_all t), (Nat.le_refl _), Fr.same sH1, hT.ext sH1, hr1, hp2⟩ (fun i σ H2 _ ⟨_, _, _, _, _, _, _, _, _, _, _, _, _, h, _⟩ => SqL.of h) ?_ ?_⟩
  · rintro i x σ H2 hx ⟨y3, y4, y5, y6, bs, rfl, hw2, hb, hnd, hst, hsz, hf, hT2, hr2, hpp⟩
    obtain ⟨t1, ht1', hx2⟩ := hpp.getV hx
    have hdrop : t.post.drop i = t1 :: t.post.drop (i + 1) := by
      obtain ⟨hlt, e⟩ := List.getElem?_eq_some_iff.mp ht1'
      rw [← e]
      exact List.drop_eq_getElem_cons hlt
    have hi : i < t.size := by
      have := (List.getElem?_eq_some_iff.mp ht1').1
      rw [post_len] at this
      exact this
    rw [hdrop] at hst
    generalize hus : bs.map (·.2.1) = us0 at hst
    cases hst with
    | cons hst =>
    rename_i us ks c
    obtain ⟨b1, b2, rfl, e1, e2⟩ := List.map_eq_append_iff.mp hus
    subst e1
    subst e2
    rw [List.map_append, sizes_append] at hsz
    have lz := len_sizes (b2.map (·.2.1))
    have lz1 := len_sizes (b1.map (·.2.1))
    rw [List.length_map] at lz lz1
    cases hx2 with
    | node g1 g2 o1 o2 c1 c2 rr =>
      rename_i ax lx vx
      have lr := rr.len
      rw [List.length_map] at lr
      refine ⟨_, _, rfl, SqT.of g1, rfl, ?_⟩
      refine ⟨_, _, rfl, _, _, rfl, rfl, _, rfl, wl, _, rfl, .inl (SqL.of hw2), _, rfl, lx, _, rfl, .inl (SqL.of g2), _, _, rfl, rfl, ?_⟩
      rw [List.length_map, lr, List.length_append]
      have ek : (((b1.length + b2.length : Nat) : Int) - (b2.length : Int)) = (b1.length : Int) := by omega
      show gName 5 (.int (((b1.length + b2.length : Nat) : Int) - (b2.length : Int))) _ _ _
      rw [ek]
      refine ⟨_, rfl, _, rfl, _, rfl, wl, _, rfl, SqL.of hw2, fun p hp => ?_⟩
      rw [cut_fromU _ _ (by rw [List.length_map, List.length_append]; omega)]
      have hcut : ((b1 ++ b2).map (·.1)).drop b1.length = b2.map (·.1) := by
        rw [List.map_append, List.drop_left' (List.length_map _)]
      have htk : ((b1 ++ b2).map (·.1)).take b1.length = b1.map (·.1) := by
        rw [List.map_append, List.take_left' (List.length_map _)]
      rw [hcut]
      have nPp : Pt ≠ p := by
        intro e
        obtain ⟨_, e2, _⟩ := hT2
        rw [← e, e2] at hp
        cases hp
      have npw : p ≠ wl := fun e => by rw [e, hw2] at hp; cases hp
      have hp0 : H p = none := by
        cases e : H p with
        | none => rfl
        | some o => rw [hf p o nPp.symm e] at hp; cases hp
      have okP : ∀ b, (H b = none ∧ b ≠ wl) → b ≠ Pt := fun b h e => by rw [e, hP0] at h; cases h.1
      refine ⟨_, rfl, _, rfl, wl, _, b1.length, rfl, rfl, (by rw [upd_ne npw.symm]; exact hw2), (by rw [List.length_map, List.length_append]; omega), ?_⟩
      rw [htk]
      generalize hH5 : upd (upd H2 p (.lst (b2.map (·.1)))) wl (.lst (b1.map (·.1))) = H5
      have hw5 : H5 wl = some (.lst (b1.map (·.1))) := by rw [← hH5]; exact upd_same
      have hp5 : H5 p = some (.lst (b2.map (·.1))) := by rw [← hH5, upd_ne npw]; exact upd_same
      have k25 : ∀ b o, b ≠ wl → H2 b = some o → H5 b = some o := fun b o n e => by rw [← hH5, upd_ne n, upd_ne (ne_of_none e hp)]; exact e
      have T5 : LamX.TabS H5 Pt qn := TabS.fr1 hT2 hw2 fun b o n e => k25 b o n e
      have F5 : Fr Pt H H5 := fun b o n e => k25 _ _ (ne_of_none e hwl) (hf b o n e)
      refine ⟨_, rfl, .inl ⟨rfl, _, SqL.of hw5⟩, rfl, F5, _, rfl, _, rfl, F5, c, p, b2, (fun b => H b = none ∧ b ≠ wl), rfl, c1, c2, hp5, ⟨hp0, npw⟩, ?_, ?_, by omega, okP, T5, fun v' as H6 f6 T6 it6 nd6 ha6 => ?_⟩
      · exact fun b hb5 => hIt.imp (fun _ h => h) (fun b o h e => k25 b o h.2 e) (hb b (List.mem_append_right _ hb5))
      · have e0 : lstsI (b1 ++ b2) = lstsI b1 ++ lstsI b2 := by simp [lstsI]
        rw [e0] at hnd
        rw [List.nodup_cons]
        refine ⟨fun hm => ?_, (List.nodup_append.mp hnd).2.1⟩
        obtain ⟨as, ha, hl2⟩ := List.mem_flatten.mp hm
        obtain ⟨b, hb8, rfl⟩ := List.mem_map.mp ha
        obtain ⟨_, xs, e5⟩ := hIt.lst (hb b (List.mem_append_right _ hb8)) p hl2
        rw [hp] at e5
        cases e5
      have hw6 := f6 _ _ nPw.symm hw5
      refine ⟨wl, _, v', rfl, rfl, hw6, Nat.lt_of_le_of_lt (show (b1.map (·.1)).length ≤ 1000000 by rw [List.length_map]; omega) (by decide), ?_⟩
      have k27 : ∀ b o, b ≠ Pt → b ≠ wl → H2 b = some o → (upd H6 wl (.lst (b1.map (·.1) ++ [v']))) b = some o := fun b o n1 n2 e => by
        rw [upd_ne n2]
        exact f6 _ _ n1 (k25 _ _ n2 e)
      obtain ⟨ps5, hP5, _, _⟩ := id T5
      have free5 : ∀ b, H5 b = none → H b = none ∧ b ≠ wl := fun b h => by
        refine ⟨?_, fun e => by rw [e, hw5] at h; cases h⟩
        cases e : H b with
        | none => rfl
        | some o =>
          have n1 : b ≠ Pt := fun e2 => by rw [e2, hP5] at h; cases h
          rw [F5 _ _ n1 e] at h
          cases h
      refine ⟨_, _, _, _, b1 ++ [(v', .node c (b2.map (·.2.1)), as)], rfl, ?_, ?_, ?_, ?_, ?_, ?_, ?_, k27 _ _ nPr.symm nrw hr2, ?_⟩
      · rw [upd_same, List.map_append]
        rfl
      · intro b hb7
        rcases List.mem_append.mp hb7 with h | h
        · exact hIt.imp (fun _ h => h) (fun b o h e => k27 b o (okP b h) h.2 e) (hb b (List.mem_append_left _ h))
        · simp only [List.mem_singleton] at h
          subst h
          refine hIt.imp (fun b h => h.elim id (free5 b)) (fun b o h e => ?_) it6
          rw [upd_ne (h.elim (fun h => h.2) fun h => (free5 b h).2)]
          exact e
      · have e0 : lstsI (b1 ++ b2) = lstsI b1 ++ lstsI b2 := by simp [lstsI]
        have e1 : lstsI (b1 ++ [(v', Tr.node c (b2.map (·.2.1)), as)]) = lstsI b1 ++ as := by simp [lstsI]
        rw [e0] at hnd
        rw [e1]
        refine nodup_snoc (List.nodup_append.mp hnd).1 nd6 fun a h1 h2 => ?_
        obtain ⟨as1, hm1, hl1⟩ := List.mem_flatten.mp h1
        obtain ⟨b, hb8, rfl⟩ := List.mem_map.mp hm1
        obtain ⟨o1, xs, e5⟩ := hIt.lst (hb b (List.mem_append_left _ hb8)) a hl1
        rcases ha6 a h2 with h | h
        · rcases List.mem_cons.mp h with h | h
          · rw [h, hp] at e5; cases e5
          · exact (List.nodup_append.mp hnd).2.2 a h1 a h rfl
        · rw [k25 _ _ o1.2 e5] at h
          cases h
      · rw [List.map_append]
        exact hst
      · rw [List.map_append, sizes_append]
        simp only [List.map_cons, List.map_nil, sizes, Tr.size]
        omega
      · intro b o n e
        exact k27 b o n (ne_of_none e hwl) (hf b o n e)
      · exact TabS.fr1 T6 hw6 fun b o n e => by rw [upd_ne n]; exact e
      · exact hpp.keep fun b o h e => k27 b o h.2.2 h.1 e
  · rintro σ H2 ⟨y3, y4, y5, y6, bs, rfl, hw2, hb, hnd, hst, hsz, hf, hT2, hr2, hpp⟩
    rw [hpp.len, List.drop_length] at hst
    generalize hus : bs.map (·.2.1) = us0 at hst
    cases hst
    obtain ⟨b, rfl⟩ : ∃ b, bs = [b] := by
      have := congrArg List.length hus
      rw [List.length_map] at this
      exact List.length_eq_one_iff.mp this
    simp only [List.map_cons, List.map_nil, List.cons.injEq, and_true] at hus
    refine ⟨_, rfl, wl, _, 0, b.1, rfl, rfl, SqL.of hw2, atI_nat (j := 0) rfl, ?_⟩
    have hb1 := hb b (by simp)
    refine q b.1 b.2.2 H2 hf hT2 ?_ (by simpa [lstsI] using hnd)
    rw [← hus]
    exact hIt.imp (fun b h => h.1) (fun _ _ _ h => h) hb1
end


theorem join_go (g : Str) (hg : g.cps = #[]) : ∀ (ts : List Tr) (a : Array Nat), (ts.map ws).foldl (fun acc p => acc ++ g.cps ++ p.cps) a = a ++ (wrs ts).toArray
  | [], a => by simp [wrs]
  | t :: r, a => by
    rw [List.map_cons, List.foldl_cons, join_go g hg r, hg]
    simp [wrs, ws]
theorem join_ws (ts : List Tr) : Txt.join (Str.ofString "") (ts.map ws) = ⟨(wrs ts).toArray⟩ := by
  show Builtin.Str.glued _ _ = _
  unfold Builtin.Str.glued
  cases ts with
  | nil => rfl
  | cons t r =>
    have e : (Str.ofString "").cps = #[] := by decide +kernel
    have := join_go (Str.ofString "") e r t.wr.toArray
    simp only [List.map_cons, List.headD_cons, List.drop_succ_cons, List.drop_zero, wrs]
    rw [show (ws t).cps = t.wr.toArray from rfl, this]
    simp
theorem ws_len (ts : List Tr) : ((ts.map ws).map (·.length)).sum = (wrs ts).length := by
  induction ts with
  | nil => rfl
  | cons t r ih => simp only [List.map_cons, List.sum_cons, ih, wrs, List.length_append]; simp [ws, Str.length]
theorem cut_from (xs : List V) (k : Nat) (h : k ≤ xs.length) : cutV xs (some (k : Int)) none = xs.drop k := by
  have e : HT.sIx xs.length 0 (some (k : Int)) = k := by
    show (if (k : Int) < 0 then ((k : Int) + (xs.length : Int)).toNat else min ((k : Int).toNat) xs.length) = k
    rw [if_neg (by omega)]
    omega
  have e2 : HT.sIx xs.length xs.length none = xs.length := rfl
  unfold cutV
  rw [e, e2]
  exact List.take_of_length_le (by rw [List.length_drop]; omega)
def leB (a b : V × Tr × List Addr) : Bool := leW a.2.1 b.2.1
theorem leB_str (l : List (V × Tr × List Addr)) : ((l.map fun b => (b.1, ws b.2.1)).mergeSort leS).map Prod.fst = (l.mergeSort leB).map (·.1) := by
  rw [← PySem.W.sort_maps (r := leB) (s := leS) (fun b : V × Tr × List Addr => (b.1, ws b.2.1)) (fun a _ b _ => rfl), List.map_map]
  rfl
theorem leB_tr (l : List (V × Tr × List Addr)) : (l.mergeSort leB).map (·.2.1) = (l.map (·.2.1)).mergeSort leW :=
  PySem.W.sort_maps (r := leB) (s := leW) (fun b : V × Tr × List Addr => b.2.1) (fun a _ b _ => rfl)
mutual
theorem TrAt.ltr {ok : Addr → Prop} {H : Hp} : ∀ (t : Tr) (v : V), TrAt ok H v t → t.lets Ltr
  | .node c ks, v, x => by
    cases x with
    | node h1 h2 k1 k2 c1 c2 r =>
      simp only [Tr.lets]
      exact ⟨⟨c1, c2⟩, TrsAt.ltr ks _ r⟩
theorem TrsAt.ltr {ok : Addr → Prop} {H : Hp} : ∀ (ts : List Tr) (vs : List V), TrsAt ok H vs ts → letss Ltr ts
  | [], vs, x => trivial
  | t :: r, vs, x => by
    cases x with
    | cons a b =>
      simp only [letss]
      exact ⟨TrAt.ltr t _ a, TrsAt.ltr r _ b⟩
end
abbrev lsts (bs : List (V × Tr × List Addr)) : List Addr := (bs.map fun b => b.2.2).flatten
mutual
theorem TrAt.kind {ok : Addr → Prop} {H : Hp} : ∀ (t : Tr) (v : V), TrAt ok H v t → TrAt (fun b => ok b ∧ ∀ ps, H b ≠ some (.tbl ps)) H v t
  | .node c ks, v, x => by
    cases x with
    | node h1 h2 k1 k2 c1 c2 r => exact .node h1 h2 ⟨k1, fun ps e => by rw [h1] at e; cases e⟩ ⟨k2, fun ps e => by rw [h2] at e; cases e⟩ c1 c2 (TrsAt.kind ks _ r)
theorem TrsAt.kind {ok : Addr → Prop} {H : Hp} : ∀ (ts : List Tr) (vs : List V), TrsAt ok H vs ts → TrsAt (fun b => ok b ∧ ∀ ps, H b ≠ some (.tbl ps)) H vs ts
  | [], vs, x => by cases x; exact .nil
  | t :: r, vs, x => by
    cases x with
    | cons a b => exact .cons (TrAt.kind t _ a) (TrsAt.kind r _ b)
end
theorem TabS.fr {H H' : Hp} {P p : Addr} {q : Str} {xs : List V} (h : LamX.TabS H P q) (hp : H p = some (.lst xs)) (f : Fr p H H') : LamX.TabS H' P q := by
  obtain ⟨ps, h1, h2, h3⟩ := h
  refine ⟨ps, f _ _ (fun e => by rw [e, hp] at h1; cases h1) h1, h2, fun pos cv hc => ?_⟩
  obtain ⟨c, e, h4⟩ := h3 pos cv hc
  exact ⟨c, e, f _ _ (fun e => by rw [e, hp] at h4; cases h4) h4⟩

def ItR : ItP := fun ok H v t as => RowO1 ok H (v, t.told, as)
theorem itOk_ItR : ItOk ItR := ⟨fun hk h x => RowO1.imp x hk h, fun ⟨_, _, _, _, _, h⟩ => TrO.lst _ _ _ h⟩
def sp_written_part : Sp := fun vs H Q _ => ∃ (c : Nat) (l : Addr) (ts : List Tr), vs = [.str (ch c), .ref l] ∧ H l = some (.lst (ts.map fun t => V.str (ws t))) ∧ sizes ts ≤ 1000000 ∧ Q (.str (ws (.node c ts))) H
section
variable {P : Program} {w : World} {K : PySem.W.Frag} {mg : Str → Option Value} {base : Heap}
theorem ok_written_part (T : Txt K mg) : FnOk P w K mg base CX0 1 T.f_written_part T.d_written_part ["letter", "texts"] sp_written_part := by
  refine T.F_written_part.ok sc_written_part (fun vs H Q E h => ?_) (fun cdv A outer s H vs Q E hr h => ?_)
  · obtain ⟨c, l, ts, rfl, _⟩ := h
    rfl
  obtain ⟨c, l, ts, rfl, hl, hz, q⟩ := h
  refine ⟨_, (pss_cons (ps_if (pt_not (pt_truth (pv 1) (by intro _; rfl))) (pss_one (ps_ret (pv 0))) pss_nil) (pss_cons (ps_set (i := 2) sc_written_part.nd rfl (Or.inl rfl) (pe_join pe_str (pv 1))) (pss_one (ps_ret (pe_joined (.cons (pe_fmt (pv 0)) (.cons pe_str (.cons (pe_fmt (pv 2)) (.cons pe_str .nil))))))))), ?_⟩
  cases ts with
  | nil =>
    refine ⟨_, rfl, false, .inl ⟨_, SqL.of hl, rfl⟩, iteT ?_⟩
    exact ⟨_, rfl, q⟩
  | cons t0 r =>
    refine ⟨_, rfl, true, .inl ⟨_, SqL.of hl, rfl⟩, iteF ?_⟩
    generalize hts : t0 :: r = ts at *
    have e0 : (ts.map fun t => V.str (ws t)) = (ts.map ws).map V.str := by simp
    rw [e0] at hl
    refine ⟨⟨_, rfl⟩, _, rfl, _, l, _, rfl, rfl, .inl (SqL.of hl), ?_, ?_⟩
    · rw [ws_len]
      have := wrs_len ts
      have e : (Str.ofString "").length = 0 := by decide +kernel
      rw [e, Nat.mul_zero]
      omega
    rw [join_ws]
    have lw := wrs_len ts
    generalize hW : (⟨(wrs ts).toArray⟩ : Str) = W
    have lW : W.length ≤ 3000000 := by
      rw [← hW]
      show (wrs ts).toArray.size ≤ _
      rw [List.size_toArray]
      omega
    have l1 : (ch c).length = 1 := rfl
    have l2 : (Str.ofString "(").length = 1 := by decide +kernel
    have l3 : (Str.ofString ")").length = 1 := by decide +kernel
    have la : ∀ a b : Str, (a ++ b).length = a.length + b.length := fun a b => by
      show (a.cps ++ b.cps).size = _
      rw [Array.size_append]
      rfl
    have l0 : Str.empty.length = 0 := rfl
    have big : ∀ n : Nat, n ≤ 3000010 → n ≤ sizeLine := fun n h => Nat.le_trans h (by decide)
    refine ⟨_, rfl, .inl ⟨_, rfl, big _ (by omega), _, rfl, big _ (by rw [la]; omega), ?_⟩⟩
    refine ⟨_, rfl, big _ (by rw [la, la]; omega), ?_⟩
    refine ⟨_, rfl, .inl ⟨_, rfl, big _ (by omega), _, rfl, big _ (by rw [la, la, la]; omega), ?_⟩⟩
    refine ⟨_, rfl, big _ (by rw [la, la, la, la]; omega), ?_⟩
    have e : ws (.node c ts) = Str.empty ++ ch c ++ Str.ofString "(" ++ W ++ Str.ofString ")" := by
      have e1 : (Str.ofString "(").cps = #[40] := by decide +kernel
      have e2 : (Str.ofString ")").cps = #[41] := by decide +kernel
      rw [← hW, ← hts]
      show (⟨(c :: brk (wrs _)).toArray⟩ : Str) = (⟨((((#[] ++ #[c]) ++ (Str.ofString "(").cps) ++ (wrs _).toArray) ++ (Str.ofString ")").cps)⟩ : Str)
      rw [e1, e2, brk_wrs]
      simp
    rw [e] at q
    exact q
theorem told_sizes : ∀ (ts : List Tr), sizes (ts.map Tr.told) = sizes ts
  | [] => rfl
  | t :: r => by simp only [List.map_cons, sizes, told_size, told_sizes r]
theorem ok__joined (T : Txt K mg) (B : Tbs T base) : FnOk P w K mg base CX0 2 T.f__joined T.d__joined ["letter", "below"] (sp_made ItR T.P__joined q__joined) := by
  have G_written_part : FnOk P w K mg base CX0 1 T.f_written_part T.d_written_part ["letter", "texts"] sp_written_part := ok_written_part T
  refine okC T.F__joined T.h__joined sc__joined (fun vs H Q E h => ?_) (fun A outer s H vs Q E hr h => ?_)
  · obtain ⟨c, bl, bs, ok, rfl, _⟩ := h
    rfl
  obtain ⟨c, bl, bs0, ok, rfl, c1, c2, hbl, okb, hb0, hnd, hsz0, hok, hT, q⟩ := h
  refine ⟨_, (pss_cons (ps_set (i := 2) sc__joined.nd rfl (Or.inl rfl) (pe_callBK (cr_sortRow hr) (by rfl) T.z_sorted (by decide +kernel) (pa_cons (pv 1) pa_nil) (pk_cons (pe_lamRow B.tb__joined rfl (by rfl) (rowL_mk (x := "row") (by decide +kernel) rfl rfl rfl rfl (fun _ _ _ _ _ _ _ _ _ _ _ _ _ => rfl))) pk_nil))) (pss_one (ps_ret (pe_tup (pa_cons (pe_call G_written_part (hr.mono (by omega)) (by rfl) T.m_written_part T.F_written_part.kp T.b_written_part .nil pass0 (pa_cons (pv 0) (pa_cons (pe_lc (own := [("row", 3)]) (g := gName 3) (te := tOp (rIxT K) (tVar 3) (tC (.int 0))) (tt := tYes) rfl sc__joined.nd (pi_list (pv 2)) (blkOk_by (own := [("row", 3)]) (N := ["letter", "below", "rows", "row"]) (sc := (defScope s__joined)) (by decide +kernel)) (fun _ _ _ _ _ => (pg_name (i := 3) sc__joined.nd rfl (Or.inl rfl))) (fun _ _ _ _ _ => pts_nil) (fun _ _ _ _ _ => (pe_ix ix_tup (pv 3) pe_int (fun _ _ => rfl)))) pa_nil))) (pa_cons (pe_tup (pa_cons (pv 0) (pa_cons (pe_lc (own := [("row", 3)]) (g := gName 3) (te := tOp (rIxT K) (tVar 3) (tC (.int 1))) (tt := tYes) rfl sc__joined.nd (pi_list (pv 2)) (blkOk_by (own := [("row", 3)]) (N := ["letter", "below", "rows", "row"]) (sc := (defScope s__joined)) (by decide +kernel)) (fun _ _ _ _ _ => (pg_name (i := 3) sc__joined.nd rfl (Or.inl rfl))) (fun _ _ _ _ _ => pts_nil) (fun _ _ _ _ _ => (pe_ix ix_tup (pv 3) pe_int (fun _ _ => rfl)))) pa_nil))) pa_nil)))))), ?_⟩
  obtain ⟨ps0, hP0, _, _⟩ := id hT
  generalize hbs : bs0.map (fun b => (b.1, b.2.1.told, b.2.2)) = bs at *
  have e1 : bs0.map (·.1) = bs.map (·.1) := by rw [← hbs, List.map_map]; rfl
  have e2 : (bs0.map (·.2.1)).map Tr.told = bs.map (·.2.1) := by rw [← hbs, List.map_map, List.map_map]; rfl
  have e3 : lstsI bs0 = lsts bs := by rw [← hbs]; simp only [lstsI, lsts, List.map_map]; rfl
  have hb : ∀ b ∈ bs, RowO1 ok H b := by
    intro b h
    rw [← hbs] at h
    obtain ⟨b0, hb1, rfl⟩ := List.mem_map.mp h
    exact hb0 b0 hb1
  have hsz : sizes (bs.map (·.2.1)) ≤ 1000000 := by rw [← e2, told_sizes]; exact hsz0
  rw [e1] at hbl
  rw [e3] at hnd
  have lz := len_sizes (bs.map (·.2.1))
  rw [List.length_map] at lz
  refine ⟨_, rfl, hT, fun f cc H3 f3 hT3' hF hC => ?_⟩
  have hb3 : ∀ b ∈ bs, RowO1 ok H3 b := fun b h => (hb b h).imp (fun _ h => h) fun b o h e => f3 b o (hok b h) e
  have hbl3 := f3 _ _ (hok _ okb) hbl
  refine ⟨bl, f, cc, _, bs.map fun b => (b.1, ws b.2.1), rfl, rfl, hF, hC, ?_, ?_, ?_, fun rs hrs => ?_⟩
  · rw [hbl3, List.map_map]
    rfl
  · intro b hb4
    obtain ⟨b2, hb5, rfl⟩ := List.mem_map.mp hb4
    obtain ⟨p2, x2, e1, e2, _⟩ := hb3 b2 hb5
    exact ⟨p2, _, e1, e2⟩
  · rw [List.length_map]
    exact Nat.le_trans (show _ ≤ 1000000 by omega) (by decide)
  rw [leB_str]
  generalize hcs : bs.mergeSort leB = cs
  have hperm : cs.Perm bs := by rw [← hcs]; exact List.mergeSort_perm _ _
  have hctr : cs.map (·.2.1) = (bs.map (·.2.1)).mergeSort leW := by rw [← hcs, leB_tr]
  have hrs0 : H rs = none := by
    cases e : H rs with
    | none => rfl
    | some o =>
      have n1 : rs ≠ T.P__joined := fun e2 => by
        obtain ⟨_, e3, _⟩ := hT3'
        rw [e2, e3] at hrs
        cases hrs
      rw [f3 _ _ n1 e] at hrs
      cases hrs
  have lcs := hperm.length_eq
  have szc : sizes (cs.map (·.2.1)) = sizes (bs.map (·.2.1)) := sizes_perm (hperm.map _)
  have s34 : Same H3 (upd H3 rs (.lst (cs.map (·.1)))) := same_new hrs
  have hb4 : ∀ b ∈ cs, RowO1 ok (upd H3 rs (.lst (cs.map (·.1)))) b := fun b h => (hb3 b (hperm.mem_iff.mp h)).same s34
  have hR : (upd H3 rs (.lst (cs.map (·.1)))) rs = some (.lst (cs.map (·.1))) := upd_same
  have T4 := hT3'.ext s34
  have F4 : Fr T.P__joined H (upd H3 rs (.lst (cs.map (·.1)))) := fun b o n e => s34 _ _ (f3 b o n e)
  generalize hH4 : upd H3 rs (.lst (cs.map (·.1))) = H4 at *
  refine ⟨_, rfl, _, rfl, rs, rfl, ⟨_, SqL.of hR⟩, fun D hD => ?_⟩
  refine lc_list (xs := cs.map (·.1)) (fun i H5 => H5 D = some (.lst ((cs.take i).map fun b => .str (ws b.2.1))) ∧ Same H4 H5) ⟨upd_same, same_new hD⟩ (fun i H5 _ ⟨_, s⟩ => SqL.of (s _ _ hR)) ?_ ?_
  · rintro i x H5 hx ⟨g1, g2⟩
    rw [List.getElem?_map] at hx
    cases hc : cs[i]? with
    | none => rw [hc] at hx; cases hx
    | some b =>
      rw [hc] at hx
      cases hx
      obtain ⟨p, y, e, h1, h2, h3⟩ := hb4 b (List.mem_of_getElem? hc)
      obtain ⟨bv, bt, bl⟩ := b
      cases e
      refine ⟨rfl, _, rfl, p, _, 0, _, rfl, rfl, SqT.of (g2 _ _ h1), atI_nat (j := 0) rfl, _, g1, ?_, ?_, same_add g2 hD⟩
      · rw [List.length_map, List.length_take]
        exact Nat.lt_of_le_of_lt (show _ ≤ 1000000 by omega) (by decide)
      · rw [upd_same, take_succ_of hc, List.map_append]
        rfl
  rintro H5 ⟨g1, g2⟩
  rw [List.length_map, List.take_length] at g1
  have e0 : (cs.map fun b => V.str (ws b.2.1)) = (cs.map (·.2.1)).map fun t => V.str (ws t) := by simp
  rw [e0] at g1
  refine ⟨c, D, cs.map (·.2.1), rfl, g1, by omega, ?_⟩
  refine ⟨_, rfl, _, rfl, rs, rfl, ⟨_, SqL.of (g2 _ _ hR)⟩, fun D2 hD2 => ?_⟩
  have free4 : ∀ b, H4 b = none → H b = none := fun b h => by
    cases e : H b with
    | none => rfl
    | some o =>
      by_cases n1 : b = T.P__joined
      · obtain ⟨_, e3, _⟩ := T4
        rw [n1, e3] at h
        cases h
      · rw [F4 _ _ n1 e] at h
        cases h
  have hD20 : H D2 = none := free4 _ (g2.free hD2)
  have hD24 : H4 D2 = none := g2.free hD2
  refine lc_list (xs := cs.map (·.1)) (fun i H6 => ∃ ys, H6 D2 = some (.lst ys) ∧ TrsO (fun b => ok b ∧ b ≠ D2) H6 ys ((cs.take i).map (·.2.1)) ((cs.take i).map (·.2.2)).flatten ∧ Same H5 H6) ⟨[], upd_same, .nil, same_new hD2⟩ (fun i H6 _ ⟨_, _, _, s⟩ => SqL.of (s _ _ (g2 _ _ hR))) ?_ ?_
  · rintro i x H6 hx ⟨ys, k1, k2, k3⟩
    rw [List.getElem?_map] at hx
    cases hc : cs[i]? with
    | none => rw [hc] at hx; cases hx
    | some b =>
      rw [hc] at hx
      cases hx
      obtain ⟨p, y, e, h1, h2, h3⟩ := hb4 b (List.mem_of_getElem? hc)
      obtain ⟨bv, bt, bl⟩ := b
      cases e
      have hy := ((h3.off hD24).same (g2.trans k3))
      have kl := k2.len
      rw [List.length_map, List.length_take] at kl
      refine ⟨rfl, _, rfl, p, _, 1, _, rfl, rfl, SqT.of (k3 _ _ (g2 _ _ h1)), atI_nat (j := 1) rfl, ys, k1, ?_, ys ++ [y], upd_same, ?_, same_add k3 hD2⟩
      · exact Nat.lt_of_le_of_lt (show _ ≤ 1000000 by omega) (by decide)
      · rw [take_succ_of hc, List.map_append, List.map_append, List.flatten_append]
        have ky := k2.snoc hy
        simp only [List.map_cons, List.map_nil, List.flatten_cons, List.flatten_nil, List.append_nil]
        exact ky.keep (upd_keep fun b h => h.2)
  rintro H6 ⟨ys, k1, k2, k3⟩
  rw [List.length_map, List.take_length] at k2
  have s46 : Same H4 H6 := g2.trans k3
  refine ⟨(by show 2 ≤ sizeLine; decide), fun a ha => ⟨(by show 2 ≤ sizeLine; decide), fun p hp => ?_⟩⟩
  have nap : a ≠ p := fun e => by rw [← e, upd_same] at hp; cases hp
  have hp1 : H6 p = none := NdefX.upd_none hp
  have s68 : Same H6 (upd (upd H6 a (.tup [.str (ch c), .ref D2])) p (.tup [.str (ws (.node c (cs.map (·.2.1)))), .ref a])) := (same_new ha).trans (same_new hp)
  have s48 := s46.trans s68
  have nDa : D2 ≠ a := ne_of_none k1 ha
  have nDp : D2 ≠ p := ne_of_none k1 hp1
  have e3' : ((cs.map (·.2.2)).flatten).Perm (lsts bs) := (hperm.map _).flatten
  have etold : (Tr.node c (bs0.map (·.2.1))).told = .node c (cs.map (·.2.1)) := by
    rw [hctr, ← e2]
    simp only [Tr.told, tolds_map]
  have ndb := (List.nodup_cons.mp hnd)
  refine q (.ref p) (D2 :: (cs.map (·.2.2)).flatten) _ (fun b o n e => s48 _ _ (F4 b o n e)) (T4.ext s48) ?_ ?_ ?_
  · show RowO1 _ _ (V.ref p, (Tr.node c (bs0.map (·.2.1))).told, _)
    rw [etold]
    refine ⟨p, .ref a, rfl, upd_same, .inr (free4 _ (s46.free hp1)), ?_⟩
    refine .node (by rw [upd_ne nap]; exact upd_same) (by rw [upd_ne nDp, upd_ne nDa]; exact k1) (.inr (free4 _ (s46.free ha))) (.inr hD20) c1 c2 ?_
    exact (k2.same s68).weak fun b h => .inl h.1
  · rw [List.nodup_cons]
    refine ⟨fun hm => ?_, (e3'.nodup_iff).mpr ndb.2⟩
    exact (TrsO.lst _ _ _ k2 D2 hm).1.2 rfl
  · intro b hb8
    rcases List.mem_cons.mp hb8 with h | h
    · exact .inr (h ▸ hD20)
    · refine .inl (List.mem_cons_of_mem _ ?_)
      rw [e3]
      exact e3'.mem_iff.mp h
def sp__written_and_told (Pt : Addr) (q : Str) : Sp := fun vs H Q _ => ∃ (v : V) (t : Tr), vs = [v] ∧ TrAt (fun _ => True) H v t ∧ t.size ≤ 1000000 ∧ LamX.TabS H Pt q ∧
  ∀ v' as H', Fr Pt H H' → LamX.TabS H' Pt q → as.Nodup → RowO1 (fun b => H b = none) H' (v', t.told, as) → Q v' H'
theorem ok__written_and_told (T : Txt K mg) (B : Tbs T base) : FnOk P w K mg base CX0 8 T.f__written_and_told T.d__written_and_told ["tree"] (sp__written_and_told T.P__joined q__joined) := by
  have G_built_upward : FnOk P w K mg base CX0 7 T.f_built_upward T.d_built_upward ["tree", "made"] (sp_built_upward P w K mg base 6 T.P__joined q__joined) := ok_built_upward T 6 (by decide) _ _
  refine T.F__written_and_told.ok sc__written_and_told (fun vs H Q E h => ?_) (fun cdv A outer s H vs Q E hr h => ?_)
  · obtain ⟨v, t, rfl, _⟩ := h
    rfl
  obtain ⟨v, t, rfl, ht, hz, hT, q⟩ := h
  refine ⟨_, (pss_one (ps_ret (pe_call G_built_upward (hr.mono (by omega)) (by rfl) T.m_built_upward T.F_built_upward.kp T.b_built_upward .nil pass0 (pa_cons (pv 0) (pa_cons (pe_glob (v := .ref T.f__joined) rfl T.m__joined rfl) pa_nil))))), ?_⟩
  refine ⟨_, rfl, v, t, T.f__joined, ItR, rfl, ht, hz, itOk_ItR, hT, ?_, fun r as H' f T' x nd => q r as H' f T' nd x⟩
  exact (calX_of (ok__joined T B) T.F__joined T.b__joined (G := fun H' => Fr T.P__joined H H')).imp (by decide) (fun _ h => h) (fun _ _ _ _ h => h)
end
def sp_told_form (Pt : Addr) (q : Str) : Sp := fun vs H Q _ => ∃ (v : V) (t : Tr), vs = [v] ∧ TrAt (fun _ => True) H v t ∧ t.size ≤ 1000000 ∧ LamX.TabS H Pt q ∧
  ∀ x as H', Fr Pt H H' → LamX.TabS H' Pt q → as.Nodup → TrO (fun b => H b = none) H' x t.told as → Q x H'
def sp_written_tree (Pt : Addr) (q : Str) : Sp := fun vs H Q _ => ∃ (v : V) (t : Tr), vs = [v] ∧ TrAt (fun _ => True) H v t ∧ t.size ≤ 1000000 ∧ LamX.TabS H Pt q ∧
  ∀ H', Fr Pt H H' → LamX.TabS H' Pt q → Q (.str (ws t.told)) H'
section
variable {P : Program} {w : World} {K : PySem.W.Frag} {mg : Str → Option Value} {base : Heap}
theorem ok_told_form (T : Txt K mg) (B : Tbs T base) : FnOk P w K mg base CX0 9 T.f_told_form T.d_told_form ["tree"] (sp_told_form T.P__joined q__joined) := by
  have G__written_and_told : FnOk P w K mg base CX0 8 T.f__written_and_told T.d__written_and_told ["tree"] (sp__written_and_told T.P__joined q__joined) := ok__written_and_told T B
  refine T.F_told_form.ok sc_told_form (fun vs H Q E h => ?_) (fun cdv A outer s H vs Q E hr h => ?_)
  · obtain ⟨v, t, rfl, _⟩ := h
    rfl
  obtain ⟨v, t, rfl, ht, hz, hT, q⟩ := h
  refine ⟨_, (pss_one (ps_ret (pe_ix ix_tup (pe_call G__written_and_told (hr.mono (by omega)) (by rfl) T.m__written_and_told T.F__written_and_told.kp T.b__written_and_told .nil pass0 (pa_cons (pv 0) pa_nil)) pe_int (fun _ _ => rfl)))), ?_⟩
  refine ⟨_, rfl, v, t, rfl, ht, hz, hT, fun v' as H' f T' nd row => ?_⟩
  obtain ⟨p, x, rfl, h1, h2, h3⟩ := row
  exact ⟨p, _, 1, _, rfl, rfl, SqT.of h1, atI_nat (j := 1) rfl, q x as H' f T' nd h3⟩
theorem ok_written_tree (T : Txt K mg) (B : Tbs T base) : FnOk P w K mg base CX0 9 T.f_written_tree T.d_written_tree ["tree"] (sp_written_tree T.P__joined q__joined) := by
  have G__written_and_told : FnOk P w K mg base CX0 8 T.f__written_and_told T.d__written_and_told ["tree"] (sp__written_and_told T.P__joined q__joined) := ok__written_and_told T B
  refine T.F_written_tree.ok sc_written_tree (fun vs H Q E h => ?_) (fun cdv A outer s H vs Q E hr h => ?_)
  · obtain ⟨v, t, rfl, _⟩ := h
    rfl
  obtain ⟨v, t, rfl, ht, hz, hT, q⟩ := h
  refine ⟨_, (pss_one (ps_ret (pe_ix ix_tup (pe_call G__written_and_told (hr.mono (by omega)) (by rfl) T.m__written_and_told T.F__written_and_told.kp T.b__written_and_told .nil pass0 (pa_cons (pv 0) pa_nil)) pe_int (fun _ _ => rfl)))), ?_⟩
  refine ⟨_, rfl, v, t, rfl, ht, hz, hT, fun v' as H' f T' nd row => ?_⟩
  obtain ⟨p, x, rfl, h1, h2, h3⟩ := row
  exact ⟨p, _, 0, _, rfl, rfl, SqT.of h1, atI_nat (j := 0) rfl, q H' f T'⟩
end


def hstep (acc : List (Tr × Nat)) (t : Tr) : List (Tr × Nat) :=
  match acc.getLast? with
  | some (u, n) => if u.wr = t.wr then acc.dropLast ++ [(u, n + 1)] else acc ++ [(t, 1)]
  | none => [(t, 1)]
def rle (ts : List Tr) : List (Tr × Nat) := ts.foldl hstep []
theorem rle_snoc (ts : List Tr) (t : Tr) : rle (ts ++ [t]) = hstep (rle ts) t := by
  unfold rle
  rw [List.foldl_append]
  rfl
def expand (acc : List (Tr × Nat)) : List Tr := (acc.map fun e => List.replicate e.2 e.1).flatten
theorem expand_append (a b : List (Tr × Nat)) : expand (a ++ b) = expand a ++ expand b := by simp [expand]
theorem hstep_expand {acc : List (Tr × Nat)} {t : Tr} (ha : ∀ e ∈ acc, e.1.lets Ltr) (ht : t.lets Ltr) : expand (hstep acc t) = expand acc ++ [t] := by
  unfold hstep
  cases h : acc.getLast? with
  | none =>
    have : acc = [] := List.getLast?_eq_none_iff.mp h
    subst this
    rfl
  | some e =>
    obtain ⟨u, n⟩ := e
    have hne : acc ≠ [] := fun e => by rw [e] at h; cases h
    have hl : acc.getLast hne = (u, n) := by
      rw [List.getLast?_eq_some_getLast hne] at h
      exact Option.some.inj h
    have hsp : acc = acc.dropLast ++ [(u, n)] := by rw [← hl]; exact (List.dropLast_concat_getLast hne).symm
    dsimp only
    by_cases hw : u.wr = t.wr
    · rw [if_pos hw]
      have hu := ha (u, n) (by rw [hsp]; simp)
      have : u = t := wr_eq hu ht hw
      subst this
      conv => rhs; rw [hsp]
      rw [expand_append, expand_append]
      simp [expand, List.replicate_succ']
    · rw [if_neg hw, expand_append]
      simp [expand]
theorem hstep_lets {acc : List (Tr × Nat)} {t : Tr} (ha : ∀ e ∈ acc, e.1.lets Ltr ∧ 1 ≤ e.2) (ht : t.lets Ltr) : ∀ e ∈ hstep acc t, e.1.lets Ltr ∧ 1 ≤ e.2 := by
  unfold hstep
  intro e he
  cases h : acc.getLast? with
  | none =>
    rw [h] at he
    simp only [List.mem_singleton] at he
    subst he
    exact ⟨ht, Nat.le_refl 1⟩
  | some x =>
    obtain ⟨u, n⟩ := x
    rw [h] at he
    dsimp only at he
    by_cases hw : u.wr = t.wr
    · rw [if_pos hw] at he
      rcases List.mem_append.mp he with he | he
      · exact ha e ((List.dropLast_sublist _).subset he)
      · simp only [List.mem_singleton] at he
        subst he
        exact ⟨(ha (u, n) (List.mem_of_getLast? h)).1, Nat.le_add_left 1 n⟩
    · rw [if_neg hw] at he
      rcases List.mem_append.mp he with he | he
      · exact ha e he
      · simp only [List.mem_singleton] at he
        subst he
        exact ⟨ht, Nat.le_refl 1⟩
theorem rle_go : ∀ (ts : List Tr) (acc : List (Tr × Nat)), (∀ e ∈ acc, e.1.lets Ltr ∧ 1 ≤ e.2) → letss Ltr ts → expand (ts.foldl hstep acc) = expand acc ++ ts ∧ ∀ e ∈ ts.foldl hstep acc, e.1.lets Ltr ∧ 1 ≤ e.2
  | [], acc, h, _ => ⟨by simp, h⟩
  | t :: r, acc, h, hl => by
    simp only [letss] at hl
    obtain ⟨h1, h2⟩ := rle_go r (hstep acc t) (hstep_lets h hl.1) hl.2
    rw [List.foldl_cons]
    refine ⟨?_, h2⟩
    rw [h1, hstep_expand (fun e he => (h e he).1) hl.1, List.append_assoc]
    rfl
theorem rle_all (ts : List Tr) (h : letss Ltr ts) : expand (rle ts) = ts ∧ ∀ e ∈ rle ts, e.1.lets Ltr ∧ 1 ≤ e.2 := by
  obtain ⟨h1, h2⟩ := rle_go ts [] (fun e h => by cases h) h
  exact ⟨by rw [show rle ts = ts.foldl hstep [] from rfl, h1]; rfl, h2⟩
structure HE where
  v : V
  t : Tr
  n : Nat
  as : List Addr
def HeAt (ok : Addr → Prop) (H : Hp) (e : HE) : Prop := ∃ p x, e.v = .ref p ∧ H p = some (.tup [x, .int e.n]) ∧ ok p ∧ TrO ok H x e.t e.as
def HeIn (H : Hp) (e : V × Tr × Nat) : Prop := ∃ p x, e.1 = .ref p ∧ H p = some (.tup [x, .int e.2.2]) ∧ TrAt (fun _ => True) H x e.2.1
section
variable {P : Program} {w : World} {K : PySem.W.Frag} {mg : Str → Option Value} {base : Heap}
theorem TabS.frO {H H' : Hp} {P P2 : Addr} {q : Str} {ps : Array Value} (h : LamX.TabS H P2 q) (n : P2 ≠ P) (hP : H P = some (.tbl ps)) (f : Fr P H H') : LamX.TabS H' P2 q := by
  obtain ⟨ps2, h1, h2, h3⟩ := h
  refine ⟨ps2, f _ _ n h1, h2, fun pos cv hc => ?_⟩
  obtain ⟨c, e, h4⟩ := h3 pos cv hc
  exact ⟨c, e, f _ _ (fun e => by rw [e, hP] at h4; cases h4) h4⟩
theorem TrAt.frT' {ok : Addr → Prop} {P : Addr} {H H' : Hp} {v : V} {t : Tr} {ps : Array Value} (x : TrAt ok H v t) (hP : H P = some (.tbl ps)) (f : Fr P H H') : TrAt ok H' v t :=
  ((TrAt.kind t v x).keep fun b o h e => f b o (fun e2 => h.2 ps (by rw [e2]; exact hP)) e).weak fun b h => h.1
theorem Fr.upd0 {p q : Addr} {H H' : Hp} {o : HO} (f : Fr p H H') (h : H q = none) : Fr p H (upd H' q o) := fun b u n e => by
  rw [upd_ne (ne_of_none e h)]
  exact f b u n e
def Fr2 (p r : Addr) (H H' : Hp) : Prop := ∀ b o, b ≠ p → b ≠ r → H b = some o → H' b = some o
def sp_heap_of (P1 : Addr) (q1 : Str) (P2 : Addr) (q2 : Str) : Sp := fun vs H Q _ => ∃ (v : V) (t : Tr), vs = [v] ∧ TrAt (fun _ => True) H v t ∧ t.size ≤ 1000000 ∧ LamX.TabS H P1 q1 ∧ LamX.TabS H P2 q2 ∧
  ∀ r (es : List HE) H', Fr2 P1 P2 H H' → LamX.TabS H' P1 q1 → LamX.TabS H' P2 q2 → H r = none → H' r = some (.lst (es.map (·.v))) → (∀ e ∈ es, HeAt (fun b => H b = none ∧ b ≠ r) H' e) → (es.map (·.as)).flatten.Nodup → es.map (fun e => (e.t, e.n)) = rle ((tolds t.kids).mergeSort leW) → Q (.ref r) H'
theorem ok_heap_of (T : Txt K mg) (B : Tbs T base) : FnOk P w K mg base CX0 9 T.f_heap_of T.d_heap_of ["tree"] (sp_heap_of T.P__joined q__joined T.P_heap_of q_heap_of) := by
  have G__written_and_told : FnOk P w K mg base CX0 8 T.f__written_and_told T.d__written_and_told ["tree"] (sp__written_and_told T.P__joined q__joined) := ok__written_and_told T B
  have G_check_tree : FnOk P w K mg base CX0 4 T.f_check_tree T.d_check_tree ["thing"] sp_check_tree := ok_check_tree T
  refine okC T.F_heap_of T.h_heap_of sc_heap_of (fun vs H Q E h => ?_) (fun A outer s H vs Q E hr h => ?_)
  · obtain ⟨v, t, rfl, _⟩ := h
    rfl
  obtain ⟨v, t, rfl, ht, hz, hT1, hT2, q⟩ := h
  refine ⟨_, (pss_cons (ps_expr (pe_call G_check_tree (hr.mono (by omega)) (by rfl) T.m_check_tree T.F_check_tree.kp T.b_check_tree .nil pass0 (pa_cons (pv 0) pa_nil))) (pss_cons (ps_set (i := 1) sc_heap_of.nd rfl (Or.inl rfl) (pe_callBK (cr_sortRow hr) (by rfl) T.z_sorted (by decide +kernel) (pa_cons (pe_lc (own := [("child", 2)]) (g := gName 2) (tt := tYes) rfl sc_heap_of.nd (pi_list (pe_ix ix_tup (pv 0) pe_int (fun _ _ => rfl))) (blkOk_by (own := [("child", 2)]) (N := ["tree", "rows", "child", "heap", "last", "written"]) (sc := (defScope s_heap_of)) (by decide +kernel)) (fun _ _ _ _ _ => (pg_name (i := 2) sc_heap_of.nd rfl (Or.inl rfl))) (fun _ _ _ _ _ => pts_nil) (fun _ _ _ _ _ => (pe_call G__written_and_told (hr.mono (by omega)) (by rfl) T.m__written_and_told T.F__written_and_told.kp T.b__written_and_told .nil pass0 (pa_cons (pv 2) pa_nil)))) pa_nil) (pk_cons (pe_lamRow B.tb_heap_of rfl (by rfl) (rowL_mk (x := "row") (by decide +kernel) rfl rfl rfl rfl (fun _ _ _ _ _ _ _ _ _ _ _ _ _ => rfl))) pk_nil))) (pss_cons (ps_set (i := 3) sc_heap_of.nd rfl (Or.inl rfl) (pe_lst pa_nil)) (pss_cons (ps_set (i := 4) sc_heap_of.nd rfl (Or.inl rfl) pe_non) (pss_cons (ps_for PassesOwn.never rfl (pi_list (pv 1)) (pg_tup rfl (pgs_cons (pg_name (i := 5) sc_heap_of.nd rfl (Or.inl rfl)) (pgs_cons (pg_name (i := 2) sc_heap_of.nd rfl (Or.inl rfl)) pgs_nil))) (pss_cons (ps_if (pt_cmpR op_eq (pv 5) (pv 4) (nomark _)) (pss_one (ps_asg (pe_tup (pa_cons (pe_ix ix_tup (pe_ix ix_list (pv 3) (pe_un un_neg pe_int) (fun _ _ => rfl)) pe_int (fun _ _ => rfl)) (pa_cons (pe_op op_add (pe_ix ix_tup (pe_ix ix_list (pv 3) (pe_un un_neg pe_int) (fun _ _ => rfl)) pe_int (fun _ _ => rfl)) pe_int) pa_nil))) (pg_sub (pv 3) (pe_un un_neg pe_int) set_list))) (pss_one (ps_expr (pe_bm PySem.F.plainAttrs_list PySem.F.slot_list_append PySem.F.type_list_append mt_append (pv 3) (pa_cons (pe_tup (pa_cons (pv 2) (pa_cons pe_int pa_nil))) pa_nil))))) (pss_one (ps_set (i := 4) sc_heap_of.nd rfl (Or.inl rfl) (pv 5))))) (pss_one (ps_ret (pv 3)))))))), ?_⟩
  obtain ⟨c, ks⟩ := t
  simp only [Tr.size] at hz
  have lz := len_sizes ks
  obtain ⟨pa0, hA0, _, _⟩ := id hT1
  obtain ⟨pb0, hB0, _, _⟩ := id hT2
  generalize hP1 : T.P__joined = P1 at *
  generalize hP2 : T.P_heap_of = P2 at *
  have nPP : P2 ≠ P1 := fun e => T.n__joined_heap_of (by rw [hP1, hP2, e])
  refine ⟨_, rfl, v, _, rfl, ht, by simp only [Tr.size]; omega, fun H1 s1 => ?_⟩
  have hA1 := s1 _ _ hA0
  have hB1 := s1 _ _ hB0
  cases ht with
  | node h1 h2 k1 k2 c1 c2 rr =>
  rename_i a l xs
  have lr := rr.len
  refine ⟨_, rfl, _, _, 1, _, rfl, rfl, SqT.of (s1 _ _ h1), atI_nat (j := 1) rfl, _, rfl, ⟨_, SqL.of (s1 _ _ h2)⟩, fun D hD => ?_⟩
  have hl1 := s1 _ _ h2
  have nlP : l ≠ P1 := fun e => by rw [e, hA0] at h2; cases h2
  refine lc_list (xs := xs) (fun i H2 => ∃ bs : List (V × Tr × List Addr), H2 D = some (.lst (bs.map (·.1))) ∧ (∀ b ∈ bs, RowO1 (fun b => H1 b = none ∧ b ≠ D) H2 b) ∧ (lsts bs).Nodup ∧ bs.map (·.2.1) = tolds (ks.take i) ∧ Fr P1 H1 H2 ∧ LamX.TabS H2 P1 q__joined ∧ LamX.TabS H2 P2 q_heap_of)
    ⟨[], upd_same, (fun _ h => by cases h), List.nodup_nil, rfl, Fr.same (same_new hD), (hT1.ext s1).ext (same_new hD), (hT2.ext s1).ext (same_new hD)⟩ (fun i H2 _ ⟨_, _, _, _, _, f, _⟩ => SqL.of (f _ _ nlP hl1)) ?_ ?_
  · rintro i x H2 hx ⟨bs, g1, g2, g3, g4, g5, g6, g7⟩
    obtain ⟨t1, ht1, hx2⟩ := rr.getV hx
    have st := sizes_mem (List.mem_of_getElem? ht1)
    have la := congrArg List.length g4
    rw [List.length_map, tolds_len, List.length_take] at la
    obtain ⟨pa2, hA2, _, _⟩ := id g6
    refine ⟨rfl, _, rfl, x, t1, rfl, (hx2.same s1).frT' hA1 g5, by omega, g6, fun v' as H3 f3 T3 nd row => ?_⟩
    have nDP : D ≠ P1 := fun e => by rw [e, hA2] at g1; cases g1
    have g1' := f3 _ _ nDP g1
    have lst3 : ∀ b ∈ as, H2 b = none := fun b hb => by
      obtain ⟨p, x, _, _, _, e⟩ := row
      exact (TrO.lst _ _ _ e b hb).1
    refine ⟨_, g1', ?_, bs ++ [(v', t1.told, as)], by rw [upd_same, List.map_append]; rfl, ?_, ?_, ?_, ?_, ?_, ?_⟩
    · rw [List.length_map]
      exact Nat.lt_of_le_of_lt (show bs.length ≤ 1000000 by omega) (by decide)
    · intro b hb
      rcases List.mem_append.mp hb with hb | hb
      · exact (g2 b hb).imp (fun _ h => h) fun b o h e => by rw [upd_ne h.2]; exact f3 _ _ (fun e2 => by rw [e2, hA1] at h; cases h.1) e
      · simp only [List.mem_singleton] at hb
        subst hb
        exact row.imp (fun b h => ⟨g5.free (by rw [hA2]; simp) h, fun e => by rw [e, g1] at h; cases h⟩) fun b o h e => by rw [upd_ne (fun e => by rw [e, g1] at h; cases h)]; exact e
    · have e2 : lsts (bs ++ [(v', t1.told, as)]) = lsts bs ++ as := by simp [lsts]
      rw [e2]
      refine nodup_snoc g3 nd fun b hb h => ?_
      obtain ⟨as2, ha, hl2⟩ := List.mem_flatten.mp hb
      obtain ⟨b2, hb2, rfl⟩ := List.mem_map.mp ha
      obtain ⟨p2, x2, _, _, _, e4⟩ := g2 b2 hb2
      obtain ⟨_, xs2, e5⟩ := TrO.lst _ _ _ e4 b hl2
      rw [lst3 b h] at e5
      cases e5
    · rw [take_succ_of ht1, List.map_append, g4, tolds_map, tolds_map, List.map_append]
      rfl
    · exact (g5.trans f3).upd0 hD
    · exact TabS.fr T3 g1' fun b o n e => by rw [upd_ne n]; exact e
    · exact TabS.fr (TabS.frO g7 nPP hA2 f3) g1' fun b o n e => by rw [upd_ne n]; exact e
  rintro H2 ⟨bs, g1, g2, g3, g4, g5, g6, g7⟩
  rw [lr, List.take_length] at g4
  have hblen : bs.length = ks.length := by
    have la := congrArg List.length g4
    rw [List.length_map, tolds_len] at la
    exact la
  obtain ⟨pa2, hA2, _, _⟩ := id g6
  obtain ⟨pb2, hB2, _, _⟩ := id g7
  refine ⟨g7, fun f cc H3 f3 hT3 hF hC => ?_⟩
  have hD3 := f3 D _ (fun e => by rw [e, hB2] at g1; cases g1) g1
  have okB : ∀ b, (H1 b = none ∧ b ≠ D) → b ≠ P2 := fun b h e => by rw [e, hB1] at h; cases h.1
  have hb3 : ∀ b ∈ bs, RowO1 (fun b => H1 b = none ∧ b ≠ D) H3 b := fun b h => (g2 b h).imp (fun _ h => h) fun b o h e => f3 b o (okB b h) e
  refine ⟨D, f, cc, _, bs.map fun b => (b.1, ws b.2.1), rfl, rfl, hF, hC, ?_, ?_, ?_, fun rs hrs => ?_⟩
  · rw [hD3, List.map_map]
    rfl
  · intro b hb4
    obtain ⟨b2, hb5, rfl⟩ := List.mem_map.mp hb4
    obtain ⟨p2, x2, e1, e2, _⟩ := hb3 b2 hb5
    exact ⟨p2, _, e1, e2⟩
  · rw [List.length_map]
    exact Nat.le_trans (show _ ≤ 1000000 by omega) (by decide)
  rw [leB_str]
  generalize hcs : bs.mergeSort leB = cs
  have hperm : cs.Perm bs := by rw [← hcs]; exact List.mergeSort_perm _ _
  have hctr : cs.map (·.2.1) = (tolds ks).mergeSort leW := by rw [← hcs, leB_tr, g4]
  have hcn : (lsts cs).Nodup := ((hperm.map _).flatten.nodup_iff).mpr g3
  have hD4 : ∀ b o, H3 b = some o → (upd H3 rs (.lst (cs.map (·.1)))) b = some o := fun b o h => by rw [upd_ne (ne_of_none h hrs)]; exact h
  have hcb : ∀ b ∈ cs, RowO1 (fun b => H1 b = none ∧ b ≠ D) (upd H3 rs (.lst (cs.map (·.1)))) b := fun b h => (hb3 b (hperm.mem_iff.mp h)).same hD4
  have f14 : ∀ b o, b ≠ P1 → b ≠ P2 → H1 b = some o → (upd H3 rs (.lst (cs.map (·.1)))) b = some o := fun b o n1 n2 e => hD4 _ _ (f3 _ _ n2 (g5 _ _ n1 e))
  have T14 : LamX.TabS (upd H3 rs (.lst (cs.map (·.1)))) P1 q__joined := (TabS.frO g6 nPP.symm hB2 f3).ext hD4
  have T24 : LamX.TabS (upd H3 rs (.lst (cs.map (·.1)))) P2 q_heap_of := LamX.TabS.ext hT3 hD4
  have hr4 : (upd H3 rs (.lst (cs.map (·.1)))) rs = some (.lst (cs.map (·.1))) := upd_same
  generalize hH4 : upd H3 rs (.lst (cs.map (·.1))) = H4 at *
  refine ⟨(by show 0 ≤ sizeLine; decide), fun hp hhp => ?_⟩
  obtain ⟨pa4, hA4, _, _⟩ := id T14
  obtain ⟨pb4, hB4, _, _⟩ := id T24
  have nhA : hp ≠ P1 := fun e => by rw [e, hA4] at hhp; cases hhp
  have nhB : hp ≠ P2 := fun e => by rw [e, hB4] at hhp; cases hhp
  have hhp1 : H1 hp = none := by
    cases e : H1 hp with
    | none => rfl
    | some o => rw [f14 _ _ nhA nhB e] at hhp; cases hhp
  have hhp0 : H hp = none := s1.free hhp1
  have nrh : rs ≠ hp := ne_of_none hr4 hhp
  have k45 : ∀ b o, H4 b = some o → (upd H4 hp (.lst [])) b = some o := fun b o h => by rw [upd_ne (ne_of_none h hhp)]; exact h
  refine ⟨_, rfl, rs, rfl, ⟨_, SqL.of (k45 _ _ hr4)⟩, for_list (xs := cs.map (·.1)) (fun i σ H5 => ∃ (y2 y5 : Option V) (es : List HE) (lv : V), σ = [some (.ref a), some (.ref rs), y2, some (.ref hp), some lv, y5] ∧ H5 hp = some (.lst (es.map (·.v))) ∧ (∀ e ∈ es, HeAt (fun b => H b = none ∧ b ≠ hp) H5 e) ∧
      (es.map (·.as)).flatten.Nodup ∧ es.map (fun e => (e.t, e.n)) = rle ((cs.map (·.2.1)).take i) ∧ (es = [] ∧ lv = .non ∨ ∃ es0 e, es = es0 ++ [e] ∧ lv = .str (ws e.t)) ∧ (∀ x ∈ (es.map (·.as)).flatten, x ∈ lsts (cs.take i)) ∧ es.length ≤ i ∧ (∀ b o, b ≠ hp → H4 b = some o → H5 b = some o))
    ⟨none, none, [], .non, rfl, upd_same, (fun _ h => by cases h), List.nodup_nil, rfl, .inl ⟨rfl, rfl⟩, (fun _ h => by cases h), Nat.le_refl _, fun b o _ h => k45 b o h⟩ (fun i σ H5 _ ⟨_, _, _, _, _, _, _, _, _, _, _, _, k⟩ => SqL.of (k _ _ nrh hr4)) ?_ ?_⟩
  · rintro i x σ H5 hx ⟨y2, y5, es, lv, rfl, e1, e2, e3, e4, e5, e6, e7, k5⟩
    rw [List.getElem?_map] at hx
    cases hc : cs[i]? with
    | none => rw [hc] at hx; cases hx
    | some b =>
    rw [hc] at hx
    cases hx
    have hmem := List.mem_of_getElem? hc
    have hilt : i < ks.length := by
      have := (List.getElem?_eq_some_iff.mp hc).1
      rw [hperm.length_eq] at this
      omega
    have hrow : RowO1 (fun b => H b = none ∧ b ≠ hp) H5 b := by
      obtain ⟨p, x, q1, q2, q3, q4⟩ := hcb b hmem
      have np : ∀ b o, H4 b = some o → b ≠ hp := fun b o h => ne_of_none h hhp
      exact ⟨p, x, q1, k5 _ _ (np _ _ q2) q2, ⟨s1.free q3.1, np _ _ q2⟩, TrO.imp (fun b ⟨h, o, e⟩ => ⟨s1.free h.1, np _ _ e⟩) (fun b o ⟨_, o2, e2⟩ e => k5 _ _ (np _ _ e2) e) _ _ _ (TrO.there _ _ _ q4)⟩
    obtain ⟨bv, bt, bas⟩ := b
    obtain ⟨p, x, rfl, q2, q3, q4⟩ := hrow
    dsimp only at q2 q4
    have hbnd : bas.Nodup := by
      have := (List.pairwise_flatten.mp hcn).1 bas (List.mem_map.mpr ⟨_, hmem, rfl⟩)
      exact this
    have hsub1 : ∀ z ∈ lsts (cs.take i), z ∈ lsts (cs.take (i + 1)) := fun z hz => by
      rw [take_succ_of hc]
      simp only [lsts, List.map_append, List.flatten_append]
      exact List.mem_append_left _ hz
    have hdis : ∀ z ∈ bas, z ∉ lsts (cs.take i) := by
      intro z h1 h2
      have ecs : cs = cs.take i ++ (V.ref p, bt, bas) :: cs.drop (i + 1) := by
        obtain ⟨hlt, e⟩ := List.getElem?_eq_some_iff.mp hc
        rw [← e, ← List.drop_eq_getElem_cons hlt, List.take_append_drop]
      rw [ecs] at hcn
      have e2 : lsts (cs.take i ++ (V.ref p, bt, bas) :: cs.drop (i + 1)) = lsts (cs.take i) ++ (bas ++ lsts (cs.drop (i + 1))) := by simp [lsts]
      rw [e2, List.nodup_append] at hcn
      exact hcn.2.2 z h2 z (List.mem_append_left _ h1) rfl
    have hrle : rle ((cs.map (·.2.1)).take (i + 1)) = hstep (rle ((cs.map (·.2.1)).take i)) bt := by
      rw [take_succ_of (x := bt) (by rw [List.getElem?_map, hc]; rfl), rle_snoc]
    refine ⟨_, _, rfl, SqT.of q2, rfl, _, _, rfl, _, _, rfl, rfl, ?_⟩
    have addNew : ∀ tp, H5 tp = none → (es = [] ∨ ∃ es0 e, es = es0 ++ [e] ∧ ¬ e.t.wr = bt.wr) →
        ∃ (y2' y5' : Option V) (es' : List HE) (lv' : V), [some (.ref a), some (.ref rs), some x, some (.ref hp), some (.str (ws bt)), some (.str (ws bt))] = [some (.ref a), some (.ref rs), y2', some (.ref hp), some lv', y5'] ∧
          (upd (upd H5 tp (.tup [x, .int 1])) hp (.lst (es.map (·.v) ++ [.ref tp]))) hp = some (.lst (es'.map (·.v))) ∧ (∀ e ∈ es', HeAt (fun b => H b = none ∧ b ≠ hp) (upd (upd H5 tp (.tup [x, .int 1])) hp (.lst (es.map (·.v) ++ [.ref tp]))) e) ∧
          (es'.map (·.as)).flatten.Nodup ∧ es'.map (fun e => (e.t, e.n)) = rle ((cs.map (·.2.1)).take (i + 1)) ∧ (es' = [] ∧ lv' = .non ∨ ∃ es0 e, es' = es0 ++ [e] ∧ lv' = .str (ws e.t)) ∧ (∀ x ∈ (es'.map (·.as)).flatten, x ∈ lsts (cs.take (i + 1))) ∧ es'.length ≤ i + 1 ∧
          (∀ b o, b ≠ hp → H4 b = some o → (upd (upd H5 tp (.tup [x, .int 1])) hp (.lst (es.map (·.v) ++ [.ref tp]))) b = some o) := by
      intro tp htp hcase
      have ntp : tp ≠ hp := fun e => by rw [e, e1] at htp; cases htp
      have kk : ∀ b o, b ≠ hp → H5 b = some o → (upd (upd H5 tp (.tup [x, .int 1])) hp (.lst (es.map (·.v) ++ [.ref tp]))) b = some o := fun b o n e => by rw [upd_ne n, upd_ne (ne_of_none e htp)]; exact e
      have tp0 : H tp = none := by
        cases e : H tp with
        | none => rfl
        | some o =>
          have n1 : tp ≠ P1 := fun e2 => by rw [e2, k5 _ _ nhA.symm hA4] at htp; cases htp
          have n2 : tp ≠ P2 := fun e2 => by rw [e2, k5 _ _ nhB.symm hB4] at htp; cases htp
          rw [k5 _ _ ntp (f14 _ _ n1 n2 (s1 _ _ e))] at htp
          cases htp
      refine ⟨_, _, es ++ [⟨.ref tp, bt, 1, bas⟩], _, rfl, by rw [upd_same, List.map_append]; rfl, ?_, ?_, ?_, .inr ⟨es, _, rfl, rfl⟩, ?_, ?_, fun b o n e => kk b o n (k5 b o n e)⟩
      · intro e he
        rcases List.mem_append.mp he with he | he
        · obtain ⟨p2, x2, r1, r2, r3, r4⟩ := e2 e he
          exact ⟨p2, x2, r1, kk _ _ r3.2 r2, r3, r4.keep fun b o h e => kk b o h.2 e⟩
        · simp only [List.mem_singleton] at he
          subst he
          exact ⟨tp, x, rfl, by rw [upd_ne ntp]; exact upd_same, ⟨tp0, ntp⟩, q4.keep fun b o h e => kk b o h.2 e⟩
      · have e8 : ((es ++ [(⟨.ref tp, bt, 1, bas⟩ : HE)]).map (·.as)).flatten = (es.map (·.as)).flatten ++ bas := by simp
        rw [e8]
        exact nodup_snoc e3 hbnd fun z h1 h2 => hdis z h2 (e6 z h1)
      · rw [hrle, ← e4, List.map_append]
        unfold hstep
        rcases hcase with rfl | ⟨es0, e, rfl, hne⟩
        · rfl
        · simp only [List.map_append, List.map_cons, List.map_nil, List.getLast?_append, List.getLast?_singleton, Option.or_some, Option.some_or]
          rw [if_neg hne]
      · intro z hz
        have e8 : ((es ++ [(⟨.ref tp, bt, 1, bas⟩ : HE)]).map (·.as)).flatten = (es.map (·.as)).flatten ++ bas := by simp
        rw [e8] at hz
        rw [take_succ_of hc]
        simp only [lsts, List.map_append, List.flatten_append, List.map_cons, List.map_nil, List.flatten_cons, List.flatten_nil, List.append_nil]
        rcases List.mem_append.mp hz with hz | hz
        · exact List.mem_append_left _ (e6 z hz)
        · exact List.mem_append_right _ hz
      · rw [List.length_append, List.length_singleton]
        omega
    have hlt : es.length < sizeLine := Nat.lt_of_le_of_lt (show _ ≤ 1000000 by omega) (by decide)
    rcases e5 with ⟨rfl, rfl⟩ | ⟨es0, e, rfl, rfl⟩
    · refine ⟨_, rfl, _, rfl, rfl, _, rfl, ?_⟩
      rw [decide_eq_false (by simp)]
      refine iteF ?_
      refine ⟨_, rfl, .inl ⟨rfl, _, SqL.of e1⟩, _, rfl, (by show 2 ≤ sizeLine; decide), fun tp htp => ⟨hp, _, .ref tp, rfl, rfl, by rw [upd_ne (ne_of_none e1 htp)]; exact e1, by rw [List.length_map]; exact hlt, ?_⟩⟩
      exact ⟨_, rfl, addNew tp htp (.inl rfl)⟩
    · refine ⟨_, rfl, _, rfl, rfl, _, rfl, ?_⟩
      by_cases hw : e.t.wr = bt.wr
      · rw [decide_eq_true (show V.str (ws bt) = V.str (ws e.t) by simp only [ws, hw])]
        refine iteT ?_
        obtain ⟨pe, xe, ev, r2, r3, r4⟩ := e2 e (by simp)
        have hn1 : ∀ n : Nat, ixN (n + 1) (-1) = some n := fun n => by
          unfold ixN
          simp
          omega
        have elen : ((es0 ++ [e]).map (·.v)).length = es0.length + 1 := by simp
        have hat : atI ((es0 ++ [e]).map (·.v)) (-1) = some (V.ref pe) := by
          unfold atI
          rw [elen, hn1, List.map_append]
          simp [ev]
        refine ⟨_, rfl, 1, rfl, hp, _, -1, _, rfl, rfl, SqL.of e1, hat, pe, _, 0, _, rfl, rfl, SqT.of r2, atI_nat (j := 0) rfl, ?_⟩
        refine ⟨_, rfl, 1, rfl, hp, _, -1, _, rfl, rfl, SqL.of e1, hat, pe, _, 1, _, rfl, rfl, SqT.of r2, atI_nat (j := 1) rfl, _, 1, rfl, rfl, (by show 2 ≤ sizeLine; decide), fun tp htp => ?_⟩
        have ntp : tp ≠ hp := fun e => by rw [e, e1] at htp; cases htp
        refine ⟨_, rfl, 1, rfl, hp, _, -1, es0.length, rfl, rfl, by rw [upd_ne ntp.symm]; exact e1, by rw [elen]; exact hn1 _, ?_⟩
        have hset : ((es0 ++ [e]).map (·.v)).set es0.length (V.ref tp) = es0.map (·.v) ++ [V.ref tp] := by
          rw [List.map_append, List.set_append_right _ _ (by rw [List.length_map]; exact Nat.le_refl _), List.length_map, Nat.sub_self]
          rfl
        rw [hset]
        have kk : ∀ b o, b ≠ hp → H5 b = some o → (upd (upd H5 tp (.tup [xe, .int (e.n + 1)])) hp (.lst (es0.map (·.v) ++ [.ref tp]))) b = some o := fun b o n e => by rw [upd_ne n, upd_ne (ne_of_none e htp)]; exact e
        have tp0 : H tp = none := by
          cases e : H tp with
          | none => rfl
          | some o =>
            have n1 : tp ≠ P1 := fun e2 => by rw [e2, k5 _ _ nhA.symm hA4] at htp; cases htp
            have n2 : tp ≠ P2 := fun e2 => by rw [e2, k5 _ _ nhB.symm hB4] at htp; cases htp
            rw [k5 _ _ ntp (f14 _ _ n1 n2 (s1 _ _ e))] at htp
            cases htp
        have easeq : ((es0 ++ [(⟨.ref tp, e.t, e.n + 1, e.as⟩ : HE)]).map (·.as)).flatten = ((es0 ++ [e]).map (·.as)).flatten := by simp
        refine ⟨_, rfl, _, _, es0 ++ [⟨.ref tp, e.t, e.n + 1, e.as⟩], _, rfl, by rw [upd_same, List.map_append]; rfl, ?_, ?_, ?_, .inr ⟨es0, _, rfl, by simp only [ws, hw]⟩, ?_, ?_, fun b o n e => kk b o n (k5 b o n e)⟩
        · intro e' he
          rcases List.mem_append.mp he with he | he
          · obtain ⟨p2, x2, r1', r2', r3', r4'⟩ := e2 e' (List.mem_append_left _ he)
            exact ⟨p2, x2, r1', kk _ _ r3'.2 r2', r3', r4'.keep fun b o h e => kk b o h.2 e⟩
          · simp only [List.mem_singleton] at he
            subst he
            refine ⟨tp, xe, rfl, ?_, ⟨tp0, ntp⟩, r4.keep fun b o h e => kk b o h.2 e⟩
            rw [upd_ne ntp, upd_same]
            rfl
        · rw [easeq]
          exact e3
        · rw [hrle, ← e4, List.map_append, List.map_append]
          unfold hstep
          simp only [List.map_append, List.map_cons, List.map_nil, List.getLast?_append, List.getLast?_singleton, Option.or_some, Option.some_or]
          rw [if_pos hw, List.dropLast_concat]
        · intro z hz
          rw [easeq] at hz
          exact hsub1 z (e6 z hz)
        · rw [List.length_append, List.length_singleton] at e7 ⊢
          omega
      · rw [decide_eq_false (show ¬ V.str (ws bt) = V.str (ws e.t) from fun h => hw (by simp only [ws, V.str.injEq, Str.mk.injEq] at h; simpa using h.symm))]
        refine iteF ?_
        refine ⟨_, rfl, .inl ⟨rfl, _, SqL.of e1⟩, _, rfl, (by show 2 ≤ sizeLine; decide), fun tp htp => ⟨hp, _, .ref tp, rfl, rfl, by rw [upd_ne (ne_of_none e1 htp)]; exact e1, by rw [List.length_map]; exact hlt, ?_⟩⟩
        exact ⟨_, rfl, addNew tp htp (.inr ⟨es0, e, rfl, hw⟩)⟩
  · rintro σ H5 ⟨y2, y5, es, lv, rfl, e1, e2, e3, e4, e5, e6, e7, k5⟩
    refine ⟨_, rfl, q hp es H5 (fun b o n1 n2 e => ?_) (T14.ext fun b o e => k5 b o (ne_of_none e hhp) e) (T24.ext fun b o e => k5 b o (ne_of_none e hhp) e) hhp0 e1 e2 e3 ?_⟩
    · exact k5 b o (ne_of_none (s1 _ _ e) hhp1) (f14 b o n1 n2 (s1 _ _ e))
    · rw [e4, List.length_map, List.take_of_length_le (by rw [List.length_map]; exact Nat.le_refl _), hctr]
      rfl
end


def sp_is_whole : Sp := fun vs H Q _ => ∃ i : Int, vs = [.int i] ∧ Q (.bl true) H
def sp__is_heap_row : Sp := fun vs H Q _ => ∃ e : V × Tr × Nat, vs = [e.1] ∧ HeIn H e ∧ 1 ≤ e.2.2 ∧ e.2.1.size ≤ 1000000 ∧ ∀ H', Same H H' → Q (.bl true) H'
section
variable {P : Program} {w : World} {K : PySem.W.Frag} {mg : Str → Option Value} {base : Heap}
theorem ok_is_whole (T : Txt K mg) : FnOk P w K mg base CX0 1 T.f_is_whole T.d_is_whole ["thing"] sp_is_whole := by
  refine T.F_is_whole.ok sc_is_whole (fun vs H Q E h => ?_) (fun cdv A outer s H vs Q E hr h => ?_)
  · obtain ⟨i, rfl, _⟩ := h
    rfl
  obtain ⟨i, rfl, q⟩ := h
  refine ⟨_, (pss_one (ps_ret (pe_and (pe_callB call_isi (by rfl) T.z_isinstance (by decide +kernel) (pa_cons (pv 0) (pa_cons (pe_bltn (v := .ty "int") (by rfl) T.z_int (by decide +kernel) rfl) pa_nil))) (pe_one (pe_not (pe_callB call_isi (by rfl) T.z_isinstance (by decide +kernel) (pa_cons (pv 0) (pa_cons (pe_bltn (v := .ty "bool") (by rfl) T.z_bool (by decide +kernel) rfl) pa_nil)))))))), ?_⟩
  refine ⟨_, rfl, _, _, _, _, true, rfl, .ty "int", .base (.int i), kit_ty (by decide +kernel), _, rfl, iteT ?_⟩
  exact ⟨_, rfl, _, _, _, _, false, rfl, .ty "bool", .base (.int i), kit_ty (by decide +kernel), _, rfl, q⟩
theorem ok__is_heap_row (T : Txt K mg) : FnOk P w K mg base CX0 4 T.f__is_heap_row T.d__is_heap_row ["thing"] sp__is_heap_row := by
  have G_is_tree : FnOk P w K mg base CX0 3 T.f_is_tree T.d_is_tree ["thing"] sp_is_tree := ok_is_tree T
  have G_is_whole : FnOk P w K mg base CX0 1 T.f_is_whole T.d_is_whole ["thing"] sp_is_whole := ok_is_whole T
  refine T.F__is_heap_row.ok sc__is_heap_row (fun vs H Q E h => ?_) (fun cdv A outer s H vs Q E hr h => ?_)
  · obtain ⟨e, rfl, _⟩ := h
    rfl
  obtain ⟨e, rfl, he, h1, hz, q⟩ := h
  refine ⟨_, (pss_cons (ps_if (PW.pt (pw_or (pt_not (pt_val (pe_callB call_isi (by rfl) T.z_isinstance (by decide +kernel) (pa_cons (pv 0) (pa_cons (pe_bltn (v := .ty "tuple") (by rfl) T.z_tuple (by decide +kernel) rfl) pa_nil))))) (pw_or1 (pt_cmpR op_ne (pe_callB call_len_seq (by rfl) T.z_len PySem.boot_len (pa_cons (pv 0) pa_nil)) pe_int (nomark _))))) (pss_one (ps_ret pe_bl)) pss_nil) (pss_one (ps_ret (pe_and (pe_call G_is_tree (hr.mono (by omega)) (by rfl) T.m_is_tree T.F_is_tree.kp T.b_is_tree .nil pass0 (pa_cons (pe_ix ix_tup (pv 0) pe_int (fun _ _ => rfl)) pa_nil)) (pe_and (pe_call G_is_whole (hr.mono (by omega)) (by rfl) T.m_is_whole T.F_is_whole.kp T.b_is_whole .nil pass0 (pa_cons (pe_ix ix_tup (pv 0) pe_int (fun _ _ => rfl)) pa_nil)) (pe_one (pe_cmpR op_ge (pe_ix ix_tup (pv 0) pe_int (fun _ _ => rfl)) pe_int (nomark _)))))))), ?_⟩
  obtain ⟨v, t, n⟩ := e
  obtain ⟨p, x, rfl, g1, g2⟩ := he
  dsimp only at h1 hz g1 g2
  refine ⟨_, rfl, _, _, _, _, true, rfl, .ty "tuple", .base (.tup g1), kit_ty (by decide +kernel), _, rfl, iteF ?_⟩
  refine ⟨_, rfl, _, _, rfl, .inr (SqT.of g1), rfl, _, rfl, iteF ?_⟩
  refine ⟨_, rfl, _, _, 0, _, rfl, rfl, SqT.of g1, atI_nat (j := 0) rfl, x, t, rfl, g2, hz, fun H' s' => ⟨_, rfl, iteT ?_⟩⟩
  have g1' := s' _ _ g1
  refine ⟨_, rfl, _, _, 1, _, rfl, rfl, SqT.of g1', atI_nat (j := 1) rfl, _, rfl, _, rfl, iteT ?_⟩
  refine ⟨_, rfl, _, _, 1, _, rfl, rfl, SqT.of g1', atI_nat (j := 1) rfl, _, 1, rfl, rfl, ?_⟩
  have e : decide ((1 : Int) ≤ (n : Int)) = true := decide_eq_true (by omega)
  show Q (.bl (decide ((1 : Int) ≤ (n : Int)))) H'
  rw [e]
  exact q _ s'
theorem lc_rng {lo : Int} {n : Nat} {Bd : V → Hp → (Hp → Prop) → Prop} {Qd : Hp → Prop} {H0 : Hp} (Pv : Nat → Hp → Prop) (h0 : Pv 0 H0)
    (hs : ∀ (i : Nat) H, i < n → Pv i H → Bd (.int (lo + i)) H (Pv (i + 1))) (hd : ∀ H, Pv n H → Qd H) :
    ∃ W : Nat → Nat → Hp → Prop, (∃ m, W 0 m H0) ∧ ∀ i m H, W i m H → ((Itr lo n).stop i H ∧ Qd H) ∨ ((Itr lo n).go i H ∧ ∃ Nx : Hp → Prop, (∀ H', Nx H' → ∃ m', m' < m ∧ W (i + 1) m' H') ∧ ∀ x H', (Itr lo n).yld i H x H' → Bd x H' Nx) := by
  refine ⟨fun i m H => m = n - i ∧ i ≤ n ∧ Pv i H, ⟨n, by simp, Nat.zero_le _, h0⟩, ?_⟩
  rintro i m H ⟨rfl, hi, p⟩
  by_cases hlt : i < n
  · refine .inr ⟨hlt, Pv (i + 1), fun H' p' => ⟨n - (i + 1), by omega, rfl, hlt, p'⟩, fun x H' y => ?_⟩
    obtain ⟨rfl, rfl⟩ := y
    exact hs i _ hlt p
  · have e : i = n := by omega
    subst e
    exact .inl ⟨Nat.le_refl _, hd H p⟩
theorem expand_take {es : List (Tr × Nat)} {i : Nat} {e : Tr × Nat} (h : es[i]? = some e) : expand (es.take (i + 1)) = expand (es.take i) ++ List.replicate e.2 e.1 := by
  rw [take_succ_of h, expand_append]
  simp [expand]
theorem sizes_take (l : List (Tr × Nat)) (i : Nat) : sizes (expand (l.take i)) ≤ sizes (expand l) := by
  have := congrArg sizes (congrArg expand (List.take_append_drop i l))
  rw [expand_append, sizes_append] at this
  omega
def sp_from_heap (P1 : Addr) (q1 : Str) : Sp := fun vs H Q _ => ∃ (c : Nat) (h : Addr) (es : List (V × Tr × Nat)), vs = [.str (ch c), .ref h] ∧ 97 ≤ c ∧ c ≤ 122 ∧ H h = some (.lst (es.map (·.1))) ∧ (∀ e ∈ es, HeIn H e ∧ 1 ≤ e.2.2) ∧ sizes (expand (es.map (·.2))) ≤ 100000 ∧ es.length ≤ 100000 ∧ LamX.TabS H P1 q1 ∧
  ∀ x as H', Fr P1 H H' → LamX.TabS H' P1 q1 → as.Nodup → TrO (fun b => H b = none) H' x (Tr.node c (expand (es.map (·.2)))).told as → Q x H'
theorem ok_from_heap (T : Txt K mg) (B : Tbs T base) : FnOk P w K mg base CX0 10 T.f_from_heap T.d_from_heap ["letter", "heap"] (sp_from_heap T.P__joined q__joined) := by
  have G_is_letter : FnOk P w K mg base CX0 1 T.f_is_letter T.d_is_letter ["thing"] sp_is_letter := ok_is_letter T
  have G__is_heap_row : FnOk P w K mg base CX0 4 T.f__is_heap_row T.d__is_heap_row ["thing"] sp__is_heap_row := ok__is_heap_row T
  have G_told_form : FnOk P w K mg base CX0 9 T.f_told_form T.d_told_form ["tree"] (sp_told_form T.P__joined q__joined) := ok_told_form T B
  refine T.F_from_heap.ok sc_from_heap (fun vs H Q E h => ?_) (fun cdv A outer s H vs Q E hr h => ?_)
  · obtain ⟨c, h, es, rfl, _⟩ := h
    rfl
  obtain ⟨c, h, es, rfl, c1, c2, hh, he, hz, hl, hT, q⟩ := h
  refine ⟨_, (pss_cons (ps_if (pt_not (pt_val (pe_call G_is_letter (hr.mono (by omega)) (by rfl) T.m_is_letter T.F_is_letter.kp T.b_is_letter .nil pass0 (pa_cons (pv 0) pa_nil)))) (pss_one ps_never) pss_nil) (pss_cons (ps_if (PW.pt (pw_or (pt_not (pt_val (pe_callB call_isi (by rfl) T.z_isinstance (by decide +kernel) (pa_cons (pv 1) (pa_cons (pe_bltn (v := .ty "list") (by rfl) T.z_list (by decide +kernel) rfl) pa_nil))))) (pw_or1 (pt_not (pt_val (pe_callB (cr_all rfl) (by rfl) T.z_all (by decide +kernel) (pa_cons (pe_lc (own := [("row", 2)]) (g := gName 2) (tt := tYes) rfl sc_from_heap.nd (pi_list (pv 1)) (blkOk_by (own := [("row", 2)]) (N := ["letter", "heap", "row", "child", "many", "_"]) (sc := (defScope s_from_heap)) (by decide +kernel)) (fun _ _ _ _ _ => (pg_name (i := 2) sc_from_heap.nd rfl (Or.inl rfl))) (fun _ _ _ _ _ => pts_nil) (fun _ _ _ _ _ => (pe_call G__is_heap_row (hr.mono (by omega)) (by rfl) T.m__is_heap_row T.F__is_heap_row.kp T.b__is_heap_row .nil pass0 (pa_cons (pv 2) pa_nil)))) pa_nil))))))) (pss_one ps_never) pss_nil) (pss_one (ps_ret (pe_call G_told_form (hr.mono (by omega)) (by rfl) T.m_told_form T.F_told_form.kp T.b_told_form .nil pass0 (pa_cons (pe_tup (pa_cons (pv 0) (pa_cons (pe_lc2 (own := [("child", 3), ("many", 4), ("_", 5)]) (vs1 := [5]) (g := gTup K 2 (gCons (gName 3) (gCons (gName 4) gNil))) (g1 := gName 5) (tt := tYes) (tt1 := tYes) rfl sc_from_heap.nd (pi_list (pv 1)) (blkOk_by (own := [("child", 3), ("many", 4), ("_", 5)]) (N := ["letter", "heap", "row", "child", "many", "_"]) (sc := (defScope s_from_heap)) (by decide +kernel)) (by decide) (fun _ _ _ _ _ => (pg_tup rfl (pgs_cons (pg_name (i := 3) sc_from_heap.nd rfl (Or.inl rfl)) (pgs_cons (pg_name (i := 4) sc_from_heap.nd rfl (Or.inl rfl)) pgs_nil)))) (fun _ _ _ _ _ => pts_nil) (fun _ _ _ _ _ => (pi_range1 (by rfl) T.z_range (pa_cons (pv 4) pa_nil))) (fun _ _ _ _ _ => (pg_name (i := 5) sc_from_heap.nd rfl (Or.inl rfl))) (fun _ _ _ _ _ => pts_nil) (fun _ _ _ _ _ => (pv 3))) pa_nil))) pa_nil)))))), ?_⟩
  refine ⟨_, rfl, c, rfl, c1, c2, _, rfl, iteF ?_⟩
  refine ⟨_, rfl, _, _, _, _, true, rfl, .ty "list", .base (.lst hh), kit_ty (by decide +kernel), _, rfl, iteF ?_⟩
  have hszt : ∀ e ∈ es, e.2.1.size ≤ 100000 := by
    intro e hm
    have hin : e.2.1 ∈ expand (es.map (·.2)) := by
      simp only [expand, List.mem_flatten, List.mem_map]
      refine ⟨List.replicate e.2.2 e.2.1, ⟨e.2, ⟨e, hm, rfl⟩, rfl⟩, ?_⟩
      rw [List.mem_replicate]
      exact ⟨by have := (he e hm).2; omega, rfl⟩
    have := sizes_mem hin
    omega
  refine ⟨_, rfl, h, rfl, ⟨_, SqL.of hh⟩, fun D hD => ?_⟩
  refine lc_list (xs := es.map (·.1)) (fun i H2 => H2 D = some (.lst ((List.replicate (min i es.length) true).map V.bl)) ∧ Same H H2) ⟨by simp [upd_same], same_new hD⟩ (fun i H2 _ ⟨_, s⟩ => SqL.of (s _ _ hh)) ?_ ?_
  · rintro i x H2 hx ⟨g1, g2⟩
    rw [List.getElem?_map] at hx
    cases hc : es[i]? with
    | none => rw [hc] at hx; cases hx
    | some e =>
    rw [hc] at hx
    cases hx
    have hm := List.mem_of_getElem? hc
    have hil := (List.getElem?_eq_some_iff.mp hc).1
    obtain ⟨⟨p, x, r1, r2, r3⟩, hn⟩ := he e hm
    refine ⟨rfl, _, rfl, e, rfl, ⟨p, x, r1, g2 _ _ r2, r3.same g2⟩, hn, by have := hszt e hm; omega, fun H3 s3 => ⟨_, s3 _ _ g1, ?_, ?_, same_add (g2.trans s3) hD⟩⟩
    · rw [List.length_map, List.length_replicate]
      exact Nat.lt_of_le_of_lt (show _ ≤ 1000000 by omega) (by decide)
    · rw [upd_same, Nat.min_eq_left (by omega), Nat.min_eq_left (by omega), List.replicate_succ', List.map_append]
      rfl
  rintro H2 ⟨g1, g2⟩
  refine ⟨D, _, rfl, SqL.of g1, _, rfl, ?_⟩
  have eall : (List.replicate (min (es.map (·.1)).length es.length) true).all id = true := by
    rw [List.all_eq_true]
    intro b hb
    rw [List.mem_replicate] at hb
    exact hb.2
  rw [eall]
  refine iteF ?_
  have hT2 := hT.ext g2
  have hh2 := g2 _ _ hh
  refine ⟨_, rfl, _, rfl, h, rfl, ⟨_, SqL.of hh2⟩, fun D2 hD2 => ?_⟩
  have hD20 := g2.free hD2
  refine lc_outer (xs := es.map (·.1)) (fun i H3 => ∃ acc, H3 D2 = some (.lst acc) ∧ TrsAt (fun b => b ≠ D2) H3 acc (expand ((es.map (·.2)).take i)) ∧ Same H2 H3) ⟨[], upd_same, .nil, same_new hD2⟩ (fun i H3 _ ⟨_, _, _, s⟩ => SqL.of (s _ _ hh2)) ?_ ?_
  · rintro i x H3 hx ⟨acc, q1, q2, q3⟩
    rw [List.getElem?_map] at hx
    cases hc : es[i]? with
    | none => rw [hc] at hx; cases hx
    | some e =>
    rw [hc] at hx
    cases hx
    have hm := List.mem_of_getElem? hc
    obtain ⟨v, t, n⟩ := e
    obtain ⟨⟨p, x, r1, r2, r3⟩, hn⟩ := he _ hm
    dsimp only at r1 r2 r3 hn
    subst r1
    have s03 := g2.trans q3
    have hbig : (expand ((es.map (·.2)).take i)).length + n ≤ 100000 := by
      have a1 := len_sizes (expand ((es.map (·.2)).take (i + 1)))
      have a2 := sizes_take (es.map (·.2)) (i + 1)
      have a3 := congrArg List.length (expand_take (es := es.map (·.2)) (i := i) (e := (t, n)) (by rw [List.getElem?_map, hc]; rfl))
      rw [List.length_append, List.length_replicate] at a3
      omega
    refine ⟨_, _, rfl, SqT.of (s03 _ _ r2), rfl, _, _, rfl, _, _, rfl, rfl, rfl, _, rfl, (n : Int), rfl, ?_, ?_, ?_⟩
    · omega
    · omega
    refine lc_rng (lo := 0) (n := ((n : Int)).toNat) (fun j H4 => ∃ acc, H4 D2 = some (.lst acc) ∧ TrsAt (fun b => b ≠ D2) H4 acc (expand ((es.map (·.2)).take i) ++ List.replicate j t) ∧ Same H2 H4) ⟨acc, q1, by simpa using q2, q3⟩ ?_ ?_
    · rintro j H4 hj ⟨acc4, u1, u2, u3⟩
      have hla := u2.len
      refine ⟨rfl, _, rfl, acc4, u1, ?_, acc4 ++ [x], upd_same, ?_, same_add u3 hD2⟩
      · rw [List.length_append, List.length_replicate] at hla
        exact Nat.lt_of_le_of_lt (show _ ≤ 1000000 by omega) (by decide)
      · rw [List.replicate_succ', ← List.append_assoc]
        have rx := ((r3.off hD20).same (g2.trans u3)).weak (ok' := fun b => b ≠ D2) fun b h => h.2
        exact (u2.append (.cons rx .nil)).keep (upd_keep fun b h => h)
    · rintro H4 ⟨acc4, u1, u2, u3⟩
      refine ⟨acc4, u1, ?_, u3⟩
      rw [expand_take (e := (t, n)) (by rw [List.getElem?_map, hc]; rfl)]
      rw [Int.toNat_natCast] at u2
      exact u2
  · rintro H3 ⟨acc, q1, q2, q3⟩
    rw [List.length_map, List.take_of_length_le (by rw [List.length_map]; exact Nat.le_refl _)] at q2
    refine ⟨(by show 2 ≤ sizeLine; decide), fun a ha => ?_⟩
    have na : ∀ b o, H3 b = some o → (upd H3 a (.tup [.str (ch c), .ref D2])) b = some o := fun b o e => by rw [upd_ne (ne_of_none e ha)]; exact e
    have hT3 := (hT2.ext q3).ext na
    refine ⟨_, _, rfl, .node (ok := fun _ => True) upd_same (na _ _ q1) trivial trivial c1 c2 ((q2.same na).weak fun _ _ => trivial), by simp only [Tr.size]; omega, hT3, fun x as H' f T' nd O => q x as H' (((Fr.same (g2.trans q3)).trans (Fr.same na)).trans f) T' nd (O.weak fun b h => ?_)⟩
    cases e : H b with
    | none => rfl
    | some o => rw [na _ _ (q3 _ _ (g2 _ _ e))] at h; cases h
end


theorem roomDeep {k : Nat} {A : Around} (r : Room k A) : A.units + 200 < cLine := by have := r.un; omega
def rEqB (K : PySem.W.Frag) : R2 := fun x y H Q => ∃ d e, Dp K H x d ∧ Dp K H y e ∧ d.canLay0 = true ∧ e.canLay0 = true ∧ d.depth ≤ 200 ∧ Q (.bl (PyData.eqv d e)) H
def rNeB (K : PySem.W.Frag) : R2 := fun x y H Q => ∃ d e, Dp K H x d ∧ Dp K H y e ∧ d.canLay0 = true ∧ e.canLay0 = true ∧ d.depth ≤ 200 ∧ Q (.bl (!PyData.eqv d e)) H
theorem op_eqB {X : Cx} (hu : X.A.units + 200 < cLine) : OpR X (compareOp .Eq) (rEqB X.K) := by
  intro pins s σ H x y v u Q I rx ry h
  obtain ⟨d, e, hd, he, sd, se, dd, q⟩ := h
  obtain ⟨as, r1⟩ := Dp.reads I d x v hd rx
  obtain ⟨bs, r2⟩ := Dp.reads I e y u he ry
  exact SeqAt.compareEq_reads r1 r2 sd se (by have := Nat.min_le_left d.depth e.depth; omega) ⟨.bl _, H, I, rfl, q⟩
theorem op_neB {X : Cx} (hu : X.A.units + 200 < cLine) : OpR X (compareOp .NotEq) (rNeB X.K) := by
  intro pins s σ H x y v u Q I rx ry h
  obtain ⟨d, e, hd, he, sd, se, dd, q⟩ := h
  obtain ⟨as, r1⟩ := Dp.reads I d x v hd rx
  obtain ⟨bs, r2⟩ := Dp.reads I e y u he ry
  exact SeqAt.compareNe_reads r1 r2 sd se (by have := Nat.min_le_left d.depth e.depth; omega) ⟨.bl _, H, I, rfl, q⟩

mutual
theorem eqv_tr : ∀ t u : Tr, PyData.eqv t.dat u.dat = true → t = u
  | .node c ks, .node d js, h => by
    simp only [Tr.dat, PyData.eqv, PyData.eqvAll, Bool.and_eq_true] at h
    obtain ⟨h1, h2, _⟩ := h
    have e1 : c = d := by
      have := congrArg (fun s : Str => s.cps.toList) (eq_of_beq h1)
      simpa [ch] using this
    rw [e1, eqv_trs ks js h2]
theorem eqv_trs : ∀ ts us : List Tr, PyData.eqvAll (dats ts) (dats us) = true → ts = us
  | [], [], _ => rfl
  | [], _ :: _, h => by simp [dats, PyData.eqvAll] at h
  | _ :: _, [], h => by simp [dats, PyData.eqvAll] at h
  | t :: r, u :: s, h => by
    simp only [dats, PyData.eqvAll, Bool.and_eq_true] at h
    rw [eqv_tr t u h.1, eqv_trs r s h.2]
end
mutual
theorem lay_tr : ∀ t : Tr, t.lets Ltr → t.dat.canLay0 = true
  | .node c ks, h => by
    simp only [Tr.lets] at h
    simp only [Tr.dat, PyData.canLay0, PyData.canLayAll0, strOk_ch h.1.2, lay_trs ks h.2, Bool.and_self]
theorem lay_trs : ∀ ts : List Tr, letss Ltr ts → PyData.canLayAll0 (dats ts) = true
  | [], _ => rfl
  | t :: r, h => by
    simp only [letss] at h
    simp only [dats, PyData.canLayAll0, lay_tr t h.1, lay_trs r h.2, Bool.and_self]
end
theorem told_iff {t u : Tr} (ht : t.lets Ltr) (hu : u.lets Ltr) : t.told.wr = u.told.wr ↔ t.told = u.told :=
  ⟨fun h => wr_eq (told_lets t ht) (told_lets u hu) h, fun h => by rw [h]⟩
theorem eqv_told {t u : Tr} (ht : t.lets Ltr) (hu : u.lets Ltr) : PyData.eqv t.told.dat u.told.dat = decide (t.told.wr = u.told.wr) := by
  by_cases h : t.told.wr = u.told.wr
  · rw [decide_eq_true h, (told_iff ht hu).mp h]
    exact SeqAt.eqv_refl _ (lay_tr _ (told_lets u hu))
  · rw [decide_eq_false h]
    cases e : PyData.eqv t.told.dat u.told.dat with
    | false => rfl
    | true => exact absurd (by rw [eqv_tr _ _ e]) h
theorem ws_iff {t u : Tr} : V.str (ws t) = V.str (ws u) ↔ t.wr = u.wr := by
  constructor
  · intro h
    have := congrArg (fun s : Str => s.cps.toList) (V.str.inj h)
    simpa [ws] using this
  · intro h
    unfold ws
    rw [h]
def heD (e : Tr × Nat) : PyData := .tuple [e.1.dat, .int (e.2 : Int)]
theorem eqv_heaps : ∀ a b : List (Tr × Nat), PyData.eqvAll (a.map heD) (b.map heD) = true → a = b
  | [], [], _ => rfl
  | [], _ :: _, h => by simp [PyData.eqvAll] at h
  | _ :: _, [], h => by simp [PyData.eqvAll] at h
  | (t, n) :: r, (u, m) :: s, h => by
    simp only [List.map_cons, PyData.eqvAll, Bool.and_eq_true, heD, PyData.eqv] at h
    obtain ⟨⟨h1, h2, _⟩, h3⟩ := h
    have e : n = m := by have := eq_of_beq h2; omega
    rw [eqv_tr t u h1, e, eqv_heaps r s (by simpa [heD] using h3)]
theorem lay_heaps : ∀ a : List (Tr × Nat), (∀ e ∈ a, e.1.lets Ltr) → PyData.canLayAll0 (a.map heD) = true
  | [], _ => rfl
  | (t, n) :: r, h => by
    simp only [List.map_cons, heD, PyData.canLayAll0, PyData.canLay0, lay_tr t (h _ List.mem_cons_self), lay_heaps r fun e he => h e (List.mem_cons_of_mem _ he), Bool.and_self]
def hpT (t : Tr) : List (Tr × Nat) := rle ((tolds t.kids).mergeSort leW)
theorem sort_lets {ts : List Tr} (h : letss Ltr ts) : letss Ltr ((tolds ts).mergeSort leW) := letss_perm (List.mergeSort_perm _ _).symm (tolds_lets ts h)
theorem hp_lets {t : Tr} (h : t.lets Ltr) : ∀ e ∈ hpT t, e.1.lets Ltr ∧ 1 ≤ e.2 := by
  obtain ⟨c, ks⟩ := t
  simp only [Tr.lets] at h
  exact (rle_all _ (sort_lets h.2)).2
theorem hp_iff {c d : Nat} {ks js : List Tr} (h1 : (Tr.node c ks).lets Ltr) (h2 : (Tr.node d js).lets Ltr) : (Tr.node c ks).told = (Tr.node d js).told ↔ c = d ∧ hpT (.node c ks) = hpT (.node d js) := by
  simp only [Tr.lets] at h1 h2
  have e1 := (rle_all _ (sort_lets h1.2)).1
  have e2 := (rle_all _ (sort_lets h2.2)).1
  simp only [Tr.told, hpT, Tr.kids]
  constructor
  · intro h
    injection h with a b
    exact ⟨a, by rw [b]⟩
  · rintro ⟨rfl, h⟩
    rw [← e1, ← e2, h]
theorem eqv_hp {c d : Nat} {ks js : List Tr} (h1 : (Tr.node c ks).lets Ltr) (h2 : (Tr.node d js).lets Ltr) (e : c = d) :
    PyData.eqv (.list ((hpT (.node c ks)).map heD)) (.list ((hpT (.node d js)).map heD)) = decide ((Tr.node c ks).told.wr = (Tr.node d js).told.wr) := by
  rw [PyData.eqv]
  by_cases h : (Tr.node c ks).told.wr = (Tr.node d js).told.wr
  · rw [decide_eq_true h, ((hp_iff h1 h2).mp ((told_iff h1 h2).mp h)).2]
    have := SeqAt.eqv_refl (.list ((hpT (.node d js)).map heD)) (by simp only [PyData.canLay0]; exact lay_heaps _ fun e he => (hp_lets h2 e he).1)
    rwa [PyData.eqv] at this
  · rw [decide_eq_false h]
    cases z : PyData.eqvAll ((hpT (.node c ks)).map heD) ((hpT (.node d js)).map heD) with
    | false => rfl
    | true => exact absurd ((told_iff h1 h2).mpr ((hp_iff h1 h2).mpr ⟨e, eqv_heaps _ _ z⟩)) h
theorem sc07 {x y : Bool} : scal (V.bl x) (V.bl y) = true := rfl
def sp_are_same (P1 : Addr) (q1 : Str) : Sp := fun vs H Q _ => ∃ (v u : V) (t1 t2 : Tr), vs = [v, u] ∧ TrAt (fun _ => True) H v t1 ∧ TrAt (fun _ => True) H u t2 ∧ t1.size ≤ 1000000 ∧ t2.size ≤ 1000000 ∧ LamX.TabS H P1 q1 ∧ ∀ H', Fr P1 H H' → LamX.TabS H' P1 q1 → Q (.bl (decide (t1.told.wr = t2.told.wr))) H'
section
variable {P : Program} {w : World} {K : PySem.W.Frag} {mg : Str → Option Value} {base : Heap}
theorem ok_are_same (T : Txt K mg) (B : Tbs T base) : FnOk P w K mg base CX0 10 T.f_are_same T.d_are_same ["one", "other"] (sp_are_same T.P__joined q__joined) := by
  have G_written_tree : FnOk P w K mg base CX0 9 T.f_written_tree T.d_written_tree ["tree"] (sp_written_tree T.P__joined q__joined) := ok_written_tree T B
  refine T.F_are_same.ok sc_are_same (fun vs H Q E h => ?_) (fun cdv A outer s H vs Q E hr h => ?_)
  · obtain ⟨v, u, t1, t2, rfl, _⟩ := h
    rfl
  obtain ⟨v, u, t1, t2, rfl, h1, h2, z1, z2, hT, q⟩ := h
  refine ⟨_, (pss_one (ps_ret (pe_cmpR op_eq (pe_call G_written_tree (hr.mono (by omega)) (by rfl) T.m_written_tree T.F_written_tree.kp T.b_written_tree .nil pass0 (pa_cons (pv 0) pa_nil)) (pe_call G_written_tree (hr.mono (by omega)) (by rfl) T.m_written_tree T.F_written_tree.kp T.b_written_tree .nil pass0 (pa_cons (pv 1) pa_nil)) (nomark _)))), ?_⟩
  refine ⟨_, rfl, v, t1, rfl, h1, z1, hT, fun H1 f1 T1 => ?_⟩
  obtain ⟨ps, hP, _⟩ := id hT
  refine ⟨_, rfl, u, t2, rfl, TrAt.frT' h2 hP f1, z2, T1, fun H2 f2 T2 => ⟨rfl, ?_⟩⟩
  have e : decide (V.str (ws t1.told) = V.str (ws t2.told)) = decide (t1.told.wr = t2.told.wr) := decide_eq_decide.mpr ws_iff
  rw [e]
  exact q H2 (f1.trans f2) T2
end


theorem TrAt.fr22 {ok : Addr → Prop} {P1 P2 : Addr} {H H' : Hp} {v : V} {t : Tr} {ps qs : Array Value} (x : TrAt ok H v t) (h1 : H P1 = some (.tbl ps)) (h2 : H P2 = some (.tbl qs)) (f : Fr2 P1 P2 H H') : TrAt ok H' v t :=
  ((TrAt.kind t v x).keep fun b o h e => f b o (fun z => h.2 ps (by rw [z]; exact h1)) (fun z => h.2 qs (by rw [z]; exact h2)) e).weak fun b h => h.1
theorem Fr2.trans {P1 P2 : Addr} {H H1 H2 : Hp} (a : Fr2 P1 P2 H H1) (b : Fr2 P1 P2 H1 H2) : Fr2 P1 P2 H H2 := fun c o n1 n2 e => b c o n1 n2 (a c o n1 n2 e)
theorem Fr2.of1 {P1 P2 : Addr} {H H' : Hp} (f : Fr P1 H H') : Fr2 P1 P2 H H' := fun b o n1 _ e => f b o n1 e
theorem Fr2.same {P1 P2 : Addr} {H H' : Hp} (f : Same H H') : Fr2 P1 P2 H H' := fun b o _ _ e => f b o e
def Tb2 (H : Hp) (P1 : Addr) (q1 : Str) (P2 : Addr) (q2 : Str) : Prop := LamX.TabS H P1 q1 ∧ LamX.TabS H P2 q2
theorem Tb2.p1 {H : Hp} {P1 P2 : Addr} {q1 q2 : Str} (t : Tb2 H P1 q1 P2 q2) : ∃ ps, H P1 = some (.tbl ps) := let ⟨⟨ps, h, _⟩, _⟩ := t; ⟨ps, h⟩
theorem Tb2.p2 {H : Hp} {P1 P2 : Addr} {q1 q2 : Str} (t : Tb2 H P1 q1 P2 q2) : ∃ ps, H P2 = some (.tbl ps) := let ⟨_, ⟨ps, h, _⟩⟩ := t; ⟨ps, h⟩
theorem Tb2.one {H H' : Hp} {P1 P2 : Addr} {q1 q2 : Str} (t : Tb2 H P1 q1 P2 q2) (n : P2 ≠ P1) (f : Fr P1 H H') (T : LamX.TabS H' P1 q1) : Tb2 H' P1 q1 P2 q2 := let ⟨_, h⟩ := t.p1; ⟨T, TabS.frO t.2 n h f⟩
theorem Tb2.ext {H H' : Hp} {P1 P2 : Addr} {q1 q2 : Str} (t : Tb2 H P1 q1 P2 q2) (s : Same H H') : Tb2 H' P1 q1 P2 q2 := ⟨t.1.ext s, t.2.ext s⟩
theorem Tb2.tree {ok : Addr → Prop} {H H' : Hp} {P1 P2 : Addr} {q1 q2 : Str} {v : V} {t : Tr} (T : Tb2 H P1 q1 P2 q2) (x : TrAt ok H v t) (f : Fr2 P1 P2 H H') : TrAt ok H' v t := let ⟨_, h1⟩ := T.p1; let ⟨_, h2⟩ := T.p2; x.fr22 h1 h2 f
theorem he_dp {K : PySem.W.Frag} {H : Hp} {r : Addr} {es : List (V × Tr × Nat)} (h : H r = some (.lst (es.map (·.1)))) (he : ∀ e ∈ es, HeIn H e) : Dp K H (.ref r) (.list ((es.map (·.2)).map heD)) := by
  refine .lst (SqL.of h) ?_
  clear h
  induction es with
  | nil => exact .nil
  | cons e r ih =>
    obtain ⟨p, x, e1, e2, e3⟩ := he e List.mem_cons_self
    refine .cons ?_ (ih fun y hy => he y (List.mem_cons_of_mem _ hy))
    show Dp K H e.1 (heD e.2)
    rw [e1]
    exact .tup (SqT.of e2) (.cons (TrAt.dp _ _ e3) (.cons (.int _) .nil))
theorem he_depth : ∀ (a : List (Tr × Nat)) (d : Nat), (∀ e ∈ a, e.1.depth ≤ d) → PyData.depthAll (a.map heD) ≤ 2 * d + 2
  | [], _, _ => by simp [PyData.depthAll]
  | (t, n) :: r, d, h => by
    have h1 := dat_depth t
    have h2 : t.depth ≤ d := h _ List.mem_cons_self
    have h3 := he_depth r d fun e he => h e (List.mem_cons_of_mem _ he)
    simp only [List.map_cons, heD, PyData.depthAll, PyData.depth]
    omega
theorem expand_mem {a : List (Tr × Nat)} {e : Tr × Nat} (h : e ∈ a) (n : 1 ≤ e.2) : e.1 ∈ expand a := by
  unfold expand
  rw [List.mem_flatten]
  exact ⟨_, List.mem_map_of_mem h, List.mem_replicate.mpr ⟨by omega, rfl⟩⟩
theorem hp_depth {t : Tr} (h : t.lets Ltr) : ∀ e ∈ hpT t, e.1.depth + 1 ≤ t.depth := by
  intro e he
  obtain ⟨c, ks⟩ := t
  have hl := hp_lets h e he
  simp only [Tr.lets] at h
  have h1 := (rle_all _ (sort_lets h.2)).1
  have hm : e.1 ∈ (tolds ks).mergeSort leW := by
    rw [← h1]
    exact expand_mem he hl.2
  have h2 := depths_mem hm
  rw [depths_sort, tolds_depths] at h2
  simp only [Tr.depth]
  omega
theorem ne07 {x y : V} {i : Decidable (x = y)} {A B : Prop} (h : x = y) (k : B) : if (!@decide (x = y) i) = true then A else B := by
  rw [decide_eq_true h]
  exact iteF k
def heV (e : HE) : V × Tr × Nat := (e.v, e.t, e.n)
theorem he_in {ok : Addr → Prop} {H : Hp} {e : HE} (h : HeAt ok H e) : HeIn H (heV e) := let ⟨p, x, h1, h2, _, h3⟩ := h; ⟨p, x, h1, h2, (TrO.at _ _ _ h3).weak fun _ _ => trivial⟩
theorem Tb2.he {H H' : Hp} {P1 P2 : Addr} {q1 q2 : Str} {e : V × Tr × Nat} (T : Tb2 H P1 q1 P2 q2) (h : HeIn H e) (f : Fr2 P1 P2 H H') : HeIn H' e := by
  obtain ⟨p, x, h1, h2, h3⟩ := h
  obtain ⟨_, k1⟩ := T.p1
  obtain ⟨_, k2⟩ := T.p2
  exact ⟨p, x, h1, f _ _ (fun z => by rw [z, k1] at h2; cases h2) (fun z => by rw [z, k2] at h2; cases h2) h2, T.tree h3 f⟩
theorem Tb2.lst {H H' : Hp} {P1 P2 r : Addr} {q1 q2 : Str} {xs : List V} (T : Tb2 H P1 q1 P2 q2) (h : H r = some (.lst xs)) (f : Fr2 P1 P2 H H') : H' r = some (.lst xs) := by
  obtain ⟨_, k1⟩ := T.p1
  obtain ⟨_, k2⟩ := T.p2
  exact f _ _ (fun z => by rw [z, k1] at h; cases h) (fun z => by rw [z, k2] at h; cases h) h
theorem he_data {es : List HE} {t : Tr} (h : es.map (fun e => (e.t, e.n)) = rle ((tolds t.kids).mergeSort leW)) : (es.map heV).map (·.2) = hpT t := by
  rw [List.map_map]
  exact h
theorem he_fst (es : List HE) : (es.map heV).map (·.1) = es.map (·.v) := by rw [List.map_map]; rfl
theorem hp_room {t : Tr} (h : t.lets Ltr) (d : t.depth ≤ 40) : (PyData.list ((hpT t).map heD)).depth ≤ 200 := by
  have := he_depth (hpT t) 40 fun e he => by have := hp_depth h e he; omega
  simp only [PyData.depth]
  omega
theorem hp_lay {t : Tr} (h : t.lets Ltr) : (PyData.list ((hpT t).map heD)).canLay0 = true := by
  simp only [PyData.canLay0]
  exact lay_heaps _ fun e he => (hp_lets h e he).1
def sp__law_two_right (P1 : Addr) (q1 : Str) (P2 : Addr) (q2 : Str) : Sp := fun vs H Q _ => ∃ (v u : V) (t1 t2 : Tr), vs = [v, u] ∧ TrAt (fun _ => True) H v t1 ∧ TrAt (fun _ => True) H u t2 ∧ t1.size ≤ 1000 ∧ t2.size ≤ 1000 ∧ t1.depth ≤ 40 ∧ t2.depth ≤ 40 ∧ Tb2 H P1 q1 P2 q2 ∧ ∀ H', Fr2 P1 P2 H H' → Tb2 H' P1 q1 P2 q2 → Q (.bl true) H'
section
variable {P : Program} {w : World} {K : PySem.W.Frag} {mg : Str → Option Value} {base : Heap}
theorem ok__law_two_right (T : Txt K mg) (B : Tbs T base) : FnOk P w K mg base CX0 11 T.f__law_two_right T.d__law_two_right ["one", "other"] (sp__law_two_right T.P__joined q__joined T.P_heap_of q_heap_of) := by
  have G_are_same : FnOk P w K mg base CX0 10 T.f_are_same T.d_are_same ["one", "other"] (sp_are_same T.P__joined q__joined) := ok_are_same T B
  have G_written_tree : FnOk P w K mg base CX0 9 T.f_written_tree T.d_written_tree ["tree"] (sp_written_tree T.P__joined q__joined) := ok_written_tree T B
  have G_told_form : FnOk P w K mg base CX0 9 T.f_told_form T.d_told_form ["tree"] (sp_told_form T.P__joined q__joined) := ok_told_form T B
  have G_heap_of : FnOk P w K mg base CX0 9 T.f_heap_of T.d_heap_of ["tree"] (sp_heap_of T.P__joined q__joined T.P_heap_of q_heap_of) := ok_heap_of T B
  have G_size_of : FnOk P w K mg base CX0 6 T.f_size_of T.d_size_of ["tree"] sp_size_of := ok_size_of T
  have G_depth_of : FnOk P w K mg base CX0 5 T.f_depth_of T.d_depth_of ["tree"] sp_depth_of := ok_depth_of T
  have nPP : T.P_heap_of ≠ T.P__joined := fun e => T.n__joined_heap_of e.symm
  refine T.F__law_two_right.ok sc__law_two_right (fun vs H Q E h => ?_) (fun cdv A outer s H vs Q E hr h => ?_)
  · obtain ⟨v, u, t1, t2, rfl, _⟩ := h
    rfl
  obtain ⟨v, u, t1, t2, rfl, h1, h2, z1, z2, d1, d2, T0, q⟩ := h
  generalize T.P__joined = P1 at *
  generalize T.P_heap_of = P2 at *
  refine ⟨_, (pss_cons (ps_set (i := 2) sc__law_two_right.nd rfl (Or.inl rfl) (pe_call G_are_same (hr.mono (by omega)) (by rfl) T.m_are_same T.F_are_same.kp T.b_are_same .nil pass0 (pa_cons (pv 0) (pa_cons (pv 1) pa_nil)))) (pss_cons (ps_if (PW.pt (pw_or (pt_not (pt_val (pe_callB call_isi (by rfl) T.z_isinstance (by decide +kernel) (pa_cons (pv 2) (pa_cons (pe_bltn (v := .ty "bool") (by rfl) T.z_bool (by decide +kernel) rfl) pa_nil))))) (pw_or1 (pt_cmpR op_ne (pv 2) (pe_call G_are_same (hr.mono (by omega)) (by rfl) T.m_are_same T.F_are_same.kp T.b_are_same .nil pass0 (pa_cons (pv 1) (pa_cons (pv 0) pa_nil))) (nomark _))))) (pss_one (ps_ret pe_bl)) pss_nil) (pss_cons (ps_if (PW.pt (pw_or (pt_cmpR op_ne (pv 2) (pe_cmpR (op_eqB (roomDeep hr)) (pe_call G_told_form (hr.mono (by omega)) (by rfl) T.m_told_form T.F_told_form.kp T.b_told_form .nil pass0 (pa_cons (pv 0) pa_nil)) (pe_call G_told_form (hr.mono (by omega)) (by rfl) T.m_told_form T.F_told_form.kp T.b_told_form .nil pass0 (pa_cons (pv 1) pa_nil)) (nomark _)) (nomark _)) (pw_or1 (pt_cmpR op_ne (pv 2) (pe_cmpR op_eq (pe_call G_written_tree (hr.mono (by omega)) (by rfl) T.m_written_tree T.F_written_tree.kp T.b_written_tree .nil pass0 (pa_cons (pv 0) pa_nil)) (pe_call G_written_tree (hr.mono (by omega)) (by rfl) T.m_written_tree T.F_written_tree.kp T.b_written_tree .nil pass0 (pa_cons (pv 1) pa_nil)) (nomark _)) (nomark _))))) (pss_one (ps_ret pe_bl)) pss_nil) (C8.pss_cut (ps_if (pt_cmpR op_ne (pv 2) (pe_and (pe_cmpR op_eq (pe_ix ix_tup (pv 0) pe_int (fun _ _ => rfl)) (pe_ix ix_tup (pv 1) pe_int (fun _ _ => rfl)) (nomark _)) (pe_one (pe_cmpR (op_eqB (roomDeep hr)) (pe_call G_heap_of (hr.mono (by omega)) (by rfl) T.m_heap_of T.F_heap_of.kp T.b_heap_of .nil pass0 (pa_cons (pv 0) pa_nil)) (pe_call G_heap_of (hr.mono (by omega)) (by rfl) T.m_heap_of T.F_heap_of.kp T.b_heap_of .nil pass0 (pa_cons (pv 1) pa_nil)) (nomark _)))) (nomark _)) (pss_one (ps_ret pe_bl)) pss_nil) (pss_one (ps_ret (pe_or (pe_not (pv 2)) (pe_one (pe_cmpR (op_eqB (roomDeep hr)) (pe_lst (pa_cons (pe_call G_size_of (hr.mono (by omega)) (by rfl) T.m_size_of T.F_size_of.kp T.b_size_of .nil pass0 (pa_cons (pv 0) pa_nil)) (pa_cons (pe_call G_depth_of (hr.mono (by omega)) (by rfl) T.m_depth_of T.F_depth_of.kp T.b_depth_of .nil pass0 (pa_cons (pv 0) pa_nil)) pa_nil))) (pe_lst (pa_cons (pe_call G_size_of (hr.mono (by omega)) (by rfl) T.m_size_of T.F_size_of.kp T.b_size_of .nil pass0 (pa_cons (pv 1) pa_nil)) (pa_cons (pe_call G_depth_of (hr.mono (by omega)) (by rfl) T.m_depth_of T.F_depth_of.kp T.b_depth_of .nil pass0 (pa_cons (pv 1) pa_nil)) pa_nil))) (nomark _)))))))))), ?_⟩
  have l1 := TrAt.ltr t1 v h1
  have l2 := TrAt.ltr t2 u h2
  refine ⟨_, rfl, _, rfl, v, u, t1, t2, rfl, h1, h2, by omega, by omega, T0.1, fun H1 f1 c1 => ?_⟩
  have T1 := T0.one nPP f1 c1
  have F1 : Fr2 P1 P2 H H1 := .of1 f1
  have x1 := T0.tree h1 F1
  have y1 := T0.tree h2 F1
  refine ⟨_, rfl, _, _, _, _, true, rfl, .ty "bool", .base (.bl _), kit_ty (by decide +kernel), _, rfl, iteF ?_⟩
  refine ⟨_, rfl, _, rfl, _, rfl, u, v, t2, t1, rfl, y1, x1, by omega, by omega, T1.1, fun H2 f2 c2 => ⟨rfl, _, rfl, ?_⟩⟩
  have cm : decide (t2.told.wr = t1.told.wr) = decide (t1.told.wr = t2.told.wr) := decide_eq_decide.mpr ⟨Eq.symm, Eq.symm⟩
  refine ne07 (by rw [cm]) ?_
  have T2 := T1.one nPP f2 c2
  have F2 := F1.trans (.of1 f2)
  have x2 := T1.tree x1 (.of1 f2)
  have y2 := T1.tree y1 (.of1 f2)
  refine ⟨_, rfl, _, rfl, v, t1, rfl, x2, by omega, T2.1, fun ua as1 H3 f3 c3 _ o1 => ?_⟩
  have T3 := T2.one nPP f3 c3
  have y3 := T2.tree y2 (.of1 f3)
  refine ⟨_, rfl, u, t2, rfl, y3, by omega, T3.1, fun ub as2 H4 f4 c4 _ o2 => ?_⟩
  have T4 := T3.one nPP f4 c4
  have F4 : Fr2 P1 P2 H2 H4 := (Fr2.of1 f3).trans (.of1 f4)
  have d3 : t1.told.dat.depth ≤ 200 := by have := dat_depth t1.told; rw [told_depth] at this; omega
  refine ⟨t1.told.dat, t2.told.dat, TrAt.dp _ _ (T3.tree (TrO.at _ _ _ o1) (.of1 f4)), TrAt.dp _ _ (TrO.at _ _ _ o2), lay_tr _ (told_lets _ l1), lay_tr _ (told_lets _ l2), d3, rfl, _, rfl, ?_⟩
  rw [eqv_told l1 l2]
  refine ne07 rfl ?_
  have x4 := T2.tree x2 F4
  have y4 := T2.tree y2 F4
  refine ⟨_, rfl, _, rfl, v, t1, rfl, x4, by omega, T4.1, fun H5 f5 c5 => ?_⟩
  have T5 := T4.one nPP f5 c5
  have y5 := T4.tree y4 (.of1 f5)
  refine ⟨_, rfl, u, t2, rfl, y5, by omega, T5.1, fun H6 f6 c6 => ⟨rfl, rfl, _, rfl, ?_⟩⟩
  have e6 : decide (V.str (ws t1.told) = V.str (ws t2.told)) = decide (t1.told.wr = t2.told.wr) := decide_eq_decide.mpr ws_iff
  rw [e6]
  refine ne07 rfl ?_
  have T6 := T5.one nPP f6 c6
  have F46 : Fr2 P1 P2 H4 H6 := (Fr2.of1 f5).trans (.of1 f6)
  have F6 := (F2.trans F4).trans F46
  have x6 := T4.tree x4 F46
  have y6 := T4.tree y4 F46
  clear f1 c1 f2 c2 f3 c3 f4 c4 f5 c5 f6 c6 T1 T2 T3 T4 T5 F1 F2 F4 F46 x1 y1 x2 y2 x4 y4 y3 y5 h1 h2
  refine ⟨fun σ' H' => σ' = [some v, some u, some (.bl (decide (t1.told.wr = t2.told.wr)))] ∧ Fr2 P1 P2 H H' ∧ Tb2 H' P1 q__joined P2 q_heap_of ∧ TrAt (fun _ => True) H' v t1 ∧ TrAt (fun _ => True) H' u t2, ?_, ?_⟩
  · obtain ⟨c, ks⟩ := t1
    obtain ⟨d, js⟩ := t2
    have x6' := x6
    have y6' := y6
    cases x6' with
    | node g1 g2 _ _ _ _ _ =>
    cases y6' with
    | node g1' g2' _ _ _ _ _ =>
    refine ⟨_, rfl, _, rfl, _, _, 0, _, rfl, rfl, SqT.of g1, at_of (j := 0) rfl rfl, _, rfl, _, _, 0, _, rfl, rfl, SqT.of g1', at_of (j := 0) rfl rfl, rfl, _, rfl, ?_⟩
    by_cases e : c = d
    · rw [decide_eq_true (by rw [e])]
      refine iteT ?_
      refine ⟨_, rfl, _, _, rfl, x6, by omega, T6.1, T6.2, fun r1 es1 H7 f7 a7 b7 n7 k7 he7 _ e7 => ?_⟩
      have T7 : Tb2 H7 P1 q__joined P2 q_heap_of := ⟨a7, b7⟩
      have y7 := T6.tree y6 f7
      refine ⟨_, rfl, _, _, rfl, y7, by omega, a7, b7, fun r2 es2 H8 f8 a8 b8 n8 k8 he8 _ e8 => ?_⟩
      have T8 : Tb2 H8 P1 q__joined P2 q_heap_of := ⟨a8, b8⟩
      have p1 := he_dp (K := K) (H := H8) (r := r1) (es := es1.map heV) (by rw [he_fst]; exact T7.lst k7 f8) fun y hy => by
        obtain ⟨z, hz, rfl⟩ := List.mem_map.mp hy
        exact T7.he (he_in (he7 z hz)) f8
      have p2 := he_dp (K := K) (H := H8) (r := r2) (es := es2.map heV) (by rw [he_fst]; exact k8) fun y hy => by
        obtain ⟨z, hz, rfl⟩ := List.mem_map.mp hy
        exact he_in (he8 z hz)
      rw [he_data e7] at p1
      rw [he_data e8] at p2
      refine ⟨_, _, p1, p2, hp_lay l1, hp_lay l2, hp_room l1 d1, rfl, _, rfl, ?_⟩
      rw [eqv_hp l1 l2 e]
      exact ne07 rfl ⟨rfl, (F6.trans f7).trans f8, T8, T7.tree (T6.tree x6 f7) f8, T7.tree y7 f8⟩
    · have e2 : decide ((Tr.node c ks).told.wr = (Tr.node d js).told.wr) = false := decide_eq_false fun z => e ((hp_iff l1 l2).mp ((told_iff l1 l2).mp z)).1
      have e3 : decide (V.str (ch c) = V.str (ch d)) = false := decide_eq_false fun z => e (by have := congrArg (fun s : Str => s.cps.toList) (V.str.inj z); simpa [ch] using this)
      rw [e3]
      refine iteF ⟨rfl, _, rfl, ?_⟩
      rw [e2]
      exact ne07 rfl ⟨rfl, F6, T6, x6, y6⟩
  rintro σ' H9 ⟨rfl, F9, T9, x9, y9⟩
  by_cases h : t1.told.wr = t2.told.wr
  · rw [decide_eq_true h]
    refine ⟨_, rfl, _, rfl, _, rfl, iteF ?_⟩
    have e := (told_iff l1 l2).mp h
    have es : t1.size = t2.size := by rw [← told_size t1, ← told_size t2, e]
    have ed : t1.depth = t2.depth := by rw [← told_depth t1, ← told_depth t2, e]
    refine ⟨_, rfl, v, t1, rfl, x9, by omega, fun HA sA => ⟨_, rfl, v, t1, rfl, x9.same sA, by omega, fun HB sB => ⟨(by show 2 ≤ sizeLine; decide), fun l hl => ?_⟩⟩⟩
    have sC := same_new (o := .lst [.int (t1.size : Nat), .int (t1.depth : Nat)]) hl
    have kC := upd_same (H := HB) (a := l) (o := .lst [.int (t1.size : Nat), .int (t1.depth : Nat)])
    have S3 := (sA.trans sB).trans sC
    refine ⟨_, rfl, u, t2, rfl, y9.same S3, by omega, fun HD sD => ⟨_, rfl, u, t2, rfl, (y9.same S3).same sD, by omega, fun HE sE => ⟨(by show 2 ≤ sizeLine; decide), fun m hm => ?_⟩⟩⟩
    have sF := same_new (o := .lst [.int (t2.size : Nat), .int (t2.depth : Nat)]) hm
    have kF := upd_same (H := HE) (a := m) (o := .lst [.int (t2.size : Nat), .int (t2.depth : Nat)])
    have S6 := (sD.trans sE).trans sF
    have da := dp_intsL (K := K) (xs := [(t1.size : Int), (t1.depth : Int)]) (SqL.of (S6 _ _ kC))
    have db := dp_intsL (K := K) (xs := [(t2.size : Int), (t2.depth : Int)]) (SqL.of kF)
    have dep : (PyData.list ([(t1.size : Int), (t1.depth : Int)].map PyData.int)).depth ≤ 200 := by
      have := dep_ints [(t1.size : Int), (t1.depth : Int)]
      simp only [PyData.depth]
      omega
    refine ⟨_, _, da, db, by simp only [PyData.canLay0]; exact lay_ints _, by simp only [PyData.canLay0]; exact lay_ints _, dep, ?_⟩
    rw [es, ed, eqv_self (shaped_ints _)]
    exact q _ (F9.trans (.same (S3.trans S6))) (T9.ext (S3.trans S6))
  · rw [decide_eq_false h]
    exact ⟨_, rfl, _, rfl, _, rfl, iteT (q _ F9 T9)⟩
end

theorem perm_nodup {α : Type} [DecidableEq α] : ∀ {xs ys : List α}, xs.Nodup → ys.Nodup → (∀ a, a ∈ xs ↔ a ∈ ys) → xs.Perm ys
  | [], ys, _, _, h => by
    cases ys with
    | nil => exact .nil
    | cons y r => exact absurd ((h y).mpr List.mem_cons_self) (by simp)
  | x :: r, ys, n1, n2, h => by
    have hx : x ∈ ys := (h x).mp List.mem_cons_self
    rw [List.nodup_cons] at n1
    have p := List.perm_cons_erase hx
    have n3 : (ys.erase x).Nodup := n2.erase x
    refine (List.Perm.cons x (perm_nodup n1.2 n3 fun a => ?_)).trans p.symm
    rw [n2.mem_erase_iff]
    constructor
    · intro ha
      exact ⟨fun e => n1.1 (by rw [← e]; exact ha), (h a).mp (List.mem_cons_of_mem _ ha)⟩
    · rintro ⟨ne, ha⟩
      exact (List.mem_cons.mp ((h a).mpr ha)).resolve_left ne


def isSg (c : Nat) : Bool := !decide (c ∈ [40, 41])
mutual
theorem wr_cnt : ∀ t : Tr, t.lets Ltr → (t.wr.filter isSg).length = t.size
  | .node c ks, h => by
    simp only [Tr.lets] at h
    have hc : isSg c = true := by
      have h2 : ¬ c ∈ [40, 41] := by
        have := h.1.1
        simp
        omega
      unfold isSg
      rw [decide_eq_false h2]
      rfl
    have e : ((brk (wrs ks)).filter isSg).length = sizes ks := by
      rw [← wrs_cnt ks h.2]
      cases z : wrs ks with
      | nil => rfl
      | cons a l =>
        have e1 : isSg 40 = false := by decide
        have e2 : isSg 41 = false := by decide
        unfold brk
        rw [List.filter_cons, e1, List.filter_append]
        simp [e2]
    simp only [Tr.wr, Tr.size]
    rw [List.filter_cons, hc]
    simp only [if_true, List.length_cons, e]
    omega
theorem wrs_cnt : ∀ ts : List Tr, letss Ltr ts → ((wrs ts).filter isSg).length = sizes ts
  | [], _ => rfl
  | t :: r, h => by
    simp only [letss] at h
    simp only [wrs, sizes, List.filter_append, List.length_append, wr_cnt t h.1, wrs_cnt r h.2]
end
def LtW (a b : List Nat) : Prop := a ≤ b ∧ a ≠ b
theorem LtW.trans {a b c : List Nat} (x : LtW a b) (y : b ≤ c) : LtW a c := ⟨List.le_trans x.1 y, fun e => x.2 (List.le_antisymm x.1 (e ▸ y))⟩
theorem hstep_ord {acc : List (Tr × Nat)} {t : Tr} (h : (acc.map fun e => e.1.wr).Pairwise LtW) (ht : ∀ e ∈ acc, e.1.wr ≤ t.wr) : ((hstep acc t).map fun e => e.1.wr).Pairwise LtW ∧ ∀ e ∈ hstep acc t, e.1.wr ≤ t.wr := by
  unfold hstep
  cases z : acc.getLast? with
  | none =>
    exact ⟨List.pairwise_singleton _ _, fun e he => by simp only [List.mem_singleton] at he; rw [he]; exact List.le_refl _⟩
  | some un =>
    obtain ⟨u, n⟩ := un
    obtain ⟨pre, rfl⟩ := List.getLast?_eq_some_iff.mp z
    simp only [List.dropLast_concat]
    rw [List.map_append, List.pairwise_append] at h
    have hu : u.wr ≤ t.wr := ht (u, n) (by simp)
    split
    · refine ⟨by rw [List.map_append, List.pairwise_append]; exact h, fun e he => ?_⟩
      rcases List.mem_append.mp he with q | q
      · exact ht e (List.mem_append_left _ q)
      · simp only [List.mem_singleton] at q; rw [q]; exact hu
    · rename_i ne
      refine ⟨?_, fun e he => ?_⟩
      · rw [List.map_append, List.map_append, List.pairwise_append, List.pairwise_append]
        refine ⟨h, List.pairwise_singleton _ _, fun a ha b hb => ?_⟩
        simp only [List.map_cons, List.map_nil, List.mem_singleton] at hb
        rw [hb]
        rcases List.mem_append.mp ha with q | q
        · exact (h.2.2 a q u.wr (by simp)).trans hu
        · simp only [List.map_cons, List.map_nil, List.mem_singleton] at q
          rw [q]
          exact ⟨hu, ne⟩
      · rcases List.mem_append.mp he with q | q
        · exact ht e q
        · simp only [List.mem_singleton] at q; rw [q]; exact List.le_refl _
theorem rle_ord : ∀ (ts : List Tr) (acc : List (Tr × Nat)), (acc.map fun e => e.1.wr).Pairwise LtW → (∀ e ∈ acc, ∀ t ∈ ts, e.1.wr ≤ t.wr) → ts.Pairwise (fun a b => leW a b = true) → ((ts.foldl hstep acc).map fun e => e.1.wr).Pairwise LtW
  | [], _, h, _, _ => h
  | t :: r, acc, h, ha, hp => by
    obtain ⟨p1, p2⟩ := List.pairwise_cons.mp hp
    obtain ⟨a1, a2⟩ := hstep_ord h fun e he => ha e he t List.mem_cons_self
    exact rle_ord r _ a1 (fun e he u hu => List.le_trans (a2 e he) (of_decide_eq_true (p1 u hu))) p2
theorem hp_ord (t : Tr) : ((hpT t).map fun e => e.1.wr).Pairwise LtW :=
  rle_ord _ [] .nil (fun _ h => by cases h) (List.pairwise_mergeSort leW_trans leW_total _)
theorem hp_expand {t : Tr} (h : t.lets Ltr) : expand (hpT t) = (tolds t.kids).mergeSort leW := by
  obtain ⟨c, ks⟩ := t
  simp only [Tr.lets] at h
  exact (rle_all _ (sort_lets h.2)).1
theorem hp_mem {t : Tr} (h : t.lets Ltr) (x : Tr) : (∃ e ∈ hpT t, e.1 = x) ↔ x ∈ tolds t.kids := by
  rw [← List.mem_mergeSort (le := leW), ← hp_expand h]
  constructor
  · rintro ⟨e, he, rfl⟩
    exact expand_mem he (hp_lets h e he).2
  · intro hx
    unfold expand at hx
    obtain ⟨l, hl, hx⟩ := List.mem_flatten.mp hx
    obtain ⟨e, he, rfl⟩ := List.mem_map.mp hl
    exact ⟨e, he, (List.mem_replicate.mp hx).2.symm⟩
theorem hp_fix {t : Tr} (h : t.lets Ltr) : ∀ e ∈ hpT t, e.1.told = e.1 := fun e he => by
  have hm := (hp_mem h e.1).mp ⟨e, he, rfl⟩
  obtain ⟨c, ks⟩ := t
  simp only [Tr.lets] at h
  exact tolds_fix ks h.2 _ hm
theorem hp_sum {t : Tr} (h : t.lets Ltr) : ((hpT t).map (·.2)).sum = t.kids.length := by
  have e : ∀ a : List (Tr × Nat), (expand a).length = (a.map (·.2)).sum := by
    intro a
    induction a with
    | nil => rfl
    | cons x r ih =>
      have : expand (x :: r) = List.replicate x.2 x.1 ++ expand r := by simp [expand]
      rw [this, List.length_append, List.length_replicate, ih, List.map_cons, List.sum_cons]
  rw [← e, hp_expand h, List.length_mergeSort, tolds_len]
theorem hp_back {c : Nat} {ks : List Tr} (h : (Tr.node c ks).lets Ltr) : (Tr.node c (expand (hpT (.node c ks)))).told = (Tr.node c ks).told := by
  rw [hp_expand h]
  simp only [Tr.lets] at h
  simp only [Tr.told, Tr.kids]
  have hl := sort_lets h.2
  have fix : tolds ((tolds ks).mergeSort leW) = (tolds ks).mergeSort leW := by
    rw [tolds_map]
    refine (List.map_congr_left fun x hx => ?_).trans (List.map_id _)
    exact tolds_fix ks h.2 x (List.mem_mergeSort.mp hx)
  rw [fix, sort_perm (tolds_lets ks h.2) (List.mergeSort_perm _ _)]
theorem hp_texts {t : Tr} (h : t.lets Ltr) {m : List Str} (nd : m.Nodup) (mem : ∀ x, x ∈ m ↔ x ∈ (t.kids.map fun k => ws k.told)) : (hpT t).map (fun e => ws e.1) = m.mergeSort leT := by
  have o := hp_ord t
  have cps : ∀ u : Tr, (ws u).cps.toList = u.wr := fun u => by simp [ws]
  have p1 : ((hpT t).map fun e => ws e.1).Pairwise fun a b => leT a b = true := by
    rw [List.pairwise_map] at o ⊢
    exact o.imp fun {a b} z => decide_eq_true (by rw [cps, cps]; exact z.1)
  have p2 : ((hpT t).map fun e => ws e.1).Nodup := by
    unfold List.Nodup
    rw [List.pairwise_map] at o ⊢
    exact o.imp fun {a b} z e => z.2 (by rw [← cps, ← cps, e])
  refine leT_sort p1 (perm_nodup p2 nd fun x => ?_)
  rw [mem x, List.mem_map, List.mem_map]
  constructor
  · rintro ⟨e, he, rfl⟩
    have hm := (hp_mem h e.1).mp ⟨e, he, rfl⟩
    rw [tolds_map] at hm
    obtain ⟨k, hk, ek⟩ := List.mem_map.mp hm
    exact ⟨k, hk, by rw [ek]⟩
  · rintro ⟨k, hk, rfl⟩
    obtain ⟨e, he, ee⟩ := (hp_mem h k.told).mpr (by rw [tolds_map]; exact List.mem_map_of_mem hk)
    exact ⟨e, he, by rw [ee]⟩
theorem nd_len {α : Type} [DecidableEq α] : ∀ (m ys : List α), m.Nodup → (∀ x ∈ m, x ∈ ys) → m.length ≤ ys.length
  | [], _, _, _ => Nat.zero_le _
  | k :: r, ys, nd, h => by
    obtain ⟨n1, n2⟩ := List.nodup_cons.mp nd
    have p := List.perm_cons_erase (h k List.mem_cons_self)
    have e := p.length_eq
    rw [List.length_cons] at e ⊢
    have := nd_len r (ys.erase k) n2 fun x hx => by
      rcases List.mem_cons.mp (p.mem_iff.mp (h x (List.mem_cons_of_mem _ hx))) with z | z
      · exact absurd (z ▸ hx) n1
      · exact z
    omega
theorem hp_len {t : Tr} (h : t.lets Ltr) : (hpT t).length ≤ t.kids.length := by
  rw [← hp_sum h]
  have : ∀ a : List (Tr × Nat), (∀ e ∈ a, 1 ≤ e.2) → a.length ≤ (a.map (·.2)).sum := by
    intro a
    induction a with
    | nil => intro _; exact Nat.le_refl _
    | cons x r ih =>
      intro ha
      have h1 := ha x List.mem_cons_self
      have h2 := ih fun e he => ha e (List.mem_cons_of_mem _ he)
      rw [List.length_cons, List.map_cons, List.sum_cons]
      omega
  exact this _ fun e he => (hp_lets h e he).2
theorem sum_cast : ∀ E : List (V × Tr × Nat), (E.map fun e => (e.2.2 : Int)).sum = (((E.map (·.2)).map (·.2)).sum : Nat)
  | [] => rfl
  | e :: r => by
    rw [List.map_cons, List.sum_cons, sum_cast r, List.map_cons, List.map_cons, List.sum_cons]
    push_cast
    rfl
theorem hp_size {t : Tr} (h : t.lets Ltr) : ∀ e ∈ hpT t, e.1.size ≤ t.size := fun e he => by
  have hm := (hp_mem h e.1).mp ⟨e, he, rfl⟩
  obtain ⟨c, ks⟩ := t
  have := sizes_mem hm
  rw [tolds_sizes] at this
  simp only [Tr.size]
  simp only [Tr.kids] at this
  omega
mutual
theorem wr_low : ∀ t : Tr, t.lets Ltr → ∀ c ∈ t.wr, c ≤ 122
  | .node d ks, h, c, hc => by
    simp only [Tr.lets] at h
    simp only [Tr.wr, List.mem_cons] at hc
    rcases hc with rfl | hc
    · exact h.1.2
    · have low := wrs_low ks h.2
      cases z : wrs ks with
      | nil => rw [z] at hc; cases hc
      | cons a l =>
        rw [z] at hc
        unfold brk at hc
        rw [List.mem_cons, List.mem_append] at hc
        rcases hc with rfl | hc | hc
        · decide
        · exact low c (by rw [z]; exact hc)
        · simp only [List.mem_singleton] at hc; rw [hc]; decide
theorem wrs_low : ∀ ts : List Tr, letss Ltr ts → ∀ c ∈ wrs ts, c ≤ 122
  | [], _, c, hc => by simp [wrs] at hc
  | t :: r, h, c, hc => by
    simp only [letss] at h
    simp only [wrs, List.mem_append] at hc
    exact hc.elim (wr_low t h.1 c) (wrs_low r h.2 c)
end
theorem ws_ok {t : Tr} (h : t.lets Ltr) : PyData.strOk (ws t) = true := by
  unfold PyData.strOk
  rw [Array.all_eq_true_iff_forall_mem]
  intro c hc
  have := wr_low t h c (by simpa [ws] using hc)
  simp
  omega
theorem lay_strs : ∀ xs : List Str, (∀ x ∈ xs, PyData.strOk x = true) → PyData.canLayAll0 (xs.map PyData.str) = true
  | [], _ => rfl
  | x :: r, h => by simp only [List.map_cons, PyData.canLayAll0, PyData.canLay0, h x List.mem_cons_self, lay_strs r fun y hy => h y (List.mem_cons_of_mem _ hy), Bool.and_self]
theorem dep_strs : ∀ xs : List Str, PyData.depthAll (xs.map PyData.str) ≤ 1
  | [] => by simp [PyData.depthAll]
  | x :: r => by have := dep_strs r; simp only [List.map_cons, PyData.depthAll, PyData.depth]; omega
theorem dp_strs {K : PySem.W.Frag} {H : Hp} : ∀ xs : List Str, DpAll K H (xs.map V.str) (xs.map PyData.str)
  | [] => .nil
  | x :: r => .cons (.str x) (dp_strs r)
theorem sign_out (c : Nat) : (!!(Builtin.Str.occurrences (Str.ofString "()") (ch c) 0 (Str.ofString "()").length 1).isEmpty) = isSg c := by
  have h := StrLaws.found_one (Str.ofString "()") c
  have e : (Str.ofString "()").cps.toList = [40, 41] := by decide +kernel
  rw [e] at h
  unfold isSg
  rw [← h]
  rfl
theorem TabS.upd0 {H : Hp} {P p : Addr} {q : Str} {xs : List V} {o : HO} (h : LamX.TabS H P q) (hp : H p = some (.lst xs)) : LamX.TabS (upd H p o) P q := by
  obtain ⟨ps, h1, h2, h3⟩ := h
  refine ⟨ps, by rw [upd_ne (fun z => by rw [z, hp] at h1; cases h1)]; exact h1, h2, fun pos cv hc => ?_⟩
  obtain ⟨c, e, h4⟩ := h3 pos cv hc
  exact ⟨c, e, by rw [upd_ne (fun z => by rw [z, hp] at h4; cases h4)]; exact h4⟩
theorem Tb2.upd0 {H : Hp} {P1 P2 p : Addr} {q1 q2 : Str} {xs : List V} {o : HO} (T : Tb2 H P1 q1 P2 q2) (hp : H p = some (.lst xs)) : Tb2 (upd H p o) P1 q1 P2 q2 := ⟨TabS.upd0 T.1 hp, TabS.upd0 T.2 hp⟩
def sp__law_one_right (P1 : Addr) (q1 : Str) (P2 : Addr) (q2 : Str) : Sp := fun vs H Q _ => ∃ (v : V) (t : Tr), vs = [v] ∧ TrAt (fun _ => True) H v t ∧ t.size ≤ 1000 ∧ t.depth ≤ 40 ∧ Tb2 H P1 q1 P2 q2 ∧ ∀ H', Fr2 P1 P2 H H' → Tb2 H' P1 q1 P2 q2 → Q (.bl true) H'
section
variable {P : Program} {w : World} {K : PySem.W.Frag} {mg : Str → Option Value} {base : Heap}
theorem ok__law_one_right (T : Txt K mg) (B : Tbs T base) : FnOk P w K mg base CX0 11 T.f__law_one_right T.d__law_one_right ["tree"] (sp__law_one_right T.P__joined q__joined T.P_heap_of q_heap_of) := by
  have G_are_same : FnOk P w K mg base CX0 10 T.f_are_same T.d_are_same ["one", "other"] (sp_are_same T.P__joined q__joined) := ok_are_same T B
  have G_written_tree : FnOk P w K mg base CX0 9 T.f_written_tree T.d_written_tree ["tree"] (sp_written_tree T.P__joined q__joined) := ok_written_tree T B
  have G_told_form : FnOk P w K mg base CX0 9 T.f_told_form T.d_told_form ["tree"] (sp_told_form T.P__joined q__joined) := ok_told_form T B
  have G_heap_of : FnOk P w K mg base CX0 9 T.f_heap_of T.d_heap_of ["tree"] (sp_heap_of T.P__joined q__joined T.P_heap_of q_heap_of) := ok_heap_of T B
  have G_from_heap : FnOk P w K mg base CX0 10 T.f_from_heap T.d_from_heap ["letter", "heap"] (sp_from_heap T.P__joined q__joined) := ok_from_heap T B
  have G_size_of : FnOk P w K mg base CX0 6 T.f_size_of T.d_size_of ["tree"] sp_size_of := ok_size_of T
  have G_depth_of : FnOk P w K mg base CX0 5 T.f_depth_of T.d_depth_of ["tree"] sp_depth_of := ok_depth_of T
  have G_is_tree : FnOk P w K mg base CX0 3 T.f_is_tree T.d_is_tree ["thing"] sp_is_tree := ok_is_tree T
  have nPP : T.P_heap_of ≠ T.P__joined := fun e => T.n__joined_heap_of e.symm
  refine T.F__law_one_right.ok sc__law_one_right (fun vs H Q E h => ?_) (fun cdv A outer s H vs Q E hr h => ?_)
  · obtain ⟨v, t, rfl, _⟩ := h
    rfl
  obtain ⟨v, t, rfl, h1, z1, d1, T0, q⟩ := h
  refine ⟨_, (pss_cons (ps_set (i := 1) sc__law_one_right.nd rfl (Or.inl rfl) (pe_call G_told_form (hr.mono (by omega)) (by rfl) T.m_told_form T.F_told_form.kp T.b_told_form .nil pass0 (pa_cons (pv 0) pa_nil))) (pss_cons (ps_set (i := 2) sc__law_one_right.nd rfl (Or.inl rfl) (pe_call G_written_tree (hr.mono (by omega)) (by rfl) T.m_written_tree T.F_written_tree.kp T.b_written_tree .nil pass0 (pa_cons (pv 0) pa_nil))) (C8.pss_cut (ps_if (PW.pt (pw_or (pt_not (pt_val (pe_call G_is_tree (hr.mono (by omega)) (by rfl) T.m_is_tree T.F_is_tree.kp T.b_is_tree .nil pass0 (pa_cons (pv 1) pa_nil)))) (pw_or (pt_cmpR (op_neB (roomDeep hr)) (pe_call G_told_form (hr.mono (by omega)) (by rfl) T.m_told_form T.F_told_form.kp T.b_told_form .nil pass0 (pa_cons (pv 1) pa_nil)) (pv 1) (nomark _)) (pw_or1 (pt_cmpR op_ne (pe_call G_written_tree (hr.mono (by omega)) (by rfl) T.m_written_tree T.F_written_tree.kp T.b_written_tree .nil pass0 (pa_cons (pv 1) pa_nil)) (pv 2) (nomark _)))))) (pss_one (ps_ret pe_bl)) pss_nil) (C8.pss_cut (ps_if (PW.pt (pw_or (pt_cmpR (op_neB (roomDeep hr)) (pe_lst (pa_cons (pe_call G_size_of (hr.mono (by omega)) (by rfl) T.m_size_of T.F_size_of.kp T.b_size_of .nil pass0 (pa_cons (pv 1) pa_nil)) (pa_cons (pe_call G_depth_of (hr.mono (by omega)) (by rfl) T.m_depth_of T.F_depth_of.kp T.b_depth_of .nil pass0 (pa_cons (pv 1) pa_nil)) pa_nil))) (pe_lst (pa_cons (pe_call G_size_of (hr.mono (by omega)) (by rfl) T.m_size_of T.F_size_of.kp T.b_size_of .nil pass0 (pa_cons (pv 0) pa_nil)) (pa_cons (pe_call G_depth_of (hr.mono (by omega)) (by rfl) T.m_depth_of T.F_depth_of.kp T.b_depth_of .nil pass0 (pa_cons (pv 0) pa_nil)) pa_nil))) (nomark _)) (pw_or1 (pt_not (pt_val (pe_call G_are_same (hr.mono (by omega)) (by rfl) T.m_are_same T.F_are_same.kp T.b_are_same .nil pass0 (pa_cons (pv 0) (pa_cons (pv 1) pa_nil)))))))) (pss_one (ps_ret pe_bl)) pss_nil) (C8.pss_cut (ps_if (pt_cmpR op_ne (pe_callB call_len_seq (by rfl) T.z_len PySem.boot_len (pa_cons (pe_lc (own := [("sign", 4)]) (g := gName 4) rfl sc__law_one_right.nd (pi_str (pv 2)) (blkOk_by (own := [("sign", 4)]) (N := ["tree", "form", "written", "heap", "sign", "child", "many"]) (sc := (defScope s__law_one_right)) (by decide +kernel)) (fun _ _ _ _ _ => (pg_name (i := 4) sc__law_one_right.nd rfl (Or.inl rfl))) (fun _ _ _ _ _ => pts_one (pt_cmpR op_notIn_str (pv 4) pe_str (by rfl))) (fun _ _ _ _ _ => (pv 4))) pa_nil)) (pe_call G_size_of (hr.mono (by omega)) (by rfl) T.m_size_of T.F_size_of.kp T.b_size_of .nil pass0 (pa_cons (pv 0) pa_nil)) (nomark _)) (pss_one (ps_ret pe_bl)) pss_nil) (pss_cons (ps_set (i := 3) sc__law_one_right.nd rfl (Or.inl rfl) (pe_call G_heap_of (hr.mono (by omega)) (by rfl) T.m_heap_of T.F_heap_of.kp T.b_heap_of .nil pass0 (pa_cons (pv 0) pa_nil))) (C8.pss_cut (ps_if (PW.pt (pw_or (pt_cmpR op_ne (pe_callB (cr_sum rfl) (by rfl) T.z_sum (by decide +kernel) (pa_cons (pe_lc (own := [("child", 5), ("many", 6)]) (g := gTup K 2 (gCons (gName 5) (gCons (gName 6) gNil))) (tt := tYes) rfl sc__law_one_right.nd (pi_list (pv 3)) (blkOk_by (own := [("child", 5), ("many", 6)]) (N := ["tree", "form", "written", "heap", "sign", "child", "many"]) (sc := (defScope s__law_one_right)) (by decide +kernel)) (fun _ _ _ _ _ => (pg_tup rfl (pgs_cons (pg_name (i := 5) sc__law_one_right.nd rfl (Or.inl rfl)) (pgs_cons (pg_name (i := 6) sc__law_one_right.nd rfl (Or.inl rfl)) pgs_nil)))) (fun _ _ _ _ _ => pts_nil) (fun _ _ _ _ _ => (pv 6))) pa_nil)) (pe_callB call_len_seq (by rfl) T.z_len PySem.boot_len (pa_cons (pe_ix ix_tup (pv 0) pe_int (fun _ _ => rfl)) pa_nil)) (nomark _)) (pw_or1 (pt_cmpR (op_neB (roomDeep hr)) (pe_call G_from_heap (hr.mono (by omega)) (by rfl) T.m_from_heap T.F_from_heap.kp T.b_from_heap .nil pass0 (pa_cons (pe_ix ix_tup (pv 0) pe_int (fun _ _ => rfl)) (pa_cons (pv 3) pa_nil))) (pv 1) (nomark _))))) (pss_one (ps_ret pe_bl)) pss_nil) (pss_cons (ps_if (pt_cmpR (op_neB (roomDeep hr)) (pe_lc (own := [("child", 5), ("many", 6)]) (g := gTup K 2 (gCons (gName 5) (gCons (gName 6) gNil))) (tt := tOr (tTest (tOp (rNeB K) (tCall (sp_told_form T.P__joined q__joined) [] E0 (tCons (tVar 5) tNil)) (tVar 5))) (tTest (tOp (rI0 fun i j => V.bl (decide (i < j))) (tVar 6) (tC (.int 1))))) rfl sc__law_one_right.nd (pi_list (pv 3)) (blkOk_by (own := [("child", 5), ("many", 6)]) (N := ["tree", "form", "written", "heap", "sign", "child", "many"]) (sc := (defScope s__law_one_right)) (by decide +kernel)) (fun _ _ _ _ _ => (pg_tup rfl (pgs_cons (pg_name (i := 5) sc__law_one_right.nd rfl (Or.inl rfl)) (pgs_cons (pg_name (i := 6) sc__law_one_right.nd rfl (Or.inl rfl)) pgs_nil)))) (fun _ _ _ _ _ => pts_one (PW.pt (pw_or (pt_cmpR (op_neB (roomDeep hr)) (pe_call G_told_form (hr.mono (by omega)) (by rfl) T.m_told_form T.F_told_form.kp T.b_told_form .nil pass0 (pa_cons (pv 5) pa_nil)) (pv 5) (nomark _)) (pw_or1 (pt_cmpR op_lt (pv 6) pe_int (nomark _)))))) (fun _ _ _ _ _ => pe_int)) (pe_lst pa_nil) (nomark _)) (pss_one (ps_ret pe_bl)) pss_nil) (pss_one (ps_ret (pe_cmpR (op_eqB (roomDeep hr)) (pe_lc (own := [("child", 5), ("many", 6)]) (g := gTup K 2 (gCons (gName 5) (gCons (gName 6) gNil))) (tt := tYes) rfl sc__law_one_right.nd (pi_list (pv 3)) (blkOk_by (own := [("child", 5), ("many", 6)]) (N := ["tree", "form", "written", "heap", "sign", "child", "many"]) (sc := (defScope s__law_one_right)) (by decide +kernel)) (fun _ _ _ _ _ => (pg_tup rfl (pgs_cons (pg_name (i := 5) sc__law_one_right.nd rfl (Or.inl rfl)) (pgs_cons (pg_name (i := 6) sc__law_one_right.nd rfl (Or.inl rfl)) pgs_nil)))) (fun _ _ _ _ _ => pts_nil) (fun _ _ _ _ _ => (pe_call G_written_tree (hr.mono (by omega)) (by rfl) T.m_written_tree T.F_written_tree.kp T.b_written_tree .nil pass0 (pa_cons (pv 5) pa_nil)))) (pe_callB (call_sortedTx rfl (roomTx hr)) (by rfl) T.z_sorted (by decide +kernel) (pa_cons (pe_callTy (call_setTx rfl) (by rfl) T.z_set (by decide +kernel) (pa_cons (pe_lc (own := [("child", 5)]) (g := gName 5) (tt := tYes) rfl sc__law_one_right.nd (pi_list (pe_ix ix_tup (pv 0) pe_int (fun _ _ => rfl))) (blkOk_by (own := [("child", 5)]) (N := ["tree", "form", "written", "heap", "sign", "child", "many"]) (sc := (defScope s__law_one_right)) (by decide +kernel)) (fun _ _ _ _ _ => (pg_name (i := 5) sc__law_one_right.nd rfl (Or.inl rfl))) (fun _ _ _ _ _ => pts_nil) (fun _ _ _ _ _ => (pe_call G_written_tree (hr.mono (by omega)) (by rfl) T.m_written_tree T.F_written_tree.kp T.b_written_tree .nil pass0 (pa_cons (pv 5) pa_nil)))) pa_nil)) pa_nil)) (nomark _)))))))))))), ?_⟩
  generalize T.P__joined = P1 at *
  generalize T.P_heap_of = P2 at *
  have l1 := TrAt.ltr t v h1
  have lT := told_lets t l1
  have eT := told_told t l1
  have zT := told_size t
  have dT := told_depth t
  refine ⟨_, rfl, v, t, rfl, h1, by omega, T0.1, fun x as H1 f1 c1 _ o1 => ?_⟩
  have T1 := T0.one nPP f1 c1
  have x1 := (TrO.at _ _ _ o1).weak (ok' := fun _ => True) fun _ _ => trivial
  have v1 := T0.tree h1 (.of1 f1)
  refine ⟨_, rfl, v, t, rfl, v1, by omega, T1.1, fun H2 f2 c2 => ?_⟩
  have T2 := T1.one nPP f2 c2
  have x2 := T1.tree x1 (.of1 f2)
  have v2 := T1.tree v1 (.of1 f2)
  have F2 : Fr2 P1 P2 H H2 := (Fr2.of1 f1).trans (.of1 f2)
  refine ⟨fun σ' H' => σ' = [some v, some x, some (.str (ws t.told)), none, none, none, none] ∧ Fr2 P1 P2 H H' ∧ Tb2 H' P1 q__joined P2 q_heap_of ∧ TrAt (fun _ => True) H' v t ∧ TrAt (fun _ => True) H' x t.told, ?_, ?_⟩
  · refine ⟨_, rfl, x, t.told, rfl, x2, by omega, fun H3 s3 => ⟨_, rfl, iteF ?_⟩⟩
    have T3 := T2.ext s3
    have x3 := x2.same s3
    have v3 := v2.same s3
    refine ⟨_, rfl, x, t.told, rfl, x3, by omega, T3.1, fun y as2 H4 f4 c4 _ o4 => ?_⟩
    have T4 := T3.one nPP f4 c4
    have x4 := T3.tree x3 (.of1 f4)
    have dp4 := TrAt.dp (K := K) _ _ (TrO.at _ _ _ o4)
    rw [eT] at dp4
    refine ⟨_, rfl, t.told.dat, t.told.dat, dp4, TrAt.dp _ _ x4, lay_tr _ lT, lay_tr _ lT, by have := dat_depth t.told; omega, ?_⟩
    rw [SeqAt.eqv_refl _ (lay_tr _ lT)]
    refine ⟨_, rfl, iteF ?_⟩
    refine ⟨_, rfl, x, t.told, rfl, x4, by omega, T4.1, fun H5 f5 c5 => ⟨_, rfl, rfl, _, rfl, ne07 (by rw [eT]) ?_⟩⟩
    have T5 := T4.one nPP f5 c5
    exact ⟨rfl, F2.trans ((Fr2.same s3).trans ((Fr2.of1 f4).trans (.of1 f5))), T5, T4.tree (T3.tree v3 (.of1 f4)) (.of1 f5), T4.tree x4 (.of1 f5)⟩
  clear T1 x1 v1 T2 x2 v2 F2 f1 f2 c1 c2 o1
  rintro σ' H2 ⟨rfl, F2, T2, v2, x2⟩
  refine ⟨fun σ' H' => σ' = [some v, some x, some (.str (ws t.told)), none, none, none, none] ∧ Fr2 P1 P2 H H' ∧ Tb2 H' P1 q__joined P2 q_heap_of ∧ TrAt (fun _ => True) H' v t ∧ TrAt (fun _ => True) H' x t.told, ?_, ?_⟩
  · refine ⟨_, rfl, x, t.told, rfl, x2, by omega, fun HA sA => ⟨_, rfl, x, t.told, rfl, x2.same sA, by omega, fun HB sB => ⟨(by show 2 ≤ sizeLine; decide), fun l hl => ?_⟩⟩⟩
    have sC := same_new (o := .lst [.int (t.told.size : Nat), .int (t.told.depth : Nat)]) hl
    have kC := upd_same (H := HB) (a := l) (o := .lst [.int (t.told.size : Nat), .int (t.told.depth : Nat)])
    have S3 := (sA.trans sB).trans sC
    refine ⟨_, rfl, v, t, rfl, v2.same S3, by omega, fun HD sD => ⟨_, rfl, v, t, rfl, (v2.same S3).same sD, by omega, fun HE sE => ⟨(by show 2 ≤ sizeLine; decide), fun m hm => ?_⟩⟩⟩
    have sF := same_new (o := .lst [.int (t.size : Nat), .int (t.depth : Nat)]) hm
    have kF := upd_same (H := HE) (a := m) (o := .lst [.int (t.size : Nat), .int (t.depth : Nat)])
    have S6 := (sD.trans sE).trans sF
    have da := dp_intsL (K := K) (xs := [(t.told.size : Int), (t.told.depth : Int)]) (SqL.of (S6 _ _ kC))
    have db := dp_intsL (K := K) (xs := [(t.size : Int), (t.depth : Int)]) (SqL.of kF)
    have dep : (PyData.list ([(t.told.size : Int), (t.told.depth : Int)].map PyData.int)).depth ≤ 200 := by
      have := dep_ints [(t.told.size : Int), (t.told.depth : Int)]
      simp only [PyData.depth]
      omega
    refine ⟨_, _, da, db, by simp only [PyData.canLay0]; exact lay_ints _, by simp only [PyData.canLay0]; exact lay_ints _, dep, ?_⟩
    rw [zT, dT, eqv_self (shaped_ints _)]
    have S := S3.trans S6
    have TS := T2.ext S
    refine ⟨_, rfl, iteF ⟨_, rfl, _, rfl, v, x, t, t.told, rfl, v2.same S, x2.same S, by omega, by omega, TS.1, fun HG fG cG => ?_⟩⟩
    rw [eT, decide_eq_true rfl]
    exact ⟨_, rfl, iteF ⟨rfl, F2.trans ((Fr2.same S).trans (.of1 fG)), TS.one nPP fG cG, TS.tree (v2.same S) (.of1 fG), TS.tree (x2.same S) (.of1 fG)⟩⟩
  clear F2 T2 v2 x2 H2
  rintro σ' H2 ⟨rfl, F2, T2, v2, x2⟩
  refine ⟨fun σ' H' => σ' = [some v, some x, some (.str (ws t.told)), none, none, none, none] ∧ Fr2 P1 P2 H H' ∧ Tb2 H' P1 q__joined P2 q_heap_of ∧ TrAt (fun _ => True) H' v t ∧ TrAt (fun _ => True) H' x t.told, ?_, ?_⟩
  · refine ⟨_, rfl, _, rfl, fun D hD => ?_⟩
    have lw : t.told.wr.length ≤ 3000 := by have := wr_len t.told; omega
    refine lc_it walk_str (fun i H' => H' D = some (.lst (((t.told.wr.take i).filter isSg).map fun c => V.str (ch c))) ∧ Same H2 H') ⟨upd_same, same_new hD⟩ (fun _ _ _ _ => trivial) ?_ ?_
    · rintro i y _ H3 hi ⟨g1, g2⟩ ⟨rfl, c, hc, rfl⟩
      have hc : t.told.wr.toArray[i]? = some c := hc
      rw [List.getElem?_toArray] at hc
      refine ⟨rfl, _, rfl, ch c, Str.ofString "()", rfl, rfl, _, rfl, ?_⟩
      rw [sign_out c]
      have step : (t.told.wr.take (i + 1)).filter isSg = (t.told.wr.take i).filter isSg ++ [c].filter isSg := by rw [take_succ_of hc, List.filter_append]
      cases z : isSg c with
      | true =>
        refine iteT ⟨_, rfl, _, g1, ?_, ?_, same_add g2 hD⟩
        · rw [List.length_map]
          exact Nat.lt_of_le_of_lt (Nat.le_trans (List.length_filter_le _ _) (show (t.told.wr.take i).length ≤ 3000 by rw [List.length_take]; omega)) (by decide)
        · rw [upd_same, step, List.map_append]
          simp [z]
          rfl
      | false =>
        refine iteF ⟨?_, g2⟩
        rw [step]
        simp [z]
        exact g1
    rintro H3 ⟨g1, g2⟩
    have ek : t.told.wr.take (ws t.told).cps.size = t.told.wr := by
      show t.told.wr.take t.told.wr.toArray.size = _
      rw [List.size_toArray, List.take_length]
    rw [ek] at g1
    refine ⟨D, _, rfl, .inl (SqL.of g1), _, rfl, v, t, rfl, v2.same g2, by omega, fun H4 s4 => ⟨rfl, _, rfl, ne07 ?_ ?_⟩⟩
    · rw [List.length_map, wr_cnt _ lT, zT]
    · have S := g2.trans s4
      exact ⟨rfl, F2.trans (.same S), T2.ext S, v2.same S, x2.same S⟩
  clear F2 T2 v2 x2 H2
  rintro σ' H2 ⟨rfl, F2, T2, v2, x2⟩
  refine ⟨_, rfl, v, t, rfl, v2, by omega, T2.1, T2.2, fun r es H7 f7 a7 b7 _ k7 he7 _ e7 => ?_⟩
  have T7 : Tb2 H7 P1 q__joined P2 q_heap_of := ⟨a7, b7⟩
  have v7 := T2.tree v2 f7
  have x7 := T2.tree x2 f7
  have F7 := F2.trans f7
  obtain ⟨E, kE, heE, dE⟩ : ∃ E : List (V × Tr × Nat), H7 r = some (.lst (E.map (·.1))) ∧ (∀ e ∈ E, HeIn H7 e) ∧ E.map (·.2) = hpT t := by
    refine ⟨es.map heV, by rw [he_fst]; exact k7, fun y hy => ?_, he_data e7⟩
    obtain ⟨z, hz, rfl⟩ := List.mem_map.mp hy
    exact he_in (he7 z hz)
  clear k7 he7 e7 F2 T2 v2 x2 f7 a7 b7
  have eM : ∀ e ∈ E, e.2 ∈ hpT t := fun e he => by rw [← dE]; exact List.mem_map_of_mem he
  have lE : E.length ≤ t.kids.length := by
    have := hp_len l1
    rwa [← dE, List.length_map] at this
  have lk : t.kids.length ≤ 1000 := by
    obtain ⟨c, ks⟩ := t
    have := len_sizes ks
    simp only [Tr.size] at z1
    show ks.length ≤ 1000
    omega
  refine ⟨fun σ' H' => σ' = [some v, some x, some (.str (ws t.told)), some (.ref r), none, none, none] ∧ Fr2 P1 P2 H H' ∧ Tb2 H' P1 q__joined P2 q_heap_of ∧ TrAt (fun _ => True) H' v t ∧ TrAt (fun _ => True) H' x t.told ∧ H' r = some (.lst (E.map (·.1))) ∧ ∀ e ∈ E, HeIn H' e, ?_, ?_⟩
  · refine ⟨_, rfl, r, rfl, ⟨_, SqL.of kE⟩, fun D hD => ?_⟩
    refine lc_list (xs := E.map (·.1)) (fun i H' => H' D = some (.lst ((E.take i).map fun e => V.int (e.2.2 : Nat))) ∧ Same H7 H') ⟨upd_same, same_new hD⟩ (fun i H' _ ⟨_, s⟩ => SqL.of (s _ _ kE)) ?_ ?_
    · rintro i y H3 hy ⟨g1, g2⟩
      rw [List.getElem?_map] at hy
      cases he : E[i]? with
      | none => rw [he] at hy; cases hy
      | some e =>
      rw [he] at hy
      cases hy
      obtain ⟨p, u, h1, h2, h3⟩ := heE e (List.mem_of_getElem? he)
      refine ⟨p, _, h1, SqT.of (g2 _ _ h2), rfl, _, _, rfl, _, _, rfl, rfl, rfl, _, rfl, _, g1, ?_, ?_, same_add g2 hD⟩
      · rw [List.length_map, List.length_take]
        exact Nat.lt_of_le_of_lt (show _ ≤ 1000 by omega) (by decide)
      · rw [upd_same, take_succ_of he, List.map_append]
        rfl
    rintro H3 ⟨g1, g2⟩
    rw [List.length_map, List.take_length] at g1
    have v7' := v7
    obtain ⟨c, ks⟩ := t
    cases v7' with
    | @node a l vs _ _ k1 k2 _ _ c1 c2 rk =>
    have l3 := g2 _ _ k1
    have kl3 := g2 _ _ k2
    refine ⟨D, E.map fun e => (e.2.2 : Int), rfl, SqL.of (by rw [List.map_map]; exact g1), ?_⟩
    refine ⟨_, rfl, a, _, 1, _, rfl, rfl, SqT.of l3, at_of (j := 1) rfl rfl, l, vs, rfl, .inl (SqL.of kl3), rfl, _, rfl, ne07 ?_ ?_⟩
    · rw [sum_cast, dE, hp_sum l1, rk.len]
      rfl
    have T3 := T7.ext g2
    refine ⟨_, rfl, a, _, 0, _, rfl, rfl, SqT.of l3, at_of (j := 0) rfl rfl, _, rfl, c, r, E, rfl, c1, c2, g2 _ _ kE, (fun e he => ⟨by obtain ⟨p, u, h1, h2, h3⟩ := heE e he; exact ⟨p, u, h1, g2 _ _ h2, h3.same g2⟩, (hp_lets l1 _ (eM e he)).2⟩), ?_, by omega, T3.1, fun y as H8 f8 cc8 _ o8 => ?_⟩
    · rw [dE, hp_expand l1, sizes_sort, tolds_sizes]
      simp only [Tr.size] at z1
      show sizes ks ≤ 100000
      omega
    have T8 := T3.one nPP f8 cc8
    have dp8 := TrAt.dp (K := K) _ _ (TrO.at _ _ _ o8)
    rw [dE, hp_back l1] at dp8
    have x8 := T3.tree (x7.same g2) (.of1 f8)
    refine ⟨_, rfl, (Tr.node c ks).told.dat, (Tr.node c ks).told.dat, dp8, TrAt.dp _ _ x8, lay_tr _ lT, lay_tr _ lT, by have := dat_depth (Tr.node c ks).told; omega, ?_⟩
    rw [SeqAt.eqv_refl _ (lay_tr _ lT)]
    refine ⟨_, rfl, iteF ⟨rfl, F7.trans ((Fr2.same g2).trans (.of1 f8)), T8, T3.tree (v7.same g2) (.of1 f8), x8, T3.lst (g2 _ _ kE) (.of1 f8), fun e he => T3.he ?_ (.of1 f8)⟩⟩
    obtain ⟨p, u, h1, h2, h3⟩ := heE e he
    exact ⟨p, u, h1, g2 _ _ h2, h3.same g2⟩
  clear kE heE F7 T7 v7 x7 H7
  rintro σ' H7 ⟨rfl, F7, T7, v7, x7, kE, heE⟩
  refine ⟨_, rfl, r, rfl, ⟨_, SqL.of kE⟩, fun D hD => ?_⟩
  refine lc_list (xs := E.map (·.1)) (fun i H' => H' D = some (.lst []) ∧ Fr2 P1 P2 H7 H' ∧ Tb2 H' P1 q__joined P2 q_heap_of) ⟨upd_same, .same (same_new hD), T7.ext (same_new hD)⟩ (fun i H' _ ⟨_, f, _⟩ => SqL.of (T7.lst kE f)) ?_ ?_
  · rintro i y H3 hy ⟨g1, g2, g3⟩
    rw [List.getElem?_map] at hy
    cases he : E[i]? with
    | none => rw [he] at hy; cases hy
    | some e =>
    rw [he] at hy
    cases hy
    have hm := List.mem_of_getElem? he
    obtain ⟨p, u, h1, h2, h3⟩ := T7.he (heE e hm) g2
    have fx := hp_fix l1 _ (eM e hm)
    have hl := (hp_lets l1 _ (eM e hm)).1
    have hn := (hp_lets l1 _ (eM e hm)).2
    have hz := hp_size l1 _ (eM e hm)
    have hd := hp_depth l1 _ (eM e hm)
    refine ⟨p, _, h1, SqT.of h2, rfl, _, _, rfl, _, _, rfl, rfl, rfl, ?_⟩
    refine ⟨_, rfl, u, e.2.1, rfl, h3, by omega, g3.1, fun y as H4 f4 c4 _ o4 => ?_⟩
    have T4 := g3.one nPP f4 c4
    have dp4 := TrAt.dp (K := K) _ _ (TrO.at _ _ _ o4)
    rw [fx] at dp4
    refine ⟨_, rfl, e.2.1.dat, e.2.1.dat, dp4, TrAt.dp _ _ (g3.tree h3 (.of1 f4)), lay_tr _ hl, lay_tr _ hl, by have := dat_depth e.2.1; omega, ?_⟩
    rw [SeqAt.eqv_refl _ (lay_tr _ hl)]
    refine ⟨_, rfl, iteF ⟨_, rfl, _, _, rfl, rfl, _, rfl, ?_⟩⟩
    rw [decide_eq_false (show ¬ ((e.2.2 : Nat) : Int) < 1 by omega)]
    exact iteF ⟨g3.lst g1 (.of1 f4), g2.trans (.of1 f4), T4⟩
  rintro H3 ⟨g1, g2, g3⟩
  refine ⟨(by show 0 ≤ sizeLine; decide), fun z hz => ⟨.list [], .list [], dp_nil (by rw [upd_ne (ne_of_none g1 hz)]; exact g1), dp_nil upd_same, rfl, rfl, by decide, ?_⟩⟩
  rw [eqv_nil]
  refine ⟨_, rfl, iteF ?_⟩
  have s4 := same_new (o := .lst []) hz
  have F4 : Fr2 P1 P2 H7 (upd H3 z (.lst [])) := g2.trans (.same s4)
  have T4 := g3.ext s4
  generalize upd H3 z (.lst []) = H4 at *
  have v4 := T7.tree v7 F4
  have kE4 := T7.lst kE F4
  have heE4 : ∀ e ∈ E, HeIn H4 e := fun e he => T7.he (heE e he) F4
  have FH4 := F7.trans F4
  clear g1 g2 g3 s4 hz F4 T7 v7 x7 kE heE F7 hD
  refine ⟨_, rfl, r, rfl, ⟨_, SqL.of kE4⟩, fun D1 hD1 => ?_⟩
  refine lc_list (xs := E.map (·.1)) (fun i H' => H' D1 = some (.lst ((E.take i).map fun e => V.str (ws e.2.1))) ∧ Fr2 P1 P2 H4 H' ∧ Tb2 H' P1 q__joined P2 q_heap_of) ⟨upd_same, .same (same_new hD1), T4.ext (same_new hD1)⟩ (fun i H' _ ⟨_, f, _⟩ => SqL.of (T4.lst kE4 f)) ?_ ?_
  · rintro i y H5 hy ⟨g1, g2, g3⟩
    rw [List.getElem?_map] at hy
    cases he : E[i]? with
    | none => rw [he] at hy; cases hy
    | some e =>
    rw [he] at hy
    cases hy
    have hm := List.mem_of_getElem? he
    obtain ⟨p, u, h1, h2, h3⟩ := T4.he (heE4 e hm) g2
    have fx := hp_fix l1 _ (eM e hm)
    have hz := hp_size l1 _ (eM e hm)
    refine ⟨p, _, h1, SqT.of h2, rfl, _, _, rfl, _, _, rfl, rfl, rfl, ?_⟩
    refine ⟨_, rfl, u, e.2.1, rfl, h3, by omega, g3.1, fun H6 f6 c6 => ?_⟩
    have T6 := g3.one nPP f6 c6
    have k6 := g3.lst g1 (.of1 f6)
    have n1 : P1 ≠ D1 := fun z => by obtain ⟨_, q1⟩ := T6.p1; rw [z, k6] at q1; cases q1
    have n2 : P2 ≠ D1 := fun z => by obtain ⟨_, q2⟩ := T6.p2; rw [z, k6] at q2; cases q2
    refine ⟨_, k6, ?_, ?_, ?_, ?_⟩
    · rw [List.length_map, List.length_take]
      exact Nat.lt_of_le_of_lt (show _ ≤ 1000 by omega) (by decide)
    · rw [upd_same, take_succ_of he, List.map_append, fx]
      rfl
    · have := g2.trans (.of1 f6)
      exact fun b o m1 m2 e => by rw [upd_ne (fun z => by rw [z, hD1] at e; cases e)]; exact this b o m1 m2 e
    · exact T6.upd0 k6
  rintro H5 ⟨g1, g2, g3⟩
  rw [List.length_map, List.take_length] at g1
  have v5 := T4.tree v4 g2
  have F5 := FH4.trans g2
  clear heE4 kE4 v4 T4 g2 FH4
  obtain ⟨c, ks⟩ := t
  have v5' := v5
  cases v5' with
  | @node a l vs _ _ k1 k2 _ _ c1 c2 rk =>
  have lv : vs.length = ks.length := rk.len
  have zk : sizes ks ≤ 1000 := by simp only [Tr.size] at z1; omega
  have lk' : ks.length ≤ 1000 := lk
  have hks : letss Ltr ks := by simp only [Tr.lets] at l1; exact l1.2
  refine ⟨_, rfl, a, _, 1, _, rfl, rfl, SqT.of k1, at_of (j := 1) rfl rfl, l, rfl, ⟨_, SqL.of k2⟩, fun D2 hD2 => ?_⟩
  refine lc_list (xs := vs) (fun i H' => H' D2 = some (.lst ((ks.take i).map fun k => V.str (ws k.told))) ∧ Fr2 P1 P2 H5 H' ∧ Tb2 H' P1 q__joined P2 q_heap_of) ⟨upd_same, .same (same_new hD2), g3.ext (same_new hD2)⟩ (fun i H' _ ⟨_, f, _⟩ => SqL.of (g3.lst k2 f)) ?_ ?_
  · rintro i y H6 hy ⟨e1, e2, e3⟩
    obtain ⟨k, hk, tk⟩ := rk.getV hy
    have hz := sizes_mem (List.mem_of_getElem? hk)
    have tk6 := g3.tree tk e2
    refine ⟨rfl, _, rfl, y, k, rfl, tk6, by omega, e3.1, fun H8 f8 cc8 => ?_⟩
    have T8 := e3.one nPP f8 cc8
    have k8 := e3.lst e1 (.of1 f8)
    refine ⟨_, k8, ?_, ?_, ?_, T8.upd0 k8⟩
    · rw [List.length_map, List.length_take]
      exact Nat.lt_of_le_of_lt (show _ ≤ 1000 by omega) (by decide)
    · rw [upd_same, take_succ_of hk, List.map_append]
      rfl
    · have := e2.trans (.of1 f8)
      exact fun b o m1 m2 e => by rw [upd_ne (fun z => by rw [z, hD2] at e; cases e)]; exact this b o m1 m2 e
  rintro H6 ⟨e1, e2, e3⟩
  rw [lv, List.take_length] at e1
  refine ⟨D2, ks.map fun k => ws k.told, rfl, SqL.of (by rw [List.map_map]; exact e1), by rw [List.length_map]; omega, fun rs m nrs mem nd => ?_⟩
  have s8 := same_new (o := TxO P w rs m) nrs
  refine ⟨rs, m, rfl, upd_same, ?_, fun z hz => ?_⟩
  · have := nd_len m (ks.map fun k => ws k.told) nd fun x hx => (mem x).mp hx
    rw [List.length_map] at this
    omega
  have s9 := same_new (o := .lst ((m.mergeSort leT).map V.str)) hz
  have S9 := s8.trans s9
  have kD1 := S9 _ _ (g3.lst g1 e2)
  have tx := hp_texts l1 nd mem
  have eL : (E.map fun e => V.str (ws e.2.1)) = ((hpT (.node c ks)).map fun e => ws e.1).map V.str := by rw [← dE, List.map_map, List.map_map]; rfl
  rw [eL, tx] at kD1
  have okm : ∀ x ∈ m.mergeSort leT, PyData.strOk x = true := fun x hx => by
    obtain ⟨k, hk, rfl⟩ := List.mem_map.mp ((mem x).mp (List.mem_mergeSort.mp hx))
    exact ws_ok (told_lets k (letss_mem hks hk))
  have lay : (PyData.list ((m.mergeSort leT).map PyData.str)).canLay0 = true := by simp only [PyData.canLay0]; exact lay_strs _ okm
  have F9 : Fr2 P1 P2 H (upd (upd H6 rs (TxO P w rs m)) z (.lst ((m.mergeSort leT).map V.str))) := (F5.trans e2).trans (.same S9)
  have T9 := e3.ext S9
  refine ⟨.list ((m.mergeSort leT).map PyData.str), .list ((m.mergeSort leT).map PyData.str), .lst (SqL.of kD1) (dp_strs _), .lst (SqL.of upd_same) (dp_strs _), lay, lay, by have := dep_strs (m.mergeSort leT); simp only [PyData.depth]; omega, ?_⟩
  rw [SeqAt.eqv_refl _ lay]
  exact q _ F9 T9
end


theorem cut07h {xs : List V} {k : Nat} (h : k ≤ xs.length) : cutV xs none (some (k : Int)) = xs.take k := by
  unfold cutV
  rw [HT.sIx_none, HT.sIx_nat, List.drop_zero, Nat.sub_zero, Nat.min_eq_left h]
theorem cut07l {xs : List V} {k : Nat} : cutV xs (some (k : Int)) none = xs.drop k := by
  unfold cutV
  rw [HT.sIx_nat, HT.sIx_none]
  rcases Nat.le_total k xs.length with h | h
  · rw [Nat.min_eq_left h, List.take_of_length_le (by rw [List.length_drop]; omega)]
  · rw [Nat.min_eq_right h, List.drop_length, List.take_nil, List.drop_of_length_le h]
def sp__law_changed (d : Nat) : Sp := fun vs H Q _ => ∃ (p : Addr) (n : Nat) (v : V) (t : Tr), vs = [.ref p, v] ∧ Pool H p n ∧ n + 4 * t.depth < 1000000 ∧ TrAt (fun _ => True) H v t ∧ t.depth ≤ d ∧ t.depth ≤ 40 ∧ t.size ≤ 1000 ∧
  ∀ r u H', u.size ≤ t.size + 1 → u.depth ≤ t.depth + 1 → Fr p H H' → TrAt (fun _ => True) H' r u → Pool H' p (n + 4 * t.depth) → Q r H'
section
variable {P : Program} {w : World} {K : PySem.W.Frag} {mg : Str → Option Value} {base : Heap}
theorem ok__law_changed (T : Txt K mg) : ∀ d : Nat, FnOk P w K mg base CX0 (d + 1) T.f__law_changed T.d__law_changed ["pool", "tree"] (sp__law_changed d)
  | 0 => none_of fun vs H Q E ⟨p, n, v, t, _, _, _, _, h, _⟩ => by have := depth_pos t; omega
  | d + 1 => by
    have G__law_changed : FnOk P w K mg base CX0 (d + 1) T.f__law_changed T.d__law_changed ["pool", "tree"] (sp__law_changed d) := ok__law_changed T d
    have G__law_take : FnOk P w K mg base CX0 1 T.f__law_take T.d__law_take ["pool", "many"] sp__law_take := ok__law_take T
    refine T.F__law_changed.ok sc__law_changed (fun vs H Q E h => ?_) (fun cdv A outer s H vs Q E hr h => ?_)
    · obtain ⟨p, n, v, t, rfl, _⟩ := h
      rfl
    obtain ⟨p, n, v, t, rfl, hp, hn, ht, hd, h40, hz, q⟩ := h
    refine ⟨_, (pss_cons (ps_set (i := 2) sc__law_changed.nd rfl (Or.inl rfl) (pe_call G__law_take (hr.mono (by omega)) (by rfl) T.m__law_take T.F__law_take.kp T.b__law_take .nil pass0 (pa_cons (pv 0) (pa_cons pe_int pa_nil)))) (pss_cons (ps_set (i := 3) sc__law_changed.nd rfl (Or.inl rfl) (pe_ix ix_str pe_str (pe_call G__law_take (hr.mono (by omega)) (by rfl) T.m__law_take T.F__law_take.kp T.b__law_take .nil pass0 (pa_cons (pv 0) (pa_cons pe_int pa_nil))) (fun _ _ => rfl))) (C8.pss_cut (ps_if (PW.pt (pw_and (pt_cmpR (op_neB (roomDeep hr)) (pe_ix ix_tup (pv 1) pe_int (fun _ _ => rfl)) (pe_lst pa_nil) (nomark _)) (pw_and1 (pt_cmpR op_gt (pv 2) pe_int (nomark _))))) (pss_cons (ps_set (i := 4) sc__law_changed.nd rfl (Or.inl rfl) (pe_call G__law_take (hr.mono (by omega)) (by rfl) T.m__law_take T.F__law_take.kp T.b__law_take .nil pass0 (pa_cons (pv 0) (pa_cons (pe_callB call_len_seq (by rfl) T.z_len PySem.boot_len (pa_cons (pe_ix ix_tup (pv 1) pe_int (fun _ _ => rfl)) pa_nil)) pa_nil)))) (pss_one (ps_ret (pe_tup (pa_cons (pe_ix ix_tup (pv 1) pe_int (fun _ _ => rfl)) (pa_cons (pe_op op_cat (pe_op op_cat (pe_slice sl_list (pe_ix ix_tup (pv 1) pe_int (fun _ _ => rfl)) po_none (po_some (pv 4))) (pe_lst (pa_cons (pe_call G__law_changed (hr.mono (by omega)) (by rfl) T.m__law_changed T.F__law_changed.kp T.b__law_changed .nil pass0 (pa_cons (pv 0) (pa_cons (pe_ix ix_list (pe_ix ix_tup (pv 1) pe_int (fun _ _ => rfl)) (pv 4) (fun _ _ => rfl)) pa_nil))) pa_nil))) (pe_slice sl_list (pe_ix ix_tup (pv 1) pe_int (fun _ _ => rfl)) (po_some (pe_op op_add (pv 4) pe_int)) po_none)) pa_nil)))))) pss_nil) (pss_cons (ps_set (i := 5) sc__law_changed.nd rfl (Or.inl rfl) (pe_lst (pa_cons (pe_tup (pa_cons (pv 3) (pa_cons (pe_ix ix_tup (pv 1) pe_int (fun _ _ => rfl)) pa_nil))) (pa_cons (pe_tup (pa_cons (pe_ix ix_tup (pv 1) pe_int (fun _ _ => rfl)) (pa_cons (pe_op op_cat (pe_ix ix_tup (pv 1) pe_int (fun _ _ => rfl)) (pe_lst (pa_cons (pe_tup (pa_cons (pv 3) (pa_cons (pe_lst pa_nil) pa_nil))) pa_nil))) pa_nil))) (pa_cons (pe_tup (pa_cons (pe_ix ix_tup (pv 1) pe_int (fun _ _ => rfl)) (pa_cons (pe_slice sl_list (pe_ix ix_tup (pv 1) pe_int (fun _ _ => rfl)) (po_some pe_int) po_none) pa_nil))) (pa_cons (pe_tup (pa_cons (pv 3) (pa_cons (pe_revL (pe_ix ix_tup (pv 1) pe_int (fun _ _ => rfl))) pa_nil))) pa_nil)))))) (pss_one (ps_ret (pe_ix ix_list (pv 5) (pe_call G__law_take (hr.mono (by omega)) (by rfl) T.m__law_take T.F__law_take.kp T.b__law_take .nil pass0 (pa_cons (pv 0) (pa_cons pe_int pa_nil))) (fun _ _ => rfl)))))))), ?_⟩
    have dp1 := depth_pos t
    refine ⟨_, rfl, p, 4, n, rfl, hp, by omega, by decide, by decide, fun way H1 w0 w1 c1 p1 => ?_⟩
    refine ⟨_, rfl, p, 6, n + 1, rfl, p1, by omega, by decide, by decide, fun r H2 r0 r1 c2 p2 => ?_⟩
    obtain ⟨cl, hat, b1, b2⟩ : ∃ cl : Nat, atI (Str.ofString "abcxyz").cps.toList r = some cl ∧ 97 ≤ cl ∧ cl ≤ 122 := by
      have el : (Str.ofString "abcxyz").cps.toList = [97, 98, 99, 120, 121, 122] := by decide +kernel
      rw [el]
      obtain rfl | rfl | rfl | rfl | rfl | rfl : r = 0 ∨ r = 1 ∨ r = 2 ∨ r = 3 ∨ r = 4 ∨ r = 5 := by omega
      · exact ⟨97, atI_nat (j := 0) rfl, by decide, by decide⟩
      · exact ⟨98, atI_nat (j := 1) rfl, by decide, by decide⟩
      · exact ⟨99, atI_nat (j := 2) rfl, by decide, by decide⟩
      · exact ⟨120, atI_nat (j := 3) rfl, by decide, by decide⟩
      · exact ⟨121, atI_nat (j := 4) rfl, by decide, by decide⟩
      · exact ⟨122, atI_nat (j := 5) rfl, by decide, by decide⟩
    refine ⟨Str.ofString "abcxyz", r, cl, rfl, rfl, by decide +kernel, hat, ?_⟩
    have F2 : Fr p H H2 := (Fr.chg c1).trans (Fr.chg c2)
    have x2 : TrAt (fun b => b ≠ p) H2 v t := ((hp.off ht).keep fun b o h e => F2 b o h.2 e).weak fun b h => h.2
    clear c1 c2 p1 hp ht H1
    obtain ⟨c, ks⟩ := t
    have lz := len_sizes ks
    simp only [Tr.size] at hz
    simp only [Tr.depth] at hd h40 hn
    cases x2 with
    | @node a l xs _ _ k1 k2 na nl cc1 cc2 rk =>
    have lx := rk.len
    have l1 : letss Ltr ks := TrsAt.ltr _ _ rk
    refine ⟨fun σ' H' => σ' = [some (.ref p), some (.ref a), some (.int way), some (.str (ch cl)), none, none] ∧ Same H2 H', ?_, ?_⟩
    · refine ⟨_, rfl, a, _, 1, _, rfl, rfl, SqT.of k1, at_of (j := 1) rfl rfl, (by show 0 ≤ sizeLine; decide), fun e he => ?_⟩
      have s3 := same_new (o := .lst []) he
      have p3 := p2.keep s3
      have e3 := upd_same (H := H2) (a := e) (o := .lst [])
      generalize upd H2 e (.lst []) = H3 at *
      have k13 := s3 _ _ k1
      have k23 := s3 _ _ k2
      refine ⟨.list (dats ks), .list [], .lst (SqL.of k23) (TrsAt.dp _ _ (rk.keep fun b o _ z => s3 _ _ z)), dp_nil e3, by simp only [PyData.canLay0]; exact TrsAt.lay _ _ rk, rfl, by have := dats_depth ks; simp only [PyData.depth]; omega, ?_⟩
      rw [eqv_nil]
      by_cases hk : ks = []
      · rw [decide_eq_true (by rw [hk]; rfl)]
        exact ⟨_, rfl, iteF (iteF ⟨rfl, s3⟩)⟩
      have hk0 : ks.length ≠ 0 := fun z => hk (List.length_eq_zero_iff.mp z)
      have hdl : (dats ks).length = ks.length := by
        have : ∀ ts : List Tr, (dats ts).length = ts.length := by
          intro ts
          induction ts with
          | nil => rfl
          | cons t r ih => simp only [dats, List.length_cons, ih]
        exact this ks
      rw [decide_eq_false (by rw [hdl]; exact hk0)]
      refine ⟨_, rfl, iteT ⟨_, rfl, _, _, rfl, rfl, _, rfl, ?_⟩⟩
      refine ite2 (fun _ => ?_) (fun _ => ⟨rfl, s3⟩)
      refine ⟨_, rfl, _, rfl, a, _, 1, _, rfl, rfl, SqT.of k13, at_of (j := 1) rfl rfl, l, xs, rfl, .inl (SqL.of k23), p, _, n + 1 + 1, rfl, p3, by omega, by rw [lx]; omega, by rw [lx]; omega, fun i0 H4 i1 i2 c4 p4 => ?_⟩
      obtain ⟨i, rfl, hi⟩ : ∃ i : Nat, i0 = (i : Int) ∧ i < xs.length := ⟨i0.toNat, by omega, by omega⟩
      have hik : i < ks.length := by omega
      have F4 : Fr p H2 H4 := (Fr.same s3).trans (Fr.chg c4)
      have k14 := F4 _ _ na k1
      have k24 := F4 _ _ nl k2
      refine ⟨_, rfl, a, _, 0, _, rfl, rfl, SqT.of k14, at_of (j := 0) rfl rfl, ?_⟩
      refine ⟨_, rfl, a, _, 1, _, rfl, rfl, SqT.of k14, at_of (j := 1) rfl rfl, _, rfl, _, rfl, l, xs, rfl, SqL.of k24, fun g1 hg1 => ?_⟩
      rw [cut07h (Nat.le_of_lt hi)]
      have s5 := same_new (o := .lst (xs.take i)) hg1
      have e5 := upd_same (H := H4) (a := g1) (o := .lst (xs.take i))
      have p5 := p4.keep s5
      have ng1 : g1 ≠ p := fun z => (p4.ne hg1) z.symm
      generalize upd H4 g1 (.lst (xs.take i)) = H5 at *
      have F5 := F4.trans (Fr.same s5)
      have hx : xs[i]? = some xs[i] := List.getElem?_eq_getElem hi
      obtain ⟨k, hk1, tk⟩ := rk.getV hx
      have km := List.mem_of_getElem? hk1
      have kz := sizes_mem km
      have kd := depths_mem km
      refine ⟨_, rfl, _, rfl, a, _, 1, _, rfl, rfl, SqT.of (s5 _ _ k14), at_of (j := 1) rfl rfl, _, rfl, l, xs, _, _, rfl, rfl, SqL.of (s5 _ _ k24), at_of (j := i) rfl hx, ?_⟩
      refine ⟨p, n + 1 + 1 + 1, xs[i], k, rfl, p5, by omega, (tk.keep fun b o h z => F5 b o h z).weak fun _ _ => trivial, by omega, by omega, by omega, fun r6 u H6 uz ud f6 x6 p6 => ⟨(by show 1 ≤ sizeLine; decide), fun g2 hg2 => ?_⟩⟩
      have F6 := F5.trans f6
      have x6' : TrAt (fun b => b ≠ p) H6 r6 u := (p6.off x6).weak fun b h => h.2
      have e6 := f6 _ _ ng1 e5
      have s7 := same_new (o := .lst [r6]) hg2
      have e7 := upd_same (H := H6) (a := g2) (o := .lst [r6])
      refine ⟨g1, g2, _, _, rfl, rfl, s7 _ _ e6, e7, ?_, fun g3 hg3 => ?_⟩
      · rw [List.length_take]
        exact Nat.le_of_lt (Nat.lt_of_le_of_lt (show _ ≤ 2000 by simp only [List.length_cons, List.length_nil]; omega) (by decide))
      have s8 := same_new (o := .lst (xs.take i ++ [r6])) hg3
      have e8 := upd_same (H := upd H6 g2 (.lst [r6])) (a := g3) (o := .lst (xs.take i ++ [r6]))
      have k18 := s8 _ _ (s7 _ _ (F6 _ _ na k1))
      have k28 := s8 _ _ (s7 _ _ (F6 _ _ nl k2))
      refine ⟨_, rfl, a, _, 1, _, rfl, rfl, SqT.of k18, at_of (j := 1) rfl rfl, _, rfl, _, _, rfl, rfl, _, rfl, l, xs, rfl, SqL.of k28, fun g4 hg4 => ?_⟩
      have e9 : cutV xs (some ((i : Int) + 1)) none = xs.drop (i + 1) := cut07l (k := i + 1)
      rw [e9]
      have s9 := same_new (o := .lst (xs.drop (i + 1))) hg4
      have e10 := upd_same (H := upd (upd H6 g2 (.lst [r6])) g3 (.lst (xs.take i ++ [r6]))) (a := g4) (o := .lst (xs.drop (i + 1)))
      refine ⟨g3, g4, _, _, rfl, rfl, s9 _ _ e8, e10, ?_, fun g5 hg5 => ⟨(by show 2 ≤ sizeLine; decide), fun g6 hg6 => ?_⟩⟩
      · rw [List.length_append, List.length_take, List.length_drop]
        exact Nat.le_of_lt (Nat.lt_of_le_of_lt (show _ ≤ 3000 by simp only [List.length_cons, List.length_nil]; omega) (by decide))
      have s11 := same_new (o := .lst (xs.take i ++ [r6] ++ xs.drop (i + 1))) hg5
      have s12 := same_new (o := .tup [.str (ch c), .ref g5]) hg6
      have S := (((s7.trans s8).trans s9).trans s11).trans s12
      have ks6 : TrsAt (fun b => b ≠ p) H6 xs ks := rk.keep fun b o h z => F6 b o h z
      obtain ⟨ka, kb, eab, ta, tb⟩ := TrsAt.split (vs := xs.take i) (ws := xs.drop i) (by rw [List.take_append_drop]; exact ks6)
      have la := ta.len
      rw [List.length_take, Nat.min_eq_left (Nat.le_of_lt hi)] at la
      rw [List.drop_eq_getElem_cons hi] at tb
      cases tb with
      | @cons _ _ t0 ts0 th tt =>
      have e0 : t0 = k := by
        rw [eab, List.getElem?_append_right (by omega), show i - ka.length = 0 by omega] at hk1
        exact Option.some.inj hk1
      subst e0
      have zz : sizes ks = sizes ka + (t0.size + sizes ts0) := by rw [eab, sizes_append]; rfl
      have dd : depths ks = max (depths ka) (max t0.depth (depths ts0)) := by rw [eab, depths_append]; rfl
      have fin : TrAt (fun _ => True) (upd (upd (upd (upd (upd H6 g2 (.lst [r6])) g3 (.lst (xs.take i ++ [r6]))) g4 (.lst (xs.drop (i + 1)))) g5 (.lst (xs.take i ++ [r6] ++ xs.drop (i + 1)))) g6 (.tup [.str (ch c), .ref g5])) (.ref g6) (.node c (ka ++ [u] ++ ts0)) := by
        refine .node upd_same (s12 _ _ upd_same) trivial trivial cc1 cc2 ?_
        have w : ∀ {vs : List V} {ts : List Tr}, TrsAt (fun b => b ≠ p) H6 vs ts → TrsAt (fun _ => True) (upd (upd (upd (upd (upd H6 g2 (.lst [r6])) g3 (.lst (xs.take i ++ [r6]))) g4 (.lst (xs.drop (i + 1)))) g5 (.lst (xs.take i ++ [r6] ++ xs.drop (i + 1)))) g6 (.tup [.str (ch c), .ref g5])) vs ts := fun h => (h.keep fun b o _ z => S b o z).weak fun _ _ => trivial
        exact ((w ta).append (w (.cons x6' .nil))).append (w tt)
      refine q _ _ _ ?_ ?_ ((F2.trans F6).trans (Fr.same S)) fin ((p6.keep S).mono ?_)
      · simp only [Tr.size, sizes_append, sizes]
        omega
      · simp only [Tr.depth, depths_append, depths]
        omega
      · simp only [Tr.depth]
        omega
    rintro σ' H3 ⟨rfl, s3⟩
    have p3 := p2.keep s3
    have k13 := s3 _ _ k1
    have k23 := s3 _ _ k2
    refine ⟨_, rfl, _, rfl, a, _, 1, _, rfl, rfl, SqT.of k13, at_of (j := 1) rfl rfl, (by show 2 ≤ sizeLine; decide), fun t1 h1 => ?_⟩
    have s4 := same_new (o := .tup [.str (ch cl), .ref l]) h1
    have e1 := upd_same (H := H3) (a := t1) (o := .tup [.str (ch cl), .ref l])
    generalize upd H3 t1 (.tup [.str (ch cl), .ref l]) = H4 at *
    refine ⟨_, rfl, a, _, 0, _, rfl, rfl, SqT.of (s4 _ _ k13), at_of (j := 0) rfl rfl, _, rfl, a, _, 1, _, rfl, rfl, SqT.of (s4 _ _ k13), at_of (j := 1) rfl rfl, _, rfl, (by show 0 ≤ sizeLine; decide), fun n1 hn1 => ?_⟩
    have s5 := same_new (o := .lst []) hn1
    have e2 := upd_same (H := H4) (a := n1) (o := .lst [])
    generalize upd H4 n1 (.lst []) = H5 at *
    refine ⟨(by show 2 ≤ sizeLine; decide), fun n2 hn2 => ?_⟩
    have s6 := same_new (o := .tup [.str (ch cl), .ref n1]) hn2
    have e3 := upd_same (H := H5) (a := n2) (o := .tup [.str (ch cl), .ref n1])
    have e2' := s6 _ _ e2
    generalize upd H5 n2 (.tup [.str (ch cl), .ref n1]) = H6 at *
    refine ⟨(by show 1 ≤ sizeLine; decide), fun n3 hn3 => ?_⟩
    have s7 := same_new (o := .lst [.ref n2]) hn3
    have e4 := upd_same (H := H6) (a := n3) (o := .lst [.ref n2])
    have e3' := s7 _ _ e3
    have e2'' := s7 _ _ e2'
    generalize upd H6 n3 (.lst [.ref n2]) = H7 at *
    have S7 := ((s4.trans s5).trans s6).trans s7
    refine ⟨l, n3, _, _, rfl, rfl, S7 _ _ k23, e4, ?_, fun n4 hn4 => ⟨(by show 2 ≤ sizeLine; decide), fun t2 h2 => ?_⟩⟩
    · exact Nat.le_of_lt (Nat.lt_of_le_of_lt (show _ ≤ 2000 by simp only [List.length_cons, List.length_nil]; omega) (by decide))
    have s8 := same_new (o := .lst (xs ++ [.ref n2])) hn4
    have s9 := same_new (o := .tup [.str (ch c), .ref n4]) h2
    have e5 := s9 _ _ (upd_same (H := H7) (a := n4) (o := .lst (xs ++ [.ref n2])))
    have e6 := upd_same (H := upd H7 n4 (.lst (xs ++ [.ref n2]))) (a := t2) (o := .tup [.str (ch c), .ref n4])
    have s89 := s8.trans s9
    generalize upd (upd H7 n4 (.lst (xs ++ [.ref n2]))) t2 (.tup [.str (ch c), .ref n4]) = H9 at *
    have S9 := S7.trans s89
    refine ⟨_, rfl, a, _, 0, _, rfl, rfl, SqT.of (S9 _ _ k13), at_of (j := 0) rfl rfl, _, rfl, a, _, 1, _, rfl, rfl, SqT.of (S9 _ _ k13), at_of (j := 1) rfl rfl, _, rfl, l, xs, rfl, SqL.of (S9 _ _ k23), fun n5 hn5 => ?_⟩
    have ec : cutV xs (some 1) none = xs.drop 1 := cut07l (k := 1)
    rw [ec]
    refine ⟨(by show 2 ≤ sizeLine; decide), fun t3 h3 => ?_⟩
    have s10 := same_new (o := .lst (xs.drop 1)) hn5
    have s11 := same_new (o := .tup [.str (ch c), .ref n5]) h3
    have e7 := s11 _ _ (upd_same (H := H9) (a := n5) (o := .lst (xs.drop 1)))
    have e8 := upd_same (H := upd H9 n5 (.lst (xs.drop 1))) (a := t3) (o := .tup [.str (ch c), .ref n5])
    have sA := s10.trans s11
    generalize upd (upd H9 n5 (.lst (xs.drop 1))) t3 (.tup [.str (ch c), .ref n5]) = HA at *
    have SA := S9.trans sA
    refine ⟨_, rfl, _, rfl, a, _, 1, _, rfl, rfl, SqT.of (SA _ _ k13), at_of (j := 1) rfl rfl, l, xs, rfl, SqL.of (SA _ _ k23), fun n6 hn6 => ⟨(by show 2 ≤ sizeLine; decide), fun t4 h4 => ?_⟩⟩
    have s12 := same_new (o := .lst xs.reverse) hn6
    have s13 := same_new (o := .tup [.str (ch cl), .ref n6]) h4
    have e9 := s13 _ _ (upd_same (H := HA) (a := n6) (o := .lst xs.reverse))
    have e10 := upd_same (H := upd HA n6 (.lst xs.reverse)) (a := t4) (o := .tup [.str (ch cl), .ref n6])
    have sB := s12.trans s13
    generalize upd (upd HA n6 (.lst xs.reverse)) t4 (.tup [.str (ch cl), .ref n6]) = HB at *
    refine ⟨(by show 4 ≤ sizeLine; decide), fun rr hrr => ?_⟩
    have sC := same_new (o := .lst [.ref t1, .ref t2, .ref t3, .ref t4]) hrr
    have eR := upd_same (H := HB) (a := rr) (o := .lst [.ref t1, .ref t2, .ref t3, .ref t4])
    generalize upd HB rr (.lst [.ref t1, .ref t2, .ref t3, .ref t4]) = HC at *
    have SC : Same H3 HC := (SA.trans sB).trans sC
    have pC := p3.keep SC
    have nrr : rr ≠ p := fun z => (p3.keep (SA.trans sB)).ne hrr z.symm
    have ksC : TrsAt (fun _ => True) HC xs ks := (rk.keep fun b o _ z => SC b o (s3 b o z)).weak fun _ _ => trivial
    have leaf : TrAt (fun _ => True) HC (.ref n2) (.node cl []) := .node (sC _ _ (sB _ _ (sA _ _ (s89 _ _ e3')))) (sC _ _ (sB _ _ (sA _ _ (s89 _ _ e2'')))) trivial trivial b1 b2 .nil
    have X1 : TrAt (fun _ => True) HC (.ref t1) (.node cl ks) := .node (sC _ _ (sB _ _ (sA _ _ (s89 _ _ (s7 _ _ (s6 _ _ (s5 _ _ e1))))))) (SC _ _ k23) trivial trivial b1 b2 ksC
    have X2 : TrAt (fun _ => True) HC (.ref t2) (.node c (ks ++ [.node cl []])) := .node (sC _ _ (sB _ _ (sA _ _ e6))) (sC _ _ (sB _ _ (sA _ _ e5))) trivial trivial cc1 cc2 (ksC.append (.cons leaf .nil))
    have X3 : TrAt (fun _ => True) HC (.ref t3) (.node c (ks.drop 1)) := by
      refine .node (sC _ _ (sB _ _ e8)) (sC _ _ (sB _ _ e7)) trivial trivial cc1 cc2 ?_
      cases ksC with
      | nil => exact .nil
      | cons _ h => exact h
    have X4 : TrAt (fun _ => True) HC (.ref t4) (.node cl ks.reverse) := .node (sC _ _ e10) (sC _ _ e9) trivial trivial b1 b2 ksC.rev
    refine ⟨_, rfl, _, rfl, p, 4, n + 1 + 1, rfl, pC, by omega, by decide, by decide, fun r9 H9' q0 q1 c9 p9 => ?_⟩
    have F9 : Fr p H H9' := (F2.trans (Fr.same (s3.trans SC))).trans (Fr.chg c9)
    have go : ∀ {v : V} {u : Tr}, TrAt (fun _ => True) HC v u → TrAt (fun _ => True) H9' v u := fun h => ((pC.off h).keep fun b o k z => c9.at z k.2).weak fun _ _ => trivial
    have eR9 := c9.at eR nrr
    have zd : sizes (ks.drop 1) ≤ sizes ks ∧ depths (ks.drop 1) ≤ depths ks := by
      cases ks with
      | nil => exact ⟨Nat.le_refl _, Nat.le_refl _⟩
      | cons t r => simp only [List.drop_one, List.tail_cons, sizes, depths]; omega
    have zr := sizes_perm (List.reverse_perm ks)
    have dr := depths_perm (List.reverse_perm ks)
    have p9' : Pool H9' p (n + 4 * (Tr.node c ks).depth) := p9.mono (by simp only [Tr.depth]; omega)
    obtain rfl | rfl | rfl | rfl : r9 = 0 ∨ r9 = 1 ∨ r9 = 2 ∨ r9 = 3 := by omega
    · exact ⟨rr, _, 0, _, rfl, rfl, SqL.of eR9, at_of (j := 0) rfl rfl, q _ _ _ (by simp only [Tr.size]; omega) (by simp only [Tr.depth]; omega) F9 (go X1) p9'⟩
    · exact ⟨rr, _, 1, _, rfl, rfl, SqL.of eR9, at_of (j := 1) rfl rfl, q _ _ _ (by simp only [Tr.size, sizes_append, sizes]; omega) (by simp only [Tr.depth, depths_append, depths]; omega) F9 (go X2) p9'⟩
    · exact ⟨rr, _, 2, _, rfl, rfl, SqL.of eR9, at_of (j := 2) rfl rfl, q _ _ _ (by simp only [Tr.size]; omega) (by simp only [Tr.depth]; omega) F9 (go X3) p9'⟩
    · exact ⟨rr, _, 3, _, rfl, rfl, SqL.of eR9, at_of (j := 3) rfl rfl, q _ _ _ (by simp only [Tr.size]; omega) (by simp only [Tr.depth]; omega) F9 (go X4) p9'⟩
end

theorem SqL.fr3 {K : PySem.W.Frag} {p P1 P2 a : Addr} {H H' : Hp} {xs : List V} {ps qs : Array Value} (h : SqL K H a xs) (hp : H p = none) (h1 : H P1 = some (.tbl ps)) (h2 : H P2 = some (.tbl qs)) (f : ∀ b o, b ≠ p → b ≠ P1 → b ≠ P2 → H b = some o → H' b = some o) : SqL K H' a xs := by
  have g : ∀ o, (∀ ps, o ≠ .tbl ps) → H a = some o → H' a = some o := fun o no e => f a o (fun z => by rw [z, hp] at e; cases e) (fun z => by rw [z, h1] at e; exact no _ (Option.some.inj e).symm) (fun z => by rw [z, h2] at e; exact no _ (Option.some.inj e).symm) e
  rcases h with (h | ⟨o, h⟩) | h
  · exact .inl (.inl (g _ (fun _ z => by cases z) h))
  · exact .inl (.inr ⟨o, g _ (fun _ z => by cases z) h⟩)
  · exact .inr h
theorem Tb2.pool {H H' : Hp} {P1 P2 p : Addr} {q1 q2 : Str} {n : Nat} (T : Tb2 H P1 q1 P2 q2) (hp : Pool H p n) (f : Fr p H H') : Tb2 H' P1 q1 P2 q2 := let ⟨_, _, _, e, _⟩ := hp; ⟨TabS.fr T.1 e f, TabS.fr T.2 e f⟩
theorem Pool.tree {ok : Addr → Prop} {H H' : Hp} {p : Addr} {n : Nat} {v : V} {t : Tr} (hp : Pool H p n) (x : TrAt ok H v t) (f : Fr p H H') : TrAt ok H' v t := ((hp.off x).keep fun b o k z => f b o k.2 z).weak fun b k => k.1
section
variable {P : Program} {w : World} {K : PySem.W.Frag} {mg : Str → Option Value} {base : Heap}
theorem ok_law (T : Txt K mg) (B : Tbs T base) : FnOk P w K mg base CX0 42 T.f_law T.d_law ["script"] (spLawT K [T.P__joined, T.P_heap_of]) := by
  have G__law_pool : FnOk P w K mg base CX0 1 T.f__law_pool T.d__law_pool ["script", "k"] (sp__law_pool K) := ok__law_pool T
  have G__law_letters : FnOk P w K mg base CX0 2 T.f__law_letters T.d__law_letters ["pool"] sp__law_letters := ok__law_letters T
  have G__law_tree : FnOk P w K mg base CX0 40 T.f__law_tree T.d__law_tree ["pool", "most", "letters"] sp__law_tree := ok__law_tree T
  have G__law_shuffled : FnOk P w K mg base CX0 (32 + 2) T.f__law_shuffled T.d__law_shuffled ["pool", "tree"] (sp__law_shuffled 32) := ok__law_shuffled T 32
  have G__law_changed : FnOk P w K mg base CX0 (40 + 1) T.f__law_changed T.d__law_changed ["pool", "tree"] (sp__law_changed 40) := ok__law_changed T 40
  have G__law_one_right : FnOk P w K mg base CX0 11 T.f__law_one_right T.d__law_one_right ["tree"] (sp__law_one_right T.P__joined q__joined T.P_heap_of q_heap_of) := ok__law_one_right T B
  have G__law_two_right : FnOk P w K mg base CX0 11 T.f__law_two_right T.d__law_two_right ["one", "other"] (sp__law_two_right T.P__joined q__joined T.P_heap_of q_heap_of) := ok__law_two_right T B
  have G_are_same : FnOk P w K mg base CX0 10 T.f_are_same T.d_are_same ["one", "other"] (sp_are_same T.P__joined q__joined) := ok_are_same T B
  have nPP : T.P_heap_of ≠ T.P__joined := fun e => T.n__joined_heap_of e.symm
  refine T.F_law.ok sc_law (fun vs H Q E h => ?_) (fun cdv A outer s H vs Q E hr h => ?_)
  · obtain ⟨a, ns, rfl, _⟩ := h
    rfl
  obtain ⟨a, ns, rfl, hS, h63, hPs, qq⟩ := h
  generalize hP1 : T.P__joined = P1 at *
  generalize hP2 : T.P_heap_of = P2 at *
  have T0 : Tb2 H P1 q__joined P2 q_heap_of := ⟨LamX.TabS.nil (hPs P1 (by simp)), LamX.TabS.nil (hPs P2 (by simp))⟩
  refine ⟨_, (pss_cons (ps_for PassesOwn.never rfl (pi_range1 (by rfl) T.z_range (pa_cons (pe_callB (call_max2 rfl) (by rfl) T.z_max (by decide +kernel) (pa_cons pe_int (pa_cons (pe_callB (call_min2 rfl) (by rfl) T.z_min (by decide +kernel) (pa_cons pe_int (pa_cons (pe_callB call_len_seq (by rfl) T.z_len PySem.boot_len (pa_cons (pv 0) pa_nil)) pa_nil))) pa_nil))) pa_nil)) (pg_name (i := 1) sc_law.nd rfl (Or.inl rfl)) (pss_cons (ps_set (i := 2) sc_law.nd rfl (Or.inl rfl) (pe_call G__law_pool (hr.mono (by omega)) (by rfl) T.m__law_pool T.F__law_pool.kp T.b__law_pool .nil pass0 (pa_cons (pv 0) (pa_cons (pv 1) pa_nil)))) (pss_cons (ps_set (i := 3) sc_law.nd rfl (Or.inl rfl) (pe_call G__law_letters (hr.mono (by omega)) (by rfl) T.m__law_letters T.F__law_letters.kp T.b__law_letters .nil pass0 (pa_cons (pv 2) pa_nil))) (pss_cons (ps_set (i := 4) sc_law.nd rfl (Or.inl rfl) (pe_call G__law_tree (hr.mono (by omega)) (by rfl) T.m__law_tree T.F__law_tree.kp T.b__law_tree .nil pass0 (pa_cons (pv 2) (pa_cons pe_int (pa_cons (pv 3) pa_nil))))) (pss_cons (ps_set (i := 5) sc_law.nd rfl (Or.inl rfl) (pe_lst (pa_cons (pv 4) (pa_cons (pe_call G__law_shuffled (hr.mono (by omega)) (by rfl) T.m__law_shuffled T.F__law_shuffled.kp T.b__law_shuffled .nil pass0 (pa_cons (pv 2) (pa_cons (pv 4) pa_nil))) (pa_cons (pe_call G__law_changed (hr.mono (by omega)) (by rfl) T.m__law_changed T.F__law_changed.kp T.b__law_changed .nil pass0 (pa_cons (pv 2) (pa_cons (pv 4) pa_nil))) (pa_cons (pe_call G__law_tree (hr.mono (by omega)) (by rfl) T.m__law_tree T.F__law_tree.kp T.b__law_tree .nil pass0 (pa_cons (pv 2) (pa_cons pe_int (pa_cons (pv 3) pa_nil)))) pa_nil)))))) (pss_cons (ps_expr (pe_bm PySem.F.plainAttrs_list PySem.F.slot_list_append PySem.F.type_list_append mt_append (pv 5) (pa_cons (pe_call G__law_shuffled (hr.mono (by omega)) (by rfl) T.m__law_shuffled T.F__law_shuffled.kp T.b__law_shuffled .nil pass0 (pa_cons (pv 2) (pa_cons (pe_call G__law_changed (hr.mono (by omega)) (by rfl) T.m__law_changed T.F__law_changed.kp T.b__law_changed .nil pass0 (pa_cons (pv 2) (pa_cons (pv 4) pa_nil))) pa_nil))) pa_nil))) (pss_cons (ps_for PassesOwn.never rfl (pi_list (pv 5)) (pg_name (i := 6) sc_law.nd rfl (Or.inl rfl)) (pss_cons (ps_if (pt_not (pt_val (pe_call G__law_one_right (hr.mono (by omega)) (by rfl) T.m__law_one_right T.F__law_one_right.kp T.b__law_one_right .nil pass0 (pa_cons (pv 6) pa_nil)))) (pss_one (ps_ret pe_bl)) pss_nil) (pss_one (ps_for PassesOwn.never rfl (pi_list (pv 5)) (pg_name (i := 7) sc_law.nd rfl (Or.inl rfl)) (pss_one (ps_if (pt_not (pt_val (pe_call G__law_two_right (hr.mono (by omega)) (by rfl) T.m__law_two_right T.F__law_two_right.kp T.b__law_two_right .nil pass0 (pa_cons (pv 6) (pa_cons (pv 7) pa_nil))))) (pss_one (ps_ret pe_bl)) pss_nil)))))) (pss_one (ps_if (PW.pt (pw_or (pt_not (pt_val (pe_call G_are_same (hr.mono (by omega)) (by rfl) T.m_are_same T.F_are_same.kp T.b_are_same .nil pass0 (pa_cons (pe_ix ix_list (pv 5) pe_int (fun _ _ => rfl)) (pa_cons (pe_ix ix_list (pv 5) pe_int (fun _ _ => rfl)) pa_nil))))) (pw_or1 (pt_val (pe_call G_are_same (hr.mono (by omega)) (by rfl) T.m_are_same T.F_are_same.kp T.b_are_same .nil pass0 (pa_cons (pe_tup (pa_cons (pe_ix ix_tup (pv 4) pe_int (fun _ _ => rfl)) (pa_cons (pe_op op_cat (pe_ix ix_tup (pv 4) pe_int (fun _ _ => rfl)) (pe_lst (pa_cons (pe_tup (pa_cons (pe_ix ix_tup (pv 4) pe_int (fun _ _ => rfl)) (pa_cons (pe_lst pa_nil) pa_nil))) pa_nil))) pa_nil))) (pa_cons (pv 4) pa_nil))))))) (pss_one (ps_ret pe_bl)) pss_nil))))))))) (pss_one (ps_ret pe_bl))), ?_⟩
  have hl : (ns.map V.int).length = ns.length := List.length_map _
  obtain ⟨j, hj, hj0, hj1⟩ : ∃ j : Int, (if (if ((ns.map V.int).length : Int) < 10 then ((ns.map V.int).length : Int) else 10) > 1 then (if ((ns.map V.int).length : Int) < 10 then ((ns.map V.int).length : Int) else 10) else 1) = j ∧ 0 ≤ j ∧ j ≤ 30 := ⟨_, rfl, by split <;> split <;> omega, by split <;> split <;> omega⟩
  refine ⟨_, rfl, a, _, rfl, .inl hS, _, _, rfl, _, _, rfl, j, congrArg (fun z => [V.int z]) hj, by omega, by omega, for_range (lo := 0) (n := j.toNat) (fun i σ H' => (∃ y1 y2 y3 y4 y5 y6 y7, σ = [some (.ref a), y1, y2, y3, y4, y5, y6, y7]) ∧ SqL K H' a (ns.map V.int) ∧ Tb2 H' P1 q__joined P2 q_heap_of) ⟨⟨_, _, _, _, _, _, _, rfl⟩, hS, T0⟩ ?_ ?_⟩
  · rintro i σ H0 hi ⟨⟨y1, y2, y3, y4, y5, y6, y7, rfl⟩, hS0, TT⟩
    obtain ⟨_, hq1⟩ := TT.p1
    obtain ⟨_, hq2⟩ := TT.p2
    refine ⟨_, rfl, _, rfl, a, ns, _, rfl, hS0, h63, by omega, by omega, fun p H1 hp c1 p1 => ?_⟩
    refine ⟨_, rfl, p, 3000, rfl, p1, by decide, fun L H2 hL f2 p2 => ?_⟩
    refine ⟨_, rfl, _, rfl, p, _, 58, L, rfl, p2, by omega, by decide, by decide, hL, fun tv t H3 z3 d3 l3 f3 x3 p3 => ?_⟩
    have hp0 := hp
    have s01 : Same H0 H1 := fun b o h => c1.at h (ne_of_none h hp)
    have t3 : TrAt (fun _ => True) H3 tv t := x3.weak fun _ _ => trivial
    have F3 : Fr p H0 H3 := ((Fr.same s01).trans f2).trans f3
    have T3 := ((TT.ext s01).pool p1 f2).pool p2 f3
    clear c1 f2 f3 x3 p1 p2 s01 T0
    refine ⟨_, rfl, ?_⟩
    refine ⟨_, rfl, _, rfl, p, _, tv, t, rfl, p3, by omega, t3, by omega, by omega, fun v1 u1 H4 sh1 f4 x4 p4 => ?_⟩
    have e4 := sh1.size
    have g4 := sh1.depth
    have t4 := p3.tree t3 f4
    have T4 := T3.pool p3 f4
    refine ⟨_, rfl, _, rfl, p, _, tv, t, rfl, p4, by omega, t4, by omega, by omega, by omega, fun v2 u2 H5 e5 g5 f5 x5 p5 => ?_⟩
    have t5 := p4.tree t4 f5
    have T5 := T4.pool p4 f5
    have a5 := p4.tree (x4.weak (ok' := fun _ => True) fun _ _ => trivial) f5
    refine ⟨_, rfl, _, rfl, p, _, 6, L, rfl, p5, by omega, by decide, by decide, hL, fun v3 u3 H6 e6 g6 l6 f6 x6 p6 => ?_⟩
    have t6 := p5.tree t5 f6
    have T6 := T5.pool p5 f6
    have a6 := p5.tree a5 f6
    have b6 := p5.tree x5 f6
    have c6 := x6.weak (ok' := fun _ => True) fun _ _ => trivial
    refine ⟨(by show 4 ≤ sizeLine; decide), fun R hR => ?_⟩
    have s7 := same_new (o := .lst [tv, v1, v2, v3]) hR
    have p7 := p6.keep s7
    have nR : R ≠ p := fun z => (p6.ne hR) z.symm
    have kR := upd_same (H := H6) (a := R) (o := .lst [tv, v1, v2, v3])
    have T7 := T6.ext s7
    have off : ∀ {v : V} {t : Tr}, TrAt (fun _ => True) H6 v t → TrAt (fun b => b ≠ R) H6 v t := fun h => (TrAt.there _ _ h).weak fun b h e => by
      obtain ⟨_, o, ho⟩ := h
      rw [e, hR] at ho
      cases ho
    have t7 := (off t6).same s7
    have a7 := (off a6).same s7
    have b7 := (off b6).same s7
    have cc7 := (off c6).same s7
    have F7 : Fr p H0 (upd H6 R (.lst [tv, v1, v2, v3])) := (((F3.trans f4).trans f5).trans f6).trans (Fr.same s7)
    have hR0 : H0 R = none := (((F3.trans f4).trans f5).trans f6).free p6.some hR
    generalize upd H6 R (.lst [tv, v1, v2, v3]) = H7 at *
    clear off f4 f5 f6 s7 t6 t5 t4 t3 a6 a5 b6 c6 x6 x5 x4 T6 T5 T4 T3 p5 p4 p3 p6 F3
    refine ⟨_, rfl, .inl ⟨rfl, _, SqL.of kR⟩, _, rfl, _, rfl, _, rfl, p, _, tv, t, rfl, p7, by omega, t7.weak fun _ _ => trivial, by omega, by omega, by omega, fun v4 u4 H8 e8 g8 f8 x8 p8 => ?_⟩
    have t8 := p7.tree t7 f8
    have a8 := p7.tree a7 f8
    have b8 := p7.tree b7 f8
    have cc8 := p7.tree cc7 f8
    have T8 := T7.pool p7 f8
    refine ⟨p, _, v4, u4, rfl, p8, by omega, x8, by omega, by omega, fun v5 u5 H9 sh5 f9 x9 p9 => ?_⟩
    have e9 := sh5.size
    have g9 := sh5.depth
    have kR9 := f9 _ _ nR (f8 _ _ nR kR)
    have T9 := T8.pool p8 f9
    have nR9 : ∀ {v : V} {t : Tr}, TrAt (fun b => b ≠ R) H9 v t → TrAt (fun _ => True) (upd H9 R (.lst ([tv, v1, v2, v3] ++ [v5]))) v t := fun h => (h.keep fun b o k e => by rw [upd_ne k]; exact e).weak fun _ _ => trivial
    have tA := nR9 (p8.tree t8 f9)
    have aA := nR9 (p8.tree a8 f9)
    have bA := nR9 (p8.tree b8 f9)
    have ccA := nR9 (p8.tree cc8 f9)
    have kR8 := f8 _ _ nR kR
    have xA := nR9 (x9.weak fun b h e => by rw [e, kR8] at h; cases h)
    have TA := T9.upd0 (o := .lst ([tv, v1, v2, v3] ++ [v5])) kR9
    have kA := upd_same (H := H9) (a := R) (o := .lst ([tv, v1, v2, v3] ++ [v5]))
    have FA : Fr p H0 (upd H9 R (.lst ([tv, v1, v2, v3] ++ [v5]))) := ((F7.trans f8).trans f9).new hR0
    refine ⟨R, _, _, rfl, rfl, kR9, by show 4 < sizeLine; decide, ?_⟩
    generalize upd H9 R (.lst ([tv, v1, v2, v3] ++ [v5])) = HA at *
    obtain ⟨ws5, hws⟩ : ∃ rs : List (V × Tr), rs = [(tv, t), (v1, u1), (v2, u2), (v3, u3), (v5, u5)] := ⟨_, rfl⟩
    have okr : ∀ r ∈ ws5, TrAt (fun _ => True) HA r.1 r.2 ∧ r.2.size ≤ 1000 ∧ r.2.depth ≤ 40 := by
      intro r hr
      rw [hws] at hr
      simp only [List.mem_cons, List.not_mem_nil, or_false] at hr
      rcases hr with rfl | rfl | rfl | rfl | rfl
      · exact ⟨tA, by show t.size ≤ 1000; omega, by show t.depth ≤ 40; omega⟩
      · exact ⟨aA, by show u1.size ≤ 1000; omega, by show u1.depth ≤ 40; omega⟩
      · exact ⟨bA, by show u2.size ≤ 1000; omega, by show u2.depth ≤ 40; omega⟩
      · exact ⟨ccA, by show u3.size ≤ 1000; omega, by show u3.depth ≤ 40; omega⟩
      · exact ⟨xA, by show u5.size ≤ 1000; omega, by show u5.depth ≤ 40; omega⟩
    have kW : HA R = some (.lst (ws5.map (·.1))) := by rw [hws]; exact kA
    refine ⟨_, rfl, R, rfl, ⟨_, SqL.of kW⟩, ?_⟩
    refine for_list (xs := ws5.map (·.1)) (fun i' σ H' => (∃ y6 y7, σ = [some (.ref a), some (.int (0 + i)), some (.ref p), some (.str L), some tv, some (.ref R), y6, y7]) ∧ Fr2 P1 P2 HA H' ∧ Tb2 H' P1 q__joined P2 q_heap_of) ⟨⟨_, _, rfl⟩, fun _ _ _ _ e => e, TA⟩ (fun i' σ H' _ ⟨_, f, _⟩ => SqL.of (TA.lst kW f)) ?_ ?_
    · rintro i' x σ HB hx ⟨⟨y6, y7, rfl⟩, fB, TB⟩
      rw [List.getElem?_map] at hx
      cases he : ws5[i']? with
      | none => rw [he] at hx; cases hx
      | some r =>
      rw [he] at hx
      cases hx
      obtain ⟨tr, zr, dr⟩ := okr r (List.mem_of_getElem? he)
      have trB := TA.tree tr fB
      refine ⟨_, rfl, r.1, r.2, rfl, trB, zr, dr, TB, fun HC fC TC => ⟨_, rfl, iteF ?_⟩⟩
      have fBC := fB.trans fC
      refine ⟨_, rfl, R, rfl, ⟨_, SqL.of (TA.lst kW fBC)⟩, ?_⟩
      refine for_list (xs := ws5.map (·.1)) (fun i2 σ H' => (∃ y7, σ = [some (.ref a), some (.int (0 + i)), some (.ref p), some (.str L), some tv, some (.ref R), some r.1, y7]) ∧ Fr2 P1 P2 HA H' ∧ Tb2 H' P1 q__joined P2 q_heap_of) ⟨⟨_, rfl⟩, fBC, TC⟩ (fun i2 σ H' _ ⟨_, f, _⟩ => SqL.of (TA.lst kW f)) ?_ ?_
      · rintro i2 x σ HD hx ⟨⟨y7, rfl⟩, fD, TD⟩
        rw [List.getElem?_map] at hx
        cases he2 : ws5[i2]? with
        | none => rw [he2] at hx; cases hx
        | some r2 =>
        rw [he2] at hx
        cases hx
        obtain ⟨tr2, zr2, dr2⟩ := okr r2 (List.mem_of_getElem? he2)
        exact ⟨_, rfl, _, rfl, r.1, r2.1, r.2, r2.2, rfl, TA.tree tr fD, TA.tree tr2 fD, zr, zr2, dr, dr2, TD, fun HE fE TE => ⟨_, rfl, iteF ⟨⟨_, rfl⟩, fD.trans fE, TE⟩⟩⟩
      · rintro σ HD ⟨⟨y7, rfl⟩, fD, TD⟩
        exact ⟨⟨_, _, rfl⟩, fD, TD⟩
    rintro σ HB ⟨⟨y6, y7, rfl⟩, fB, TB⟩
    have tB := TA.tree tA fB
    have aB := TA.tree aA fB
    have kB := TA.lst kA fB
    have lt := TrAt.ltr _ _ tA
    refine ⟨_, rfl, R, _, 0, _, rfl, rfl, SqL.of kB, at_of (j := 0) rfl rfl, _, rfl, R, _, 1, _, rfl, rfl, SqL.of kB, at_of (j := 1) rfl rfl, tv, v1, t, u1, rfl, tB, aB, by omega, by omega, TB.1, fun HC fC cC => ?_⟩
    rw [decide_eq_true (by rw [sh1.told lt])]
    refine ⟨_, rfl, iteF ?_⟩
    have TC := TB.one nPP fC cC
    have tC := TB.tree tB (.of1 fC)
    have fBC := fB.trans (.of1 fC)
    obtain ⟨c, ks⟩ := t
    have tC' := tC
    cases tC' with
    | @node ta tl xs _ _ k1 k2 _ _ cc1 cc2 rk =>
    refine ⟨_, rfl, ta, _, 0, _, rfl, rfl, SqT.of k1, at_of (j := 0) rfl rfl, _, rfl, ta, _, 1, _, rfl, rfl, SqT.of k1, at_of (j := 1) rfl rfl, _, rfl, ta, _, 0, _, rfl, rfl, SqT.of k1, at_of (j := 0) rfl rfl, (by show 0 ≤ sizeLine; decide), fun n1 hn1 => ?_⟩
    have sD := same_new (o := .lst []) hn1
    have eD := upd_same (H := HC) (a := n1) (o := .lst [])
    generalize upd HC n1 (.lst []) = HD at *
    refine ⟨(by show 2 ≤ sizeLine; decide), fun n2 hn2 => ?_⟩
    have sE := same_new (o := .tup [.str (ch c), .ref n1]) hn2
    have eE := upd_same (H := HD) (a := n2) (o := .tup [.str (ch c), .ref n1])
    have eD' := sE _ _ eD
    generalize upd HD n2 (.tup [.str (ch c), .ref n1]) = HE at *
    refine ⟨(by show 1 ≤ sizeLine; decide), fun n3 hn3 => ?_⟩
    have sF := same_new (o := .lst [.ref n2]) hn3
    have eF := upd_same (H := HE) (a := n3) (o := .lst [.ref n2])
    have eD'' := sF _ _ eD'
    have eE' := sF _ _ eE
    generalize upd HE n3 (.lst [.ref n2]) = HF at *
    have SF := (sD.trans sE).trans sF
    have lz := len_sizes ks
    have lx := rk.len
    simp only [Tr.size] at z3
    refine ⟨tl, n3, _, _, rfl, rfl, SF _ _ k2, eF, ?_, fun n4 hn4 => ⟨(by show 2 ≤ sizeLine; decide), fun n5 hn5 => ?_⟩⟩
    · exact Nat.le_of_lt (Nat.lt_of_le_of_lt (show _ ≤ 2000 by simp only [List.length_cons, List.length_nil]; omega) (by decide))
    have sG := same_new (o := .lst (xs ++ [.ref n2])) hn4
    have sH := same_new (o := .tup [.str (ch c), .ref n4]) hn5
    have eG := sH _ _ (upd_same (H := HF) (a := n4) (o := .lst (xs ++ [.ref n2])))
    have eH := upd_same (H := upd HF n4 (.lst (xs ++ [.ref n2]))) (a := n5) (o := .tup [.str (ch c), .ref n4])
    have sGH := sG.trans sH
    generalize upd (upd HF n4 (.lst (xs ++ [.ref n2]))) n5 (.tup [.str (ch c), .ref n4]) = HH at *
    have SH := SF.trans sGH
    have leaf : TrAt (fun _ => True) HH (.ref n2) (.node c []) := .node (sGH _ _ eE') (sGH _ _ eD'') trivial trivial cc1 cc2 .nil
    have X : TrAt (fun _ => True) HH (.ref n5) (.node c (ks ++ [.node c []])) := .node eH eG trivial trivial cc1 cc2 ((rk.keep fun b o _ z => SH b o z).append (.cons leaf .nil))
    refine ⟨_, rfl, .ref n5, .ref ta, _, .node c ks, rfl, X, tC.same SH, ?_, by simp only [Tr.size]; omega, (TC.ext SH).1, fun HI fI cI => ?_⟩
    · simp only [Tr.size, sizes_append, sizes]
      omega
    rw [decide_eq_false (fun z => ?_)]
    · refine ⟨_, rfl, iteF ⟨⟨_, _, _, _, _, _, _, rfl⟩, ?_, (TC.ext SH).one nPP fI cI⟩⟩
      refine SqL.fr3 hS0 hp0 hq1 hq2 fun b o m1 m2 m3 e => fI b o m2 (SH b o (fBC b o m2 m3 (FA b o m1 e)))
    · have := told_size (Tr.node c (ks ++ [.node c []]))
      have h2 := told_size (Tr.node c ks)
      rw [(told_iff (TrAt.ltr _ _ X) lt).mp z, h2] at this
      simp only [Tr.size, sizes_append, sizes] at this
      omega
  · rintro σ H' ⟨_, _, _⟩
    exact qq H'
end

theorem all_mk {l : PySem.W.OpenLaw} {w : World} {K : PySem.W.Frag} {h : Heap} {mg : Str → Option Value} {fa f0 f1 f2 f3 f4 f5 f6 f7 f8 f9 f10 f11 f12 f13 f14 f15 f16 f17 f18 f19 f20 f21 f22 f23 f24 f25 f26 f27 f28 : Addr} (X : K.In h) (G : h.Ns mainGlobals mg) (hfa : mg "law" = some (.ref fa))
    {od0 an0 od1 an1 od2 an2 od3 an3 od4 an4 od5 an5 od6 an6 od7 an7 od8 an8 od9 an9 od10 an10 od11 an11 od12 an12 od13 an13 od14 an14 od15 an15 od16 an16 od17 an17 od18 an18 od19 an19 od20 an20 od21 an21 od22 an22 od23 an23 od24 an24 od25 an25 od26 an26 od27 an27 od28 an28 : Option Addr} {sl0 sl1 sl2 sl3 sl4 sl5 sl6 sl7 sl8 sl9 sl10 sl11 sl12 sl13 sl14 sl15 sl16 sl17 sl18 sl19 sl20 sl21 sl22 sl23 sl24 sl25 sl26 sl27 sl28 : Array (Option Value)} {oc0 kV0 dc0 pm0 ct0 cd0 oc1 kV1 dc1 pm1 ct1 cd1 oc2 kV2 dc2 pm2 ct2 cd2 oc3 kV3 dc3 pm3 ct3 cd3 oc4 kV4 dc4 pm4 ct4 cd4 oc5 kV5 dc5 pm5 ct5 cd5 oc6 kV6 dc6 pm6 ct6 cd6 oc7 kV7 dc7 pm7 ct7 cd7 oc8 kV8 dc8 pm8 ct8 cd8 oc9 kV9 dc9 pm9 ct9 cd9 oc10 kV10 dc10 pm10 ct10 oc11 kV11 dc11 pm11 ct11 cd11 oc12 kV12 dc12 pm12 ct12 cd12 oc13 kV13 dc13 pm13 ct13 cd13 oc14 kV14 dc14 pm14 ct14 cd14 oc15 kV15 dc15 pm15 ct15 oc16 kV16 dc16 pm16 ct16 cd16 oc17 kV17 dc17 pm17 ct17 cd17 oc18 kV18 dc18 pm18 ct18 cd18 oc19 kV19 dc19 pm19 ct19 cd19 oc20 kV20 dc20 pm20 ct20 cd20 oc21 kV21 dc21 pm21 ct21 cd21 oc22 kV22 dc22 pm22 ct22 cd22 oc23 kV23 dc23 pm23 ct23 cd23 oc24 kV24 dc24 pm24 ct24 cd24 oc25 kV25 dc25 pm25 ct25 cd25 oc26 kV26 dc26 pm26 ct26 cd26 oc27 kV27 dc27 pm27 ct27 cd27 oc28 kV28 dc28 pm28 ct28 cd28 : Value} {c10 P10 c15 P15 : Addr}
    (a0 : PySem.W.nsIn K mainGlobals "is_whole" = some (some (.ref f0))) (l0 : K.lookup f0 = some ⟨oc0, od0, .func (PySem.W.fnOf "is_whole" "is_whole" (defArgs s_is_whole) (defBody s_is_whole) (defScope s_is_whole) .none kV0 dc0 pm0 an0 cd0 ct0), sl0⟩) (d0 : PySem.W.codeIn K cd0 "is_whole" = true) (k0 : PySem.W.keepIn K (.ref f0) = true)
    (a1 : PySem.W.nsIn K mainGlobals "is_letter" = some (some (.ref f1))) (l1 : K.lookup f1 = some ⟨oc1, od1, .func (PySem.W.fnOf "is_letter" "is_letter" (defArgs s_is_letter) (defBody s_is_letter) (defScope s_is_letter) .none kV1 dc1 pm1 an1 cd1 ct1), sl1⟩) (d1 : PySem.W.codeIn K cd1 "is_letter" = true) (k1 : PySem.W.keepIn K (.ref f1) = true)
    (a2 : PySem.W.nsIn K mainGlobals "is_tree" = some (some (.ref f2))) (l2 : K.lookup f2 = some ⟨oc2, od2, .func (PySem.W.fnOf "is_tree" "is_tree" (defArgs s_is_tree) (defBody s_is_tree) (defScope s_is_tree) .none kV2 dc2 pm2 an2 cd2 ct2), sl2⟩) (d2 : PySem.W.codeIn K cd2 "is_tree" = true) (k2 : PySem.W.keepIn K (.ref f2) = true)
    (a3 : PySem.W.nsIn K mainGlobals "_is_part" = some (some (.ref f3))) (l3 : K.lookup f3 = some ⟨oc3, od3, .func (PySem.W.fnOf "_is_part" "_is_part" (defArgs s__is_part) (defBody s__is_part) (defScope s__is_part) .none kV3 dc3 pm3 an3 cd3 ct3), sl3⟩) (d3 : PySem.W.codeIn K cd3 "_is_part" = true) (k3 : PySem.W.keepIn K (.ref f3) = true)
    (a4 : PySem.W.nsIn K mainGlobals "check_tree" = some (some (.ref f4))) (l4 : K.lookup f4 = some ⟨oc4, od4, .func (PySem.W.fnOf "check_tree" "check_tree" (defArgs s_check_tree) (defBody s_check_tree) (defScope s_check_tree) .none kV4 dc4 pm4 an4 cd4 ct4), sl4⟩) (d4 : PySem.W.codeIn K cd4 "check_tree" = true) (k4 : PySem.W.keepIn K (.ref f4) = true)
    (a5 : PySem.W.nsIn K mainGlobals "parts_upward" = some (some (.ref f5))) (l5 : K.lookup f5 = some ⟨oc5, od5, .func (PySem.W.fnOf "parts_upward" "parts_upward" (defArgs s_parts_upward) (defBody s_parts_upward) (defScope s_parts_upward) .none kV5 dc5 pm5 an5 cd5 ct5), sl5⟩) (d5 : PySem.W.codeIn K cd5 "parts_upward" = true) (k5 : PySem.W.keepIn K (.ref f5) = true)
    (a6 : PySem.W.nsIn K mainGlobals "size_of" = some (some (.ref f6))) (l6 : K.lookup f6 = some ⟨oc6, od6, .func (PySem.W.fnOf "size_of" "size_of" (defArgs s_size_of) (defBody s_size_of) (defScope s_size_of) .none kV6 dc6 pm6 an6 cd6 ct6), sl6⟩) (d6 : PySem.W.codeIn K cd6 "size_of" = true) (k6 : PySem.W.keepIn K (.ref f6) = true)
    (a7 : PySem.W.nsIn K mainGlobals "built_upward" = some (some (.ref f7))) (l7 : K.lookup f7 = some ⟨oc7, od7, .func (PySem.W.fnOf "built_upward" "built_upward" (defArgs s_built_upward) (defBody s_built_upward) (defScope s_built_upward) .none kV7 dc7 pm7 an7 cd7 ct7), sl7⟩) (d7 : PySem.W.codeIn K cd7 "built_upward" = true) (k7 : PySem.W.keepIn K (.ref f7) = true)
    (a8 : PySem.W.nsIn K mainGlobals "depth_of" = some (some (.ref f8))) (l8 : K.lookup f8 = some ⟨oc8, od8, .func (PySem.W.fnOf "depth_of" "depth_of" (defArgs s_depth_of) (defBody s_depth_of) (defScope s_depth_of) .none kV8 dc8 pm8 an8 cd8 ct8), sl8⟩) (d8 : PySem.W.codeIn K cd8 "depth_of" = true) (k8 : PySem.W.keepIn K (.ref f8) = true)
    (a9 : PySem.W.nsIn K mainGlobals "_written_and_told" = some (some (.ref f9))) (l9 : K.lookup f9 = some ⟨oc9, od9, .func (PySem.W.fnOf "_written_and_told" "_written_and_told" (defArgs s__written_and_told) (defBody s__written_and_told) (defScope s__written_and_told) .none kV9 dc9 pm9 an9 cd9 ct9), sl9⟩) (d9 : PySem.W.codeIn K cd9 "_written_and_told" = true) (k9 : PySem.W.keepIn K (.ref f9) = true)
    (a10 : PySem.W.nsIn K mainGlobals "_joined" = some (some (.ref f10))) (l10 : K.lookup f10 = some ⟨oc10, od10, .func (PySem.W.fnOf "_joined" "_joined" (defArgs s__joined) (defBody s__joined) (defScope s__joined) .none kV10 dc10 pm10 an10 (.ref c10) ct10), sl10⟩) (d10 : PySem.W.codeIn K (.ref c10) "_joined" = true) (k10 : PySem.W.keepIn K (.ref f10) = true)
    (a11 : PySem.W.nsIn K mainGlobals "written_part" = some (some (.ref f11))) (l11 : K.lookup f11 = some ⟨oc11, od11, .func (PySem.W.fnOf "written_part" "written_part" (defArgs s_written_part) (defBody s_written_part) (defScope s_written_part) .none kV11 dc11 pm11 an11 cd11 ct11), sl11⟩) (d11 : PySem.W.codeIn K cd11 "written_part" = true) (k11 : PySem.W.keepIn K (.ref f11) = true)
    (a12 : PySem.W.nsIn K mainGlobals "told_form" = some (some (.ref f12))) (l12 : K.lookup f12 = some ⟨oc12, od12, .func (PySem.W.fnOf "told_form" "told_form" (defArgs s_told_form) (defBody s_told_form) (defScope s_told_form) .none kV12 dc12 pm12 an12 cd12 ct12), sl12⟩) (d12 : PySem.W.codeIn K cd12 "told_form" = true) (k12 : PySem.W.keepIn K (.ref f12) = true)
    (a13 : PySem.W.nsIn K mainGlobals "written_tree" = some (some (.ref f13))) (l13 : K.lookup f13 = some ⟨oc13, od13, .func (PySem.W.fnOf "written_tree" "written_tree" (defArgs s_written_tree) (defBody s_written_tree) (defScope s_written_tree) .none kV13 dc13 pm13 an13 cd13 ct13), sl13⟩) (d13 : PySem.W.codeIn K cd13 "written_tree" = true) (k13 : PySem.W.keepIn K (.ref f13) = true)
    (a14 : PySem.W.nsIn K mainGlobals "are_same" = some (some (.ref f14))) (l14 : K.lookup f14 = some ⟨oc14, od14, .func (PySem.W.fnOf "are_same" "are_same" (defArgs s_are_same) (defBody s_are_same) (defScope s_are_same) .none kV14 dc14 pm14 an14 cd14 ct14), sl14⟩) (d14 : PySem.W.codeIn K cd14 "are_same" = true) (k14 : PySem.W.keepIn K (.ref f14) = true)
    (a15 : PySem.W.nsIn K mainGlobals "heap_of" = some (some (.ref f15))) (l15 : K.lookup f15 = some ⟨oc15, od15, .func (PySem.W.fnOf "heap_of" "heap_of" (defArgs s_heap_of) (defBody s_heap_of) (defScope s_heap_of) .none kV15 dc15 pm15 an15 (.ref c15) ct15), sl15⟩) (d15 : PySem.W.codeIn K (.ref c15) "heap_of" = true) (k15 : PySem.W.keepIn K (.ref f15) = true)
    (a16 : PySem.W.nsIn K mainGlobals "from_heap" = some (some (.ref f16))) (l16 : K.lookup f16 = some ⟨oc16, od16, .func (PySem.W.fnOf "from_heap" "from_heap" (defArgs s_from_heap) (defBody s_from_heap) (defScope s_from_heap) .none kV16 dc16 pm16 an16 cd16 ct16), sl16⟩) (d16 : PySem.W.codeIn K cd16 "from_heap" = true) (k16 : PySem.W.keepIn K (.ref f16) = true)
    (a17 : PySem.W.nsIn K mainGlobals "_is_heap_row" = some (some (.ref f17))) (l17 : K.lookup f17 = some ⟨oc17, od17, .func (PySem.W.fnOf "_is_heap_row" "_is_heap_row" (defArgs s__is_heap_row) (defBody s__is_heap_row) (defScope s__is_heap_row) .none kV17 dc17 pm17 an17 cd17 ct17), sl17⟩) (d17 : PySem.W.codeIn K cd17 "_is_heap_row" = true) (k17 : PySem.W.keepIn K (.ref f17) = true)
    (a18 : PySem.W.nsIn K mainGlobals "_law_pool" = some (some (.ref f18))) (l18 : K.lookup f18 = some ⟨oc18, od18, .func (PySem.W.fnOf "_law_pool" "_law_pool" (defArgs s__law_pool) (defBody s__law_pool) (defScope s__law_pool) .none kV18 dc18 pm18 an18 cd18 ct18), sl18⟩) (d18 : PySem.W.codeIn K cd18 "_law_pool" = true) (k18 : PySem.W.keepIn K (.ref f18) = true)
    (a19 : PySem.W.nsIn K mainGlobals "_law_take" = some (some (.ref f19))) (l19 : K.lookup f19 = some ⟨oc19, od19, .func (PySem.W.fnOf "_law_take" "_law_take" (defArgs s__law_take) (defBody s__law_take) (defScope s__law_take) .none kV19 dc19 pm19 an19 cd19 ct19), sl19⟩) (d19 : PySem.W.codeIn K cd19 "_law_take" = true) (k19 : PySem.W.keepIn K (.ref f19) = true)
    (a20 : PySem.W.nsIn K mainGlobals "_law_mixed_up" = some (some (.ref f20))) (l20 : K.lookup f20 = some ⟨oc20, od20, .func (PySem.W.fnOf "_law_mixed_up" "_law_mixed_up" (defArgs s__law_mixed_up) (defBody s__law_mixed_up) (defScope s__law_mixed_up) .none kV20 dc20 pm20 an20 cd20 ct20), sl20⟩) (d20 : PySem.W.codeIn K cd20 "_law_mixed_up" = true) (k20 : PySem.W.keepIn K (.ref f20) = true)
    (a21 : PySem.W.nsIn K mainGlobals "_law_grown" = some (some (.ref f21))) (l21 : K.lookup f21 = some ⟨oc21, od21, .func (PySem.W.fnOf "_law_grown" "_law_grown" (defArgs s__law_grown) (defBody s__law_grown) (defScope s__law_grown) .none kV21 dc21 pm21 an21 cd21 ct21), sl21⟩) (d21 : PySem.W.codeIn K cd21 "_law_grown" = true) (k21 : PySem.W.keepIn K (.ref f21) = true)
    (a22 : PySem.W.nsIn K mainGlobals "_law_shuffled" = some (some (.ref f22))) (l22 : K.lookup f22 = some ⟨oc22, od22, .func (PySem.W.fnOf "_law_shuffled" "_law_shuffled" (defArgs s__law_shuffled) (defBody s__law_shuffled) (defScope s__law_shuffled) .none kV22 dc22 pm22 an22 cd22 ct22), sl22⟩) (d22 : PySem.W.codeIn K cd22 "_law_shuffled" = true) (k22 : PySem.W.keepIn K (.ref f22) = true)
    (a23 : PySem.W.nsIn K mainGlobals "_law_tree" = some (some (.ref f23))) (l23 : K.lookup f23 = some ⟨oc23, od23, .func (PySem.W.fnOf "_law_tree" "_law_tree" (defArgs s__law_tree) (defBody s__law_tree) (defScope s__law_tree) .none kV23 dc23 pm23 an23 cd23 ct23), sl23⟩) (d23 : PySem.W.codeIn K cd23 "_law_tree" = true) (k23 : PySem.W.keepIn K (.ref f23) = true)
    (a24 : PySem.W.nsIn K mainGlobals "_law_letters" = some (some (.ref f24))) (l24 : K.lookup f24 = some ⟨oc24, od24, .func (PySem.W.fnOf "_law_letters" "_law_letters" (defArgs s__law_letters) (defBody s__law_letters) (defScope s__law_letters) .none kV24 dc24 pm24 an24 cd24 ct24), sl24⟩) (d24 : PySem.W.codeIn K cd24 "_law_letters" = true) (k24 : PySem.W.keepIn K (.ref f24) = true)
    (a25 : PySem.W.nsIn K mainGlobals "_law_changed" = some (some (.ref f25))) (l25 : K.lookup f25 = some ⟨oc25, od25, .func (PySem.W.fnOf "_law_changed" "_law_changed" (defArgs s__law_changed) (defBody s__law_changed) (defScope s__law_changed) .none kV25 dc25 pm25 an25 cd25 ct25), sl25⟩) (d25 : PySem.W.codeIn K cd25 "_law_changed" = true) (k25 : PySem.W.keepIn K (.ref f25) = true)
    (a26 : PySem.W.nsIn K mainGlobals "_law_two_right" = some (some (.ref f26))) (l26 : K.lookup f26 = some ⟨oc26, od26, .func (PySem.W.fnOf "_law_two_right" "_law_two_right" (defArgs s__law_two_right) (defBody s__law_two_right) (defScope s__law_two_right) .none kV26 dc26 pm26 an26 cd26 ct26), sl26⟩) (d26 : PySem.W.codeIn K cd26 "_law_two_right" = true) (k26 : PySem.W.keepIn K (.ref f26) = true)
    (a27 : PySem.W.nsIn K mainGlobals "_law_one_right" = some (some (.ref f27))) (l27 : K.lookup f27 = some ⟨oc27, od27, .func (PySem.W.fnOf "_law_one_right" "_law_one_right" (defArgs s__law_one_right) (defBody s__law_one_right) (defScope s__law_one_right) .none kV27 dc27 pm27 an27 cd27 ct27), sl27⟩) (d27 : PySem.W.codeIn K cd27 "_law_one_right" = true) (k27 : PySem.W.keepIn K (.ref f27) = true)
    (a28 : PySem.W.nsIn K mainGlobals "law" = some (some (.ref f28))) (l28 : K.lookup f28 = some ⟨oc28, od28, .func (PySem.W.fnOf "law" "law" (defArgs s_law) (defBody s_law) (defScope s_law) .none kV28 dc28 pm28 an28 cd28 ct28), sl28⟩) (d28 : PySem.W.codeIn K cd28 "law" = true) (k28 : PySem.W.keepIn K (.ref f28) = true)
    (t10 : PySem.W.tabIn K "_joined" = some (c10, P10)) (u10 : K.lookup P10 = none)
    (t15 : PySem.W.tabIn K "heap_of" = some (c15, P15)) (u15 : K.lookup P15 = none)
    (v10_15 : P10 ≠ P15)
    (z_all : PySem.W.nsIn K mainGlobals "all" = some none)
    (z_bool : PySem.W.nsIn K mainGlobals "bool" = some none)
    (z_int : PySem.W.nsIn K mainGlobals "int" = some none)
    (z_isinstance : PySem.W.nsIn K mainGlobals "isinstance" = some none)
    (z_len : PySem.W.nsIn K mainGlobals "len" = some none)
    (z_list : PySem.W.nsIn K mainGlobals "list" = some none)
    (z_max : PySem.W.nsIn K mainGlobals "max" = some none)
    (z_min : PySem.W.nsIn K mainGlobals "min" = some none)
    (z_range : PySem.W.nsIn K mainGlobals "range" = some none)
    (z_set : PySem.W.nsIn K mainGlobals "set" = some none)
    (z_sorted : PySem.W.nsIn K mainGlobals "sorted" = some none)
    (z_str : PySem.W.nsIn K mainGlobals "str" = some none)
    (z_sum : PySem.W.nsIn K mainGlobals "sum" = some none)
    (z_tuple : PySem.W.nsIn K mainGlobals "tuple" = some none)
    : LawT l w K 42 "script" mg fa [("_joined", c10, P10), ("heap_of", c15, P15)] := by
  have e := hfa.symm.trans (PySem.W.mg_of X G a28)
  cases e
  have F0 := fun_mk (st := s_is_whole) l0 d0 k0
  have b0 := F0.binds (ps := ["thing"]) fun _ _ _ _ _ _ us hl => match us, hl with | [_], _ => rfl
  have F1 := fun_mk (st := s_is_letter) l1 d1 k1
  have b1 := F1.binds (ps := ["thing"]) fun _ _ _ _ _ _ us hl => match us, hl with | [_], _ => rfl
  have F2 := fun_mk (st := s_is_tree) l2 d2 k2
  have b2 := F2.binds (ps := ["thing"]) fun _ _ _ _ _ _ us hl => match us, hl with | [_], _ => rfl
  have F3 := fun_mk (st := s__is_part) l3 d3 k3
  have b3 := F3.binds (ps := ["thing"]) fun _ _ _ _ _ _ us hl => match us, hl with | [_], _ => rfl
  have F4 := fun_mk (st := s_check_tree) l4 d4 k4
  have b4 := F4.binds (ps := ["thing"]) fun _ _ _ _ _ _ us hl => match us, hl with | [_], _ => rfl
  have F5 := fun_mk (st := s_parts_upward) l5 d5 k5
  have b5 := F5.binds (ps := ["tree"]) fun _ _ _ _ _ _ us hl => match us, hl with | [_], _ => rfl
  have F6 := fun_mk (st := s_size_of) l6 d6 k6
  have b6 := F6.binds (ps := ["tree"]) fun _ _ _ _ _ _ us hl => match us, hl with | [_], _ => rfl
  have F7 := fun_mk (st := s_built_upward) l7 d7 k7
  have b7 := F7.binds (ps := ["tree", "made"]) fun _ _ _ _ _ _ us hl => match us, hl with | [_, _], _ => rfl
  have F8 := fun_mk (st := s_depth_of) l8 d8 k8
  have b8 := F8.binds (ps := ["tree"]) fun _ _ _ _ _ _ us hl => match us, hl with | [_], _ => rfl
  have F9 := fun_mk (st := s__written_and_told) l9 d9 k9
  have b9 := F9.binds (ps := ["tree"]) fun _ _ _ _ _ _ us hl => match us, hl with | [_], _ => rfl
  have F10 := fun_mk (st := s__joined) l10 d10 k10
  have b10 := F10.binds (ps := ["letter", "below"]) fun _ _ _ _ _ _ us hl => match us, hl with | [_, _], _ => rfl
  have F11 := fun_mk (st := s_written_part) l11 d11 k11
  have b11 := F11.binds (ps := ["letter", "texts"]) fun _ _ _ _ _ _ us hl => match us, hl with | [_, _], _ => rfl
  have F12 := fun_mk (st := s_told_form) l12 d12 k12
  have b12 := F12.binds (ps := ["tree"]) fun _ _ _ _ _ _ us hl => match us, hl with | [_], _ => rfl
  have F13 := fun_mk (st := s_written_tree) l13 d13 k13
  have b13 := F13.binds (ps := ["tree"]) fun _ _ _ _ _ _ us hl => match us, hl with | [_], _ => rfl
  have F14 := fun_mk (st := s_are_same) l14 d14 k14
  have b14 := F14.binds (ps := ["one", "other"]) fun _ _ _ _ _ _ us hl => match us, hl with | [_, _], _ => rfl
  have F15 := fun_mk (st := s_heap_of) l15 d15 k15
  have b15 := F15.binds (ps := ["tree"]) fun _ _ _ _ _ _ us hl => match us, hl with | [_], _ => rfl
  have F16 := fun_mk (st := s_from_heap) l16 d16 k16
  have b16 := F16.binds (ps := ["letter", "heap"]) fun _ _ _ _ _ _ us hl => match us, hl with | [_, _], _ => rfl
  have F17 := fun_mk (st := s__is_heap_row) l17 d17 k17
  have b17 := F17.binds (ps := ["thing"]) fun _ _ _ _ _ _ us hl => match us, hl with | [_], _ => rfl
  have F18 := fun_mk (st := s__law_pool) l18 d18 k18
  have b18 := F18.binds (ps := ["script", "k"]) fun _ _ _ _ _ _ us hl => match us, hl with | [_, _], _ => rfl
  have F19 := fun_mk (st := s__law_take) l19 d19 k19
  have b19 := F19.binds (ps := ["pool", "many"]) fun _ _ _ _ _ _ us hl => match us, hl with | [_, _], _ => rfl
  have F20 := fun_mk (st := s__law_mixed_up) l20 d20 k20
  have b20 := F20.binds (ps := ["pool", "things"]) fun _ _ _ _ _ _ us hl => match us, hl with | [_, _], _ => rfl
  have F21 := fun_mk (st := s__law_grown) l21 d21 k21
  have b21 := F21.binds (ps := ["pool", "most", "letters"]) fun _ _ _ _ _ _ us hl => match us, hl with | [_, _, _], _ => rfl
  have F22 := fun_mk (st := s__law_shuffled) l22 d22 k22
  have b22 := F22.binds (ps := ["pool", "tree"]) fun _ _ _ _ _ _ us hl => match us, hl with | [_, _], _ => rfl
  have F23 := fun_mk (st := s__law_tree) l23 d23 k23
  have b23 := F23.binds (ps := ["pool", "most", "letters"]) fun _ _ _ _ _ _ us hl => match us, hl with | [_, _, _], _ => rfl
  have F24 := fun_mk (st := s__law_letters) l24 d24 k24
  have b24 := F24.binds (ps := ["pool"]) fun _ _ _ _ _ _ us hl => match us, hl with | [_], _ => rfl
  have F25 := fun_mk (st := s__law_changed) l25 d25 k25
  have b25 := F25.binds (ps := ["pool", "tree"]) fun _ _ _ _ _ _ us hl => match us, hl with | [_, _], _ => rfl
  have F26 := fun_mk (st := s__law_two_right) l26 d26 k26
  have b26 := F26.binds (ps := ["one", "other"]) fun _ _ _ _ _ _ us hl => match us, hl with | [_, _], _ => rfl
  have F27 := fun_mk (st := s__law_one_right) l27 d27 k27
  have b27 := F27.binds (ps := ["tree"]) fun _ _ _ _ _ _ us hl => match us, hl with | [_], _ => rfl
  have F28 := fun_mk (st := s_law) l28 d28 k28
  have b28 := F28.binds (ps := ["script"]) fun _ _ _ _ _ _ us hl => match us, hl with | [_], _ => rfl
  let T : Txt K mg := ⟨f0, _, F0, b0, PySem.W.mg_of X G a0, f1, _, F1, b1, PySem.W.mg_of X G a1, f2, _, F2, b2, PySem.W.mg_of X G a2, f3, _, F3, b3, PySem.W.mg_of X G a3, f4, _, F4, b4, PySem.W.mg_of X G a4, f5, _, F5, b5, PySem.W.mg_of X G a5, f6, _, F6, b6, PySem.W.mg_of X G a6, f7, _, F7, b7, PySem.W.mg_of X G a7, f8, _, F8, b8, PySem.W.mg_of X G a8, f9, _, F9, b9, PySem.W.mg_of X G a9, f10, _, F10, b10, PySem.W.mg_of X G a10, f11, _, F11, b11, PySem.W.mg_of X G a11, f12, _, F12, b12, PySem.W.mg_of X G a12, f13, _, F13, b13, PySem.W.mg_of X G a13, f14, _, F14, b14, PySem.W.mg_of X G a14, f15, _, F15, b15, PySem.W.mg_of X G a15, f16, _, F16, b16, PySem.W.mg_of X G a16, f17, _, F17, b17, PySem.W.mg_of X G a17, f18, _, F18, b18, PySem.W.mg_of X G a18, f19, _, F19, b19, PySem.W.mg_of X G a19, f20, _, F20, b20, PySem.W.mg_of X G a20, f21, _, F21, b21, PySem.W.mg_of X G a21, f22, _, F22, b22, PySem.W.mg_of X G a22, f23, _, F23, b23, PySem.W.mg_of X G a23, f24, _, F24, b24, PySem.W.mg_of X G a24, f25, _, F25, b25, PySem.W.mg_of X G a25, f26, _, F26, b26, PySem.W.mg_of X G a26, f27, _, F27, b27, PySem.W.mg_of X G a27, fa, _, F28, b28, PySem.W.mg_of X G a28, c10, P10, rfl, c15, P15, rfl, v10_15, PySem.W.mg_none_of X G z_all, PySem.W.mg_none_of X G z_bool, PySem.W.mg_none_of X G z_int, PySem.W.mg_none_of X G z_isinstance, PySem.W.mg_none_of X G z_len, PySem.W.mg_none_of X G z_list, PySem.W.mg_none_of X G z_max, PySem.W.mg_none_of X G z_min, PySem.W.mg_none_of X G z_range, PySem.W.mg_none_of X G z_set, PySem.W.mg_none_of X G z_sorted, PySem.W.mg_none_of X G z_str, PySem.W.mg_none_of X G z_sum, PySem.W.mg_none_of X G z_tuple⟩
  refine ⟨?_, PySem.W.fnOf "law" "law" (defArgs s_law) (defBody s_law) (defScope s_law) .none kV28 dc28 pm28 an28 cd28 ct28, fun s v => .of_eq rfl, fun base _ _ hb => ?_⟩
  · intro z hz
    simp only [List.mem_cons, List.not_mem_nil, or_false] at hz
    rcases hz with rfl | rfl
    · exact ⟨t10, u10⟩
    · exact ⟨t15, u15⟩
  · have B : Tbs T base := ⟨hb ("_joined", c10, P10) (by simp), hb ("heap_of", c15, P15) (by simp)⟩
    exact ok_law T B
end My
open PySem PySem.W PyProof.Rows
set_option maxRecDepth 100000 in
set_option maxHeartbeats 0 in
theorem PySem.Challenge.cw_heaptrees_k07_whole_children_in_any_orde_holds : PySem.Challenge.rw_heaptrees_k07_whole_children_in_any_orde.Holds := by
  w_on; o_law; k_head; (case hw => w_witness2)
  k_fill
  refine My.walk_ofT (l := PySem.Challenge.rw_heaptrees_k07_whole_children_in_any_orde) (n := 63) (k := 42) (x := "script") rfl (by decide) (by decide) rfl ⟨rfl, by decide, by decide⟩ (fun w h Y => Y.1) ["_joined", "heap_of"] ?R ?F
  case R => decide +kernel
  case F =>
    intro w mg fa h KX G hmg
    refine' ⟨_, ?n, ?m⟩
    case m =>
      refine' My.all_mk KX G hmg ?a0 ?l0 ?d0 ?k0 ?a1 ?l1 ?d1 ?k1 ?a2 ?l2 ?d2 ?k2 ?a3 ?l3 ?d3 ?k3 ?a4 ?l4 ?d4 ?k4 ?a5 ?l5 ?d5 ?k5 ?a6 ?l6 ?d6 ?k6 ?a7 ?l7 ?d7 ?k7 ?a8 ?l8 ?d8 ?k8 ?a9 ?l9 ?d9 ?k9 ?a10 ?l10 ?d10 ?k10 ?a11 ?l11 ?d11 ?k11 ?a12 ?l12 ?d12 ?k12 ?a13 ?l13 ?d13 ?k13 ?a14 ?l14 ?d14 ?k14 ?a15 ?l15 ?d15 ?k15 ?a16 ?l16 ?d16 ?k16 ?a17 ?l17 ?d17 ?k17 ?a18 ?l18 ?d18 ?k18 ?a19 ?l19 ?d19 ?k19 ?a20 ?l20 ?d20 ?k20 ?a21 ?l21 ?d21 ?k21 ?a22 ?l22 ?d22 ?k22 ?a23 ?l23 ?d23 ?k23 ?a24 ?l24 ?d24 ?k24 ?a25 ?l25 ?d25 ?k25 ?a26 ?l26 ?d26 ?k26 ?a27 ?l27 ?d27 ?k27 ?a28 ?l28 ?d28 ?k28 ?t10 ?u10 ?t15 ?u15 ?v10_15 ?z_all ?z_bool ?z_int ?z_isinstance ?z_len ?z_list ?z_max ?z_min ?z_range ?z_set ?z_sorted ?z_str ?z_sum ?z_tuple
      (case a0 => k_is)
      (case l0 => k_is)
      (case d0 => k_is)
      (case k0 => k_is)
      (case a1 => k_is)
      (case l1 => k_is)
      (case d1 => k_is)
      (case k1 => k_is)
      (case a2 => k_is)
      (case l2 => k_is)
      (case d2 => k_is)
      (case k2 => k_is)
      (case a3 => k_is)
      (case l3 => k_is)
      (case d3 => k_is)
      (case k3 => k_is)
      (case a4 => k_is)
      (case l4 => k_is)
      (case d4 => k_is)
      (case k4 => k_is)
      (case a5 => k_is)
      (case l5 => k_is)
      (case d5 => k_is)
      (case k5 => k_is)
      (case a6 => k_is)
      (case l6 => k_is)
      (case d6 => k_is)
      (case k6 => k_is)
      (case a7 => k_is)
      (case l7 => k_is)
      (case d7 => k_is)
      (case k7 => k_is)
      (case a8 => k_is)
      (case l8 => k_is)
      (case d8 => k_is)
      (case k8 => k_is)
      (case a9 => k_is)
      (case l9 => k_is)
      (case d9 => k_is)
      (case k9 => k_is)
      (case a10 => k_is)
      (case l10 => k_is)
      (case d10 => k_is)
      (case k10 => k_is)
      (case a11 => k_is)
      (case l11 => k_is)
      (case d11 => k_is)
      (case k11 => k_is)
      (case a12 => k_is)
      (case l12 => k_is)
      (case d12 => k_is)
      (case k12 => k_is)
      (case a13 => k_is)
      (case l13 => k_is)
      (case d13 => k_is)
      (case k13 => k_is)
      (case a14 => k_is)
      (case l14 => k_is)
      (case d14 => k_is)
      (case k14 => k_is)
      (case a15 => k_is)
      (case l15 => k_is)
      (case d15 => k_is)
      (case k15 => k_is)
      (case a16 => k_is)
      (case l16 => k_is)
      (case d16 => k_is)
      (case k16 => k_is)
      (case a17 => k_is)
      (case l17 => k_is)
      (case d17 => k_is)
      (case k17 => k_is)
      (case a18 => k_is)
      (case l18 => k_is)
      (case d18 => k_is)
      (case k18 => k_is)
      (case a19 => k_is)
      (case l19 => k_is)
      (case d19 => k_is)
      (case k19 => k_is)
      (case a20 => k_is)
      (case l20 => k_is)
      (case d20 => k_is)
      (case k20 => k_is)
      (case a21 => k_is)
      (case l21 => k_is)
      (case d21 => k_is)
      (case k21 => k_is)
      (case a22 => k_is)
      (case l22 => k_is)
      (case d22 => k_is)
      (case k22 => k_is)
      (case a23 => k_is)
      (case l23 => k_is)
      (case d23 => k_is)
      (case k23 => k_is)
      (case a24 => k_is)
      (case l24 => k_is)
      (case d24 => k_is)
      (case k24 => k_is)
      (case a25 => k_is)
      (case l25 => k_is)
      (case d25 => k_is)
      (case k25 => k_is)
      (case a26 => k_is)
      (case l26 => k_is)
      (case d26 => k_is)
      (case k26 => k_is)
      (case a27 => k_is)
      (case l27 => k_is)
      (case d27 => k_is)
      (case k27 => k_is)
      (case a28 => k_is)
      (case l28 => k_is)
      (case d28 => k_is)
      (case k28 => k_is)
      (case t10 => rfl)
      (case u10 => rfl)
      (case t15 => rfl)
      (case u15 => rfl)
      (case v10_15 => decide +kernel)
      (case z_all => k_is)
      (case z_bool => k_is)
      (case z_int => k_is)
      (case z_isinstance => k_is)
      (case z_len => k_is)
      (case z_list => k_is)
      (case z_max => k_is)
      (case z_min => k_is)
      (case z_range => k_is)
      (case z_set => k_is)
      (case z_sorted => k_is)
      (case z_str => k_is)
      (case z_sum => k_is)
      (case z_tuple => k_is)
    case n => rfl
#print axioms PySem.Challenge.cw_heaptrees_k07_whole_children_in_any_orde_holds
