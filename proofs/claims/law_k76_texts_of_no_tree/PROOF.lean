
import PyProof.Rows.All
import Wide.All
import OpenK.AllK
import Wide.FinOn
import HandS.ForMost
import HandS.Wide
import HandS.IsInst
import HandS.Exc
import HandS.ExcOwn
import HandS.ExcValue
import HandS.ExcIs
import HandS.WordsExc
import HandS.Flow
import HandS.Style
import HandS.Codes
import HandS.Lambda
import HandS.Star
import HandS.Nested
import HandS.EndTab
import HandS.SortKw
import HandS.FStr
import HandS.NoneIn
import HandS.More
import HandS.Zip
import HandS.Conv
import HandS.TupAny
import HandS.RaiseMore
import HandS.Walk
import HandS.Iter
import HandS.Dict
import PyProof.StrLawsRepr
import KE.SortKeyHeap
import KE.SortData
import KE.DataFind
import PySem.Challenge.RW_heaptrees_k76_texts_of_no_tree
set_option Elab.async false
set_option linter.all false
set_option maxRecDepth 100000
set_option maxHeartbeats 4000000
namespace My
open PySem PySem.Spec PyProof.Rows L2
def topS (i : Nat) : Stmt := PySem.Challenge.pw_heaptrees_k76_texts_of_no_tree.main.body.getD i (.Pass ⟨0, 0, 0, 0⟩)
abbrev s_is_letter : Stmt := topS 11
theorem sc_is_letter : FnScope ["thing"] ["thing"] (defScope s_is_letter) := ⟨rfl, rfl, rfl, by decide +kernel, rfl, by decide +kernel, by decide +kernel⟩
abbrev s_is_tree : Stmt := topS 13
theorem sc_is_tree : FnScope ["thing", "waiting", "part"] ["thing"] (defScope s_is_tree) := ⟨rfl, rfl, rfl, by decide +kernel, rfl, by decide +kernel, by decide +kernel⟩
abbrev s__is_part : Stmt := topS 14
theorem sc__is_part : FnScope ["thing"] ["thing"] (defScope s__is_part) := ⟨rfl, rfl, rfl, by decide +kernel, rfl, by decide +kernel, by decide +kernel⟩
abbrev s_check_tree : Stmt := topS 15
theorem sc_check_tree : FnScope ["thing"] ["thing"] (defScope s_check_tree) := ⟨rfl, rfl, rfl, by decide +kernel, rfl, by decide +kernel, by decide +kernel⟩
abbrev s_parts_upward : Stmt := topS 16
theorem sc_parts_upward : FnScope ["tree", "parts", "waiting", "part"] ["tree"] (defScope s_parts_upward) := ⟨rfl, rfl, rfl, by decide +kernel, rfl, by decide +kernel, by decide +kernel⟩
abbrev s_built_upward : Stmt := topS 17
theorem sc_built_upward : FnScope ["tree", "made", "waiting", "letter", "children", "first", "below"] ["tree", "made"] (defScope s_built_upward) := ⟨rfl, rfl, rfl, by decide +kernel, rfl, by decide +kernel, by decide +kernel⟩
abbrev s__written_and_told : Stmt := topS 18
theorem sc__written_and_told : FnScope ["tree"] ["tree"] (defScope s__written_and_told) := ⟨rfl, rfl, rfl, by decide +kernel, rfl, by decide +kernel, by decide +kernel⟩
abbrev s__joined : Stmt := topS 19
theorem sc__joined : FnScope ["letter", "below", "rows", "row"] ["letter", "below"] (defScope s__joined) := ⟨rfl, rfl, rfl, by decide +kernel, rfl, by decide +kernel, by decide +kernel⟩
abbrev s_written_part : Stmt := topS 20
theorem sc_written_part : FnScope ["letter", "texts", "written"] ["letter", "texts"] (defScope s_written_part) := ⟨rfl, rfl, rfl, by decide +kernel, rfl, by decide +kernel, by decide +kernel⟩
abbrev s_written_tree : Stmt := topS 21
theorem sc_written_tree : FnScope ["tree"] ["tree"] (defScope s_written_tree) := ⟨rfl, rfl, rfl, by decide +kernel, rfl, by decide +kernel, by decide +kernel⟩
abbrev s_read_tree : Stmt := topS 23
theorem sc_read_tree : FnScope ["text", "tree"] ["text"] (defScope s_read_tree) := ⟨rfl, rfl, rfl, by decide +kernel, rfl, by decide +kernel, by decide +kernel⟩
abbrev s__tree_read : Stmt := topS 24
theorem sc__tree_read : FnScope ["text", "levels", "sign"] ["text"] (defScope s__tree_read) := ⟨rfl, rfl, rfl, by decide +kernel, rfl, by decide +kernel, by decide +kernel⟩
abbrev s__law_cell : Stmt := topS 26
theorem sc__law_cell : FnScope ["script", "k"] ["script", "k"] (defScope s__law_cell) := ⟨rfl, rfl, rfl, by decide +kernel, rfl, by decide +kernel, by decide +kernel⟩
abbrev s__law_store : Stmt := topS 27
theorem sc__law_store : FnScope ["cell", "great"] ["cell"] (defScope s__law_store) := ⟨rfl, rfl, rfl, by decide +kernel, rfl, by decide +kernel, by decide +kernel⟩
abbrev s__law_take : Stmt := topS 28
theorem sc__law_take : FnScope ["store", "many", "told", "one"] ["store", "many"] (defScope s__law_take) := ⟨rfl, rfl, rfl, by decide +kernel, rfl, by decide +kernel, by decide +kernel⟩
abbrev s__law_tree : Stmt := topS 29
theorem sc__law_tree : FnScope ["store", "letters", "deep", "children", "k"] ["store", "letters", "deep"] (defScope s__law_tree) := ⟨rfl, rfl, rfl, by decide +kernel, rfl, by decide +kernel, by decide +kernel⟩
abbrev s__law_formed : Stmt := topS 30
theorem sc__law_formed : FnScope ["tree", "children", "inner", "writing", "child", "more"] ["tree"] (defScope s__law_formed) := ⟨rfl, rfl, rfl, by decide +kernel, rfl, by decide +kernel, by decide +kernel⟩
abbrev s__law_same : Stmt := topS 31
theorem sc__law_same : FnScope ["found", "due", "k", "key"] ["found", "due"] (defScope s__law_same) := ⟨rfl, rfl, rfl, by decide +kernel, rfl, by decide +kernel, by decide +kernel⟩
abbrev s__law_read : Stmt := topS 32
theorem sc__law_read : FnScope ["text", "parts", "open_at", "at", "sign", "begin", "inner", "written", "letter", "writing", "more", "child"] ["text"] (defScope s__law_read) := ⟨rfl, rfl, rfl, by decide +kernel, rfl, by decide +kernel, by decide +kernel⟩
abbrev s__law_spoilt : Stmt := topS 33
theorem sc__law_spoilt : FnScope ["store", "text", "kind", "at", "sign"] ["store", "text"] (defScope s__law_spoilt) := ⟨rfl, rfl, rfl, by decide +kernel, rfl, by decide +kernel, by decide +kernel⟩
abbrev s__law_odd : Stmt := topS 34
theorem sc__law_odd : FnScope ["store", "some", "long", "things"] ["store"] (defScope s__law_odd) := ⟨rfl, rfl, rfl, by decide +kernel, rfl, by decide +kernel, by decide +kernel⟩
abbrev s__law_said : Stmt := topS 35
theorem sc__law_said : FnScope ["text", "found", "caught", "e"] ["text"] (defScope s__law_said) := ⟨rfl, rfl, rfl, by decide +kernel, rfl, by decide +kernel, by decide +kernel⟩
abbrev s_law : Stmt := topS 36
theorem sc_law : FnScope ["script", "at", "store", "tree", "text", "due", "word", "found"] ["script"] (defScope s_law) := ⟨rfl, rfl, rfl, by decide +kernel, rfl, by decide +kernel, by decide +kernel⟩
structure Txt (K : PySem.W.Frag) (mg : Str → Option Value) where
  f_is_letter : Addr
  d_is_letter : FuncData
  F_is_letter : Fun K "is_letter" "is_letter" s_is_letter f_is_letter d_is_letter
  b_is_letter : Binds K d_is_letter ["thing"] []
  m_is_letter : mg "is_letter" = some (.ref f_is_letter)
  f_is_tree : Addr
  d_is_tree : FuncData
  F_is_tree : Fun K "is_tree" "is_tree" s_is_tree f_is_tree d_is_tree
  b_is_tree : Binds K d_is_tree ["thing"] []
  m_is_tree : mg "is_tree" = some (.ref f_is_tree)
  f__is_part : Addr
  d__is_part : FuncData
  F__is_part : Fun K "_is_part" "_is_part" s__is_part f__is_part d__is_part
  b__is_part : Binds K d__is_part ["thing"] []
  m__is_part : mg "_is_part" = some (.ref f__is_part)
  f_check_tree : Addr
  d_check_tree : FuncData
  F_check_tree : Fun K "check_tree" "check_tree" s_check_tree f_check_tree d_check_tree
  b_check_tree : Binds K d_check_tree ["thing"] []
  m_check_tree : mg "check_tree" = some (.ref f_check_tree)
  f_parts_upward : Addr
  d_parts_upward : FuncData
  F_parts_upward : Fun K "parts_upward" "parts_upward" s_parts_upward f_parts_upward d_parts_upward
  b_parts_upward : Binds K d_parts_upward ["tree"] []
  m_parts_upward : mg "parts_upward" = some (.ref f_parts_upward)
  f_built_upward : Addr
  d_built_upward : FuncData
  F_built_upward : Fun K "built_upward" "built_upward" s_built_upward f_built_upward d_built_upward
  b_built_upward : Binds K d_built_upward ["tree", "made"] []
  m_built_upward : mg "built_upward" = some (.ref f_built_upward)
  f__written_and_told : Addr
  d__written_and_told : FuncData
  F__written_and_told : Fun K "_written_and_told" "_written_and_told" s__written_and_told f__written_and_told d__written_and_told
  b__written_and_told : Binds K d__written_and_told ["tree"] []
  m__written_and_told : mg "_written_and_told" = some (.ref f__written_and_told)
  f__joined : Addr
  d__joined : FuncData
  F__joined : Fun K "_joined" "_joined" s__joined f__joined d__joined
  b__joined : Binds K d__joined ["letter", "below"] []
  m__joined : mg "_joined" = some (.ref f__joined)
  f_written_part : Addr
  d_written_part : FuncData
  F_written_part : Fun K "written_part" "written_part" s_written_part f_written_part d_written_part
  b_written_part : Binds K d_written_part ["letter", "texts"] []
  m_written_part : mg "written_part" = some (.ref f_written_part)
  f_written_tree : Addr
  d_written_tree : FuncData
  F_written_tree : Fun K "written_tree" "written_tree" s_written_tree f_written_tree d_written_tree
  b_written_tree : Binds K d_written_tree ["tree"] []
  m_written_tree : mg "written_tree" = some (.ref f_written_tree)
  f_read_tree : Addr
  d_read_tree : FuncData
  F_read_tree : Fun K "read_tree" "read_tree" s_read_tree f_read_tree d_read_tree
  b_read_tree : Binds K d_read_tree ["text"] []
  m_read_tree : mg "read_tree" = some (.ref f_read_tree)
  f__tree_read : Addr
  d__tree_read : FuncData
  F__tree_read : Fun K "_tree_read" "_tree_read" s__tree_read f__tree_read d__tree_read
  b__tree_read : Binds K d__tree_read ["text"] []
  m__tree_read : mg "_tree_read" = some (.ref f__tree_read)
  f__law_cell : Addr
  d__law_cell : FuncData
  F__law_cell : Fun K "_law_cell" "_law_cell" s__law_cell f__law_cell d__law_cell
  b__law_cell : Binds K d__law_cell ["script", "k"] []
  m__law_cell : mg "_law_cell" = some (.ref f__law_cell)
  f__law_store : Addr
  d__law_store : FuncData
  F__law_store : Fun K "_law_store" "_law_store" s__law_store f__law_store d__law_store
  b__law_store : Binds K d__law_store ["cell"] []
  m__law_store : mg "_law_store" = some (.ref f__law_store)
  f__law_take : Addr
  d__law_take : FuncData
  F__law_take : Fun K "_law_take" "_law_take" s__law_take f__law_take d__law_take
  b__law_take : Binds K d__law_take ["store", "many"] []
  m__law_take : mg "_law_take" = some (.ref f__law_take)
  f__law_tree : Addr
  d__law_tree : FuncData
  F__law_tree : Fun K "_law_tree" "_law_tree" s__law_tree f__law_tree d__law_tree
  b__law_tree : Binds K d__law_tree ["store", "letters", "deep"] []
  m__law_tree : mg "_law_tree" = some (.ref f__law_tree)
  f__law_formed : Addr
  d__law_formed : FuncData
  F__law_formed : Fun K "_law_formed" "_law_formed" s__law_formed f__law_formed d__law_formed
  b__law_formed : Binds K d__law_formed ["tree"] []
  m__law_formed : mg "_law_formed" = some (.ref f__law_formed)
  f__law_same : Addr
  d__law_same : FuncData
  F__law_same : Fun K "_law_same" "_law_same" s__law_same f__law_same d__law_same
  b__law_same : Binds K d__law_same ["found", "due"] []
  m__law_same : mg "_law_same" = some (.ref f__law_same)
  f__law_read : Addr
  d__law_read : FuncData
  F__law_read : Fun K "_law_read" "_law_read" s__law_read f__law_read d__law_read
  b__law_read : Binds K d__law_read ["text"] []
  m__law_read : mg "_law_read" = some (.ref f__law_read)
  f__law_spoilt : Addr
  d__law_spoilt : FuncData
  F__law_spoilt : Fun K "_law_spoilt" "_law_spoilt" s__law_spoilt f__law_spoilt d__law_spoilt
  b__law_spoilt : Binds K d__law_spoilt ["store", "text"] []
  m__law_spoilt : mg "_law_spoilt" = some (.ref f__law_spoilt)
  f__law_odd : Addr
  d__law_odd : FuncData
  F__law_odd : Fun K "_law_odd" "_law_odd" s__law_odd f__law_odd d__law_odd
  b__law_odd : Binds K d__law_odd ["store"] []
  m__law_odd : mg "_law_odd" = some (.ref f__law_odd)
  f__law_said : Addr
  d__law_said : FuncData
  F__law_said : Fun K "_law_said" "_law_said" s__law_said f__law_said d__law_said
  b__law_said : Binds K d__law_said ["text"] []
  m__law_said : mg "_law_said" = some (.ref f__law_said)
  f_law : Addr
  d_law : FuncData
  F_law : Fun K "law" "law" s_law f_law d_law
  b_law : Binds K d_law ["script"] []
  m_law : mg "law" = some (.ref f_law)
  c__joined : Addr
  P__joined : Addr
  h__joined : d__joined.code = .ref c__joined
  z_bool : mg "bool" = none
  z_dict : mg "dict" = none
  z_int : mg "int" = none
  z_isinstance : mg "isinstance" = none
  z_len : mg "len" = none
  z_list : mg "list" = none
  z_max : mg "max" = none
  z_min : mg "min" = none
  z_range : mg "range" = none
  z_sorted : mg "sorted" = none
  z_str : mg "str" = none
  z_tuple : mg "tuple" = none
  C_HeapError : Addr
  C_NoTree : Addr
  C_NoLetter : Addr
  C_NoFit : Addr
  C_TooMany : Addr
  C_NoNumber : Addr
  C_NoText : Addr
  C_NoName : Addr
  C_NoRow : Addr
  g_HeapError : mg "HeapError" = some (.ref C_HeapError)
  k_HeapError : PySem.W.keepIn K (.ref C_HeapError) = true
  g_NoTree : mg "NoTree" = some (.ref C_NoTree)
  k_NoTree : PySem.W.keepIn K (.ref C_NoTree) = true
  g_NoLetter : mg "NoLetter" = some (.ref C_NoLetter)
  k_NoLetter : PySem.W.keepIn K (.ref C_NoLetter) = true
  g_NoFit : mg "NoFit" = some (.ref C_NoFit)
  k_NoFit : PySem.W.keepIn K (.ref C_NoFit) = true
  g_TooMany : mg "TooMany" = some (.ref C_TooMany)
  k_TooMany : PySem.W.keepIn K (.ref C_TooMany) = true
  g_NoNumber : mg "NoNumber" = some (.ref C_NoNumber)
  k_NoNumber : PySem.W.keepIn K (.ref C_NoNumber) = true
  g_NoText : mg "NoText" = some (.ref C_NoText)
  k_NoText : PySem.W.keepIn K (.ref C_NoText) = true
  g_NoName : mg "NoName" = some (.ref C_NoName)
  k_NoName : PySem.W.keepIn K (.ref C_NoName) = true
  g_NoRow : mg "NoRow" = some (.ref C_NoRow)
  k_NoRow : PySem.W.keepIn K (.ref C_NoRow) = true
  x_NoTree : PySem.W.excIn K C_NoTree [.type "ValueError", .type "Exception", .type "BaseException", .type "object"] "ValueError.__new__" = true
  b_NoTree : PySem.W.subIn K (.ref C_NoTree) (.type "BaseException") = some true
  t_NoTree : PySem.W.typeIn K (.ref C_NoTree) = some (.type "type")
  E_NoTree : ExcC K C_NoTree
  em_NoTree_HeapError : PySem.W.exmOne K (.ref C_NoTree) (.ref C_HeapError) = some true
  ki_NoTree_NoTree : PySem.W.kitOne K (.ref C_NoTree) (.ref C_NoTree) = some true
  ki_NoTree_NoLetter : PySem.W.kitOne K (.ref C_NoTree) (.ref C_NoLetter) = some false
  ki_NoTree_NoFit : PySem.W.kitOne K (.ref C_NoTree) (.ref C_NoFit) = some false
  ki_NoTree_TooMany : PySem.W.kitOne K (.ref C_NoTree) (.ref C_TooMany) = some false
  ki_NoTree_NoNumber : PySem.W.kitOne K (.ref C_NoTree) (.ref C_NoNumber) = some false
  ki_NoTree_NoText : PySem.W.kitOne K (.ref C_NoTree) (.ref C_NoText) = some false
  ki_NoTree_NoName : PySem.W.kitOne K (.ref C_NoTree) (.ref C_NoName) = some false
  ki_NoTree_NoRow : PySem.W.kitOne K (.ref C_NoTree) (.ref C_NoRow) = some false
  ki_NoTree_ValueError : PySem.W.kitOne K (.ref C_NoTree) (.type "ValueError") = some true
  x_NoText : PySem.W.excIn K C_NoText [.type "ValueError", .type "Exception", .type "BaseException", .type "object"] "ValueError.__new__" = true
  b_NoText : PySem.W.subIn K (.ref C_NoText) (.type "BaseException") = some true
  t_NoText : PySem.W.typeIn K (.ref C_NoText) = some (.type "type")
  E_NoText : ExcC K C_NoText
  em_NoText_HeapError : PySem.W.exmOne K (.ref C_NoText) (.ref C_HeapError) = some true
  ki_NoText_NoTree : PySem.W.kitOne K (.ref C_NoText) (.ref C_NoTree) = some false
  ki_NoText_NoLetter : PySem.W.kitOne K (.ref C_NoText) (.ref C_NoLetter) = some false
  ki_NoText_NoFit : PySem.W.kitOne K (.ref C_NoText) (.ref C_NoFit) = some false
  ki_NoText_TooMany : PySem.W.kitOne K (.ref C_NoText) (.ref C_TooMany) = some false
  ki_NoText_NoNumber : PySem.W.kitOne K (.ref C_NoText) (.ref C_NoNumber) = some false
  ki_NoText_NoText : PySem.W.kitOne K (.ref C_NoText) (.ref C_NoText) = some true
  ki_NoText_NoName : PySem.W.kitOne K (.ref C_NoText) (.ref C_NoName) = some false
  ki_NoText_NoRow : PySem.W.kitOne K (.ref C_NoText) (.ref C_NoRow) = some false
  ki_NoText_ValueError : PySem.W.kitOne K (.ref C_NoText) (.type "ValueError") = some true
  z_ValueError : mg "ValueError" = none
structure Tbs {K : PySem.W.Frag} {mg : Str → Option Value} (T : Txt K mg) (base : Heap) : Prop where
  tb__joined : LamX.TabB base mg T.c__joined T.P__joined
abbrev q__joined : Str := "_joined" ++ ".<locals>." ++ "<lambda>"
local macro_rules | `(tactic| walk_at "my rd") => `(tactic| repeat (first | refine ⟨_, rfl, ?_⟩ | refine ⟨_, _, rfl, rfl, ?_⟩ | refine ⟨rfl, ?_⟩))
local macro_rules | `(tactic| walk_at "my one") => `(tactic| first | refine ⟨_, rfl, ?_⟩ | refine ⟨_, _, rfl, rfl, ?_⟩ | refine ⟨rfl, ?_⟩)
def Chg (p : Addr) (H H' : Hp) : Prop := ∀ b, b ≠ p → H' b = H b
theorem Chg.refl (p : Addr) (H : Hp) : Chg p H H := fun _ _ => rfl
theorem Chg.trans {p : Addr} {H H1 H2 : Hp} (a : Chg p H H1) (b : Chg p H1 H2) : Chg p H H2 := fun c hc => (b c hc).trans (a c hc)
theorem Chg.upd {p : Addr} {H : Hp} {o : HO} : Chg p H (upd H p o) := fun _ h => upd_ne h
theorem Chg.at {p b : Addr} {H H' : Hp} {o : HO} (c : Chg p H H') (h : H b = some o) (n : b ≠ p) : H' b = some o := (c b n).trans h
theorem Chg.seq {K : PySem.W.Frag} {p a : Addr} {H H' : Hp} {xs : List V} (c : Chg p H H') (hp : H p = none) (h : SqL K H a xs) : SqL K H' a xs := by
  rcases h with (h | ⟨o, h⟩) | h
  · exact .inl (.inl (c.at h (ne_of_none h hp)))
  · exact .inl (.inr ⟨o, c.at h (ne_of_none h hp)⟩)
  · exact .inr h
theorem same_new {H : Hp} {p : Addr} {o : HO} (h : H p = none) : Same H (upd H p o) := fun b u q => by rw [upd_ne (ne_of_none q h)]; exact q
theorem nn_mul {a b A B : Int} (h0 : 0 ≤ a) (h1 : a ≤ A) (g0 : 0 ≤ b) (g1 : b ≤ B) : 0 ≤ a * b ∧ a * b ≤ A * B :=
  ⟨Int.mul_nonneg h0 g0, Int.mul_le_mul h1 g1 g0 (Int.le_trans h0 h1)⟩
theorem divW {i j : Int} (h : 0 < j) (h2 : j < 2 ^ 60) : CDivW i j := wide_div (b := 60) h (by omega) (by decide) (by decide)

theorem lay_ints : ∀ xs : List Int, PyData.canLayAll0 (xs.map PyData.int) = true
  | [] => by simp only [List.map_nil, PyData.canLayAll0]
  | x :: r => by simp only [List.map_cons, PyData.canLayAll0, PyData.canLay0, lay_ints r, Bool.and_self]
theorem dep_ints : ∀ xs : List Int, PyData.depthAll (xs.map PyData.int) ≤ 1
  | [] => by simp only [List.map_nil, PyData.depthAll]; omega
  | x :: r => by
    have := dep_ints r
    simp only [List.map_cons, PyData.depthAll, PyData.depth]
    omega
theorem shaped_ints (xs : List Int) : SeqAt.shaped (.list (xs.map PyData.int)) = true := by
  have a := lay_ints xs
  have b := dep_ints xs
  unfold SeqAt.shaped
  rw [Bool.and_eq_true]
  refine ⟨by simp only [PyData.canLay0]; exact a, decide_eq_true ?_⟩
  simp only [PyData.depth]
  omega
theorem dp_ints {K : PySem.W.Frag} {H : Hp} : ∀ xs : List Int, DpAll K H (xs.map V.int) (xs.map PyData.int)
  | [] => .nil
  | x :: r => .cons (.int x) (dp_ints r)
theorem dp_intsL {K : PySem.W.Frag} {H : Hp} {a : Addr} {xs : List Int} (h : SqL K H a (xs.map V.int)) : Dp K H (.ref a) (.list (xs.map PyData.int)) := .lst h (dp_ints xs)
theorem eqv_self {d : PyData} (h : SeqAt.shaped d = true) : PyData.eqv d d = true := SeqAt.eqv_refl d (SeqAt.canLay_of_shaped h)

inductive Tr where
  | node (c : Nat) (ks : List Tr)
def ch (c : Nat) : Str := ⟨#[c]⟩
mutual
def Tr.size : Tr → Nat
  | .node _ ks => 1 + sizes ks
def sizes : List Tr → Nat
  | [] => 0
  | t :: r => t.size + sizes r
end
mutual
def Tr.depth : Tr → Nat
  | .node _ ks => 1 + depths ks
def depths : List Tr → Nat
  | [] => 0
  | t :: r => max t.depth (depths r)
end
mutual
def Tr.post : Tr → List Tr
  | .node c ks => posts ks ++ [.node c ks]
def posts : List Tr → List Tr
  | [] => []
  | t :: r => t.post ++ posts r
end

mutual
def Tr.lets (p : Nat → Prop) : Tr → Prop
  | .node c ks => p c ∧ letss p ks
def letss (p : Nat → Prop) : List Tr → Prop
  | [] => True
  | t :: r => t.lets p ∧ letss p r
end
def Tr.kids : Tr → List Tr
  | .node _ ks => ks
def Tr.top : Tr → Nat
  | .node c _ => c
theorem sizes_append : ∀ a b : List Tr, sizes (a ++ b) = sizes a + sizes b
  | [], b => by simp only [List.nil_append, sizes]; omega
  | t :: r, b => by simp only [List.cons_append, sizes, sizes_append r b]; omega
theorem depths_append : ∀ a b : List Tr, depths (a ++ b) = max (depths a) (depths b)
  | [], b => by simp only [List.nil_append, depths]; omega
  | t :: r, b => by simp only [List.cons_append, depths, depths_append r b]; omega
theorem posts_append : ∀ a b : List Tr, posts (a ++ b) = posts a ++ posts b
  | [], b => by simp only [List.nil_append, posts]
  | t :: r, b => by simp only [List.cons_append, posts, posts_append r b, List.append_assoc]
theorem letss_append (p : Nat → Prop) : ∀ a b : List Tr, letss p (a ++ b) ↔ letss p a ∧ letss p b
  | [], b => by simp only [List.nil_append, letss, true_and]
  | t :: r, b => by simp only [List.cons_append, letss, letss_append p r b, and_assoc]
theorem size_pos : ∀ t : Tr, 1 ≤ t.size
  | .node c ks => by simp only [Tr.size]; omega
theorem len_sizes : ∀ ts : List Tr, ts.length ≤ sizes ts
  | [] => Nat.le_refl _
  | t :: r => by
    have a := size_pos t
    have b := len_sizes r
    simp only [List.length_cons, sizes]
    omega
mutual
theorem post_len : ∀ t : Tr, t.post.length = t.size
  | .node c ks => by simp only [Tr.post, List.length_append, posts_len ks, List.length_singleton, Tr.size]; omega
theorem posts_len : ∀ ts : List Tr, (posts ts).length = sizes ts
  | [] => rfl
  | t :: r => by simp only [posts, List.length_append, post_len t, posts_len r, sizes]
end
theorem sizes_mem : ∀ {ts : List Tr} {t : Tr}, t ∈ ts → t.size ≤ sizes ts
  | u :: r, t, h => by
    rcases List.mem_cons.mp h with e | h
    · subst e; simp only [sizes]; omega
    · have := sizes_mem h
      simp only [sizes]; omega
theorem depths_mem : ∀ {ts : List Tr} {t : Tr}, t ∈ ts → t.depth ≤ depths ts
  | u :: r, t, h => by
    rcases List.mem_cons.mp h with e | h
    · subst e; simp only [depths]; omega
    · have := depths_mem h
      simp only [depths]; omega
theorem letss_mem {p : Nat → Prop} : ∀ {ts : List Tr} {t : Tr}, letss p ts → t ∈ ts → t.lets p
  | u :: r, t, hl, h => by
    simp only [letss] at hl
    rcases List.mem_cons.mp h with e | h
    · subst e; exact hl.1
    · exact letss_mem hl.2 h
mutual
theorem lets_mono {p q : Nat → Prop} (h : ∀ c, p c → q c) : ∀ t : Tr, t.lets p → t.lets q
  | .node c ks, a => by
    simp only [Tr.lets] at a ⊢
    exact ⟨h _ a.1, letss_mono h ks a.2⟩
theorem letss_mono {p q : Nat → Prop} (h : ∀ c, p c → q c) : ∀ ts : List Tr, letss p ts → letss q ts
  | [], _ => trivial
  | t :: r, a => by
    simp only [letss] at a ⊢
    exact ⟨lets_mono h t a.1, letss_mono h r a.2⟩
end
mutual
inductive TrAt (ok : Addr → Prop) (H : Hp) : V → Tr → Prop
  | node {a l : Addr} {vs : List V} {c : Nat} {ks : List Tr} : H a = some (.tup [.str (ch c), .ref l]) → H l = some (.lst vs) → ok a → ok l → 97 ≤ c → c ≤ 122 → TrsAt ok H vs ks → TrAt ok H (.ref a) (.node c ks)
inductive TrsAt (ok : Addr → Prop) (H : Hp) : List V → List Tr → Prop
  | nil : TrsAt ok H [] []
  | cons {v : V} {vs : List V} {t : Tr} {ts : List Tr} : TrAt ok H v t → TrsAt ok H vs ts → TrsAt ok H (v :: vs) (t :: ts)
end
section
variable {ok ok' : Addr → Prop} {H H' : Hp}
mutual
theorem TrAt.imp (hk : ∀ b, ok b → ok' b) (h : ∀ b o, ok b → H b = some o → H' b = some o) : ∀ (t : Tr) (v : V), TrAt ok H v t → TrAt ok' H' v t
  | .node c ks, v, x => by
    cases x with
    | node h1 h2 k1 k2 c1 c2 r => exact .node (h _ _ k1 h1) (h _ _ k2 h2) (hk _ k1) (hk _ k2) c1 c2 (TrsAt.imp hk h ks _ r)
theorem TrsAt.imp (hk : ∀ b, ok b → ok' b) (h : ∀ b o, ok b → H b = some o → H' b = some o) : ∀ (ts : List Tr) (vs : List V), TrsAt ok H vs ts → TrsAt ok' H' vs ts
  | [], _, x => by cases x; exact .nil
  | t :: r, _, x => by
    cases x with
    | cons a b => exact .cons (TrAt.imp hk h t _ a) (TrsAt.imp hk h r _ b)
end
theorem TrAt.keep {v : V} {t : Tr} (x : TrAt ok H v t) (h : ∀ b o, ok b → H b = some o → H' b = some o) : TrAt ok H' v t := TrAt.imp (fun _ k => k) h t v x
theorem TrsAt.keep {vs : List V} {ts : List Tr} (x : TrsAt ok H vs ts) (h : ∀ b o, ok b → H b = some o → H' b = some o) : TrsAt ok H' vs ts := TrsAt.imp (fun _ k => k) h ts vs x
theorem TrAt.weak {v : V} {t : Tr} (x : TrAt ok H v t) (h : ∀ b, ok b → ok' b) : TrAt ok' H v t := TrAt.imp h (fun _ _ _ e => e) t v x
theorem TrsAt.weak {vs : List V} {ts : List Tr} (x : TrsAt ok H vs ts) (h : ∀ b, ok b → ok' b) : TrsAt ok' H vs ts := TrsAt.imp h (fun _ _ _ e => e) ts vs x
mutual
theorem TrAt.there : ∀ (t : Tr) (v : V), TrAt ok H v t → TrAt (fun b => ok b ∧ ∃ o, H b = some o) H v t
  | .node c ks, v, x => by
    cases x with
    | node h1 h2 k1 k2 c1 c2 r => exact .node h1 h2 ⟨k1, _, h1⟩ ⟨k2, _, h2⟩ c1 c2 (TrsAt.there ks _ r)
theorem TrsAt.there : ∀ (ts : List Tr) (vs : List V), TrsAt ok H vs ts → TrsAt (fun b => ok b ∧ ∃ o, H b = some o) H vs ts
  | [], _, x => by cases x; exact .nil
  | t :: r, _, x => by
    cases x with
    | cons a b => exact .cons (TrAt.there t _ a) (TrsAt.there r _ b)
end
theorem TrsAt.len : ∀ {vs : List V} {ts : List Tr}, TrsAt ok H vs ts → vs.length = ts.length
  | [], [], _ => rfl
  | v :: vs, t :: ts, h => by
    cases h with
    | cons a b => simp only [List.length_cons, TrsAt.len b]
  | [], _ :: _, h => by cases h
  | _ :: _, [], h => by cases h
theorem TrsAt.get : ∀ {vs : List V} {ts : List Tr} {i : Nat} {t : Tr}, TrsAt ok H vs ts → ts[i]? = some t → ∃ v, vs[i]? = some v ∧ TrAt ok H v t
  | _, _, i, t, .nil, e => by simp at e
  | _, _, 0, t, .cons a _, e => by simp at e; subst e; exact ⟨_, rfl, a⟩
  | _, _, i + 1, t, .cons _ b, e => by
    obtain ⟨v, h1, h2⟩ := TrsAt.get (i := i) (t := t) b (by simpa using e)
    exact ⟨v, by simpa using h1, h2⟩
theorem TrsAt.getV : ∀ {vs : List V} {ts : List Tr} {i : Nat} {v : V}, TrsAt ok H vs ts → vs[i]? = some v → ∃ t, ts[i]? = some t ∧ TrAt ok H v t
  | _, _, i, t, .nil, e => by simp at e
  | _, _, 0, t, .cons a _, e => by simp at e; subst e; exact ⟨_, rfl, a⟩
  | _, _, i + 1, t, .cons _ b, e => by
    obtain ⟨v, h1, h2⟩ := TrsAt.getV (i := i) (v := t) b (by simpa using e)
    exact ⟨v, by simpa using h1, h2⟩
theorem TrsAt.append : ∀ {vs ws : List V} {ts us : List Tr}, TrsAt ok H vs ts → TrsAt ok H ws us → TrsAt ok H (vs ++ ws) (ts ++ us)
  | [], _, [], _, _, h => h
  | v :: vs, _, t :: ts, _, h, g => by
    cases h with
    | cons a b => exact .cons a (TrsAt.append b g)
  | [], _, _ :: _, _, h, _ => by cases h
  | _ :: _, _, [], _, h, _ => by cases h
theorem TrsAt.split : ∀ {vs ws : List V} {ts : List Tr}, TrsAt ok H (vs ++ ws) ts → ∃ a b, ts = a ++ b ∧ TrsAt ok H vs a ∧ TrsAt ok H ws b
  | [], ws, ts, h => ⟨[], ts, rfl, .nil, h⟩
  | v :: vs, ws, _, h => by
    cases h with
    | cons x y =>
      obtain ⟨a, b, e, h1, h2⟩ := TrsAt.split y
      exact ⟨_ :: a, b, by rw [e]; rfl, .cons x h1, h2⟩
theorem TrsAt.perm {vs ws : List V} (p : vs.Perm ws) : ∀ {ts : List Tr}, TrsAt ok H vs ts → ∃ us, ts.Perm us ∧ TrsAt ok H ws us := by
  induction p with
  | nil => intro ts h; exact ⟨ts, .refl _, h⟩
  | cons x _ ih =>
    intro ts h
    cases h with
    | cons a b =>
      obtain ⟨us, p1, h1⟩ := ih b
      exact ⟨_ :: us, p1.cons _, .cons a h1⟩
  | swap x y l =>
    intro ts h
    cases h with
    | cons a b =>
      cases b with
      | cons c d => exact ⟨_, .swap _ _ _, .cons c (.cons a d)⟩
  | trans _ _ ih1 ih2 =>
    intro ts h
    obtain ⟨us, p1, h1⟩ := ih1 h
    obtain ⟨ws, p2, h2⟩ := ih2 h1
    exact ⟨ws, p1.trans p2, h2⟩
theorem TrsAt.rev {vs : List V} {ts : List Tr} (h : TrsAt ok H vs ts) : TrsAt ok H vs.reverse ts.reverse := by
  induction vs generalizing ts with
  | nil => cases h; exact .nil
  | cons v vs ih =>
    cases h with
    | cons a b =>
      rw [List.reverse_cons, List.reverse_cons]
      exact (ih b).append (.cons a .nil)
end
theorem sizes_perm {a b : List Tr} (p : a.Perm b) : sizes a = sizes b := by
  induction p with
  | nil => rfl
  | cons x _ ih => simp only [sizes, ih]
  | swap x y l => simp only [sizes]; omega
  | trans _ _ ih1 ih2 => exact ih1.trans ih2
theorem depths_perm {a b : List Tr} (p : a.Perm b) : depths a = depths b := by
  induction p with
  | nil => rfl
  | cons x _ ih => simp only [depths, ih]
  | swap x y l => simp only [depths]; omega
  | trans _ _ ih1 ih2 => exact ih1.trans ih2
theorem letss_perm {p : Nat → Prop} {a b : List Tr} (h : a.Perm b) : letss p a → letss p b := by
  induction h with
  | nil => exact id
  | cons x _ ih =>
    intro q
    simp only [letss] at q ⊢
    exact ⟨q.1, ih q.2⟩
  | swap x y l =>
    intro q
    simp only [letss] at q ⊢
    exact ⟨q.2.1, q.1, q.2.2⟩
  | trans _ _ ih1 ih2 => exact fun q => ih2 (ih1 q)
mutual
inductive Sh : Tr → Tr → Prop
  | node {c : Nat} {ks us ls : List Tr} : ks.Perm us → Shs us ls → Sh (.node c ks) (.node c ls)
inductive Shs : List Tr → List Tr → Prop
  | nil : Shs [] []
  | cons {t u : Tr} {ts us : List Tr} : Sh t u → Shs ts us → Shs (t :: ts) (u :: us)
end
mutual
theorem Sh.refl : ∀ t : Tr, Sh t t
  | .node c ks => .node (.refl _) (Shs.refl ks)
theorem Shs.refl : ∀ ts : List Tr, Shs ts ts
  | [] => .nil
  | t :: r => .cons (Sh.refl t) (Shs.refl r)
end
mutual
theorem Sh.size : ∀ {t u : Tr}, Sh t u → t.size = u.size
  | _, _, .node p h => by simp only [Tr.size, sizes_perm p, Shs.sizes h]
theorem Shs.sizes : ∀ {ts us : List Tr}, Shs ts us → My.sizes ts = My.sizes us
  | _, _, .nil => rfl
  | _, _, .cons a b => by simp only [My.sizes, Sh.size a, Shs.sizes b]
end
mutual
theorem Sh.depth : ∀ {t u : Tr}, Sh t u → t.depth = u.depth
  | _, _, .node p h => by simp only [Tr.depth, depths_perm p, Shs.depths h]
theorem Shs.depths : ∀ {ts us : List Tr}, Shs ts us → My.depths ts = My.depths us
  | _, _, .nil => rfl
  | _, _, .cons a b => by simp only [My.depths, Sh.depth a, Shs.depths b]
end
mutual
theorem Sh.lets {p : Nat → Prop} : ∀ {t u : Tr}, Sh t u → t.lets p → u.lets p
  | _, _, .node q h, a => by
    simp only [Tr.lets] at a ⊢
    exact ⟨a.1, Shs.letss h (letss_perm q a.2)⟩
theorem Shs.letss {p : Nat → Prop} : ∀ {ts us : List Tr}, Shs ts us → My.letss p ts → My.letss p us
  | _, _, .nil, a => a
  | _, _, .cons x y, a => by
    simp only [My.letss] at a ⊢
    exact ⟨Sh.lets x a.1, Shs.letss y a.2⟩
end
theorem Shs.len : ∀ {ts us : List Tr}, Shs ts us → ts.length = us.length
  | _, _, .nil => rfl
  | _, _, .cons a b => by simp only [List.length_cons, Shs.len b]
theorem Shs.append : ∀ {ts us ts' us' : List Tr}, Shs ts us → Shs ts' us' → Shs (ts ++ ts') (us ++ us')
  | _, _, _, _, .nil, h => h
  | _, _, _, _, .cons a b, h => .cons a (Shs.append b h)

def Fr (p : Addr) (H H' : Hp) : Prop := ∀ b o, b ≠ p → H b = some o → H' b = some o
theorem Fr.refl (p : Addr) (H : Hp) : Fr p H H := fun _ _ _ h => h
theorem Fr.trans {p : Addr} {H H1 H2 : Hp} (a : Fr p H H1) (b : Fr p H1 H2) : Fr p H H2 := fun c o n h => b c o n (a c o n h)
theorem Fr.same {p : Addr} {H H' : Hp} (s : Same H H') : Fr p H H' := fun b o _ h => s b o h
theorem Fr.chg {p : Addr} {H H' : Hp} (c : Chg p H H') : Fr p H H' := fun _ _ n h => c.at h n
theorem Fr.new {p q : Addr} {H H' : Hp} {o : HO} (f : Fr p H H') (h : H q = none) : Fr p H (upd H' q o) := fun b u n e => by
  rw [upd_ne (ne_of_none e h)]
  exact f b u n e
theorem same_add {q : Addr} {H H' : Hp} {o : HO} (f : Same H H') (h : H q = none) : Same H (upd H' q o) := fun b u e => by
  rw [upd_ne (ne_of_none e h)]
  exact f b u e
theorem Fr.free {p q : Addr} {H H' : Hp} (f : Fr p H H') (hp : H' p ≠ none) (h : H' q = none) : H q = none := by
  cases e : H q with
  | none => rfl
  | some o =>
    by_cases hq : q = p
    · subst hq; exact absurd h hp
    · rw [f q o hq e] at h; cases h
theorem Fr.seq {K : PySem.W.Frag} {p a : Addr} {H H' : Hp} {xs : List V} (c : Fr p H H') (hp : H p = none) (h : SqL K H a xs) : SqL K H' a xs := by
  rcases h with (h | ⟨o, h⟩) | h
  · exact .inl (.inl (c _ _ (ne_of_none h hp) h))
  · exact .inl (.inr ⟨o, c _ _ (ne_of_none h hp) h⟩)
  · exact .inr h
theorem TrAt.same {ok : Addr → Prop} {H H' : Hp} {v : V} {t : Tr} (x : TrAt ok H v t) (s : Same H H') : TrAt ok H' v t := x.keep fun b o _ h => s b o h
theorem TrsAt.same {ok : Addr → Prop} {H H' : Hp} {vs : List V} {ts : List Tr} (x : TrsAt ok H vs ts) (s : Same H H') : TrsAt ok H' vs ts := x.keep fun b o _ h => s b o h
theorem TrAt.off {ok : Addr → Prop} {H : Hp} {v : V} {t : Tr} {w : Addr} (x : TrAt ok H v t) (h : H w = none) : TrAt (fun b => ok b ∧ b ≠ w) H v t :=
  (TrAt.there t v x).weak fun b ⟨k, o, e⟩ => ⟨k, ne_of_none e h⟩
theorem TrsAt.off {ok : Addr → Prop} {H : Hp} {vs : List V} {ts : List Tr} {w : Addr} (x : TrsAt ok H vs ts) (h : H w = none) : TrsAt (fun b => ok b ∧ b ≠ w) H vs ts :=
  (TrsAt.there ts vs x).weak fun b ⟨k, o, e⟩ => ⟨k, ne_of_none e h⟩
theorem upd_keep {H : Hp} {w : Addr} {o : HO} {ok : Addr → Prop} (h : ∀ b, ok b → b ≠ w) : ∀ b u, ok b → H b = some u → (upd H w o) b = some u := fun b u k e => by
  rw [upd_ne (h b k)]
  exact e
theorem lc_outer {K : PySem.W.Frag} {a : Addr} {xs : List V} {Bd : V → Hp → (Hp → Prop) → Prop} {Qd : Hp → Prop} {H0 : Hp} (Pv : Nat → Hp → Prop) (h0 : Pv 0 H0) (hl : ∀ i H, i ≤ xs.length → Pv i H → SqL K H a xs)
    (hs : ∀ i x H, xs[i]? = some x → Pv i H → Bd x H (Pv (i + 1))) (hd : ∀ H, Pv xs.length H → Qd H) :
    ∃ W : Nat → Nat → Hp → Prop, (∃ m, W 0 m H0) ∧ ∀ i m H, W i m H → ((Itl K a).stop i H ∧ Qd H) ∨ ((Itl K a).go i H ∧ ∃ Nx : Hp → Prop, (∀ H', Nx H' → ∃ m', m' < m ∧ W (i + 1) m' H') ∧ ∀ x H', (Itl K a).yld i H x H' → Bd x H' Nx) := by
  refine ⟨fun i m H => m = xs.length - i ∧ i ≤ xs.length ∧ Pv i H, ⟨xs.length, by simp, Nat.zero_le _, h0⟩, ?_⟩
  rintro i m H ⟨rfl, hi, p⟩
  have q := hl i H hi p
  by_cases hlt : i < xs.length
  · refine .inr ⟨⟨xs, xs[i], q, by simp [hlt]⟩, Pv (i + 1), fun H' p' => ⟨xs.length - (i + 1), by omega, rfl, hlt, p'⟩, fun x H' y => ?_⟩
    obtain ⟨e, y⟩ := y
    subst e
    exact hs i x _ (y xs q) p
  · have e : i = xs.length := by omega
    subst e
    exact .inl ⟨⟨xs, q, Nat.le_refl _⟩, hd H p⟩
theorem take_succ_of {α : Type} {l : List α} {i : Nat} {x : α} (h : l[i]? = some x) : l.take (i + 1) = l.take i ++ [x] := by
  rw [List.take_add_one, h]
  rfl

def RowL (params : Arguments) (scope : PySem.Scope) (body : PySem.Expr) : Prop :=
  (∃ (x : Str) (p1 p2 p3 : Pos) (k0 : Nat), body = .Subscript (.Name x p1) (.Constant (.int 0) k0 p2) p3 ∧ (x == Str.ofString "__debug__") = false ∧ scope.names = [(x, .local)] ∧
    ∀ (fd : FuncData) (u : Value), fd.params = params → fd.defaults = .none → fd.kwdefaults = .none → bindArgs fd ⟨[u], []⟩ = pure [(x, u)]) ∧
  scope.kind = .function ∧ scope.isGenerator = false ∧ scope.isCoroutine = false
theorem row_call {P : Program} {w : World} {A : Around} {s : Shared} {f p c' : Addr} {nm q : Str} {params : Arguments} {scope : PySem.Scope} {body : PySem.Expr} {clos : List (Str × Addr)} {pm ctv : Value} {its : Array Value} {x : Str} {tx : Tok}
    (R : RowL params scope body) (hd : A.depth < recursionLimit) (hf : s.heap.get? f = some (PySem.W.kla_obj nm q params body scope clos pm c' ctv))
    (hc : s.heap.CodeRec (.ref c') q) (hn : s.heap.NoLimit) (ht : IsTup s.heap p its) (h0 : its[0]? = some (.str x tx)) :
    wpAny (model P w) A (call (.ref f) [.ref p]) (PySem.W.KeyPure (.str x) s) (fun _ _ => False) s := by
  obtain ⟨⟨z, p1, p2, p3, k0, rfl, hz, hnm, hb⟩, hk, hg, ho⟩ := R
  refine wpAny_call ?_
  refine PySem.W.kla_callFunE hd hf rfl ho hg rfl hc ?_
  refine BindsTo.of_eq (hb _ _ rfl rfl rfl) _ _ _ _ ?_
  refine wpAny_newFunctionEnv (by intro y hy; rw [show (PySem.W.kla_fn nm q params _ scope clos pm (.ref c') ctv).scope.names = _ from hnm] at hy; simp only [List.mem_singleton] at hy; subst hy; simp) (by intro y hy; simp only [List.mem_singleton] at hy; subst hy; rw [show (PySem.W.kla_fn nm q params _ scope clos pm (.ref c') ctv).scope.names = _ from hnm]; simp) (fun h' hns hsame => ?_) hk
  have hkeep : ∀ b o, s.heap.get? b = some o → h'.get? b = some o := by
    intro b o hb
    have hne : b ≠ s.heap.objs.size := fun e => by
      rw [e] at hb
      simp [Heap.get?] at hb
    rw [hsame.2 b hne]
    exact Heap.get?_push_of_some _ hb
  refine ⟨hn.keeps hkeep, PySem.W.kla_codeExpr ?_⟩
  refine Subscript_Constant (wpAny_Name (wpAny_loadName_local (m := fun y => List.lookup y [(z, Value.ref p)].reverse) (v := .ref p) hk ?_ hns ?_ ?_) hz)
  · simp [Env.kindOf, newEnv, hnm]
  · simp
  refine wpAny_Constant_int ?_
  obtain ⟨o, g1, g2, n, g3⟩ := ht
  have ht' : IsTup h' p its := ⟨o, hkeep _ _ g1, g2, n, g3⟩
  refine ⟨"tuple", _, rfl, ⟨o, hkeep _ _ g1, g2⟩, ?_⟩
  have hz0 : its.size ≠ 0 := fun e => by
    rw [Array.getElem?_eq_none (by omega)] at h0
    cases h0
  refine getItem_tuple (j := 0) ht' (by decide) (by decide) ?_ h0 ?_
  · simp [seqIndex?]
    intro e
    rw [e] at hz0
    exact hz0 rfl
  exact ⟨h', _, rfl, hkeep, .str _ _⟩

def leS (a b : V × Str) : Bool := decide (a.2.cps.toList ≤ b.2.cps.toList)
def RowO (f c : Addr) (q : Str) : HO := .ext fun h => ∃ nm params body scope clos pm ctv, h.get? f = some (PySem.W.kla_obj nm q params body scope clos pm c ctv) ∧ RowL params scope body
def rSortRow : List V → List V → Hp → VK → Prop := fun xs zs H Q => ∃ (a f c : Addr) (q : Str) (bs : List (V × Str)), xs = [.ref a] ∧ zs = [.ref f] ∧ H f = some (RowO f c q) ∧ H c = some (LamX.CodeO c q) ∧ H a = some (.lst (bs.map Prod.fst)) ∧
  (∀ b ∈ bs, ∃ p rest, b.1 = .ref p ∧ H p = some (.tup (.str b.2 :: rest))) ∧ bs.length ≤ sizeLine ∧ ∀ r, H r = none → Q (.ref r) (upd H r (.lst ((bs.mergeSort leS).map Prod.fst)))
def RowR (H : Hp) (v : Value) (b : V × Str) : Prop := RelV b.1 v ∧ ∃ p rest, b.1 = .ref p ∧ H p = some (.tup (.str b.2 :: rest))
theorem eachRow {H : Hp} : ∀ {bs : List (V × Str)} {its : List Value}, Vals (bs.map Prod.fst) its → (∀ b ∈ bs, ∃ p rest, b.1 = .ref p ∧ H p = some (.tup (.str b.2 :: rest))) → PySem.W.EachIs (RowR H) its bs
  | [], _, v, _ => by cases v; exact .nil
  | b :: r, _, v, h => by
    cases v with
    | cons g1 g2 => exact .cons ⟨g1, h b (by simp)⟩ (eachRow g2 fun x hx => h x (by simp [hx]))
theorem rowEach {H : Hp} : ∀ {bs : List (V × Str)} {its : List Value}, PySem.W.EachIs (RowR H) its bs → Vals (bs.map Prod.fst) its
  | [], _, v => by cases v; exact .nil
  | b :: r, _, v => by
    cases v with
    | cons g1 g2 => exact .cons g1.1 (rowEach g2)
theorem cr_sortRow {X : Cx} {k : Nat} (hr : Room k X.A) : CallRK X (.builtin "sorted") ["key"] rSortRow := by
  intro pins s σ H xs zs us ws Q I hv hw h
  obtain ⟨a, f, c, q, bs, rfl, rfl, hf, hc, ha, hp, hz, q2⟩ := h
  cases hv with
  | cons g1 g2 =>
  cases g2
  cases hw with
  | cons g3 g4 =>
  cases g4
  cases g1
  cases g3
  have oa := I.hok _ _ ha
  have of := I.hok _ _ hf
  have oc := I.hok _ _ hc
  obtain ⟨nm, params, body, scope, clos, pm, ctv, hfo, hR⟩ := of.1
  obtain ⟨oz, its, n, hits, hao⟩ := oa
  refine PySem.W.sorted_key_data (vs := its) (bs := bs) (R := RowR H) (f := .ref f) (b := false) (fun b => .str b.2) ⟨_, hao, rfl, n, rfl⟩ (eachRow hits hp) ?_ ?_ hz ?_ (ksk_s1 _ _) (fun x => ksk_l1 _ _) (fun x => ?_) (fun v x hv hx h tk hk => ?_) (fun out c' h' tk hk hn ho hl he => ?_)
  · intro d hd d' hd'
    simp only [List.mem_map] at hd hd'
    obtain ⟨_, _, rfl⟩ := hd
    obtain ⟨_, _, rfl⟩ := hd'
    rfl
  · refine .inr fun d hd => ?_
    simp only [List.mem_map] at hd
    obtain ⟨_, _, rfl⟩ := hd
    exact ⟨by simp, by simp⟩
  · intro x _
    have := hr.un
    have e : (PyData.str x.2).depth = 0 := rfl
    omega
  · rfl
  · obtain ⟨hv1, p, rest, e1, e2⟩ := hv
    obtain ⟨v1, w1⟩ := x
    dsimp only at e1 hv1 e2 hx ⊢
    subst e1
    cases hv1
    have op := I.hok _ _ e2
    obtain ⟨_, its2, g1, g2, g3, n2, g4⟩ := op
    cases g1 with
    | cons k1 k2 =>
    obtain ⟨tx, rfl⟩ := k1
    obtain ⟨oc', vs', t', c1, c2, c3⟩ := oc.1
    refine row_call (its := _) (x := w1) (tx := tx) hR ?_ (hk _ _ hfo) ⟨_, _, _, _, rfl, hk _ _ c1, c2, c3⟩ (I.nolimit.keeps hk) ⟨g2, hk _ _ g3, n2, g4⟩ (by simp)
    have := hr.dp
    show X.A.depth < recursionLimit
    omega
  · refine ⟨.ref (s.heap.objs.size + 1), _, I.laid (a := s.heap.objs.size + 1) (o := .lst ((bs.mergeSort leS).map Prod.fst)) hk (by omega) ?_, rfl, q2 _ ?_⟩
    · have e : PySem.W.dataLe false (fun b : V × Str => PyData.str b.2) = leS := PySem.W.dataLe_str _
      rw [e] at he
      exact ⟨by simpa using hz, out, c', rowEach he, ho⟩
    · exact I.hok.fresh (by omega)
theorem rowO_ok {P : Program} {w : World} {H : Hp} {h : Heap} {c : Addr} {nm q : Str} {params : Arguments} {scope : PySem.Scope} {body : PySem.Expr} {clos : List (Str × Addr)} {pm ctv : Value} (hR : RowL params scope body) :
    ObjOk P w H (h.push (PySem.W.kla_obj nm q params body scope clos pm c ctv)) h.objs.size (RowO h.objs.size c q) := by
  have e : (h.push (PySem.W.kla_obj nm q params body scope clos pm c ctv)).get? h.objs.size = some (PySem.W.kla_obj nm q params body scope clos pm c ctv) := Heap.get?_push_size _ rfl
  refine ⟨⟨_, _, _, _, _, _, _, e, hR⟩, ⟨_, e⟩, fun h1 h2 ⟨a1, a2, a3, a4, a5, a6, a7, e1, e2⟩ k => ⟨a1, a2, a3, a4, a5, a6, a7, k _ e1, e2⟩⟩
theorem pe_lamRow {X : Cx} {c P : Addr} {params : Arguments} {body : PySem.Expr} {scope : PySem.Scope} {pos : Pos} (tb : LamX.TabB X.base X.mg c P) (hc : X.env.code = .ref c) (hd : defaultsOf params X.env = ([], []))
    (hR : RowL params scope body) : PE X (.Lambda params body scope pos) (fun σ H Q => LamX.TabS H P (X.env.qual ++ "<lambda>") ∧ ∀ (f c : Addr) (H1 : Hp), Fr P H H1 → LamX.TabS H1 P (X.env.qual ++ "<lambda>") → H1 f = some (RowO f c (X.env.qual ++ "<lambda>")) → H1 c = some (LamX.CodeO c (X.env.qual ++ "<lambda>")) → Q (.ref f) H1) := by
  refine ⟨fun pins s σ H Q I h => ?_⟩
  obtain ⟨ht, q⟩ := h
  have hclo : closureFor scope X.env = pure (cloFrom X.env.cells scope.names []) := by
    refine closure_ok ?_
    intro y hy he
    obtain ⟨⟨z, p1, p2, p3, k0, rfl, hz, hnm, hb⟩, hk, hg, ho⟩ := hR
    rw [hnm] at hy
    simp only [List.mem_singleton] at hy
    subst hy
    cases he
  have ht' := ht
  obtain ⟨ps, hP, hT, hA⟩ := ht'
  have oP : s.heap.get? P = some (PySem.W.tabObj ps) := I.hok _ _ hP
  refine PySem.W.kla_eval hd ?_
  cases hcd : codeAmong pos ps.toList with
  | some cv =>
    obtain ⟨c', rfl, hc'⟩ := hA _ _ hcd
    refine PySem.W.kla_makeFunctionHit hclo I.ok.glob (I.mod.glob.keeps I.bk) hc (tb.code.keeps I.bk) oP hT hcd (tb.bm.keeps I.bk) (fun ctv h' tk hk hs => ?_)
    have I1 := I.kept (t' := tk) hk
    have hz : s.heap.objs.size ≤ h'.objs.size := hs
    have hn : H h'.objs.size = none := I.hok.fresh hz
    refine ⟨.ref h'.objs.size, upd H h'.objs.size (RowO h'.objs.size c' (X.env.qual ++ "<lambda>")), ?_, rfl, q _ c' _ (fun b o _ hb => ?_) (ht.ext fun b o hb => ?_) upd_same ?_⟩
    · exact I1.laid (h' := h'.push _) (t' := tk) (fun b u hb => Heap.get?_push_of_some _ hb) (Nat.le_refl _) (rowO_ok hR)
    · rw [upd_ne (ne_of_none hb hn)]; exact hb
    · rw [upd_ne (ne_of_none hb hn)]; exact hb
    · rw [upd_ne (ne_of_none hc' hn)]; exact hc'
  | none =>
    refine PySem.W.kla_makeFunction hclo I.ok.glob (I.mod.glob.keeps I.bk) hc (tb.code.keeps I.bk) oP hT hcd tb.gP (tb.bm.keeps I.bk) (fun c' ctv h' tk he hl hu hrec hP' => ?_)
    obtain ⟨c2, o2, vs2, t2, ec, e1, e2, e3⟩ := hrec
    cases ec
    have I2 := LamX.inv_table (t' := tk) (c := c') (q := X.env.qual ++ "<lambda>") I hP he (more := #[rawInt ↑pos.line, rawInt ↑pos.col, .ref c']) hP' hl ⟨_, _, _, e1, e2, e3⟩
    have hn : (upd (upd H P (.tbl (ps ++ #[rawInt ↑pos.line, rawInt ↑pos.col, .ref c']))) c' (LamX.CodeO c' (X.env.qual ++ "<lambda>"))) h'.objs.size = none := I2.hok.fresh (Nat.le_refl _)
    have hcn : H c' = none := I.hok.fresh hl
    have hPc : P ≠ c' := fun e => by rw [e] at hP; rw [hcn] at hP; cases hP
    refine ⟨.ref h'.objs.size, _, I2.laid (h' := h'.push _) (o := RowO h'.objs.size c' (X.env.qual ++ "<lambda>")) (t' := tk) (fun b u hb => Heap.get?_push_of_some _ hb) (Nat.le_refl _) (rowO_ok hR), rfl, q _ c' _ ?_ ?_ upd_same ?_⟩
    · intro b o hbP hb
      have h1 : (upd (upd H P (.tbl (ps ++ #[rawInt ↑pos.line, rawInt ↑pos.col, .ref c']))) c' (LamX.CodeO c' (X.env.qual ++ "<lambda>"))) b = some o := by
        rw [upd_ne (ne_of_none hb hcn), upd_ne hbP]; exact hb
      rw [upd_ne (ne_of_none h1 hn)]; exact h1
    · refine LamX.TabS.ext (H := upd (upd H P (.tbl (ps ++ #[rawInt ↑pos.line, rawInt ↑pos.col, .ref c']))) c' (LamX.CodeO c' (X.env.qual ++ "<lambda>"))) ?_ (fun b o hb => by rw [upd_ne (ne_of_none hb hn)]; exact hb)
      refine ⟨_, by rw [upd_ne hPc]; exact upd_same, ?_, ?_⟩
      · simpa using TriplesOk_snoc _ _ _ _ hT
      · intro pos2 cv hcv
        rw [Array.toList_append] at hcv
        rcases LamX.among_app _ hT hcv with h | h
        · obtain ⟨c3, e3, h3⟩ := hA _ _ h
          refine ⟨c3, e3, ?_⟩
          rw [upd_ne (ne_of_none h3 hcn), upd_ne (fun e => by rw [e, hP] at h3; cases h3)]
          exact h3
        · exact ⟨c', h, upd_same⟩
    · have h1 : (upd (upd H P (.tbl (ps ++ #[rawInt ↑pos.line, rawInt ↑pos.col, .ref c']))) c' (LamX.CodeO c' (X.env.qual ++ "<lambda>"))) c' = some (LamX.CodeO c' (X.env.qual ++ "<lambda>")) := upd_same
      rw [upd_ne (ne_of_none h1 hn)]; exact h1

theorem take_zip {α : Type} (sel : Nat → Bool) (j : Nat) : ∀ (xs : List α) (i : Nat), (∀ k, k < i + xs.length → sel k = decide (j ≤ k)) → (xs.zipIdx i).filterMap (fun x => if sel x.2 = true then none else some x.1) = xs.take (j - i)
  | [], i, _ => by simp
  | x :: r, i, hs => by
    rw [List.zipIdx_cons, List.filterMap_cons]
    have ih := take_zip sel j r (i + 1) fun k hk => hs k (by rw [List.length_cons]; omega)
    have h0 := hs i (by rw [List.length_cons]; omega)
    by_cases h : j ≤ i
    · have e : j - i = 0 := by omega
      have e2 : j - (i + 1) = 0 := by omega
      rw [e2] at ih
      simp only [h0, h, decide_true, if_true, e, List.take_zero]
      simpa using ih
    · have e : j - i = (j - (i + 1)) + 1 := by omega
      rw [e, List.take_succ_cons, ← ih]
      simp [h0, h]
theorem run_delFrom {P : Program} {w : World} {A : Around} {E : Value → Shared → Prop} {s : Shared} {l sl : Addr} {items : Array Value} {n j : Nat} {t : Tok} {Q : Unit → Shared → Prop}
    (hl : s.heap.get? l = some { cls := Value.type "list", data := Data.seq items n }) (hs : s.heap.get? sl = some { cls := .type "slice", data := .fields #[.int j t, .none, .none] }) (hj : j ≤ items.size) (hz : items.size ≤ sizeLine)
    (q : ∀ f : Array Value → Array Value, f items = (items.toList.take j).toArray → Q () { s with heap := s.heap.update l (Obj.mapSeq f) }) :
    wpAny (model P w) A (delItem (.ref l) (.ref sl)) Q E s := by
  refine wpAny_delItem_slot (T := "list") ⟨_, hl, rfl⟩ (by decide) PySem.F.slot_list_delitem ?_
  refine wpAny_call_entry PySem.F.slot_list_delitem ⟨_, hl, rfl⟩ PySem.F.entry_list_delitem ?_ (PySem.F.args_list_delitem_2 _ _)
  show wpAny _ _ (do
      let __x ← slotArgs "__delitem__" 1 { pos := [.ref l, .ref sl] }
      _) _ _ _
  refine wpAny_bind (wpAny_pure ?_)
  refine wpAny_bind ?_
  refine wpAny_bind (wpAny_specialOf (T := "slice") (r := none) ⟨_, hs, rfl⟩ rfl ?_)
  refine wpAny_pure ?_
  refine wpAny_bind (wpAny_typeOf (T := "slice") ⟨_, hs, rfl⟩ ?_)
  dsimp only
  rw [if_neg (by decide)]
  refine wpAny_bind ?_
  rw [listSliceParts_eq]
  refine wpAny_bind (wpAny_field hs rfl (i := 2) rfl (wpAny_bind (wpAny_listPart .none ?_)))
  dsimp only [rawPart]
  rw [if_neg (by decide)]
  refine wpAny_bind (wpAny_field hs rfl (i := 0) rfl (wpAny_bind (wpAny_listPart (.int _ _) ?_)))
  refine wpAny_bind (wpAny_field hs rfl (i := 1) rfl (wpAny_bind (wpAny_listPart .none (wpAny_pure ?_))))
  dsimp only
  refine wpAny_bind (wpAny_listItems hl rfl ?_)
  have eb : sliceBounds (some (j : Int)) none none items.size = ((j : Int), (items.size : Int), 1) := by
    simp [sliceBounds]
    omega
  rw [show sliceIndices (rawPart (some (j : Int))) (rawPart none) .none items.size = pure (sliceBounds (some (j : Int)) none none items.size) from sliceIndices_raw (some (j : Int)) none none items.size (by simp), eb]
  refine wpAny_bind (wpAny_pure ?_)
  dsimp only
  refine wpAny_bind (wpAny_rule ?_)
  refine wpAny_bind (wpAny_updateSeq hl rfl (wpAny_bind (wpAny_letGo (wpAny_pure ⟨_, rfl, q _ ?_⟩))) hz ?_)
  · refine congrArg List.toArray ((take_zip (fun k => _) j items.toList 0 ?_).trans (by rw [Nat.sub_zero]))
    intro k hk
    show (if (1 : Int) > 0 then decide ((j : Int) ≤ (k : Int)) && decide ((k : Int) < (items.size : Int)) && ((k : Int) - j) % 1 == 0 else _) = _
    rw [Nat.zero_add, Array.length_toList] at hk
    rw [if_pos (by decide), Int.emod_one, decide_eq_true (show (k : Int) < (items.size : Int) by omega)]
    by_cases h : j ≤ k
    · simp [h]
    · simp [h]
  · refine Nat.le_trans ?_ (Nat.le_succ_of_le hz)
    rw [List.size_toArray]
    refine Nat.le_trans (List.length_filterMap_le _ _) ?_
    simp
theorem ps_delFrom {X : Cx} {pos p2 : Pos} {o e : PySem.Expr} {to te : TE} {tpos : Pos} (ho : PE X o to) (he : PE X e te) :
    PS X (.Delete [.Subscript o (.Slice (some e) none none p2) tpos] pos) (fun D σ H => to σ H fun x H1 => te σ H1 fun y H2 => ∃ (l : Addr) (xs : List V) (j : Nat), x = .ref l ∧ y = .int j ∧ H2 l = some (.lst xs) ∧ j ≤ xs.length ∧ D.nx σ (upd H2 l (.lst (xs.take j)))) := by
  refine ⟨fun pins s σ H D I h => ?_⟩
  refine wpAny_Delete (wpAny_deleteEach_cons (wpAny_delete_Subscript ?_))
  refine thn (ho.run pins s σ H _ I h) fun u s1 hx => ?_
  obtain ⟨x, H1, I1, r1, h1⟩ := hx
  refine wpAny_Slice ?_
  rw [evalPart_some]
  refine thn (he.run pins s1 σ H1 _ I1 h1) fun u2 s2 hx => ?_
  obtain ⟨y, H2, I2, r2, l, xs, j, rfl, rfl, hl, hj, q⟩ := hx
  cases r1
  obtain ⟨t, rfl⟩ := r2
  rw [evalPart_none]
  refine wpAny_pure ?_
  refine wpAny_pure ?_
  have hsl : (s2.heap.push { cls := .type "slice", data := .fields #[.int j t, .none, .none] }).get? s2.heap.objs.size = some { cls := .type "slice", data := .fields #[.int j t, .none, .none] } := Heap.get?_push_size _ rfl
  have I3 := I2.kept (h' := s2.heap.push { cls := .type "slice", data := .fields #[.int j t, .none, .none] }) (t' := s2.toks) (fun b u hb => Heap.get?_push_of_some _ hb)
  obtain ⟨oz, its, n, hits, hao⟩ := I3.hok _ _ hl
  have ll : xs.length = its.length := L2.Vals.length hits
  refine run_delFrom (items := its.toArray) hao hsl (by simp; omega) (by simp; omega) (fun f hf => ?_)
  refine wpAny_deleteEach_nil ?_
  refine ⟨σ, _, I3.lset (its := its) (its' := its.take j) (ys := xs.take j) hl hao (by simpa using hf) ?_ ?_, q⟩
  · exact L2.Vals.take j hits
  · rw [List.length_take]; omega

theorem okC {P : Program} {w : World} {K : PySem.W.Frag} {mg : Str → Option Value} {base : Heap} {x qual : Str} {st : Stmt} {f c : Addr} {fd : FuncData} {N ps : List Str} {k : Nat} {sp : Sp} (F : Fun K x qual st f fd) (hc : fd.code = .ref c) (S : FnScope N ps (defScope st))
    (len : ∀ vs H Q E, sp vs H Q E → vs.length = ps.length)
    (hb : ∀ (A : Around) (outer : List Env) (s : Shared) (H : Hp) (vs : List V) (Q : VK) (E : XK), Room k (A.deeper (envOfC qual (defScope st) s.heap.objs.size f (.ref c))) → sp vs H Q E →
      ∃ t, PSs (cxOf CX0 P w K mg base N qual (defScope st) f (.ref c) A outer s H E).nox (defBody st) t ∧ t { nx := fun _ H' => Q .non H', rt := Q } (L2.start N vs) H) : FnOk P w K mg base CX0 (k + 1) f fd ps sp := by
  obtain ⟨oc, od, kV, doc, pm, an, cdv, ct, osl, rfl, lk, hcd⟩ := F.ex
  cases hc
  exact fn_of lk hcd S len fun A outer s H vs Q E hr hsp => by
    obtain ⟨t, h, q⟩ := hb A outer s H vs Q E hr hsp
    exact ⟨t, h.nox, q⟩
theorem rowL_mk {x : Str} {p0 p1 p2 p3 : Pos} {k0 : Nat} {scope : PySem.Scope} (hz : (x == Str.ofString "__debug__") = false) (hn : scope.names = [(x, .local)]) (hk : scope.kind = .function) (hg : scope.isGenerator = false) (hc : scope.isCoroutine = false)
    (hb : ∀ (nm q : Str) (b : FuncBody) (sc : PySem.Scope) (g : Addr) (cl : List (Str × Addr)) (pm an : Value) (cd : Option Addr) (ct bl : Value) (bu : Addr) (u : Value), bindArgs ⟨nm, q, { posonlyargs := [], args := [{ arg := x, annotation := none, pos := p0 }], vararg := none, kwonlyargs := [], kw_defaults := [], kwarg := none, defaults := [] }, b, sc, g, cl, .none, .none, pm, an, cd, ct, bl, bu⟩ ⟨[u], []⟩ = pure [(x, u)]) :
    RowL { posonlyargs := [], args := [{ arg := x, annotation := none, pos := p0 }], vararg := none, kwonlyargs := [], kw_defaults := [], kwarg := none, defaults := [] } scope (.Subscript (.Name x p1) (.Constant (.int 0) k0 p2) p3) := by
  refine ⟨⟨x, p1, p2, p3, k0, rfl, hz, hn, fun fd u e1 e2 e3 => ?_⟩, hk, hg, hc⟩
  obtain ⟨nm, q, pr, b, sc, g, cl, d, kd, pm, an, cd, ct, bl, bu⟩ := fd
  subst e1 e2 e3
  exact hb _ _ _ _ _ _ _ _ _ _ _ _ _
def spLawT (K : PySem.W.Frag) (Ps : List Addr) : Sp := fun vs H Q _ => ∃ (a : Addr) (ns : List Int), vs = [.ref a] ∧ SqL K H a (ns.map V.int) ∧ ns.length ≤ 63 ∧ (∀ P ∈ Ps, H P = some (.tbl #[])) ∧ ∀ H', Q (.bl true) H'
def LawT (l : PySem.W.OpenLaw) (w : World) (K : PySem.W.Frag) (k : Nat) (x : Str) (mg : Str → Option Value) (fa : Addr) (cs : List (Str × Addr × Addr)) : Prop :=
  (∀ z ∈ cs, PySem.W.tabIn K z.1 = some (z.2.1, z.2.2) ∧ K.lookup z.2.2 = none) ∧ ∃ fd : FuncData, (∀ (s : Shared) (v : Value), BindsTo s fd ⟨[v], []⟩ [(x, v)]) ∧
    ∀ base : Heap, K.In base → base.Ns mainGlobals mg → (∀ z ∈ cs, LamX.TabB base mg z.2.1 z.2.2) → FnOk l.prog w K mg base CX0 k fa fd [x] (spLawT K (cs.map fun z => z.2.2))
theorem walk_ofT {l : PySem.W.OpenLaw} {n k : Nat} {q : Program} {loose : List Str} {XP : (Str → Option Value) → Heap → Prop} {YP : World → Heap → Prop} {d : DefRec} {K : Params → PySem.W.Frag} {x : Str}
    (hn : l.most = some n) (hz : n ≤ sizeLine) (h63 : n ≤ 63) (hd : d.params.defaults = []) (hr : Room k callerA) (hY : ∀ w h, YP w h → (K w.params).In h) (names : List Str)
    (hR : (names.all fun z => (recsOf q).any fun e => e.name == z) = true)
    (hF : ∀ (w : World) (mg : Str → Option Value) (fa : Addr) (h : Heap), (K w.params).In h → h.Ns mainGlobals mg → mg d.name = some (.ref fa) → ∃ cs : List (Str × Addr × Addr), cs.map Prod.fst = names ∧ LawT l w (K w.params) k x mg fa cs) :
    PySem.W.WalkO q loose XP YP l.row.toRowW d [] fun f vs => call f vs := by
  refine Att.attach_callB hn hd fun w s0 s1 mg mb fa o pm cd doc a vs ns G Y ho hod hcr hmg ha hi hl hb hg => ?_
  obtain ⟨cs, hcs, hT, fd, hB, hOk⟩ := hF w mg fa s1.heap (hY w _ Y) G.T.g hmg
  have key : ∀ z ∈ cs, PySem.W.CodeHd s1.heap z.2.1 z.2.2 ∧ s1.heap.get? z.2.2 = some (PySem.W.tabObj #[]) := by
    intro z hz
    have h1 : z.1 ∈ names := by rw [← hcs]; exact List.mem_map_of_mem hz
    have h2 := List.all_eq_true.mp hR _ h1
    cases hf : (recsOf q).find? fun e => e.name == z.1 with
    | none =>
      rw [List.find?_eq_none] at hf
      rw [List.any_eq_true] at h2
      obtain ⟨e, he, h3⟩ := h2
      exact absurd h3 (hf e he)
    | some dd => exact PySem.W.tab_of G.T (hY w _ Y) hf (hT z hz).1
  refine LamX.law_callTs (K := K w.params) (cs := cs.map fun z => z.2) (hY w _ Y) G.T.g G.T.b G.T.builtins G.T.nolimit hg ?_ ?_ ?_ G.T.bmain ha hi (Nat.le_trans hl hz) hr (fun base h1 h2 h3 => hOk base h1 h2 fun z hz => h3 _ (List.mem_map_of_mem hz)) (fun s u => hB s u) (fun H hH hS => ⟨a, ns, rfl, hS, ?_, ?_, fun _ => rfl⟩) (fun _ _ _ h => h)
  · intro p hp
    obtain ⟨z, hz, rfl⟩ := List.mem_map.mp hp
    exact (key z hz).2
  · intro p hp
    obtain ⟨z, hz, rfl⟩ := List.mem_map.mp hp
    exact (hT z hz).2
  · intro p hp
    obtain ⟨z, hz, rfl⟩ := List.mem_map.mp hp
    exact (key z hz).1
  · exact Nat.le_trans hl h63
  · intro P hP
    obtain ⟨z, hz, rfl⟩ := List.mem_map.mp hP
    exact hH _ (List.mem_map_of_mem hz)

mutual
def Tr.dat : Tr → PyData
  | .node c ks => .tuple [.str (ch c), .list (dats ks)]
def dats : List Tr → List PyData
  | [] => []
  | t :: r => t.dat :: dats r
end
mutual
theorem dat_depth : ∀ t : Tr, t.dat.depth ≤ 2 * t.depth
  | .node c ks => by
    have := dats_depth ks
    simp only [Tr.dat, PyData.depth, PyData.depthAll, Tr.depth]
    omega
theorem dats_depth : ∀ ts : List Tr, PyData.depthAll (dats ts) ≤ 2 * depths ts
  | [] => by simp only [dats, PyData.depthAll, depths]; omega
  | t :: r => by
    have a := dat_depth t
    have b := dats_depth r
    simp only [dats, PyData.depthAll, depths]
    omega
end
section
variable {ok : Addr → Prop} {H : Hp} {K : PySem.W.Frag}
theorem strOk_ch {c : Nat} (h : c ≤ 122) : PyData.strOk (ch c) = true := by
  unfold PyData.strOk ch
  simp
  omega
mutual
theorem TrAt.lay : ∀ (t : Tr) (v : V), TrAt ok H v t → t.dat.canLay0 = true
  | .node c ks, v, x => by
    cases x with
    | node h1 h2 k1 k2 c1 c2 r => simp only [Tr.dat, PyData.canLay0, PyData.canLayAll0, strOk_ch c2, TrsAt.lay ks _ r, Bool.and_self]
theorem TrsAt.lay : ∀ (ts : List Tr) (vs : List V), TrsAt ok H vs ts → PyData.canLayAll0 (dats ts) = true
  | [], _, _ => by simp only [dats, PyData.canLayAll0]
  | t :: r, _, x => by
    cases x with
    | cons a b => simp only [dats, PyData.canLayAll0, TrAt.lay t _ a, TrsAt.lay r _ b, Bool.and_self]
end
mutual
theorem TrAt.dp : ∀ (t : Tr) (v : V), TrAt ok H v t → Dp K H v t.dat
  | .node c ks, v, x => by
    cases x with
    | node h1 h2 k1 k2 c1 c2 r =>
      simp only [Tr.dat]
      exact .tup (SqT.of h1) (.cons (.str _) (.cons (.lst (SqL.of h2) (TrsAt.dp ks _ r)) .nil))
theorem TrsAt.dp : ∀ (ts : List Tr) (vs : List V), TrsAt ok H vs ts → DpAll K H vs (dats ts)
  | [], _, x => by cases x; exact .nil
  | t :: r, _, x => by
    cases x with
    | cons a b => exact .cons (TrAt.dp t _ a) (TrsAt.dp r _ b)
end
theorem shaped_tr {v : V} {t : Tr} (x : TrAt ok H v t) (h : t.depth ≤ 32) : SeqAt.shaped t.dat = true := by
  unfold SeqAt.shaped
  rw [Bool.and_eq_true]
  exact ⟨TrAt.lay t v x, decide_eq_true (by have := dat_depth t; omega)⟩
theorem shaped_trs {vs : List V} {ts : List Tr} (x : TrsAt ok H vs ts) (h : depths ts ≤ 31) : SeqAt.shaped (.list (dats ts)) = true := by
  unfold SeqAt.shaped
  rw [Bool.and_eq_true]
  refine ⟨by simp only [PyData.canLay0]; exact TrsAt.lay ts vs x, decide_eq_true ?_⟩
  have := dats_depth ts
  simp only [PyData.depth]
  omega
end
def DatOk (K : PySem.W.Frag) (H : Hp) (v : V) : Prop := ∃ d, Dp K H v d ∧ d.canLay0 = true ∧ d.depth ≤ 63
theorem DatOk.all {K : PySem.W.Frag} {H : Hp} : ∀ {vs : List V}, (∀ v ∈ vs, DatOk K H v) → ∃ ds, DpAll K H vs ds ∧ SeqAt.shaped (.list ds) = true ∧ ds.length = vs.length
  | [], _ => ⟨[], .nil, by decide +kernel, rfl⟩
  | v :: r, h => by
    obtain ⟨d, h1, h2, h3⟩ := h v List.mem_cons_self
    obtain ⟨ds, g1, g2, g3⟩ := DatOk.all (vs := r) fun u hu => h u (List.mem_cons_of_mem _ hu)
    unfold SeqAt.shaped at g2
    rw [Bool.and_eq_true] at g2
    have g4 := of_decide_eq_true g2.2
    have g5 := g2.1
    simp only [PyData.canLay0] at g5
    simp only [PyData.depth] at g4
    refine ⟨d :: ds, .cons h1 g1, ?_, by simp only [List.length_cons, g3]⟩
    unfold SeqAt.shaped
    rw [Bool.and_eq_true]
    refine ⟨by simp only [PyData.canLay0, PyData.canLayAll0, h2, g5, Bool.and_self], decide_eq_true ?_⟩
    simp only [PyData.depth, PyData.depthAll]
    omega
theorem datOk_int {K : PySem.W.Frag} {H : Hp} (i : Int) : DatOk K H (.int i) := ⟨.int i, .int i, by simp only [PyData.canLay0], by simp only [PyData.depth]; omega⟩
theorem datOk_tr {K : PySem.W.Frag} {H : Hp} {ok : Addr → Prop} {v : V} {t : Tr} (x : TrAt ok H v t) (h : t.depth ≤ 31) : DatOk K H v := ⟨t.dat, TrAt.dp t v x, TrAt.lay t v x, by have := dat_depth t; omega⟩
theorem eqv_nil (ds : List PyData) : PyData.eqv (.list ds) (.list []) = decide (ds.length = 0) := by
  cases ds with
  | nil => simp [PyData.eqv, PyData.eqvAll]
  | cons d r => simp [PyData.eqv, PyData.eqvAll]
theorem shaped_nil : SeqAt.shaped (.list []) = true := by decide +kernel
theorem dp_nil {K : PySem.W.Frag} {H : Hp} {a : Addr} (h : H a = some (.lst [])) : Dp K H (.ref a) (.list []) := .lst (SqL.of h) .nil


def sp_is_letter : Sp := fun vs H Q _ => ∃ c : Nat, vs = [.str (ch c)] ∧ 97 ≤ c ∧ c ≤ 122 ∧ Q (.bl true) H
def sp__is_part : Sp := fun vs H Q _ => ∃ (v : V) (t : Tr), vs = [v] ∧ TrAt (fun _ => True) H v t ∧ Q (.bl true) H
def sp_is_tree : Sp := fun vs H Q _ => ∃ (v : V) (t : Tr), vs = [v] ∧ TrAt (fun _ => True) H v t ∧ t.size ≤ 1000000 ∧ ∀ H', Same H H' → Q (.bl true) H'
def sp_check_tree : Sp := fun vs H Q _ => ∃ (v : V) (t : Tr), vs = [v] ∧ TrAt (fun _ => True) H v t ∧ t.size ≤ 1000000 ∧ ∀ H', Same H H' → Q .non H'
def sp_parts_upward : Sp := fun vs H Q _ => ∃ (v : V) (t : Tr) (ok : Addr → Prop), vs = [v] ∧ TrAt ok H v t ∧ t.size ≤ 1000000 ∧
  ∀ r ws H', Same H H' → H r = none → H' r = some (.lst ws) → TrsAt (fun b => ok b ∧ H b ≠ none) H' ws t.post → Q (.ref r) H'
theorem le_a {c : Nat} (h : 97 ≤ c) : (!decide ((ch c).cps.toList < (Str.ofString "a").cps.toList)) = true := by
  have e : (Str.ofString "a").cps.toList = [97] := by decide +kernel
  rw [e]
  show (!decide (([c] : List Nat) < [97])) = true
  have : ¬ (([c] : List Nat) < [97]) := by
    intro q
    have := List.cons_lt_cons_iff.mp q
    rcases this with z | ⟨z, y⟩
    · omega
    · exact absurd y (by decide)
  simp [this]
theorem le_z {c : Nat} (h : c ≤ 122) : (!decide ((Str.ofString "z").cps.toList < (ch c).cps.toList)) = true := by
  have e : (Str.ofString "z").cps.toList = [122] := by decide +kernel
  rw [e]
  show (!decide (([122] : List Nat) < [c])) = true
  have : ¬ (([122] : List Nat) < [c]) := by
    intro q
    have := List.cons_lt_cons_iff.mp q
    rcases this with z | ⟨z, y⟩
    · omega
    · exact absurd y (by decide)
  simp [this]
theorem concat_of {α : Type} {l : List α} (h : l ≠ []) : ∃ a b, l = a ++ [b] := ⟨l.dropLast, l.getLast h, (List.dropLast_concat_getLast h).symm⟩
section
variable {P : Program} {w : World} {K : PySem.W.Frag} {mg : Str → Option Value} {base : Heap}
theorem ok_is_letter (T : Txt K mg) : FnOk P w K mg base CX0 1 T.f_is_letter T.d_is_letter ["thing"] sp_is_letter := by
  refine T.F_is_letter.ok sc_is_letter (fun vs H Q E h => ?_) (fun cdv A outer s H vs Q E hr h => ?_)
  · obtain ⟨c, rfl, _⟩ := h
    rfl
  obtain ⟨c, rfl, h0, h1, q⟩ := h
  refine ⟨_, (pss_one (ps_ret (pe_and (pe_callB call_isi (by rfl) T.z_isinstance (by decide +kernel) (pa_cons (pv 0) (pa_cons (pe_bltn (v := .ty "str") (by rfl) T.z_str (by decide +kernel) rfl) pa_nil))) (pe_and (pe_cmpR op_eq (pe_callB call_len_str (by rfl) T.z_len PySem.boot_len (pa_cons (pv 0) pa_nil)) pe_int (nomark _)) (pe_one (pe_chain op_le_str op_le_str pe_str (pv 0) pe_str)))))), ?_⟩
  refine ⟨_, rfl, _, _, _, _, true, rfl, .ty "str", .base (.str _), kit_ty (by decide +kernel), _, rfl, iteT ?_⟩
  refine ⟨_, rfl, _, rfl, (by show 1 ≤ sizeLine; decide), rfl, _, rfl, iteT ?_⟩
  refine ⟨_, rfl, _, _, rfl, rfl, _, rfl, ?_⟩
  rw [if_pos (le_a h0)]
  refine ⟨_, _, rfl, rfl, ?_⟩
  rw [le_z h1]
  exact q
theorem ok__is_part (T : Txt K mg) : FnOk P w K mg base CX0 2 T.f__is_part T.d__is_part ["thing"] sp__is_part := by
  have G_is_letter : FnOk P w K mg base CX0 1 T.f_is_letter T.d_is_letter ["thing"] sp_is_letter := ok_is_letter T
  refine T.F__is_part.ok sc__is_part (fun vs H Q E h => ?_) (fun cdv A outer s H vs Q E hr h => ?_)
  · obtain ⟨v, t, rfl, _⟩ := h
    rfl
  obtain ⟨v, t, rfl, ht, q⟩ := h
  refine ⟨_, (pss_cons (ps_if (PW.pt (pw_or (pt_not (pt_val (pe_callB call_isi (by rfl) T.z_isinstance (by decide +kernel) (pa_cons (pv 0) (pa_cons (pe_bltn (v := .ty "tuple") (by rfl) T.z_tuple (by decide +kernel) rfl) pa_nil))))) (pw_or1 (pt_cmpR op_ne (pe_callB call_len_seq (by rfl) T.z_len PySem.boot_len (pa_cons (pv 0) pa_nil)) pe_int (nomark _))))) (pss_one (ps_ret pe_bl)) pss_nil) (pss_one (ps_ret (pe_and (pe_call G_is_letter (hr.mono (by omega)) (by rfl) T.m_is_letter T.F_is_letter.kp T.b_is_letter .nil pass0 (pa_cons (pe_ix ix_tup (pv 0) pe_int (fun _ _ => rfl)) pa_nil)) (pe_one (pe_callB call_isi (by rfl) T.z_isinstance (by decide +kernel) (pa_cons (pe_ix ix_tup (pv 0) pe_int (fun _ _ => rfl)) (pa_cons (pe_bltn (v := .ty "list") (by rfl) T.z_list (by decide +kernel) rfl) pa_nil)))))))), ?_⟩
  obtain ⟨c, ks⟩ := t
  cases ht with
  | node h1 h2 _ _ c1 c2 _ =>
    refine ⟨_, rfl, _, _, _, _, true, rfl, .ty "tuple", .base (.tup h1), kit_ty (by decide +kernel), _, rfl, iteF ?_⟩
    refine ⟨_, rfl, _, _, rfl, .inr (SqT.of h1), rfl, _, rfl, iteF ?_⟩
    refine ⟨_, rfl, _, _, 0, _, rfl, rfl, SqT.of h1, atI_nat (j := 0) rfl, _, rfl, c1, c2, _, rfl, iteT ?_⟩
    exact ⟨_, rfl, _, _, 1, _, rfl, rfl, SqT.of h1, atI_nat (j := 1) rfl, _, _, _, _, true, rfl, .ty "list", .base (.lst h2), kit_ty (by decide +kernel), q⟩
theorem ok_is_tree (T : Txt K mg) : FnOk P w K mg base CX0 3 T.f_is_tree T.d_is_tree ["thing"] sp_is_tree := by
  have G__is_part : FnOk P w K mg base CX0 2 T.f__is_part T.d__is_part ["thing"] sp__is_part := ok__is_part T
  refine T.F_is_tree.ok sc_is_tree (fun vs H Q E h => ?_) (fun cdv A outer s H vs Q E hr h => ?_)
  · obtain ⟨v, t, rfl, _⟩ := h
    rfl
  obtain ⟨v, t, rfl, ht, hz, q⟩ := h
  refine ⟨_, (pss_cons (ps_set (i := 1) sc_is_tree.nd rfl (Or.inl rfl) (pe_lst (pa_cons (pv 0) pa_nil))) (pss_cons (ps_while PassesOwn.never (pt_truth (pv 1) (by intro _; rfl)) (pss_cons (ps_set (i := 2) sc_is_tree.nd rfl (Or.inl rfl) (pe_bm0 PySem.F.plainAttrs_list PySem.F.slot_list_pop PySem.F.type_list_pop mt_pop (pv 1))) (pss_cons (ps_if (pt_not (pt_val (pe_call G__is_part (hr.mono (by omega)) (by rfl) T.m__is_part T.F__is_part.kp T.b__is_part .nil pass0 (pa_cons (pv 2) pa_nil)))) (pss_one (ps_ret pe_bl)) pss_nil) (pss_one (ps_expr (pe_bm PySem.F.plainAttrs_list PySem.F.slot_list_extend PySem.F.type_list_extend mt_extend (pv 1) (pa_cons (pe_ix ix_tup (pv 2) pe_int (fun _ _ => rfl)) pa_nil))))))) (pss_one (ps_ret pe_bl)))), ?_⟩
  refine ⟨_, rfl, (by show 1 ≤ sizeLine; decide), fun p hp => ?_⟩
  refine ⟨fun m σ H' => ∃ y ws ts, σ = [some v, some (.ref p), y] ∧ H' p = some (.lst ws) ∧ TrsAt (fun b => True ∧ b ≠ p) H' ws ts ∧ sizes ts = m ∧ m ≤ 1000000 ∧ Same H H',
    ⟨t.size, none, [v], [t], rfl, upd_same, .cons ((ht.off hp).same (same_new hp)) .nil, by simp only [sizes]; omega, hz, same_new hp⟩, ?_⟩
  rintro m σ H' ⟨y, ws, ts, rfl, hw, hts, hm, hm2, hs⟩
  by_cases he : ws = []
  · subst he
    refine ⟨_, rfl, false, .inl ⟨_, SqL.of hw, rfl⟩, iteF ?_⟩
    exact q _ hs
  · refine ⟨_, rfl, true, .inl ⟨_, SqL.of hw, by cases ws with | nil => exact absurd rfl he | cons a b => rfl⟩, iteT ?_⟩
    obtain ⟨ws', x, rfl⟩ := concat_of he
    obtain ⟨ts', tl, rfl, h1, h2⟩ := TrsAt.split hts
    cases h2 with
    | cons hx hn =>
      cases hn
      rename_i tx
      obtain ⟨c, ks⟩ := tx
      refine ⟨fun σ2 H2 => ∃ y ws ts, σ2 = [some v, some (.ref p), y] ∧ H2 p = some (.lst ws) ∧ TrsAt (fun b => True ∧ b ≠ p) H2 ws ts ∧ sizes ts < m ∧ Same H H2, fun σ2 H2 ⟨y, ws, ts, e1, e2, e3, e4, e5⟩ => ⟨sizes ts, e4, y, ws, ts, e1, e2, e3, rfl, by omega, e5⟩, ?_⟩
      refine ⟨_, rfl, .inl ⟨rfl, _, SqL.of hw⟩, _, _, x, rfl, rfl, hw, by simp, ?_⟩
      have kp : ∀ b u, (True ∧ b ≠ p) → H' b = some u → (upd H' p (.lst (ws' ++ [x]).dropLast)) b = some u := upd_keep fun b h => h.2
      have hx2 := hx.keep kp
      have hp3 : (upd H' p (.lst (ws' ++ [x]).dropLast)) p = some (.lst ws') := by rw [upd_same, List.dropLast_concat]
      refine ⟨_, rfl, x, _, rfl, hx2.weak fun _ _ => trivial, _, rfl, iteF ?_⟩
      cases hx2 with
      | node g1 g2 k1 k2 c1 c2 r =>
        have ll := r.len
        have l2 := h1.len
        have l3 := len_sizes ts'
        have l4 := len_sizes ks
        rw [sizes_append] at hm
        simp only [sizes, Tr.size] at hm
        refine ⟨_, rfl, .inl ⟨rfl, _, SqL.of hp3⟩, _, rfl, _, _, 1, _, rfl, rfl, SqT.of g1, atI_nat (j := 1) rfl, p, _, ws', _, rfl, rfl, hp3, g2, ?_, ?_⟩
        · exact Nat.le_trans (show ws'.length + _ ≤ 1000000 by omega) (by decide)
        · refine ⟨some _, _, ts' ++ ks, rfl, upd_same, ?_, ?_, ?_⟩
          · exact ((h1.keep kp).append r).keep (upd_keep fun b h => h.2)
          · rw [sizes_append]
            omega
          · exact same_add (same_add hs hp) hp
theorem ok_check_tree (T : Txt K mg) : FnOk P w K mg base CX0 4 T.f_check_tree T.d_check_tree ["thing"] sp_check_tree := by
  have G_is_tree : FnOk P w K mg base CX0 3 T.f_is_tree T.d_is_tree ["thing"] sp_is_tree := ok_is_tree T
  refine T.F_check_tree.ok sc_check_tree (fun vs H Q E h => ?_) (fun cdv A outer s H vs Q E hr h => ?_)
  · obtain ⟨v, t, rfl, _⟩ := h
    rfl
  obtain ⟨v, t, rfl, ht, hz, q⟩ := h
  refine ⟨_, (pss_one (ps_if (pt_not (pt_val (pe_call G_is_tree (hr.mono (by omega)) (by rfl) T.m_is_tree T.F_is_tree.kp T.b_is_tree .nil pass0 (pa_cons (pv 0) pa_nil)))) (pss_one ps_never) pss_nil)), ?_⟩
  refine ⟨_, rfl, v, t, rfl, ht, hz, fun H' hs => ⟨_, rfl, iteF ?_⟩⟩
  exact q _ hs
theorem ok_parts_upward (T : Txt K mg) : FnOk P w K mg base CX0 5 T.f_parts_upward T.d_parts_upward ["tree"] sp_parts_upward := by
  have G_check_tree : FnOk P w K mg base CX0 4 T.f_check_tree T.d_check_tree ["thing"] sp_check_tree := ok_check_tree T
  refine T.F_parts_upward.ok sc_parts_upward (fun vs H Q E h => ?_) (fun cdv A outer s H vs Q E hr h => ?_)
  · obtain ⟨v, t, ok, rfl, _⟩ := h
    rfl
  obtain ⟨v, t, ok, rfl, ht, hz, q⟩ := h
  refine ⟨_, (pss_cons (ps_expr (pe_call G_check_tree (hr.mono (by omega)) (by rfl) T.m_check_tree T.F_check_tree.kp T.b_check_tree .nil pass0 (pa_cons (pv 0) pa_nil))) (pss_cons (ps_set (i := 1) sc_parts_upward.nd rfl (Or.inl rfl) (pe_lst pa_nil)) (pss_cons (ps_set (i := 2) sc_parts_upward.nd rfl (Or.inl rfl) (pe_lst (pa_cons (pv 0) pa_nil))) (pss_cons (ps_while PassesOwn.never (pt_truth (pv 2) (by intro _; rfl)) (pss_cons (ps_set (i := 3) sc_parts_upward.nd rfl (Or.inl rfl) (pe_bm0 PySem.F.plainAttrs_list PySem.F.slot_list_pop PySem.F.type_list_pop mt_pop (pv 2))) (pss_cons (ps_expr (pe_bm PySem.F.plainAttrs_list PySem.F.slot_list_append PySem.F.type_list_append mt_append (pv 1) (pa_cons (pv 3) pa_nil))) (pss_one (ps_expr (pe_bm PySem.F.plainAttrs_list PySem.F.slot_list_extend PySem.F.type_list_extend mt_extend (pv 2) (pa_cons (pe_ix ix_tup (pv 3) pe_int (fun _ _ => rfl)) pa_nil))))))) (pss_one (ps_ret (pe_revL (pv 1)))))))), ?_⟩
  refine ⟨_, rfl, v, t, rfl, ht.weak fun _ _ => trivial, hz, fun H1 s1 => ?_⟩
  have ht1 := ((TrAt.there t v ht).same s1).weak (ok' := fun b => ok b ∧ H b ≠ none) fun b ⟨k, o, e⟩ => ⟨k, by rw [e]; simp⟩
  refine ⟨(by show 0 ≤ sizeLine; decide), fun a ha => ?_⟩
  refine ⟨_, rfl, (by show 1 ≤ sizeLine; decide), fun p hp => ?_⟩
  have nap : a ≠ p := fun e => by rw [e, upd_same] at hp; cases hp
  have hp1 : H1 p = none := by rw [upd_ne (fun e => nap e.symm)] at hp; exact hp
  have ha0 : H a = none := s1.free ha
  have hp0 : H p = none := s1.free hp1
  have oka : ∀ b, (ok b ∧ H b ≠ none) → b ≠ a := fun b h e => h.2 (by rw [e]; exact ha0)
  have okp : ∀ b, (ok b ∧ H b ≠ none) → b ≠ p := fun b h e => h.2 (by rw [e]; exact hp0)
  refine ⟨fun m σ H' => ∃ y as tas ws ts, σ = [some v, some (.ref a), some (.ref p), y] ∧ H' a = some (.lst as) ∧ H' p = some (.lst ws) ∧ TrsAt (fun b => ok b ∧ H b ≠ none) H' as tas ∧ TrsAt (fun b => ok b ∧ H b ≠ none) H' ws ts ∧
      tas ++ (posts ts).reverse = t.post.reverse ∧ sizes ts = m ∧ Same H H',
    ⟨t.size, none, [], [], [v], [t], rfl, by rw [upd_ne nap]; exact upd_same, upd_same, .nil, .cons ((ht1.keep (upd_keep oka)).keep (upd_keep okp)) .nil, by simp only [posts, List.append_nil, List.nil_append], by simp only [sizes]; omega, same_add (same_add s1 ha0) hp0⟩, ?_⟩
  rintro m σ H' ⟨y, as, tas, ws, ts, rfl, hA, hw, hta, hts, hpo, hm, hs⟩
  have hlen : tas.length + sizes ts = t.size := by
    have := congrArg List.length hpo
    rw [List.length_append, List.length_reverse, List.length_reverse, posts_len, post_len] at this
    exact this
  by_cases he : ws = []
  · subst he
    cases hts
    refine ⟨_, rfl, false, .inl ⟨_, SqL.of hw, rfl⟩, iteF ?_⟩
    refine ⟨_, rfl, a, as, rfl, SqL.of hA, fun r hr' => ?_⟩
    have hr0 : H r = none := hs.free hr'
    refine q r as.reverse _ (same_add hs hr0) hr0 upd_same ?_
    have e : tas.reverse = t.post := by
      simp only [posts, List.reverse_nil, List.append_nil] at hpo
      rw [hpo, List.reverse_reverse]
    rw [← e]
    exact hta.rev.keep (upd_keep fun b h e => h.2 (by rw [e]; exact hr0))
  · refine ⟨_, rfl, true, .inl ⟨_, SqL.of hw, by cases ws with | nil => exact absurd rfl he | cons a b => rfl⟩, iteT ?_⟩
    obtain ⟨ws', x, rfl⟩ := concat_of he
    obtain ⟨ts', tl, rfl, h1, h2⟩ := TrsAt.split hts
    cases h2 with
    | cons hx hn =>
      cases hn
      rename_i tx
      obtain ⟨c, ks⟩ := tx
      rw [sizes_append] at hm hlen
      simp only [sizes, Tr.size] at hm hlen
      refine ⟨fun σ2 H2 => ∃ y as tas ws ts, σ2 = [some v, some (.ref a), some (.ref p), y] ∧ H2 a = some (.lst as) ∧ H2 p = some (.lst ws) ∧ TrsAt (fun b => ok b ∧ H b ≠ none) H2 as tas ∧ TrsAt (fun b => ok b ∧ H b ≠ none) H2 ws ts ∧
        tas ++ (posts ts).reverse = t.post.reverse ∧ sizes ts < m ∧ Same H H2, fun σ2 H2 ⟨y, as, tas, ws, ts, e1, e2, e3, e4, e5, e6, e7, e8⟩ => ⟨sizes ts, e7, y, as, tas, ws, ts, e1, e2, e3, e4, e5, e6, rfl, e8⟩, ?_⟩
      refine ⟨_, rfl, .inl ⟨rfl, _, SqL.of hw⟩, _, _, x, rfl, rfl, hw, by simp, ?_⟩
      have kp : ∀ b u, (ok b ∧ H b ≠ none) → H' b = some u → (upd H' p (.lst (ws' ++ [x]).dropLast)) b = some u := upd_keep okp
      have hA2 : (upd H' p (.lst (ws' ++ [x]).dropLast)) a = some (.lst as) := by rw [upd_ne nap]; exact hA
      have la := hta.len
      refine ⟨_, rfl, .inl ⟨rfl, _, SqL.of hA2⟩, _, rfl, a, as, x, rfl, rfl, hA2, Nat.lt_of_le_of_lt (show as.length ≤ 1000000 by omega) (by decide), ?_⟩
      have hx3 := (hx.keep kp).keep (upd_keep (o := .lst (as ++ [x])) oka)
      have hp3 : (upd (upd H' p (.lst (ws' ++ [x]).dropLast)) a (.lst (as ++ [x]))) p = some (.lst ws') := by
        rw [upd_ne (fun e => nap e.symm), upd_same, List.dropLast_concat]
      have hx3' := hx3
      cases hx3 with
      | node g1 g2 k1 k2 c1 c2 r =>
        have ll := r.len
        have l2 := h1.len
        have l3 := len_sizes ts'
        have l4 := len_sizes ks
        refine ⟨_, rfl, .inl ⟨rfl, _, SqL.of hp3⟩, _, rfl, _, _, 1, _, rfl, rfl, SqT.of g1, atI_nat (j := 1) rfl, p, _, ws', _, rfl, rfl, hp3, g2, ?_, ?_⟩
        · exact Nat.le_trans (show ws'.length + _ ≤ 1000000 by omega) (by decide)
        · refine ⟨some _, as ++ [_], tas ++ [Tr.node c ks], _, ts' ++ ks, rfl, by rw [upd_ne nap]; exact upd_same, upd_same, ?_, ?_, ?_, ?_, ?_⟩
          · exact (((hta.keep kp).keep (upd_keep oka)).append (.cons hx3' .nil)).keep (upd_keep okp)
          · exact (((h1.keep kp).keep (upd_keep oka)).append r).keep (upd_keep okp)
          · rw [← hpo, posts_append, posts_append]
            simp only [posts, Tr.post, List.reverse_append, List.append_assoc, List.append_nil, List.reverse_cons, List.reverse_nil, List.nil_append, List.singleton_append, List.cons_append]
          · rw [sizes_append]
            omega
          · exact same_add (same_add (same_add hs hp0) ha0) hp0
end

def brk : List Nat → List Nat
  | [] => []
  | x :: l => 40 :: ((x :: l) ++ [41])
mutual
def Tr.wr : Tr → List Nat
  | .node c ks => c :: brk (wrs ks)
def wrs : List Tr → List Nat
  | [] => []
  | t :: r => t.wr ++ wrs r
end
def leW (a b : Tr) : Bool := decide (a.wr ≤ b.wr)
mutual
def Tr.told : Tr → Tr
  | .node c ks => .node c ((tolds ks).mergeSort leW)
def tolds : List Tr → List Tr
  | [] => []
  | t :: r => t.told :: tolds r
end
theorem tolds_map : ∀ ts : List Tr, tolds ts = ts.map Tr.told
  | [] => rfl
  | t :: r => by simp only [tolds, List.map_cons, tolds_map r]
theorem tolds_len (ts : List Tr) : (tolds ts).length = ts.length := by rw [tolds_map, List.length_map]
theorem wrs_append : ∀ a b : List Tr, wrs (a ++ b) = wrs a ++ wrs b
  | [], b => rfl
  | t :: r, b => by simp only [List.cons_append, wrs, wrs_append r b, List.append_assoc]
theorem leW_trans (a b c : Tr) (h : leW a b = true) (g : leW b c = true) : leW a c = true :=
  decide_eq_true (List.le_trans (of_decide_eq_true h) (of_decide_eq_true g))
theorem leW_total (a b : Tr) : (leW a b || leW b a) = true := by
  rcases List.le_total a.wr b.wr with h | h
  · simp [leW, h]
  · simp [leW, h]
abbrev Ltr (c : Nat) : Prop := 97 ≤ c ∧ c ≤ 122
theorem wr_ne (t : Tr) : t.wr ≠ [] := by
  cases t
  simp [Tr.wr]
theorem wr_head {t : Tr} (h : t.lets Ltr) : ∃ c l, t.wr = c :: l ∧ 97 ≤ c := by
  cases t with
  | node c ks =>
    simp only [Tr.lets] at h
    exact ⟨c, _, rfl, h.1.1⟩
theorem wrs_ne {t : Tr} {r : List Tr} : ∃ x l, wrs (t :: r) = x :: l := by
  cases t
  simp [wrs, Tr.wr]
theorem brk_wrs (t : Tr) (r : List Tr) : brk (wrs (t :: r)) = 40 :: (wrs (t :: r) ++ [41]) := by
  obtain ⟨x, l, e⟩ := wrs_ne (t := t) (r := r)
  rw [e]
  rfl
def nb (u : List Nat) : Prop := u.head? ≠ some 40
mutual
theorem wr_inj : ∀ (a b : Tr) (u v : List Nat), a.lets Ltr → b.lets Ltr → a.wr ++ u = b.wr ++ v → nb u → nb v → a = b ∧ u = v
  | .node c ks, .node d js, u, v, ha, hb, h, hu, hv => by
    simp only [Tr.lets] at ha hb
    simp only [Tr.wr, List.cons_append, List.cons.injEq] at h
    obtain ⟨rfl, h⟩ := h
    cases ks with
    | nil =>
      cases js with
      | nil => exact ⟨rfl, h⟩
      | cons j js =>
        obtain ⟨x, l, e⟩ := wrs_ne (t := j) (r := js)
        rw [e] at h
        simp only [wrs, brk, List.nil_append, List.cons_append] at h
        rw [h] at hu
        exact absurd rfl hu
    | cons k ks =>
      rw [brk_wrs k ks] at h
      cases js with
      | nil =>
        simp only [wrs, brk, List.nil_append, List.cons_append] at h
        rw [← h] at hv
        exact absurd rfl hv
      | cons j js =>
        rw [brk_wrs j js] at h
        simp only [List.cons_append, List.append_assoc, List.cons.injEq, true_and, List.singleton_append] at h
        obtain ⟨e1, e2⟩ := wrs_inj (k :: ks) (j :: js) u v ha.2 hb.2 h
        exact ⟨by rw [e1], e2⟩
theorem wrs_inj : ∀ (ks js : List Tr) (u v : List Nat), letss Ltr ks → letss Ltr js → wrs ks ++ 41 :: u = wrs js ++ 41 :: v → ks = js ∧ u = v
  | [], [], u, v, _, _, h => ⟨rfl, by simpa [wrs] using h⟩
  | [], j :: js, u, v, _, hb, h => by
    simp only [letss] at hb
    obtain ⟨c, l, e, hc⟩ := wr_head hb.1
    simp only [wrs, e, List.nil_append, List.cons_append, List.cons.injEq] at h
    omega
  | k :: ks, [], u, v, ha, _, h => by
    simp only [letss] at ha
    obtain ⟨c, l, e, hc⟩ := wr_head ha.1
    simp only [wrs, e, List.nil_append, List.cons_append, List.cons.injEq] at h
    omega
  | k :: ks, j :: js, u, v, ha, hb, h => by
    simp only [letss] at ha hb
    simp only [wrs, List.append_assoc] at h
    have nbk : ∀ (l : List Tr) (w : List Nat), letss Ltr l → nb (wrs l ++ 41 :: w) := by
      intro l w hl
      cases l with
      | nil => simp [nb, wrs]
      | cons a b =>
        simp only [letss] at hl
        obtain ⟨c, m, e, hc⟩ := wr_head hl.1
        simp only [nb, wrs, e, List.cons_append, List.head?_cons]
        intro h
        cases h
        omega
    have := wr_inj k j _ _ ha.1 hb.1 h (nbk _ _ ha.2) (nbk _ _ hb.2)
    obtain ⟨rfl, h2⟩ := this
    obtain ⟨rfl, h3⟩ := wrs_inj ks js u v ha.2 hb.2 h2
    exact ⟨rfl, h3⟩
end
theorem wr_eq {a b : Tr} (ha : a.lets Ltr) (hb : b.lets Ltr) (h : a.wr = b.wr) : a = b :=
  (wr_inj a b [] [] ha hb (by rw [h]) (by simp [nb]) (by simp [nb])).1
mutual
theorem told_lets {p : Nat → Prop} : ∀ t : Tr, t.lets p → t.told.lets p
  | .node c ks, h => by
    simp only [Tr.lets, Tr.told] at h ⊢
    exact ⟨h.1, letss_perm (List.mergeSort_perm _ _).symm (tolds_lets ks h.2)⟩
theorem tolds_lets {p : Nat → Prop} : ∀ ts : List Tr, letss p ts → letss p (tolds ts)
  | [], _ => trivial
  | t :: r, h => by
    simp only [letss, tolds] at h ⊢
    exact ⟨told_lets t h.1, tolds_lets r h.2⟩
end
theorem sorted_is {a b : List Tr} (ha : letss Ltr b) (hp : a.Perm b) (hs : a.Pairwise fun x y => leW x y = true) : a = b.mergeSort leW := by
  refine List.Perm.eq_of_pairwise (le := fun x y => leW x y = true) ?_ hs (List.pairwise_mergeSort leW_trans leW_total _) (hp.trans (List.mergeSort_perm _ _).symm)
  intro x y hx hy h g
  have hx2 := letss_mem ha (hp.mem_iff.mp hx)
  have hy2 := letss_mem ha ((List.mergeSort_perm _ _).mem_iff.mp hy)
  exact wr_eq hx2 hy2 (List.le_antisymm (of_decide_eq_true h) (of_decide_eq_true g))
theorem sort_perm {a b : List Tr} (ha : letss Ltr b) (hp : a.Perm b) : a.mergeSort leW = b.mergeSort leW :=
  sorted_is ha ((List.mergeSort_perm _ _).trans hp) (List.pairwise_mergeSort leW_trans leW_total _)
theorem tolds_perm {a b : List Tr} (h : a.Perm b) : (tolds a).Perm (tolds b) := by
  rw [tolds_map, tolds_map]
  exact h.map _
mutual
theorem Sh.told : ∀ {t u : Tr}, Sh t u → t.lets Ltr → t.told = u.told
  | _, _, .node (ks := ks) (us := us) (ls := ls) p h, hl => by
    simp only [Tr.lets] at hl
    simp only [Tr.told]
    have e := Shs.told h (letss_perm p hl.2)
    rw [sort_perm (tolds_lets _ (letss_perm p hl.2)) (tolds_perm p), e]
theorem Shs.told : ∀ {ts us : List Tr}, Shs ts us → My.letss Ltr ts → tolds ts = tolds us
  | _, _, .nil, _ => rfl
  | _, _, .cons a b, hl => by
    simp only [My.letss] at hl
    simp only [tolds, Sh.told a hl.1, Shs.told b hl.2]
end
theorem sizes_sort (ts : List Tr) : sizes (ts.mergeSort leW) = sizes ts := sizes_perm (List.mergeSort_perm _ _)
theorem depths_sort (ts : List Tr) : depths (ts.mergeSort leW) = depths ts := depths_perm (List.mergeSort_perm _ _)
mutual
theorem told_size : ∀ t : Tr, t.told.size = t.size
  | .node c ks => by simp only [Tr.told, Tr.size, sizes_sort, tolds_sizes ks]
theorem tolds_sizes : ∀ ts : List Tr, sizes (tolds ts) = sizes ts
  | [] => rfl
  | t :: r => by simp only [tolds, sizes, told_size t, tolds_sizes r]
end
mutual
theorem told_depth : ∀ t : Tr, t.told.depth = t.depth
  | .node c ks => by simp only [Tr.told, Tr.depth, depths_sort, tolds_depths ks]
theorem tolds_depths : ∀ ts : List Tr, depths (tolds ts) = depths ts
  | [] => rfl
  | t :: r => by simp only [tolds, depths, told_depth t, tolds_depths r]
end
mutual
theorem wr_len : ∀ t : Tr, t.wr.length ≤ 3 * t.size
  | .node c ks => by
    have := wrs_len ks
    have e : (brk (wrs ks)).length ≤ (wrs ks).length + 2 := by
      cases wrs ks with
      | nil => simp [brk]
      | cons x l => simp [brk]
    simp only [Tr.wr, Tr.size, List.length_cons]
    omega
theorem wrs_len : ∀ ts : List Tr, (wrs ts).length ≤ 3 * sizes ts
  | [] => by simp [wrs]
  | t :: r => by
    have a := wr_len t
    have b := wrs_len r
    simp only [wrs, sizes, List.length_append]
    omega
end
def steps : List Tr → List Tr → Option (List Tr)
  | s, [] => some s
  | s, .node c ks :: r => if ks.length ≤ s.length then steps (s.take (s.length - ks.length) ++ [.node c ((s.drop (s.length - ks.length)).mergeSort leW)]) r else none
mutual
theorem steps_post : ∀ (t : Tr) (s r : List Tr), steps s (t.post ++ r) = steps (s ++ [t.told]) r
  | .node c ks, s, r => by
    have e := steps_posts ks s (.node c ks :: r)
    simp only [Tr.post, List.append_assoc, List.singleton_append]
    rw [e]
    have l := tolds_len ks
    simp only [steps, List.length_append, l, Nat.add_sub_cancel, Nat.le_add_left, if_true, Tr.told]
    rw [List.take_left, List.drop_left]
theorem steps_posts : ∀ (ts : List Tr) (s r : List Tr), steps s (posts ts ++ r) = steps (s ++ tolds ts) r
  | [], s, r => by simp only [posts, tolds, List.nil_append, List.append_nil]
  | t :: ts, s, r => by
    simp only [posts, tolds, List.append_assoc]
    rw [steps_post t s (posts ts ++ r), steps_posts ts (s ++ [t.told]) r]
    simp only [List.append_assoc, List.singleton_append]
end
theorem steps_all (t : Tr) : steps [] t.post = some [t.told] := by
  have := steps_post t [] []
  rw [List.append_nil] at this
  rw [this]
  rfl
mutual
theorem told_told : ∀ t : Tr, t.lets Ltr → t.told.told = t.told
  | .node c ks, h => by
    simp only [Tr.lets] at h
    simp only [Tr.told]
    have e : tolds ((tolds ks).mergeSort leW) = (tolds ks).mergeSort leW := by
      rw [tolds_map]
      have : ∀ x ∈ (tolds ks).mergeSort leW, x.told = x := fun x hx => tolds_fix ks h.2 x ((List.mergeSort_perm _ _).mem_iff.mp hx)
      exact (List.map_congr_left this).trans (List.map_id' _)
    rw [e, sort_perm (tolds_lets ks h.2) (List.mergeSort_perm _ _)]
theorem tolds_fix : ∀ ts : List Tr, letss Ltr ts → ∀ x ∈ tolds ts, x.told = x
  | [], _, x, hx => by simp [tolds] at hx
  | t :: r, h, x, hx => by
    simp only [letss] at h
    simp only [tolds, List.mem_cons] at hx
    rcases hx with rfl | hx
    · exact told_told t h.1
    · exact tolds_fix r h.2 x hx
end

mutual
inductive TrO (ok : Addr → Prop) (H : Hp) : V → Tr → List Addr → Prop
  | node {a l : Addr} {vs : List V} {c : Nat} {ks : List Tr} {as : List Addr} : H a = some (.tup [.str (ch c), .ref l]) → H l = some (.lst vs) → ok a → ok l → 97 ≤ c → c ≤ 122 → TrsO ok H vs ks as → TrO ok H (.ref a) (.node c ks) (l :: as)
inductive TrsO (ok : Addr → Prop) (H : Hp) : List V → List Tr → List Addr → Prop
  | nil : TrsO ok H [] [] []
  | cons {v : V} {vs : List V} {t : Tr} {ts : List Tr} {as bs : List Addr} : TrO ok H v t as → TrsO ok H vs ts bs → TrsO ok H (v :: vs) (t :: ts) (as ++ bs)
end
section
variable {ok ok' : Addr → Prop} {H H' : Hp}
mutual
theorem TrO.imp (hk : ∀ b, ok b → ok' b) (h : ∀ b o, ok b → H b = some o → H' b = some o) : ∀ (t : Tr) (v : V) (as : List Addr), TrO ok H v t as → TrO ok' H' v t as
  | .node c ks, v, as, x => by
    cases x with
    | node h1 h2 k1 k2 c1 c2 r => exact .node (h _ _ k1 h1) (h _ _ k2 h2) (hk _ k1) (hk _ k2) c1 c2 (TrsO.imp hk h ks _ _ r)
theorem TrsO.imp (hk : ∀ b, ok b → ok' b) (h : ∀ b o, ok b → H b = some o → H' b = some o) : ∀ (ts : List Tr) (vs : List V) (as : List Addr), TrsO ok H vs ts as → TrsO ok' H' vs ts as
  | [], vs, as, x => by cases x; exact .nil
  | t :: r, vs, as, x => by
    cases x with
    | cons a b => exact .cons (TrO.imp hk h t _ _ a) (TrsO.imp hk h r _ _ b)
end
theorem TrO.keep {v : V} {t : Tr} {as : List Addr} (x : TrO ok H v t as) (h : ∀ b o, ok b → H b = some o → H' b = some o) : TrO ok H' v t as := TrO.imp (fun _ k => k) h t v as x
theorem TrO.same {v : V} {t : Tr} {as : List Addr} (x : TrO ok H v t as) (s : Same H H') : TrO ok H' v t as := x.keep fun b o _ h => s b o h
theorem TrO.weak {v : V} {t : Tr} {as : List Addr} (x : TrO ok H v t as) (h : ∀ b, ok b → ok' b) : TrO ok' H v t as := TrO.imp h (fun _ _ _ e => e) t v as x
theorem TrsO.keep {vs : List V} {ts : List Tr} {as : List Addr} (x : TrsO ok H vs ts as) (h : ∀ b o, ok b → H b = some o → H' b = some o) : TrsO ok H' vs ts as := TrsO.imp (fun _ k => k) h ts vs as x
theorem TrsO.same {vs : List V} {ts : List Tr} {as : List Addr} (x : TrsO ok H vs ts as) (s : Same H H') : TrsO ok H' vs ts as := x.keep fun b o _ h => s b o h
theorem TrsO.weak {vs : List V} {ts : List Tr} {as : List Addr} (x : TrsO ok H vs ts as) (h : ∀ b, ok b → ok' b) : TrsO ok' H vs ts as := TrsO.imp h (fun _ _ _ e => e) ts vs as x
mutual
theorem TrO.at : ∀ (t : Tr) (v : V) (as : List Addr), TrO ok H v t as → TrAt ok H v t
  | .node c ks, v, as, x => by
    cases x with
    | node h1 h2 k1 k2 c1 c2 r => exact .node h1 h2 k1 k2 c1 c2 (TrsO.at ks _ _ r)
theorem TrsO.at : ∀ (ts : List Tr) (vs : List V) (as : List Addr), TrsO ok H vs ts as → TrsAt ok H vs ts
  | [], vs, as, x => by cases x; exact .nil
  | t :: r, vs, as, x => by
    cases x with
    | cons a b => exact .cons (TrO.at t _ _ a) (TrsO.at r _ _ b)
end
mutual
theorem TrO.lst : ∀ (t : Tr) (v : V) (as : List Addr), TrO ok H v t as → ∀ b ∈ as, ok b ∧ ∃ xs, H b = some (.lst xs)
  | .node c ks, v, as, x => by
    cases x with
    | node h1 h2 k1 k2 c1 c2 r =>
      intro b hb
      rcases List.mem_cons.mp hb with e | hb
      · subst e; exact ⟨k2, _, h2⟩
      · exact TrsO.lst ks _ _ r b hb
theorem TrsO.lst : ∀ (ts : List Tr) (vs : List V) (as : List Addr), TrsO ok H vs ts as → ∀ b ∈ as, ok b ∧ ∃ xs, H b = some (.lst xs)
  | [], vs, as, x => by cases x; intro b hb; cases hb
  | t :: r, vs, as, x => by
    cases x with
    | cons x1 x2 =>
      intro b hb
      rcases List.mem_append.mp hb with hb | hb
      · exact TrO.lst t _ _ x1 b hb
      · exact TrsO.lst r _ _ x2 b hb
end
mutual
theorem TrO.there : ∀ (t : Tr) (v : V) (as : List Addr), TrO ok H v t as → TrO (fun b => ok b ∧ ∃ o, H b = some o) H v t as
  | .node c ks, v, as, x => by
    cases x with
    | node h1 h2 k1 k2 c1 c2 r => exact .node h1 h2 ⟨k1, _, h1⟩ ⟨k2, _, h2⟩ c1 c2 (TrsO.there ks _ _ r)
theorem TrsO.there : ∀ (ts : List Tr) (vs : List V) (as : List Addr), TrsO ok H vs ts as → TrsO (fun b => ok b ∧ ∃ o, H b = some o) H vs ts as
  | [], vs, as, x => by cases x; exact .nil
  | t :: r, vs, as, x => by
    cases x with
    | cons a b => exact .cons (TrO.there t _ _ a) (TrsO.there r _ _ b)
end
theorem TrO.off {v : V} {t : Tr} {as : List Addr} {w : Addr} (x : TrO ok H v t as) (h : H w = none) : TrO (fun b => ok b ∧ b ≠ w) H v t as :=
  (TrO.there t v as x).weak fun b ⟨k, o, e⟩ => ⟨k, ne_of_none e h⟩
theorem TrsO.off {vs : List V} {ts : List Tr} {as : List Addr} {w : Addr} (x : TrsO ok H vs ts as) (h : H w = none) : TrsO (fun b => ok b ∧ b ≠ w) H vs ts as :=
  (TrsO.there ts vs as x).weak fun b ⟨k, o, e⟩ => ⟨k, ne_of_none e h⟩
theorem TrsO.of : ∀ bs : List (V × Tr × List Addr), (∀ b ∈ bs, TrO ok H b.1 b.2.1 b.2.2) → TrsO ok H (bs.map (·.1)) (bs.map (·.2.1)) (bs.map (·.2.2)).flatten
  | [], _ => .nil
  | b :: r, h => by
    simp only [List.map_cons, List.flatten_cons]
    exact .cons (h b (by simp)) (TrsO.of r fun x hx => h x (by simp [hx]))
theorem TrsO.split1 : ∀ {vs : List V} {ts : List Tr} {as : List Addr}, TrsO ok H vs ts as → ∃ bs : List (V × Tr × List Addr), vs = bs.map (·.1) ∧ ts = bs.map (·.2.1) ∧ as = (bs.map (·.2.2)).flatten ∧ ∀ b ∈ bs, TrO ok H b.1 b.2.1 b.2.2
  | _, _, _, .nil => ⟨[], rfl, rfl, rfl, fun _ h => by cases h⟩
  | _, _, _, .cons (v := v) (t := t) (as := as) a b => by
    obtain ⟨bs, rfl, rfl, rfl, h⟩ := TrsO.split1 b
    refine ⟨(v, t, as) :: bs, rfl, rfl, rfl, fun x hx => ?_⟩
    rcases List.mem_cons.mp hx with e | hx
    · subst e; exact a
    · exact h x hx
theorem TrsO.snoc {vs : List V} {ts : List Tr} {as bs : List Addr} {v : V} {t : Tr} (x : TrsO ok H vs ts as) (y : TrO ok H v t bs) : TrsO ok H (vs ++ [v]) (ts ++ [t]) (as ++ bs) := by
  obtain ⟨cs, rfl, rfl, rfl, h⟩ := x.split1
  have := TrsO.of (ok := ok) (H := H) (cs ++ [(v, t, bs)]) (by
    intro b hb
    rcases List.mem_append.mp hb with hb | hb
    · exact h b hb
    · simp only [List.mem_singleton] at hb
      subst hb
      exact y)
  simpa using this
theorem TrsO.len {vs : List V} {ts : List Tr} {as : List Addr} (x : TrsO ok H vs ts as) : vs.length = ts.length := (TrsO.at ts vs as x).len
end
def ws (t : Tr) : Str := ⟨t.wr.toArray⟩
def RowO1 (ok : Addr → Prop) (H : Hp) (b : V × Tr × List Addr) : Prop := ∃ p x, b.1 = .ref p ∧ H p = some (.tup [.str (ws b.2.1), x]) ∧ ok p ∧ TrO ok H x b.2.1 b.2.2
theorem RowO1.imp {ok ok' : Addr → Prop} {H H' : Hp} {b : V × Tr × List Addr} (x : RowO1 ok H b) (hk : ∀ b, ok b → ok' b) (h : ∀ b o, ok b → H b = some o → H' b = some o) : RowO1 ok' H' b := by
  obtain ⟨p, x, e, h1, h2, h3⟩ := x
  exact ⟨p, x, e, h _ _ h2 h1, hk _ h2, TrO.imp hk h _ _ _ h3⟩
theorem RowO1.same {ok : Addr → Prop} {H H' : Hp} {b : V × Tr × List Addr} (x : RowO1 ok H b) (s : Same H H') : RowO1 ok H' b := x.imp (fun _ k => k) fun b o _ h => s b o h
theorem nodup_snoc {α : Type} {as bs : List α} (ha : as.Nodup) (hb : bs.Nodup) (h : ∀ x ∈ as, x ∉ bs) : (as ++ bs).Nodup := by
  rw [List.nodup_append]
  exact ⟨ha, hb, fun a h1 b h2 e => h a h1 (e ▸ h2)⟩

open LamX NdefX in
structure CalX (P : Program) (w : World) (K : PySem.W.Frag) (mg : Str → Option Value) (base : Heap) (k : Nat) (f : Addr) (G : Hp → Prop) (np : Nat) (sp : Sp) : Prop where
  len : ∀ vs H Q E, sp vs H Q E → vs.length = np
  at_ : ∀ (s : Shared) (H : Hp), HOk P w H s.heap → K.In s.heap → G H → PySem.W.FnAt f s.heap
  run : ∀ (A : Around) (outer : List Env) (s : Shared) (H : Hp) (us : List Value) (vs : List V) (Q : VK) (E : XK), Room k A → Env0 P w K mg base A outer s H → G H → Vals vs us → sp vs H Q E → codeAny (model P w) A (.call (.ref f) ⟨us, []⟩) (CR CX0 outer P w H s Q E) s
def tCalX (i : Nat) (f : Addr) (G : Hp → Prop) (sp : Sp) (t : TA) : TE := fun σ H Q => σ[i]? = some (some (.ref f)) ∧ G H ∧ t σ H fun vs H1 => G H1 ∧ sp vs H1 Q C8.E0
theorem pe_calX {X : Cx} {k i np : Nat} {f : Addr} {G : Hp → Prop} {sp : Sp} {x : Str} {p pos : Pos} {e : PySem.Expr} {es : List PySem.Expr} {t : TA}
    (C : CalX X.prog X.w X.K X.mg X.base k f G np sp) (hr : Room k X.A) (hN : X.N[i]? = some x) (hv : Vis X.env.scope x) (ha : PA X (e :: es) t)
    (hdb : (x == ("__debug__" : Str)) = false := by decide) (hcd : (x == ("__classdict__" : Str)) = false := by decide)
    (he : starEach (e :: es) X.env = (false, eval e X.env) :: starEach es X.env := by rfl) (hpl : (backTo pos (starEach es X.env)).any (·.1) = false := by rfl) : PE X (.Call (.Name x p) (e :: es) [] pos) (tCalX i f G sp t) := by
  refine ⟨fun pins s σ H Q I h => ?_⟩
  obtain ⟨hs, hg, ht⟩ := h
  refine wpAny_Call_Name_kw (thn ((pe_var (pos := p) hN hv hdb hcd).run pins s σ H (fun v H1 => v = .ref f ∧ H1 = H) I ⟨.ref f, hs, rfl, rfl⟩) fun u s1 ⟨v, H1, I1, r1, q1⟩ => ?_)
  obtain ⟨ev, eH⟩ := q1
  subst ev
  rw [eH] at I1
  obtain rfl : u = Value.ref f := r1
  refine PySem.W.callWith_F (first := []) (C.at_ s1 H I1.hok I1.kIn hg) (thn (ha.run pos pins s1 σ H _ I1 ht) fun us s2 ⟨vs, H2, I2, r, h1, q⟩ => ⟨C.at_ s2 H2 I2.hok I2.kIn h1, ?_⟩) he hpl
  show wpAny _ _ (call (.ref f) us) _ _ _
  refine wpAny_call (codeAny_mono (C.run X.A X.stack s2 H2 us vs Q C8.E0 hr I2.env0 h1 r q) fun r s' hq => ?_)
  cases r with
  | error e => exact (show False from hq).elim
  | ok fl =>
    cases fl with
    | ret u => exact I2.after hq
    | next => exact False.elim hq
    | brk => exact False.elim hq
    | cont => exact False.elim hq
theorem calX_of {P : Program} {w : World} {K : PySem.W.Frag} {mg : Str → Option Value} {base : Heap} {k : Nat} {x q : Str} {st : Stmt} {f : Addr} {fd : FuncData} {ps : List Str} {sp : Sp} (F : FnOk P w K mg base CX0 k f fd ps sp) (U : Fun K x q st f fd) (hb : Binds K fd ps []) {G : Hp → Prop} : CalX P w K mg base k f G ps.length sp := by
  refine ⟨F.len, fun s H _ hk _ => ?_, fun A outer s H us vs Q E hr e0 _ r h => ?_⟩
  · obtain ⟨oc, od, kV, doc, pm, an, cdv, ct, osl, rfl, lk, hcd⟩ := U.ex
    exact ⟨_, _, _, _, hk _ _ lk⟩
  · have KX : K.In s.heap := e0.mod.kin.keeps fun b o e => (e0.bs b o e).1
    have hl : us.length = ps.length := by rw [← r.length]; exact F.len _ _ _ _ h
    have hb' := hb s us KX (by rw [List.append_nil]; exact hl)
    rw [List.append_nil] at hb'
    exact F.run A outer s H ⟨us, []⟩ us vs Q E hr e0 hb' r h
structure LF where
  qual : Str
  params : Arguments
  body : PySem.Expr
  scope : PySem.Scope
  cl : List (Str × Addr)
  c : Addr
abbrev LF.nf (F : LF) : NdefX.NF := ⟨"<lambda>", F.qual, F.params, [], F.scope, F.cl, F.c⟩
def LamO (f : Addr) (F : LF) : HO := .ext fun h => ∃ pm ctv, h.get? f = some (PySem.W.kla_obj "<lambda>" F.qual F.params F.body F.scope F.cl pm F.c ctv)
theorem lamO_ok {P : Program} {w : World} {H : Hp} {h : Heap} {F : LF} {pm ctv : Value} :
    ObjOk P w H (h.push (PySem.W.kla_obj "<lambda>" F.qual F.params F.body F.scope F.cl pm F.c ctv)) h.objs.size (LamO h.objs.size F) := by
  have e : (h.push (PySem.W.kla_obj "<lambda>" F.qual F.params F.body F.scope F.cl pm F.c ctv)).get? h.objs.size = some (PySem.W.kla_obj "<lambda>" F.qual F.params F.body F.scope F.cl pm F.c ctv) := Heap.get?_push_size _ rfl
  exact ⟨⟨pm, ctv, e⟩, ⟨_, e⟩, fun h1 h2 ⟨a1, a2, e1⟩ k => ⟨a1, a2, k _ e1⟩⟩
theorem calX_lam {P : Program} {w : World} {K : PySem.W.Frag} {mg : Str → Option Value} {base : Heap} {k : Nat} {N ps : List Str} {f : Addr} {F : LF} {sp : Sp} (S : NdefX.NScope N ps [] F.scope) (hcl : F.cl = [])
    (hb : ∀ (pm ctv : Value) (us : List Value), us.length = ps.length → bindArgs (PySem.W.kla_fn "<lambda>" F.qual F.params F.body F.scope F.cl pm (.ref F.c) ctv) ⟨us, []⟩ = pure (ps.zip us)) (len : ∀ vs H Q E, sp vs H Q E → vs.length = ps.length)
    (hbody : ∀ (A : Around) (outer : List Env) (s : Shared) (H : Hp) (vs : List V) (Q : VK) (E : XK), Room k (A.deeper (NdefX.envF F.nf f s.heap.objs.size)) → sp vs H Q E →
      ∃ t, PE (NdefX.ncx CX0 P w K mg base N F.nf f A outer s H E) F.body t ∧ t (NdefX.startF N vs []) H Q) :
    CalX P w K mg base (k + 1) f (fun H => H f = some (LamO f F) ∧ H F.c = some (LamX.CodeO F.c F.qual)) ps.length sp := by
  refine ⟨len, fun s H hok _ hg => ?_, fun A outer s H us vs Q E hr e0 hg r hsp => ?_⟩
  · obtain ⟨⟨pm, ctv, e⟩, _, _⟩ := hok _ _ hg.1
    exact ⟨_, _, _, _, e⟩
  obtain ⟨⟨pm, ctv, ho⟩, _, _⟩ := e0.hok _ _ hg.1
  have hl := len _ _ _ _ hsp
  have lim : s.heap.NoLimit := e0.mod.nolimit.keeps fun b o e => (e0.bs b o e).1
  refine PySem.W.kla_callFunE hr.depth ho rfl S.co S.gen rfl (NdefX.codeO_at e0.hok hg.2) ?_
  rw [hb pm ctv us (by rw [← r.length]; exact hl)]
  refine wpAny_pure (wpAny_newFunctionEnv S.nocell (fun ⟨n, _⟩ hy => S.par n (List.of_mem_zip hy).1) (fun h₁ hns hsb => ⟨lim.fresh _ hsb, ?_⟩) S.kind)
  show codeAny _ _ (.expr F.body (NdefX.envF F.nf f s.heap.objs.size)) _ _
  have kp : ∀ b o, s.heap.get? b = some o → h₁.get? b = some o := fun b o e => hsb.extBut b o (Nat.ne_of_lt (Heap.lt_size e)) (Heap.get?_push_of_some _ e)
  obtain ⟨t, ht, hq⟩ := hbody A outer s H vs Q E (hr.deeper _) hsp
  have C : NdefX.CellsAt F.nf.cl [] [] s.heap H := by
    have e : F.nf.cl = [] := hcl
    rw [e]
    exact ⟨rfl, (fun y c e => by cases e), (fun x y c e => by cases e), (fun i y e => by simp at e)⟩
  have I : Inv (NdefX.ncx CX0 P w K mg base N F.nf f A outer s H E) [] (NdefX.startF N vs []) H { s with heap := h₁, toks := s.toks + (ps.zip us).length } := NdefX.inv_startN S hr.hd e0 hl r C hns kp
  refine PySem.W.kla_codeExpr (wpAny_mono (ht.run [] _ _ H Q I hq) (fun v s' hq => ?_) fun e s' hq => hq)
  obtain ⟨w', H', J', rv, q⟩ := hq
  exact ⟨w', H', J'.os, J'.bare, J'.base, J'.hok, rv, q⟩
theorem pe_lamX {X : Cx} {c P : Addr} {params : Arguments} {body : PySem.Expr} {scope : PySem.Scope} {pos : Pos} (tb : LamX.TabB X.base X.mg c P) (hc : X.env.code = .ref c) (hd : defaultsOf params X.env = ([], []))
    (hfree : ∀ y ∈ scope.names, y.2 = .free → ∃ c, X.env.cells.lookup y.1 = some c) : PE X (.Lambda params body scope pos) (fun σ H Q => LamX.TabS H P (X.env.qual ++ "<lambda>") ∧ ∀ (f c : Addr) (H1 : Hp), Fr P H H1 → (∀ b, H1 b = none → H b = none) → LamX.TabS H1 P (X.env.qual ++ "<lambda>") → H f = none →
      H1 f = some (LamO f ⟨X.env.qual ++ "<lambda>", params, body, scope, cloFrom X.env.cells scope.names [], c⟩) → H1 c = some (LamX.CodeO c (X.env.qual ++ "<lambda>")) → Q (.ref f) H1) := by
  refine ⟨fun pins s σ H Q I h => ?_⟩
  obtain ⟨ht, q⟩ := h
  have hclo : closureFor scope X.env = pure (cloFrom X.env.cells scope.names []) := closure_ok hfree
  have ht' := ht
  obtain ⟨ps, hP, hT, hA⟩ := ht'
  have oP : s.heap.get? P = some (PySem.W.tabObj ps) := I.hok _ _ hP
  refine PySem.W.kla_eval hd ?_
  cases hcd : codeAmong pos ps.toList with
  | some cv =>
    obtain ⟨c', rfl, hc'⟩ := hA _ _ hcd
    refine PySem.W.kla_makeFunctionHit hclo I.ok.glob (I.mod.glob.keeps I.bk) hc (tb.code.keeps I.bk) oP hT hcd (tb.bm.keeps I.bk) (fun ctv h' tk hk hs => ?_)
    have I1 := I.kept (t' := tk) hk
    have hz : s.heap.objs.size ≤ h'.objs.size := hs
    have hn : H h'.objs.size = none := I.hok.fresh hz
    refine ⟨.ref h'.objs.size, upd H h'.objs.size (LamO h'.objs.size ⟨X.env.qual ++ "<lambda>", params, body, scope, cloFrom X.env.cells scope.names [], c'⟩), ?_, rfl, q _ c' _ (fun b o _ hb => ?_) (fun b e => NdefX.upd_none e) (ht.ext fun b o hb => ?_) hn upd_same ?_⟩
    · exact I1.laid (h' := h'.push _) (t' := tk) (fun b u hb => Heap.get?_push_of_some _ hb) (Nat.le_refl _) (lamO_ok (F := ⟨X.env.qual ++ "<lambda>", params, body, scope, cloFrom X.env.cells scope.names [], c'⟩))
    · rw [upd_ne (ne_of_none hb hn)]; exact hb
    · rw [upd_ne (ne_of_none hb hn)]; exact hb
    · rw [upd_ne (ne_of_none hc' hn)]; exact hc'
  | none =>
    refine PySem.W.kla_makeFunction hclo I.ok.glob (I.mod.glob.keeps I.bk) hc (tb.code.keeps I.bk) oP hT hcd tb.gP (tb.bm.keeps I.bk) (fun c' ctv h' tk he hl hu hrec hP' => ?_)
    obtain ⟨c2, o2, vs2, t2, ec, e1, e2, e3⟩ := hrec
    cases ec
    have I2 := LamX.inv_table (t' := tk) (c := c') (q := X.env.qual ++ "<lambda>") I hP he (more := #[rawInt ↑pos.line, rawInt ↑pos.col, .ref c']) hP' hl ⟨_, _, _, e1, e2, e3⟩
    have hn : (upd (upd H P (.tbl (ps ++ #[rawInt ↑pos.line, rawInt ↑pos.col, .ref c']))) c' (LamX.CodeO c' (X.env.qual ++ "<lambda>"))) h'.objs.size = none := I2.hok.fresh (Nat.le_refl _)
    have hcn : H c' = none := I.hok.fresh hl
    have hPc : P ≠ c' := fun e => by rw [e] at hP; rw [hcn] at hP; cases hP
    refine ⟨.ref h'.objs.size, _, I2.laid (h' := h'.push _) (o := LamO h'.objs.size ⟨X.env.qual ++ "<lambda>", params, body, scope, cloFrom X.env.cells scope.names [], c'⟩) (t' := tk) (fun b u hb => Heap.get?_push_of_some _ hb) (Nat.le_refl _) (lamO_ok (F := ⟨X.env.qual ++ "<lambda>", params, body, scope, cloFrom X.env.cells scope.names [], c'⟩)), rfl, q _ c' _ ?_ (fun b e => NdefX.upd_none (NdefX.upd_none (NdefX.upd_none e))) ?_ (NdefX.upd_none (NdefX.upd_none hn)) upd_same ?_⟩
    · intro b o hbP hb
      have h1 : (upd (upd H P (.tbl (ps ++ #[rawInt ↑pos.line, rawInt ↑pos.col, .ref c']))) c' (LamX.CodeO c' (X.env.qual ++ "<lambda>"))) b = some o := by
        rw [upd_ne (ne_of_none hb hcn), upd_ne hbP]; exact hb
      rw [upd_ne (ne_of_none h1 hn)]; exact h1
    · refine LamX.TabS.ext (H := upd (upd H P (.tbl (ps ++ #[rawInt ↑pos.line, rawInt ↑pos.col, .ref c']))) c' (LamX.CodeO c' (X.env.qual ++ "<lambda>"))) ?_ (fun b o hb => by rw [upd_ne (ne_of_none hb hn)]; exact hb)
      refine ⟨_, by rw [upd_ne hPc]; exact upd_same, ?_, ?_⟩
      · simpa using TriplesOk_snoc _ _ _ _ hT
      · intro pos2 cv hcv
        rw [Array.toList_append] at hcv
        rcases LamX.among_app _ hT hcv with h | h
        · obtain ⟨c3, e3, h3⟩ := hA _ _ h
          refine ⟨c3, e3, ?_⟩
          rw [upd_ne (ne_of_none h3 hcn), upd_ne (fun e => by rw [e, hP] at h3; cases h3)]
          exact h3
        · exact ⟨c', h, upd_same⟩
    · have h1 : (upd (upd H P (.tbl (ps ++ #[rawInt ↑pos.line, rawInt ↑pos.col, .ref c']))) c' (LamX.CodeO c' (X.env.qual ++ "<lambda>"))) c' = some (LamX.CodeO c' (X.env.qual ++ "<lambda>")) := upd_same
      rw [upd_ne (ne_of_none h1 hn)]; exact h1
theorem nofree_by {scope : PySem.Scope} {cells : List (Str × Addr)} (h : (scope.names.all fun y => !decide (y.2 = .free)) = true) : ∀ y ∈ scope.names, y.2 = .free → ∃ c, cells.lookup y.1 = some c := fun y hy e => by
  have := List.all_eq_true.mp h y hy
  simp only [e, decide_true, Bool.not_true] at this
  cases this
theorem CalX.imp {P : Program} {w : World} {K : PySem.W.Frag} {mg : Str → Option Value} {base : Heap} {k j : Nat} {f : Addr} {G G' : Hp → Prop} {np : Nat} {sp sp' : Sp} (C : CalX P w K mg base k f G np sp) (hk : k ≤ j) (hG : ∀ H, G' H → G H) (hs : ∀ vs H Q E, sp' vs H Q E → sp vs H Q E) : CalX P w K mg base j f G' np sp' :=
  ⟨fun vs H Q E q => C.len vs H Q E (hs _ _ _ _ q), fun s H a b g => C.at_ s H a b (hG H g), fun A outer s H us vs Q E hr e0 g r q => C.run A outer s H us vs Q E (hr.mono hk) e0 (hG H g) r (hs _ _ _ _ q)⟩
inductive Runs : List Tr → List Tr → List Tr → Prop
  | nil {us : List Tr} : Runs us [] us
  | cons {us ks r z : List Tr} {c : Nat} : Runs (us ++ [.node c ks]) r z → Runs (us ++ ks) (.node c ks :: r) z
mutual
theorem runs_post : ∀ (t : Tr) (us r z : List Tr), Runs (us ++ [t]) r z → Runs us (t.post ++ r) z
  | .node c ks, us, r, z, h => by
    simp only [Tr.post, List.append_assoc, List.singleton_append]
    exact runs_posts ks us _ z (.cons h)
theorem runs_posts : ∀ (ts us r z : List Tr), Runs (us ++ ts) r z → Runs us (posts ts ++ r) z
  | [], us, r, z, h => by simpa [posts] using h
  | t :: ts, us, r, z, h => by
    simp only [posts, List.append_assoc]
    refine runs_post t us _ z (runs_posts ts (us ++ [t]) r z ?_)
    rw [List.append_assoc]
    exact h
end
theorem runs_all (t : Tr) : Runs [] t.post [t] := by
  have := runs_post t [] [] [t] .nil
  rwa [List.append_nil] at this
abbrev ItP := (Addr → Prop) → Hp → V → Tr → List Addr → Prop
structure ItOk (It : ItP) : Prop where
  imp : ∀ {ok ok' : Addr → Prop} {H H' : Hp} {v : V} {t : Tr} {as : List Addr}, (∀ b, ok b → ok' b) → (∀ b o, ok b → H b = some o → H' b = some o) → It ok H v t as → It ok' H' v t as
  lst : ∀ {ok : Addr → Prop} {H : Hp} {v : V} {t : Tr} {as : List Addr}, It ok H v t as → ∀ b ∈ as, ok b ∧ ∃ xs, H b = some (.lst xs)
abbrev lstsI (bs : List (V × Tr × List Addr)) : List Addr := (bs.map fun b => b.2.2).flatten
def sp_made (It : ItP) (Pt : Addr) (q : Str) : Sp := fun vs H Q _ => ∃ (c : Nat) (bl : Addr) (bs : List (V × Tr × List Addr)) (ok : Addr → Prop), vs = [.str (ch c), .ref bl] ∧ 97 ≤ c ∧ c ≤ 122 ∧ H bl = some (.lst (bs.map (·.1))) ∧ ok bl ∧
  (∀ b ∈ bs, It ok H b.1 b.2.1 b.2.2) ∧ (bl :: lstsI bs).Nodup ∧ sizes (bs.map (·.2.1)) ≤ 1000000 ∧ (∀ b, ok b → b ≠ Pt) ∧ LamX.TabS H Pt q ∧
  ∀ v as H', Fr Pt H H' → LamX.TabS H' Pt q → It (fun b => ok b ∨ H b = none) H' v (.node c (bs.map (·.2.1))) as → as.Nodup → (∀ a ∈ as, a ∈ bl :: lstsI bs ∨ H a = none) → Q v H'
def sp_built_upward (P : Program) (w : World) (K : PySem.W.Frag) (mg : Str → Option Value) (base : Heap) (k : Nat) (Pt : Addr) (q : Str) : Sp := fun vs H Q _ => ∃ (v : V) (t : Tr) (f : Addr) (It : ItP), vs = [v, .ref f] ∧ TrAt (fun _ => True) H v t ∧ t.size ≤ 1000000 ∧ ItOk It ∧ LamX.TabS H Pt q ∧
  CalX P w K mg base k f (fun H' => Fr Pt H H') 2 (sp_made It Pt q) ∧ ∀ r as H', Fr Pt H H' → LamX.TabS H' Pt q → It (fun b => H b = none) H' r t as → as.Nodup → Q r H'


theorem cut_fromU (xs : List V) (k : Nat) (h : k ≤ xs.length) : cutV xs (some (k : Int)) none = xs.drop k := by
  have e : HT.sIx xs.length 0 (some (k : Int)) = k := by
    show (if (k : Int) < 0 then ((k : Int) + (xs.length : Int)).toNat else min ((k : Int).toNat) xs.length) = k
    rw [if_neg (by omega)]
    omega
  have e2 : HT.sIx xs.length xs.length none = xs.length := rfl
  unfold cutV
  rw [e, e2]
  exact List.take_of_length_le (by rw [List.length_drop]; omega)
theorem TabS.fr1 {H H' : Hp} {P p : Addr} {q : Str} {xs : List V} (h : LamX.TabS H P q) (hp : H p = some (.lst xs)) (f : Fr p H H') : LamX.TabS H' P q := by
  obtain ⟨ps, h1, h2, h3⟩ := h
  refine ⟨ps, f _ _ (fun e => by rw [e, hp] at h1; cases h1) h1, h2, fun pos cv hc => ?_⟩
  obtain ⟨c, e, h4⟩ := h3 pos cv hc
  exact ⟨c, e, f _ _ (fun e => by rw [e, hp] at h4; cases h4) h4⟩
mutual
theorem TrAt.kind1 {ok : Addr → Prop} {H : Hp} : ∀ (t : Tr) (v : V), TrAt ok H v t → TrAt (fun b => ok b ∧ ∀ ps, H b ≠ some (.tbl ps)) H v t
  | .node c ks, v, x => by
    cases x with
    | node h1 h2 k1 k2 c1 c2 r => exact .node h1 h2 ⟨k1, fun ps e => by rw [h1] at e; cases e⟩ ⟨k2, fun ps e => by rw [h2] at e; cases e⟩ c1 c2 (TrsAt.kind1 ks _ r)
theorem TrsAt.kind1 {ok : Addr → Prop} {H : Hp} : ∀ (ts : List Tr) (vs : List V), TrsAt ok H vs ts → TrsAt (fun b => ok b ∧ ∀ ps, H b ≠ some (.tbl ps)) H vs ts
  | [], vs, x => by cases x; exact .nil
  | t :: r, vs, x => by
    cases x with
    | cons a b => exact .cons (TrAt.kind1 t _ a) (TrsAt.kind1 r _ b)
end
section
variable {P : Program} {w : World} {K : PySem.W.Frag} {mg : Str → Option Value} {base : Heap}
theorem ok_built_upward (T : Txt K mg) (k : Nat) (hk : 5 ≤ k) (Pt : Addr) (qn : Str) : FnOk P w K mg base CX0 (k + 1) T.f_built_upward T.d_built_upward ["tree", "made"] (sp_built_upward P w K mg base k Pt qn) := by
  have G_parts_upward : FnOk P w K mg base CX0 5 T.f_parts_upward T.d_parts_upward ["tree"] sp_parts_upward := ok_parts_upward T
  refine T.F_built_upward.ok sc_built_upward (fun vs H Q E h => ?_) (fun cdv A outer s H vs Q E hr h => ?_)
  · obtain ⟨v, t, f, It, rfl, _⟩ := h
    rfl
  obtain ⟨v, t, f, It, rfl, ht, hz, hIt, hT, C, q⟩ := h
  have C_made := C
  refine ⟨_, (pss_cons (ps_set (i := 2) sc_built_upward.nd rfl (Or.inl rfl) (pe_lst pa_nil)) (pss_cons (ps_for PassesOwn.never rfl (pi_list (pe_call G_parts_upward (hr.mono (by omega)) (by rfl) T.m_parts_upward T.F_parts_upward.kp T.b_parts_upward .nil pass0 (pa_cons (pv 0) pa_nil))) (pg_tup rfl (pgs_cons (pg_name (i := 3) sc_built_upward.nd rfl (Or.inl rfl)) (pgs_cons (pg_name (i := 4) sc_built_upward.nd rfl (Or.inl rfl)) pgs_nil))) (pss_cons (ps_set (i := 5) sc_built_upward.nd rfl (Or.inl rfl) (pe_op op_sub (pe_callB call_len_seq (by rfl) T.z_len PySem.boot_len (pa_cons (pv 2) pa_nil)) (pe_callB call_len_seq (by rfl) T.z_len PySem.boot_len (pa_cons (pv 4) pa_nil)))) (pss_cons (ps_set (i := 6) sc_built_upward.nd rfl (Or.inl rfl) (pe_slice sl_list (pv 2) (po_some (pv 5)) po_none)) (pss_cons (ps_delFrom (pv 2) (pv 5)) (pss_one (ps_expr (pe_bm PySem.F.plainAttrs_list PySem.F.slot_list_append PySem.F.type_list_append mt_append (pv 2) (pa_cons (pe_calX (i := 1) C_made (hr.mono (by omega)) rfl (.inl (by rfl)) (pa_cons (pv 3) (pa_cons (pv 6) pa_nil))) pa_nil)))))))) (pss_one (ps_ret (pe_ix ix_list (pv 2) pe_int (fun _ _ => rfl)))))), ?_⟩
  obtain ⟨ps0, hP0, _, _⟩ := id hT
  refine ⟨(by show 0 ≤ sizeLine; decide), fun wl hwl => ?_⟩
  have nPw : Pt ≠ wl := ne_of_none hP0 hwl
  have ht1 := (ht.off hwl).same (same_new (o := .lst []) hwl)
  refine ⟨_, rfl, v, t, _, rfl, ht1, hz, fun r wsv H1 s1 hr0 hr1 hparts => ?_⟩
  have hw1 : H1 wl = some (.lst []) := s1 _ _ upd_same
  have nrw : r ≠ wl := fun e => by rw [e, upd_same] at hr0; cases hr0
  have sH1 : Same H H1 := (same_new hwl).trans s1
  have hr00 : H r = none := by rw [upd_ne nrw] at hr0; exact hr0
  have nPr : Pt ≠ r := ne_of_none hP0 hr00
  have hp2 : TrsAt (fun b => b ≠ wl ∧ b ≠ r ∧ b ≠ Pt) H1 wsv t.post := by
    exact (TrsAt.kind1 _ _ hparts).weak fun b ⟨⟨k, h⟩, n⟩ => ⟨k.2, fun e => h (by rw [e]; exact hr0), fun e => n ps0 (by rw [e]; exact sH1 _ _ hP0)⟩
  refine ⟨r, rfl, ⟨_, SqL.of hr1⟩, for_list (xs := wsv) (fun i σ H2 => ∃ (y3 y4 y5 y6 : Option V) (bs : List (V × Tr × List Addr)), σ = [some v, some (.ref f), some (.ref wl), y3, y4, y5, y6] ∧ H2 wl = some (.lst (bs.map (·.1))) ∧
      (∀ b ∈ bs, It (fun b => H b = none ∧ b ≠ wl) H2 b.1 b.2.1 b.2.2) ∧ (lstsI bs).Nodup ∧ Runs (bs.map (·.2.1)) (t.post.drop i) [t] ∧ sizes (bs.map (·.2.1)) ≤ i ∧ Fr Pt H H2 ∧ LamX.TabS H2 Pt qn ∧ H2 r = some (.lst wsv) ∧ TrsAt (fun b => b ≠ wl ∧ b ≠ r ∧ b ≠ Pt) H2 wsv t.post)
    ⟨none, none, none, none, [], rfl, hw1, (fun _ h => by cases h), List.nodup_nil, (by rw [List.drop_zero]; exact runs_all t), (Nat.le_refl _), Fr.same sH1, hT.ext sH1, hr1, hp2⟩ (fun i σ H2 _ ⟨_, _, _, _, _, _, _, _, _, _, _, _, _, h, _⟩ => SqL.of h) ?_ ?_⟩
  · rintro i x σ H2 hx ⟨y3, y4, y5, y6, bs, rfl, hw2, hb, hnd, hst, hsz, hf, hT2, hr2, hpp⟩
    obtain ⟨t1, ht1', hx2⟩ := hpp.getV hx
    have hdrop : t.post.drop i = t1 :: t.post.drop (i + 1) := by
      obtain ⟨hlt, e⟩ := List.getElem?_eq_some_iff.mp ht1'
      rw [← e]
      exact List.drop_eq_getElem_cons hlt
    have hi : i < t.size := by
      have := (List.getElem?_eq_some_iff.mp ht1').1
      rw [post_len] at this
      exact this
    rw [hdrop] at hst
    generalize hus : bs.map (·.2.1) = us0 at hst
    cases hst with
    | cons hst =>
    rename_i us ks c
    obtain ⟨b1, b2, rfl, e1, e2⟩ := List.map_eq_append_iff.mp hus
    subst e1
    subst e2
    rw [List.map_append, sizes_append] at hsz
    have lz := len_sizes (b2.map (·.2.1))
    have lz1 := len_sizes (b1.map (·.2.1))
    rw [List.length_map] at lz lz1
    cases hx2 with
    | node g1 g2 o1 o2 c1 c2 rr =>
      rename_i ax lx vx
      have lr := rr.len
      rw [List.length_map] at lr
      refine ⟨_, _, rfl, SqT.of g1, rfl, ?_⟩
      refine ⟨_, _, rfl, _, _, rfl, rfl, _, rfl, wl, _, rfl, .inl (SqL.of hw2), _, rfl, lx, _, rfl, .inl (SqL.of g2), _, _, rfl, rfl, ?_⟩
      rw [List.length_map, lr, List.length_append]
      have ek : (((b1.length + b2.length : Nat) : Int) - (b2.length : Int)) = (b1.length : Int) := by omega
      show gName 5 (.int (((b1.length + b2.length : Nat) : Int) - (b2.length : Int))) _ _ _
      rw [ek]
      refine ⟨_, rfl, _, rfl, _, rfl, wl, _, rfl, SqL.of hw2, fun p hp => ?_⟩
      rw [cut_fromU _ _ (by rw [List.length_map, List.length_append]; omega)]
      have hcut : ((b1 ++ b2).map (·.1)).drop b1.length = b2.map (·.1) := by
        rw [List.map_append, List.drop_left' (List.length_map _)]
      have htk : ((b1 ++ b2).map (·.1)).take b1.length = b1.map (·.1) := by
        rw [List.map_append, List.take_left' (List.length_map _)]
      rw [hcut]
      have nPp : Pt ≠ p := by
        intro e
        obtain ⟨_, e2, _⟩ := hT2
        rw [← e, e2] at hp
        cases hp
      have npw : p ≠ wl := fun e => by rw [e, hw2] at hp; cases hp
      have hp0 : H p = none := by
        cases e : H p with
        | none => rfl
        | some o => rw [hf p o nPp.symm e] at hp; cases hp
      have okP : ∀ b, (H b = none ∧ b ≠ wl) → b ≠ Pt := fun b h e => by rw [e, hP0] at h; cases h.1
      refine ⟨_, rfl, _, rfl, wl, _, b1.length, rfl, rfl, (by rw [upd_ne npw.symm]; exact hw2), (by rw [List.length_map, List.length_append]; omega), ?_⟩
      rw [htk]
      generalize hH5 : upd (upd H2 p (.lst (b2.map (·.1)))) wl (.lst (b1.map (·.1))) = H5
      have hw5 : H5 wl = some (.lst (b1.map (·.1))) := by rw [← hH5]; exact upd_same
      have hp5 : H5 p = some (.lst (b2.map (·.1))) := by rw [← hH5, upd_ne npw]; exact upd_same
      have k25 : ∀ b o, b ≠ wl → H2 b = some o → H5 b = some o := fun b o n e => by rw [← hH5, upd_ne n, upd_ne (ne_of_none e hp)]; exact e
      have T5 : LamX.TabS H5 Pt qn := TabS.fr1 hT2 hw2 fun b o n e => k25 b o n e
      have F5 : Fr Pt H H5 := fun b o n e => k25 _ _ (ne_of_none e hwl) (hf b o n e)
      refine ⟨_, rfl, .inl ⟨rfl, _, SqL.of hw5⟩, rfl, F5, _, rfl, _, rfl, F5, c, p, b2, (fun b => H b = none ∧ b ≠ wl), rfl, c1, c2, hp5, ⟨hp0, npw⟩, ?_, ?_, by omega, okP, T5, fun v' as H6 f6 T6 it6 nd6 ha6 => ?_⟩
      · exact fun b hb5 => hIt.imp (fun _ h => h) (fun b o h e => k25 b o h.2 e) (hb b (List.mem_append_right _ hb5))
      · have e0 : lstsI (b1 ++ b2) = lstsI b1 ++ lstsI b2 := by simp [lstsI]
        rw [e0] at hnd
        rw [List.nodup_cons]
        refine ⟨fun hm => ?_, (List.nodup_append.mp hnd).2.1⟩
        obtain ⟨as, ha, hl2⟩ := List.mem_flatten.mp hm
        obtain ⟨b, hb8, rfl⟩ := List.mem_map.mp ha
        obtain ⟨_, xs, e5⟩ := hIt.lst (hb b (List.mem_append_right _ hb8)) p hl2
        rw [hp] at e5
        cases e5
      have hw6 := f6 _ _ nPw.symm hw5
      refine ⟨wl, _, v', rfl, rfl, hw6, Nat.lt_of_le_of_lt (show (b1.map (·.1)).length ≤ 1000000 by rw [List.length_map]; omega) (by decide), ?_⟩
      have k27 : ∀ b o, b ≠ Pt → b ≠ wl → H2 b = some o → (upd H6 wl (.lst (b1.map (·.1) ++ [v']))) b = some o := fun b o n1 n2 e => by
        rw [upd_ne n2]
        exact f6 _ _ n1 (k25 _ _ n2 e)
      obtain ⟨ps5, hP5, _, _⟩ := id T5
      have free5 : ∀ b, H5 b = none → H b = none ∧ b ≠ wl := fun b h => by
        refine ⟨?_, fun e => by rw [e, hw5] at h; cases h⟩
        cases e : H b with
        | none => rfl
        | some o =>
          have n1 : b ≠ Pt := fun e2 => by rw [e2, hP5] at h; cases h
          rw [F5 _ _ n1 e] at h
          cases h
      refine ⟨_, _, _, _, b1 ++ [(v', .node c (b2.map (·.2.1)), as)], rfl, ?_, ?_, ?_, ?_, ?_, ?_, ?_, k27 _ _ nPr.symm nrw hr2, ?_⟩
      · rw [upd_same, List.map_append]
        rfl
      · intro b hb7
        rcases List.mem_append.mp hb7 with h | h
        · exact hIt.imp (fun _ h => h) (fun b o h e => k27 b o (okP b h) h.2 e) (hb b (List.mem_append_left _ h))
        · simp only [List.mem_singleton] at h
          subst h
          refine hIt.imp (fun b h => h.elim id (free5 b)) (fun b o h e => ?_) it6
          rw [upd_ne (h.elim (fun h => h.2) fun h => (free5 b h).2)]
          exact e
      · have e0 : lstsI (b1 ++ b2) = lstsI b1 ++ lstsI b2 := by simp [lstsI]
        have e1 : lstsI (b1 ++ [(v', Tr.node c (b2.map (·.2.1)), as)]) = lstsI b1 ++ as := by simp [lstsI]
        rw [e0] at hnd
        rw [e1]
        refine nodup_snoc (List.nodup_append.mp hnd).1 nd6 fun a h1 h2 => ?_
        obtain ⟨as1, hm1, hl1⟩ := List.mem_flatten.mp h1
        obtain ⟨b, hb8, rfl⟩ := List.mem_map.mp hm1
        obtain ⟨o1, xs, e5⟩ := hIt.lst (hb b (List.mem_append_left _ hb8)) a hl1
        rcases ha6 a h2 with h | h
        · rcases List.mem_cons.mp h with h | h
          · rw [h, hp] at e5; cases e5
          · exact (List.nodup_append.mp hnd).2.2 a h1 a h rfl
        · rw [k25 _ _ o1.2 e5] at h
          cases h
      · rw [List.map_append]
        exact hst
      · rw [List.map_append, sizes_append]
        simp only [List.map_cons, List.map_nil, sizes, Tr.size]
        omega
      · intro b o n e
        exact k27 b o n (ne_of_none e hwl) (hf b o n e)
      · exact TabS.fr1 T6 hw6 fun b o n e => by rw [upd_ne n]; exact e
      · exact hpp.keep fun b o h e => k27 b o h.2.2 h.1 e
  · rintro σ H2 ⟨y3, y4, y5, y6, bs, rfl, hw2, hb, hnd, hst, hsz, hf, hT2, hr2, hpp⟩
    rw [hpp.len, List.drop_length] at hst
    generalize hus : bs.map (·.2.1) = us0 at hst
    cases hst
    obtain ⟨b, rfl⟩ : ∃ b, bs = [b] := by
      have := congrArg List.length hus
      rw [List.length_map] at this
      exact List.length_eq_one_iff.mp this
    simp only [List.map_cons, List.map_nil, List.cons.injEq, and_true] at hus
    refine ⟨_, rfl, wl, _, 0, b.1, rfl, rfl, SqL.of hw2, atI_nat (j := 0) rfl, ?_⟩
    have hb1 := hb b (by simp)
    refine q b.1 b.2.2 H2 hf hT2 ?_ (by simpa [lstsI] using hnd)
    rw [← hus]
    exact hIt.imp (fun b h => h.1) (fun _ _ _ h => h) hb1
end


theorem join_go (g : Str) (hg : g.cps = #[]) : ∀ (ts : List Tr) (a : Array Nat), (ts.map ws).foldl (fun acc p => acc ++ g.cps ++ p.cps) a = a ++ (wrs ts).toArray
  | [], a => by simp [wrs]
  | t :: r, a => by
    rw [List.map_cons, List.foldl_cons, join_go g hg r, hg]
    simp [wrs, ws]
theorem join_ws (ts : List Tr) : Txt.join (Str.ofString "") (ts.map ws) = ⟨(wrs ts).toArray⟩ := by
  show Builtin.Str.glued _ _ = _
  unfold Builtin.Str.glued
  cases ts with
  | nil => rfl
  | cons t r =>
    have e : (Str.ofString "").cps = #[] := by decide +kernel
    have := join_go (Str.ofString "") e r t.wr.toArray
    simp only [List.map_cons, List.headD_cons, List.drop_succ_cons, List.drop_zero, wrs]
    rw [show (ws t).cps = t.wr.toArray from rfl, this]
    simp
theorem ws_len (ts : List Tr) : ((ts.map ws).map (·.length)).sum = (wrs ts).length := by
  induction ts with
  | nil => rfl
  | cons t r ih => simp only [List.map_cons, List.sum_cons, ih, wrs, List.length_append]; simp [ws, Str.length]
theorem cut_from (xs : List V) (k : Nat) (h : k ≤ xs.length) : cutV xs (some (k : Int)) none = xs.drop k := by
  have e : HT.sIx xs.length 0 (some (k : Int)) = k := by
    show (if (k : Int) < 0 then ((k : Int) + (xs.length : Int)).toNat else min ((k : Int).toNat) xs.length) = k
    rw [if_neg (by omega)]
    omega
  have e2 : HT.sIx xs.length xs.length none = xs.length := rfl
  unfold cutV
  rw [e, e2]
  exact List.take_of_length_le (by rw [List.length_drop]; omega)
def leB (a b : V × Tr × List Addr) : Bool := leW a.2.1 b.2.1
theorem leB_str (l : List (V × Tr × List Addr)) : ((l.map fun b => (b.1, ws b.2.1)).mergeSort leS).map Prod.fst = (l.mergeSort leB).map (·.1) := by
  rw [← PySem.W.sort_maps (r := leB) (s := leS) (fun b : V × Tr × List Addr => (b.1, ws b.2.1)) (fun a _ b _ => rfl), List.map_map]
  rfl
theorem leB_tr (l : List (V × Tr × List Addr)) : (l.mergeSort leB).map (·.2.1) = (l.map (·.2.1)).mergeSort leW :=
  PySem.W.sort_maps (r := leB) (s := leW) (fun b : V × Tr × List Addr => b.2.1) (fun a _ b _ => rfl)
mutual
theorem TrAt.ltr {ok : Addr → Prop} {H : Hp} : ∀ (t : Tr) (v : V), TrAt ok H v t → t.lets Ltr
  | .node c ks, v, x => by
    cases x with
    | node h1 h2 k1 k2 c1 c2 r =>
      simp only [Tr.lets]
      exact ⟨⟨c1, c2⟩, TrsAt.ltr ks _ r⟩
theorem TrsAt.ltr {ok : Addr → Prop} {H : Hp} : ∀ (ts : List Tr) (vs : List V), TrsAt ok H vs ts → letss Ltr ts
  | [], vs, x => trivial
  | t :: r, vs, x => by
    cases x with
    | cons a b =>
      simp only [letss]
      exact ⟨TrAt.ltr t _ a, TrsAt.ltr r _ b⟩
end
abbrev lsts (bs : List (V × Tr × List Addr)) : List Addr := (bs.map fun b => b.2.2).flatten
mutual
theorem TrAt.kind {ok : Addr → Prop} {H : Hp} : ∀ (t : Tr) (v : V), TrAt ok H v t → TrAt (fun b => ok b ∧ ∀ ps, H b ≠ some (.tbl ps)) H v t
  | .node c ks, v, x => by
    cases x with
    | node h1 h2 k1 k2 c1 c2 r => exact .node h1 h2 ⟨k1, fun ps e => by rw [h1] at e; cases e⟩ ⟨k2, fun ps e => by rw [h2] at e; cases e⟩ c1 c2 (TrsAt.kind ks _ r)
theorem TrsAt.kind {ok : Addr → Prop} {H : Hp} : ∀ (ts : List Tr) (vs : List V), TrsAt ok H vs ts → TrsAt (fun b => ok b ∧ ∀ ps, H b ≠ some (.tbl ps)) H vs ts
  | [], vs, x => by cases x; exact .nil
  | t :: r, vs, x => by
    cases x with
    | cons a b => exact .cons (TrAt.kind t _ a) (TrsAt.kind r _ b)
end
theorem TabS.fr {H H' : Hp} {P p : Addr} {q : Str} {xs : List V} (h : LamX.TabS H P q) (hp : H p = some (.lst xs)) (f : Fr p H H') : LamX.TabS H' P q := by
  obtain ⟨ps, h1, h2, h3⟩ := h
  refine ⟨ps, f _ _ (fun e => by rw [e, hp] at h1; cases h1) h1, h2, fun pos cv hc => ?_⟩
  obtain ⟨c, e, h4⟩ := h3 pos cv hc
  exact ⟨c, e, f _ _ (fun e => by rw [e, hp] at h4; cases h4) h4⟩

def ItR : ItP := fun ok H v t as => RowO1 ok H (v, t.told, as)
theorem itOk_ItR : ItOk ItR := ⟨fun hk h x => RowO1.imp x hk h, fun ⟨_, _, _, _, _, h⟩ => TrO.lst _ _ _ h⟩
def sp_written_part : Sp := fun vs H Q _ => ∃ (c : Nat) (l : Addr) (ts : List Tr), vs = [.str (ch c), .ref l] ∧ H l = some (.lst (ts.map fun t => V.str (ws t))) ∧ sizes ts ≤ 1000000 ∧ Q (.str (ws (.node c ts))) H
section
variable {P : Program} {w : World} {K : PySem.W.Frag} {mg : Str → Option Value} {base : Heap}
theorem ok_written_part (T : Txt K mg) : FnOk P w K mg base CX0 1 T.f_written_part T.d_written_part ["letter", "texts"] sp_written_part := by
  refine T.F_written_part.ok sc_written_part (fun vs H Q E h => ?_) (fun cdv A outer s H vs Q E hr h => ?_)
  · obtain ⟨c, l, ts, rfl, _⟩ := h
    rfl
  obtain ⟨c, l, ts, rfl, hl, hz, q⟩ := h
  refine ⟨_, (pss_cons (ps_if (pt_not (pt_truth (pv 1) (by intro _; rfl))) (pss_one (ps_ret (pv 0))) pss_nil) (pss_cons (ps_set (i := 2) sc_written_part.nd rfl (Or.inl rfl) (pe_join pe_str (pv 1))) (pss_one (ps_ret (pe_joined (.cons (pe_fmt (pv 0)) (.cons pe_str (.cons (pe_fmt (pv 2)) (.cons pe_str .nil))))))))), ?_⟩
  cases ts with
  | nil =>
    refine ⟨_, rfl, false, .inl ⟨_, SqL.of hl, rfl⟩, iteT ?_⟩
    exact ⟨_, rfl, q⟩
  | cons t0 r =>
    refine ⟨_, rfl, true, .inl ⟨_, SqL.of hl, rfl⟩, iteF ?_⟩
    generalize hts : t0 :: r = ts at *
    have e0 : (ts.map fun t => V.str (ws t)) = (ts.map ws).map V.str := by simp
    rw [e0] at hl
    refine ⟨⟨_, rfl⟩, _, rfl, _, l, _, rfl, rfl, .inl (SqL.of hl), ?_, ?_⟩
    · rw [ws_len]
      have := wrs_len ts
      have e : (Str.ofString "").length = 0 := by decide +kernel
      rw [e, Nat.mul_zero]
      omega
    rw [join_ws]
    have lw := wrs_len ts
    generalize hW : (⟨(wrs ts).toArray⟩ : Str) = W
    have lW : W.length ≤ 3000000 := by
      rw [← hW]
      show (wrs ts).toArray.size ≤ _
      rw [List.size_toArray]
      omega
    have l1 : (ch c).length = 1 := rfl
    have l2 : (Str.ofString "(").length = 1 := by decide +kernel
    have l3 : (Str.ofString ")").length = 1 := by decide +kernel
    have la : ∀ a b : Str, (a ++ b).length = a.length + b.length := fun a b => by
      show (a.cps ++ b.cps).size = _
      rw [Array.size_append]
      rfl
    have l0 : Str.empty.length = 0 := rfl
    have big : ∀ n : Nat, n ≤ 3000010 → n ≤ sizeLine := fun n h => Nat.le_trans h (by decide)
    refine ⟨_, rfl, .inl ⟨_, rfl, big _ (by omega), _, rfl, big _ (by rw [la]; omega), ?_⟩⟩
    refine ⟨_, rfl, big _ (by rw [la, la]; omega), ?_⟩
    refine ⟨_, rfl, .inl ⟨_, rfl, big _ (by omega), _, rfl, big _ (by rw [la, la, la]; omega), ?_⟩⟩
    refine ⟨_, rfl, big _ (by rw [la, la, la, la]; omega), ?_⟩
    have e : ws (.node c ts) = Str.empty ++ ch c ++ Str.ofString "(" ++ W ++ Str.ofString ")" := by
      have e1 : (Str.ofString "(").cps = #[40] := by decide +kernel
      have e2 : (Str.ofString ")").cps = #[41] := by decide +kernel
      rw [← hW, ← hts]
      show (⟨(c :: brk (wrs _)).toArray⟩ : Str) = (⟨((((#[] ++ #[c]) ++ (Str.ofString "(").cps) ++ (wrs _).toArray) ++ (Str.ofString ")").cps)⟩ : Str)
      rw [e1, e2, brk_wrs]
      simp
    rw [e] at q
    exact q
theorem told_sizes : ∀ (ts : List Tr), sizes (ts.map Tr.told) = sizes ts
  | [] => rfl
  | t :: r => by simp only [List.map_cons, sizes, told_size, told_sizes r]
theorem ok__joined (T : Txt K mg) (B : Tbs T base) : FnOk P w K mg base CX0 2 T.f__joined T.d__joined ["letter", "below"] (sp_made ItR T.P__joined q__joined) := by
  have G_written_part : FnOk P w K mg base CX0 1 T.f_written_part T.d_written_part ["letter", "texts"] sp_written_part := ok_written_part T
  refine okC T.F__joined T.h__joined sc__joined (fun vs H Q E h => ?_) (fun A outer s H vs Q E hr h => ?_)
  · obtain ⟨c, bl, bs, ok, rfl, _⟩ := h
    rfl
  obtain ⟨c, bl, bs0, ok, rfl, c1, c2, hbl, okb, hb0, hnd, hsz0, hok, hT, q⟩ := h
  refine ⟨_, (pss_cons (ps_set (i := 2) sc__joined.nd rfl (Or.inl rfl) (pe_callBK (cr_sortRow hr) (by rfl) T.z_sorted (by decide +kernel) (pa_cons (pv 1) pa_nil) (pk_cons (pe_lamRow B.tb__joined rfl (by rfl) (rowL_mk (x := "row") (by decide +kernel) rfl rfl rfl rfl (fun _ _ _ _ _ _ _ _ _ _ _ _ _ => rfl))) pk_nil))) (pss_one (ps_ret (pe_tup (pa_cons (pe_call G_written_part (hr.mono (by omega)) (by rfl) T.m_written_part T.F_written_part.kp T.b_written_part .nil pass0 (pa_cons (pv 0) (pa_cons (pe_lc (own := [("row", 3)]) (g := gName 3) (te := tOp (rIxT K) (tVar 3) (tC (.int 0))) (tt := tYes) rfl sc__joined.nd (pi_list (pv 2)) (blkOk_by (own := [("row", 3)]) (N := ["letter", "below", "rows", "row"]) (sc := (defScope s__joined)) (by decide +kernel)) (fun _ _ _ _ _ => (pg_name (i := 3) sc__joined.nd rfl (Or.inl rfl))) (fun _ _ _ _ _ => pts_nil) (fun _ _ _ _ _ => (pe_ix ix_tup (pv 3) pe_int (fun _ _ => rfl)))) pa_nil))) (pa_cons (pe_tup (pa_cons (pv 0) (pa_cons (pe_lc (own := [("row", 3)]) (g := gName 3) (te := tOp (rIxT K) (tVar 3) (tC (.int 1))) (tt := tYes) rfl sc__joined.nd (pi_list (pv 2)) (blkOk_by (own := [("row", 3)]) (N := ["letter", "below", "rows", "row"]) (sc := (defScope s__joined)) (by decide +kernel)) (fun _ _ _ _ _ => (pg_name (i := 3) sc__joined.nd rfl (Or.inl rfl))) (fun _ _ _ _ _ => pts_nil) (fun _ _ _ _ _ => (pe_ix ix_tup (pv 3) pe_int (fun _ _ => rfl)))) pa_nil))) pa_nil)))))), ?_⟩
  obtain ⟨ps0, hP0, _, _⟩ := id hT
  generalize hbs : bs0.map (fun b => (b.1, b.2.1.told, b.2.2)) = bs at *
  have e1 : bs0.map (·.1) = bs.map (·.1) := by rw [← hbs, List.map_map]; rfl
  have e2 : (bs0.map (·.2.1)).map Tr.told = bs.map (·.2.1) := by rw [← hbs, List.map_map, List.map_map]; rfl
  have e3 : lstsI bs0 = lsts bs := by rw [← hbs]; simp only [lstsI, lsts, List.map_map]; rfl
  have hb : ∀ b ∈ bs, RowO1 ok H b := by
    intro b h
    rw [← hbs] at h
    obtain ⟨b0, hb1, rfl⟩ := List.mem_map.mp h
    exact hb0 b0 hb1
  have hsz : sizes (bs.map (·.2.1)) ≤ 1000000 := by rw [← e2, told_sizes]; exact hsz0
  rw [e1] at hbl
  rw [e3] at hnd
  have lz := len_sizes (bs.map (·.2.1))
  rw [List.length_map] at lz
  refine ⟨_, rfl, hT, fun f cc H3 f3 hT3' hF hC => ?_⟩
  have hb3 : ∀ b ∈ bs, RowO1 ok H3 b := fun b h => (hb b h).imp (fun _ h => h) fun b o h e => f3 b o (hok b h) e
  have hbl3 := f3 _ _ (hok _ okb) hbl
  refine ⟨bl, f, cc, _, bs.map fun b => (b.1, ws b.2.1), rfl, rfl, hF, hC, ?_, ?_, ?_, fun rs hrs => ?_⟩
  · rw [hbl3, List.map_map]
    rfl
  · intro b hb4
    obtain ⟨b2, hb5, rfl⟩ := List.mem_map.mp hb4
    obtain ⟨p2, x2, e1, e2, _⟩ := hb3 b2 hb5
    exact ⟨p2, _, e1, e2⟩
  · rw [List.length_map]
    exact Nat.le_trans (show _ ≤ 1000000 by omega) (by decide)
  rw [leB_str]
  generalize hcs : bs.mergeSort leB = cs
  have hperm : cs.Perm bs := by rw [← hcs]; exact List.mergeSort_perm _ _
  have hctr : cs.map (·.2.1) = (bs.map (·.2.1)).mergeSort leW := by rw [← hcs, leB_tr]
  have hrs0 : H rs = none := by
    cases e : H rs with
    | none => rfl
    | some o =>
      have n1 : rs ≠ T.P__joined := fun e2 => by
        obtain ⟨_, e3, _⟩ := hT3'
        rw [e2, e3] at hrs
        cases hrs
      rw [f3 _ _ n1 e] at hrs
      cases hrs
  have lcs := hperm.length_eq
  have szc : sizes (cs.map (·.2.1)) = sizes (bs.map (·.2.1)) := sizes_perm (hperm.map _)
  have s34 : Same H3 (upd H3 rs (.lst (cs.map (·.1)))) := same_new hrs
  have hb4 : ∀ b ∈ cs, RowO1 ok (upd H3 rs (.lst (cs.map (·.1)))) b := fun b h => (hb3 b (hperm.mem_iff.mp h)).same s34
  have hR : (upd H3 rs (.lst (cs.map (·.1)))) rs = some (.lst (cs.map (·.1))) := upd_same
  have T4 := hT3'.ext s34
  have F4 : Fr T.P__joined H (upd H3 rs (.lst (cs.map (·.1)))) := fun b o n e => s34 _ _ (f3 b o n e)
  generalize hH4 : upd H3 rs (.lst (cs.map (·.1))) = H4 at *
  refine ⟨_, rfl, _, rfl, rs, rfl, ⟨_, SqL.of hR⟩, fun D hD => ?_⟩
  refine lc_list (xs := cs.map (·.1)) (fun i H5 => H5 D = some (.lst ((cs.take i).map fun b => .str (ws b.2.1))) ∧ Same H4 H5) ⟨upd_same, same_new hD⟩ (fun i H5 _ ⟨_, s⟩ => SqL.of (s _ _ hR)) ?_ ?_
  · rintro i x H5 hx ⟨g1, g2⟩
    rw [List.getElem?_map] at hx
    cases hc : cs[i]? with
    | none => rw [hc] at hx; cases hx
    | some b =>
      rw [hc] at hx
      cases hx
      obtain ⟨p, y, e, h1, h2, h3⟩ := hb4 b (List.mem_of_getElem? hc)
      obtain ⟨bv, bt, bl⟩ := b
      cases e
      refine ⟨rfl, _, rfl, p, _, 0, _, rfl, rfl, SqT.of (g2 _ _ h1), atI_nat (j := 0) rfl, _, g1, ?_, ?_, same_add g2 hD⟩
      · rw [List.length_map, List.length_take]
        exact Nat.lt_of_le_of_lt (show _ ≤ 1000000 by omega) (by decide)
      · rw [upd_same, take_succ_of hc, List.map_append]
        rfl
  rintro H5 ⟨g1, g2⟩
  rw [List.length_map, List.take_length] at g1
  have e0 : (cs.map fun b => V.str (ws b.2.1)) = (cs.map (·.2.1)).map fun t => V.str (ws t) := by simp
  rw [e0] at g1
  refine ⟨c, D, cs.map (·.2.1), rfl, g1, by omega, ?_⟩
  refine ⟨_, rfl, _, rfl, rs, rfl, ⟨_, SqL.of (g2 _ _ hR)⟩, fun D2 hD2 => ?_⟩
  have free4 : ∀ b, H4 b = none → H b = none := fun b h => by
    cases e : H b with
    | none => rfl
    | some o =>
      by_cases n1 : b = T.P__joined
      · obtain ⟨_, e3, _⟩ := T4
        rw [n1, e3] at h
        cases h
      · rw [F4 _ _ n1 e] at h
        cases h
  have hD20 : H D2 = none := free4 _ (g2.free hD2)
  have hD24 : H4 D2 = none := g2.free hD2
  refine lc_list (xs := cs.map (·.1)) (fun i H6 => ∃ ys, H6 D2 = some (.lst ys) ∧ TrsO (fun b => ok b ∧ b ≠ D2) H6 ys ((cs.take i).map (·.2.1)) ((cs.take i).map (·.2.2)).flatten ∧ Same H5 H6) ⟨[], upd_same, .nil, same_new hD2⟩ (fun i H6 _ ⟨_, _, _, s⟩ => SqL.of (s _ _ (g2 _ _ hR))) ?_ ?_
  · rintro i x H6 hx ⟨ys, k1, k2, k3⟩
    rw [List.getElem?_map] at hx
    cases hc : cs[i]? with
    | none => rw [hc] at hx; cases hx
    | some b =>
      rw [hc] at hx
      cases hx
      obtain ⟨p, y, e, h1, h2, h3⟩ := hb4 b (List.mem_of_getElem? hc)
      obtain ⟨bv, bt, bl⟩ := b
      cases e
      have hy := ((h3.off hD24).same (g2.trans k3))
      have kl := k2.len
      rw [List.length_map, List.length_take] at kl
      refine ⟨rfl, _, rfl, p, _, 1, _, rfl, rfl, SqT.of (k3 _ _ (g2 _ _ h1)), atI_nat (j := 1) rfl, ys, k1, ?_, ys ++ [y], upd_same, ?_, same_add k3 hD2⟩
      · exact Nat.lt_of_le_of_lt (show _ ≤ 1000000 by omega) (by decide)
      · rw [take_succ_of hc, List.map_append, List.map_append, List.flatten_append]
        have ky := k2.snoc hy
        simp only [List.map_cons, List.map_nil, List.flatten_cons, List.flatten_nil, List.append_nil]
        exact ky.keep (upd_keep fun b h => h.2)
  rintro H6 ⟨ys, k1, k2, k3⟩
  rw [List.length_map, List.take_length] at k2
  have s46 : Same H4 H6 := g2.trans k3
  refine ⟨(by show 2 ≤ sizeLine; decide), fun a ha => ⟨(by show 2 ≤ sizeLine; decide), fun p hp => ?_⟩⟩
  have nap : a ≠ p := fun e => by rw [← e, upd_same] at hp; cases hp
  have hp1 : H6 p = none := NdefX.upd_none hp
  have s68 : Same H6 (upd (upd H6 a (.tup [.str (ch c), .ref D2])) p (.tup [.str (ws (.node c (cs.map (·.2.1)))), .ref a])) := (same_new ha).trans (same_new hp)
  have s48 := s46.trans s68
  have nDa : D2 ≠ a := ne_of_none k1 ha
  have nDp : D2 ≠ p := ne_of_none k1 hp1
  have e3' : ((cs.map (·.2.2)).flatten).Perm (lsts bs) := (hperm.map _).flatten
  have etold : (Tr.node c (bs0.map (·.2.1))).told = .node c (cs.map (·.2.1)) := by
    rw [hctr, ← e2]
    simp only [Tr.told, tolds_map]
  have ndb := (List.nodup_cons.mp hnd)
  refine q (.ref p) (D2 :: (cs.map (·.2.2)).flatten) _ (fun b o n e => s48 _ _ (F4 b o n e)) (T4.ext s48) ?_ ?_ ?_
  · show RowO1 _ _ (V.ref p, (Tr.node c (bs0.map (·.2.1))).told, _)
    rw [etold]
    refine ⟨p, .ref a, rfl, upd_same, .inr (free4 _ (s46.free hp1)), ?_⟩
    refine .node (by rw [upd_ne nap]; exact upd_same) (by rw [upd_ne nDp, upd_ne nDa]; exact k1) (.inr (free4 _ (s46.free ha))) (.inr hD20) c1 c2 ?_
    exact (k2.same s68).weak fun b h => .inl h.1
  · rw [List.nodup_cons]
    refine ⟨fun hm => ?_, (e3'.nodup_iff).mpr ndb.2⟩
    exact (TrsO.lst _ _ _ k2 D2 hm).1.2 rfl
  · intro b hb8
    rcases List.mem_cons.mp hb8 with h | h
    · exact .inr (h ▸ hD20)
    · refine .inl (List.mem_cons_of_mem _ ?_)
      rw [e3]
      exact e3'.mem_iff.mp h
def sp__written_and_told (Pt : Addr) (q : Str) : Sp := fun vs H Q _ => ∃ (v : V) (t : Tr), vs = [v] ∧ TrAt (fun _ => True) H v t ∧ t.size ≤ 1000000 ∧ LamX.TabS H Pt q ∧
  ∀ v' as H', Fr Pt H H' → LamX.TabS H' Pt q → as.Nodup → RowO1 (fun b => H b = none) H' (v', t.told, as) → Q v' H'
theorem ok__written_and_told (T : Txt K mg) (B : Tbs T base) : FnOk P w K mg base CX0 8 T.f__written_and_told T.d__written_and_told ["tree"] (sp__written_and_told T.P__joined q__joined) := by
  have G_built_upward : FnOk P w K mg base CX0 7 T.f_built_upward T.d_built_upward ["tree", "made"] (sp_built_upward P w K mg base 6 T.P__joined q__joined) := ok_built_upward T 6 (by decide) _ _
  refine T.F__written_and_told.ok sc__written_and_told (fun vs H Q E h => ?_) (fun cdv A outer s H vs Q E hr h => ?_)
  · obtain ⟨v, t, rfl, _⟩ := h
    rfl
  obtain ⟨v, t, rfl, ht, hz, hT, q⟩ := h
  refine ⟨_, (pss_one (ps_ret (pe_call G_built_upward (hr.mono (by omega)) (by rfl) T.m_built_upward T.F_built_upward.kp T.b_built_upward .nil pass0 (pa_cons (pv 0) (pa_cons (pe_glob (v := .ref T.f__joined) rfl T.m__joined rfl) pa_nil))))), ?_⟩
  refine ⟨_, rfl, v, t, T.f__joined, ItR, rfl, ht, hz, itOk_ItR, hT, ?_, fun r as H' f T' x nd => q r as H' f T' nd x⟩
  exact (calX_of (ok__joined T B) T.F__joined T.b__joined (G := fun H' => Fr T.P__joined H H')).imp (by decide) (fun _ h => h) (fun _ _ _ _ h => h)
end
def sp_told_form (Pt : Addr) (q : Str) : Sp := fun vs H Q _ => ∃ (v : V) (t : Tr), vs = [v] ∧ TrAt (fun _ => True) H v t ∧ t.size ≤ 1000000 ∧ LamX.TabS H Pt q ∧
  ∀ x as H', Fr Pt H H' → LamX.TabS H' Pt q → as.Nodup → TrO (fun b => H b = none) H' x t.told as → Q x H'
def sp_written_tree (Pt : Addr) (q : Str) : Sp := fun vs H Q _ => ∃ (v : V) (t : Tr), vs = [v] ∧ TrAt (fun _ => True) H v t ∧ t.size ≤ 1000000 ∧ LamX.TabS H Pt q ∧
  ∀ H', Fr Pt H H' → LamX.TabS H' Pt q → Q (.str (ws t.told)) H'
section
variable {P : Program} {w : World} {K : PySem.W.Frag} {mg : Str → Option Value} {base : Heap}
theorem ok_written_tree (T : Txt K mg) (B : Tbs T base) : FnOk P w K mg base CX0 9 T.f_written_tree T.d_written_tree ["tree"] (sp_written_tree T.P__joined q__joined) := by
  have G__written_and_told : FnOk P w K mg base CX0 8 T.f__written_and_told T.d__written_and_told ["tree"] (sp__written_and_told T.P__joined q__joined) := ok__written_and_told T B
  refine T.F_written_tree.ok sc_written_tree (fun vs H Q E h => ?_) (fun cdv A outer s H vs Q E hr h => ?_)
  · obtain ⟨v, t, rfl, _⟩ := h
    rfl
  obtain ⟨v, t, rfl, ht, hz, hT, q⟩ := h
  refine ⟨_, (pss_one (ps_ret (pe_ix ix_tup (pe_call G__written_and_told (hr.mono (by omega)) (by rfl) T.m__written_and_told T.F__written_and_told.kp T.b__written_and_told .nil pass0 (pa_cons (pv 0) pa_nil)) pe_int (fun _ _ => rfl)))), ?_⟩
  refine ⟨_, rfl, v, t, rfl, ht, hz, hT, fun v' as H' f T' nd row => ?_⟩
  obtain ⟨p, x, rfl, h1, h2, h3⟩ := row
  exact ⟨p, _, 0, _, rfl, rfl, SqT.of h1, atI_nat (j := 0) rfl, q H' f T'⟩
end


def Sto (H : Hp) (p : Addr) (n : Nat) : Prop := ∃ g m s : Int, H p = some (.lst [.int g, .int m, .int s]) ∧ 0 ≤ m ∧ m < 2147483629 ∧ 0 ≤ s ∧ s ≤ 1 + (n : Int)
theorem Sto.mono {H : Hp} {p : Addr} {n m : Nat} (h : Sto H p n) (l : n ≤ m) : Sto H p m := let ⟨g, x, s, a, b, c, d, e⟩ := h; ⟨g, x, s, a, b, c, d, by omega⟩
theorem Sto.keep {H H' : Hp} {p : Addr} {n : Nat} (h : Sto H p n) (e : Same H H') : Sto H' p n := let ⟨g, x, s, a, b, c, d, f⟩ := h; ⟨g, x, s, e _ _ a, b, c, d, f⟩
theorem Sto.ne {H : Hp} {p q : Addr} {n : Nat} (h : Sto H p n) (e : H q = none) : q ≠ p := let ⟨_, _, _, a, _⟩ := h; fun z => by rw [z, a] at e; cases e
theorem Sto.some {H : Hp} {p : Addr} {n : Nat} (h : Sto H p n) : H p ≠ none := let ⟨_, _, _, a, _⟩ := h; by rw [a]; simp
theorem Sto.new {H : Hp} {p q : Addr} {n : Nat} {o : HO} (h : Sto H p n) (e : H q = none) : Sto (upd H q o) p n := h.keep (same_new e)
mutual
theorem TrAt.offL {ok : Addr → Prop} {H : Hp} {p : Addr} {x : Int} {zs : List V} (hp : H p = some (.lst (.int x :: zs))) : ∀ (t : Tr) (v : V), TrAt ok H v t → TrAt (fun b => ok b ∧ b ≠ p) H v t
  | .node c ks, v, h => by
    cases h with
    | node h1 h2 k1 k2 c1 c2 r =>
      refine .node h1 h2 ⟨k1, ne_of h1 hp (by intro z; cases z)⟩ ⟨k2, fun e => ?_⟩ c1 c2 (TrsAt.offL hp ks _ r)
      subst e
      rw [h2] at hp
      cases hp
      cases r with
      | cons a _ => cases a
theorem TrsAt.offL {ok : Addr → Prop} {H : Hp} {p : Addr} {x : Int} {zs : List V} (hp : H p = some (.lst (.int x :: zs))) : ∀ (ts : List Tr) (vs : List V), TrsAt ok H vs ts → TrsAt (fun b => ok b ∧ b ≠ p) H vs ts
  | [], _, h => by cases h; exact .nil
  | t :: r, _, h => by
    cases h with
    | cons a b => exact .cons (TrAt.offL hp t _ a) (TrsAt.offL hp r _ b)
end
theorem Sto.off {ok : Addr → Prop} {H : Hp} {p : Addr} {n : Nat} {v : V} {t : Tr} (hp : Sto H p n) (h : TrAt ok H v t) : TrAt (fun b => ok b ∧ b ≠ p) H v t := let ⟨_, _, _, hx, _⟩ := hp; TrAt.offL hx t v h
theorem Sto.offs {ok : Addr → Prop} {H : Hp} {p : Addr} {n : Nat} {vs : List V} {ts : List Tr} (hp : Sto H p n) (h : TrsAt ok H vs ts) : TrsAt (fun b => ok b ∧ b ≠ p) H vs ts := let ⟨_, _, _, hx, _⟩ := hp; TrsAt.offL hx ts vs h
theorem TrAt.sto {ok : Addr → Prop} {H H' : Hp} {p : Addr} {n : Nat} {v : V} {t : Tr} (h : TrAt ok H v t) (hp : Sto H p n) (f : Fr p H H') : TrAt ok H' v t := ((hp.off h).keep fun b o k e => f b o k.2 e).weak fun _ k => k.1
theorem TrsAt.sto {ok : Addr → Prop} {H H' : Hp} {p : Addr} {n : Nat} {vs : List V} {ts : List Tr} (h : TrsAt ok H vs ts) (hp : Sto H p n) (f : Fr p H H') : TrsAt ok H' vs ts := ((hp.offs h).keep fun b o k e => f b o k.2 e).weak fun _ k => k.1
def sp__law_cell (K : PySem.W.Frag) : Sp := fun vs H Q _ => ∃ (a : Addr) (ns : List Int) (k : Int), vs = [.ref a, .int k] ∧ SqL K H a (ns.map V.int) ∧ ns.length ≤ 63 ∧ 0 ≤ k ∧ k ≤ 63 ∧ ∀ c, Q (.int c) H
def sp__law_store : Sp := fun vs H Q _ => ∃ c : Int, vs = [.int c] ∧ ∀ p H', H p = none → Same H H' → Sto H' p 0 → Q (.ref p) H'
def sp__law_take : Sp := fun vs H Q _ => ∃ (p : Addr) (m : Int) (n : Nat), vs = [.ref p, .int m] ∧ Sto H p n ∧ n < 1000000 ∧ 0 < m ∧ m < 2 ^ 60 ∧
  ∀ r H', 0 ≤ r → r < m → Chg p H H' → Sto H' p (n + 1) → Q (.int r) H'
section
variable {P : Program} {w : World} {K : PySem.W.Frag} {mg : Str → Option Value} {base : Heap}
theorem ok__law_cell (T : Txt K mg) : FnOk P w K mg base CX0 1 T.f__law_cell T.d__law_cell ["script", "k"] (sp__law_cell K) := by
  refine T.F__law_cell.ok sc__law_cell (fun vs H Q E h => ?_) (fun cdv A outer s H vs Q E hr h => ?_)
  · obtain ⟨a, ns, k, rfl, _⟩ := h
    rfl
  obtain ⟨a, ns, k, rfl, hS, h63, h0, h1, q⟩ := h
  refine ⟨_, (pss_cons (ps_if (pt_cmpR op_lt (pv 1) (pe_callB call_len_seq (by rfl) T.z_len PySem.boot_len (pa_cons (pv 0) pa_nil)) (nomark _)) (pss_one (ps_ret (pe_ix ix_list (pv 0) (pv 1) (fun _ _ => rfl)))) pss_nil) (pss_one (ps_ret (pe_op op_add (pe_op op_add (pe_op op_mul (pe_op op_mul pe_int (pv 1)) (pv 1)) (pe_op op_mul pe_int (pv 1))) pe_int)))), ?_⟩
  refine ⟨_, rfl, _, rfl, a, _, rfl, .inl hS, _, _, rfl, rfl, _, rfl, ?_⟩
  refine ite2 (fun c => ?_) (fun c => ?_)
  · have hk : k.toNat < ns.length := by
      have c' : k < (((ns.map V.int).length : Nat) : Int) := of_decide_eq_true c
      rw [List.length_map] at c'
      omega
    exact ⟨_, rfl, _, rfl, a, _, _, _, rfl, rfl, hS, at_of (j := k.toNat) (v := V.int ns[k.toNat]) (by omega) (by rw [List.getElem?_map, List.getElem?_eq_getElem hk]; rfl), q _⟩
  · have b := nn_mul (a := 7 * k) (A := 441) (b := k) (B := 63) (by omega) (by omega) h0 h1
    exact ⟨_, rfl, 7, k, rfl, rfl, .inl ⟨by decide, by decide⟩, _, rfl, _, k, rfl, rfl, .inl ⟨by omega, by omega⟩, _, rfl, 3, k, rfl, rfl, .inl ⟨by decide, by decide⟩, _, _, rfl, rfl, _, _, rfl, rfl, q _⟩
theorem ok__law_store (T : Txt K mg) : FnOk P w K mg base CX0 1 T.f__law_store T.d__law_store ["cell"] sp__law_store := by
  refine T.F__law_store.ok sc__law_store (fun vs H Q E h => ?_) (fun cdv A outer s H vs Q E hr h => ?_)
  · obtain ⟨c, rfl, _⟩ := h
    rfl
  obtain ⟨c, rfl, q⟩ := h
  refine ⟨_, (pss_cons (ps_set (i := 1) sc__law_store.nd rfl (Or.inl rfl) pe_int) (pss_cons (ps_if (pt_cmpR op_ge (pv 0) (pe_op op_pow pe_int pe_int) (nomark _)) (pss_one (ps_set (i := 1) sc__law_store.nd rfl (Or.inl rfl) (pv 0))) pss_nil) (pss_one (ps_ret (pe_lst (pa_cons (pv 1) (pa_cons (pe_op op_mod (pv 0) pe_int) (pa_cons pe_int pa_nil)))))))), ?_⟩
  have a0 : 0 ≤ c % 2147483629 := Int.emod_nonneg _ (by decide)
  have a1 : c % 2147483629 < 2147483629 := Int.emod_lt_of_pos _ (by decide)
  refine ⟨_, rfl, 10, 18, rfl, rfl, ⟨by decide, by decide, by decide⟩, _, _, rfl, rfl, _, rfl, ?_⟩
  refine ite2 (fun _ => ?_) (fun _ => ?_)
  · refine ⟨_, rfl, _, rfl, _, rfl, c, 2147483629, rfl, rfl, (by show (0 : Int) < 2147483629; decide), (by show 3 ≤ sizeLine; decide), fun p hp => ?_⟩
    exact q p _ hp (same_new hp) ⟨_, _, _, upd_same, a0, a1, by decide, by decide⟩
  · refine ⟨_, rfl, _, rfl, c, 2147483629, rfl, rfl, (by show (0 : Int) < 2147483629; decide), (by show 3 ≤ sizeLine; decide), fun p hp => ?_⟩
    exact q p _ hp (same_new hp) ⟨_, _, _, upd_same, a0, a1, by decide, by decide⟩
theorem ok__law_take (T : Txt K mg) : FnOk P w K mg base CX0 1 T.f__law_take T.d__law_take ["store", "many"] sp__law_take := by
  refine T.F__law_take.ok sc__law_take (fun vs H Q E h => ?_) (fun cdv A outer s H vs Q E hr h => ?_)
  · obtain ⟨p, m, n, rfl, _⟩ := h
    rfl
  obtain ⟨p, m, n, rfl, ⟨x, f, t, hp, hf0, hf1, ht0, ht1⟩, hn, hm0, hm1, q⟩ := h
  refine ⟨_, (pss_cons (ps_if (pt_cmpR op_gt (pe_ix ix_list (pv 0) pe_int (fun _ _ => rfl)) pe_int (nomark _)) (pss_cons (ps_set (i := 2) sc__law_take.nd rfl (Or.inl rfl) (pe_op op_mod (pe_ix ix_list (pv 0) pe_int (fun _ _ => rfl)) (pv 1))) (pss_cons (ps_asg (pe_op op_fdivW (pe_ix ix_list (pv 0) pe_int (fun _ _ => rfl)) (pv 1)) (pg_sub (pv 0) pe_int set_list)) (pss_one (ps_ret (pv 2))))) pss_nil) (pss_cons (ps_asg (pe_op op_add (pe_ix ix_list (pv 0) pe_int (fun _ _ => rfl)) pe_int) (pg_sub (pv 0) pe_int set_list)) (pss_cons (ps_set (i := 3) sc__law_take.nd rfl (Or.inl rfl) (pe_op op_mod (pe_op op_mul (pe_op op_add (pe_ix ix_list (pv 0) pe_int (fun _ _ => rfl)) (pe_op op_mul pe_int (pe_ix ix_list (pv 0) pe_int (fun _ _ => rfl)))) pe_int) pe_int)) (pss_cons (ps_set (i := 3) sc__law_take.nd rfl (Or.inl rfl) (pe_op op_mod (pe_op op_mul (pv 3) (pv 3)) pe_int)) (pss_cons (ps_set (i := 3) sc__law_take.nd rfl (Or.inl rfl) (pe_op op_mod (pe_op op_mul (pe_op op_add (pv 3) (pe_op op_mul pe_int (pe_ix ix_list (pv 0) pe_int (fun _ _ => rfl)))) pe_int) pe_int)) (pss_one (ps_ret (pe_op op_mod (pe_op op_fdivW (pv 3) pe_int) (pv 1))))))))), ?_⟩
  have i0 : atI [V.int x, V.int f, V.int t] 0 = some (.int x) := atI_nat (j := 0) rfl
  have i1 : atI [V.int x, V.int f, V.int t] 1 = some (.int f) := atI_nat (j := 1) rfl
  have i2 : atI [V.int x, V.int f, V.int t] 2 = some (.int t) := atI_nat (j := 2) rfl
  refine ⟨_, rfl, p, _, 0, _, rfl, rfl, SqL.of hp, i0, _, _, rfl, rfl, _, rfl, ?_⟩
  refine ite2 (fun c => ?_) (fun c => ?_)
  · refine ⟨_, rfl, p, _, 0, _, rfl, rfl, SqL.of hp, i0, _, rfl, x, m, rfl, rfl, hm0, ?_⟩
    refine ⟨_, rfl, p, _, 0, _, rfl, rfl, SqL.of hp, i0, _, rfl, x, m, rfl, rfl, divW hm0 hm1, ?_⟩
    refine ⟨_, rfl, p, _, 0, 0, rfl, rfl, hp, rfl, ?_⟩
    refine ⟨_, rfl, q _ _ (Int.emod_nonneg _ (by omega)) (Int.emod_lt_of_pos _ hm0) Chg.upd ⟨_, _, _, upd_same, hf0, hf1, ht0, by omega⟩⟩
  · refine ⟨_, rfl, p, _, 2, _, rfl, rfl, SqL.of hp, i2, t, 1, rfl, rfl, ?_⟩
    refine ⟨_, rfl, p, _, 2, 2, rfl, rfl, hp, rfl, ?_⟩
    have hp' : (upd H p (.lst [V.int x, V.int f, V.int (t + 1)])) p = some (.lst [V.int x, V.int f, V.int (t + 1)]) := upd_same
    have j1 : atI [V.int x, V.int f, V.int (t + 1)] 1 = some (.int f) := atI_nat (j := 1) rfl
    have j2 : atI [V.int x, V.int f, V.int (t + 1)] 2 = some (.int (t + 1)) := atI_nat (j := 2) rfl
    refine ⟨_, rfl, p, _, 1, _, rfl, rfl, SqL.of hp', j1, _, rfl, p, _, 2, _, rfl, rfl, SqL.of hp', j2, 7919, t + 1, rfl, rfl, .inl ⟨by decide, by decide⟩, _, _, rfl, rfl, _, 48271, rfl, rfl, .inr ⟨by decide, by decide⟩, _, 2147483647, rfl, rfl, (by show (0 : Int) < 2147483647; decide), ?_⟩
    obtain ⟨M1, hM1, b0, b1⟩ : ∃ M1, (f + 7919 * (t + 1)) * 48271 % 2147483647 = M1 ∧ 0 ≤ M1 ∧ M1 < 2147483647 := ⟨_, rfl, Int.emod_nonneg _ (by decide), Int.emod_lt_of_pos _ (by decide)⟩
    refine ⟨_, rfl, _, rfl, M1, M1, congrArg V.int hM1, congrArg V.int hM1, .inl ⟨by omega, by omega⟩, _, 2147483629, rfl, rfl, (by show (0 : Int) < 2147483629; decide), ?_⟩
    obtain ⟨M2, hM2, d0, d1⟩ : ∃ M2, M1 * M1 % 2147483629 = M2 ∧ 0 ≤ M2 ∧ M2 < 2147483629 := ⟨_, rfl, Int.emod_nonneg _ (by decide), Int.emod_lt_of_pos _ (by decide)⟩
    refine ⟨_, rfl, _, rfl, p, _, 2, _, rfl, rfl, SqL.of hp', j2, 40692, t + 1, rfl, rfl, .inl ⟨by decide, by decide⟩, M2, _, congrArg V.int hM2, rfl, _, 69621, rfl, rfl, .inr ⟨by decide, by decide⟩, _, 2147483587, rfl, rfl, (by show (0 : Int) < 2147483587; decide), ?_⟩
    refine ⟨_, rfl, _, 8, rfl, rfl, divW (by decide) (by decide), _, rfl, _, m, rfl, rfl, hm0, ?_⟩
    exact q _ _ (Int.emod_nonneg _ (by omega)) (Int.emod_lt_of_pos _ hm0) Chg.upd ⟨_, _, _, upd_same, hf0, hf1, by omega, by omega⟩
end

theorem roomDeep {k : Nat} {A : Around} (r : Room k A) : A.units + 200 < cLine := by have := r.un; omega
def rEqB (K : PySem.W.Frag) : R2 := fun x y H Q => ∃ d e, Dp K H x d ∧ Dp K H y e ∧ d.canLay0 = true ∧ e.canLay0 = true ∧ d.depth ≤ 200 ∧ Q (.bl (PyData.eqv d e)) H
def rNeB (K : PySem.W.Frag) : R2 := fun x y H Q => ∃ d e, Dp K H x d ∧ Dp K H y e ∧ d.canLay0 = true ∧ e.canLay0 = true ∧ d.depth ≤ 200 ∧ Q (.bl (!PyData.eqv d e)) H
theorem op_eqB {X : Cx} (hu : X.A.units + 200 < cLine) : OpR X (compareOp .Eq) (rEqB X.K) := by
  intro pins s σ H x y v u Q I rx ry h
  obtain ⟨d, e, hd, he, sd, se, dd, q⟩ := h
  obtain ⟨as, r1⟩ := Dp.reads I d x v hd rx
  obtain ⟨bs, r2⟩ := Dp.reads I e y u he ry
  exact SeqAt.compareEq_reads r1 r2 sd se (by have := Nat.min_le_left d.depth e.depth; omega) ⟨.bl _, H, I, rfl, q⟩
theorem op_neB {X : Cx} (hu : X.A.units + 200 < cLine) : OpR X (compareOp .NotEq) (rNeB X.K) := by
  intro pins s σ H x y v u Q I rx ry h
  obtain ⟨d, e, hd, he, sd, se, dd, q⟩ := h
  obtain ⟨as, r1⟩ := Dp.reads I d x v hd rx
  obtain ⟨bs, r2⟩ := Dp.reads I e y u he ry
  exact SeqAt.compareNe_reads r1 r2 sd se (by have := Nat.min_le_left d.depth e.depth; omega) ⟨.bl _, H, I, rfl, q⟩

theorem call_sortedData {X : Cx} (hu : X.A.units + 200 < cLine) : CallR X (.builtin "sorted") (fun xs H Q => ∃ (a : Addr) (bs : List (V × PyData)), xs = [.ref a] ∧ H a = some (.lst (bs.map Prod.fst)) ∧ (∀ b ∈ bs, Dp X.K H b.1 b.2) ∧ PySem.W.AllAlike (bs.map Prod.snd) ∧ PySem.W.Sortable (bs.map Prod.snd) ∧ (∀ b ∈ bs, b.2.depth ≤ 150) ∧ bs.length ≤ sizeLine ∧
    ∀ r, H r = none → Q (.ref r) (upd H r (.lst ((bs.mergeSort (PySem.W.dataLe false Prod.snd)).map Prod.fst)))) := by
  intro pins s σ H xs us Q I hv h
  obtain ⟨a, bs, rfl, ha, hd, hal, hk, hdep, hz, q⟩ := h
  cases hv with
  | cons g1 g2 =>
  cases g2
  cases g1
  obtain ⟨oz, its, n, hits, hao⟩ := I.hok _ _ ha
  have each : ∀ (bs : List (V × PyData)) (its : List Value), Vals (bs.map Prod.fst) its → (∀ b ∈ bs, Dp X.K H b.1 b.2) →
      PySem.W.EachIs (fun v (b : V × PyData) => RelV b.1 v) its bs ∧ PySem.W.EachIs (fun v (b : V × PyData) => ∃ as, Reads s.heap v b.2 as) its bs := by
    intro bs
    induction bs with
    | nil => intro its v _; cases v; exact ⟨.nil, .nil⟩
    | cons b r ih =>
      intro its v hd
      cases v with
      | cons g1 g2 =>
        obtain ⟨h1, h2⟩ := ih _ g2 fun x hx => hd x (List.mem_cons_of_mem _ hx)
        exact ⟨.cons g1 h1, .cons (Dp.reads I b.2 b.1 _ (hd b List.mem_cons_self) g1) h2⟩
  have back : ∀ (bs : List (V × PyData)) (its : List Value), PySem.W.EachIs (fun v (b : V × PyData) => RelV b.1 v) its bs → Vals (bs.map Prod.fst) its := by
    intro bs
    induction bs with
    | nil => intro its v; cases v; exact .nil
    | cons b r ih =>
      intro its v
      cases v with
      | cons g1 g2 => exact .cons g1 (ih _ g2)
  obtain ⟨e1, e2⟩ := each bs its hits hd
  refine PySem.W.sorted_data (enc := Prod.snd) (R := fun v (b : V × PyData) => RelV b.1 v) ⟨_, hao, rfl, n, rfl⟩ e1 e2 hal hk hz (fun b hb => by have := hdep b hb; show X.A.units + 2 + _ < _; omega) fun out hl he => ?_
  obtain ⟨ee, hat⟩ := PyProof.Rows.sortedAll_at s.heap its (List.toArray out)
  refine ⟨.ref (s.heap.objs.size + 1), _, I.laid (a := s.heap.objs.size + 1) (o := .lst ((bs.mergeSort (PySem.W.dataLe false Prod.snd)).map Prod.fst)) (t' := s.toks) (fun b o e => PyProof.Rows.sortedAll_old e) (by omega) ?_, rfl, q _ ?_⟩
  · exact ⟨by simpa using hz, out, ee, back _ _ he, hat⟩
  · exact I.hok.fresh (by omega)
mutual
theorem alike_tr : ∀ t u : Tr, PySem.W.alike t.dat u.dat = true
  | .node c ks, .node d js => by
    simp only [Tr.dat, PySem.W.alike, PySem.W.alikeAll, alike_trs ks js, Bool.and_self]
theorem alike_trs : ∀ ts us : List Tr, PySem.W.alikeAll (dats ts) (dats us) = true
  | [], us => by simp [dats, PySem.W.alikeAll]
  | t :: r, [] => by simp [dats, PySem.W.alikeAll]
  | t :: r, u :: v => by simp only [dats, PySem.W.alikeAll, alike_tr t u, alike_trs r v, Bool.and_self]
end
def rdat (t : Tr) : PyData := .tuple [.str (ws t), t.dat]
theorem alike_row (t u : Tr) : PySem.W.alike (rdat t) (rdat u) = true := by
  simp only [rdat, PySem.W.alike, PySem.W.alikeAll, alike_tr t u, Bool.and_self]
theorem le_row {t u : Tr} (ht : t.lets Ltr) (hu : u.lets Ltr) : leW t u = (!PySem.W.dataLt (rdat u) (rdat t)) := by
  unfold rdat
  rw [PySem.W.dataLt_pair (by simp [PySem.W.alike]) (alike_tr u t), PySem.W.dataLt_str]
  have e0 : ∀ t : Tr, (ws t).cps.toList = t.wr := fun t => by simp [ws]
  by_cases e : u.wr = t.wr
  · have e1 := wr_eq hu ht e
    subst e1
    have lay : ∀ t : Tr, t.lets Ltr → t.dat.canLay0 = true := by
      intro t
      refine Tr.rec (motive_1 := fun t => t.lets Ltr → t.dat.canLay0 = true) (motive_2 := fun ts => letss Ltr ts → PyData.canLayAll0 (dats ts) = true) (fun c ks ih h => ?_) (fun _ => by simp [dats, PyData.canLayAll0]) (fun t r h1 h2 h => ?_) t
      · simp only [Tr.lets] at h
        simp only [Tr.dat, PyData.canLay0, PyData.canLayAll0, strOk_ch h.1.2, ih h.2, Bool.and_self]
      · simp only [letss] at h
        simp only [dats, PyData.canLayAll0, h1 h.1, h2 h.2, Bool.and_self]
    rw [if_pos (by simp [PyData.eqv]), if_pos (SeqAt.eqv_refl _ (lay _ hu))]
    simp [leW]
  · rw [if_neg (by
      simp only [PyData.eqv, beq_iff_eq]
      intro e2
      exact e (by have := congrArg (fun z : Str => z.cps.toList) e2; simpa [e0] using this)), e0, e0]
    unfold leW
    exact (PySem.W.not_lt_str _ _).symm
theorem sort_rows {bs : List (V × Tr)} (h : ∀ b ∈ bs, b.2.lets Ltr) : ((bs.map fun b => (b.1, rdat b.2)).mergeSort (PySem.W.dataLe false Prod.snd)).map Prod.fst = (bs.mergeSort fun a b => leW a.2 b.2).map Prod.fst := by
  rw [← PySem.W.sort_maps (r := fun a b : V × Tr => leW a.2 b.2) (s := PySem.W.dataLe false Prod.snd) (fun b : V × Tr => (b.1, rdat b.2)) (fun a ha b hb => le_row (h a ha) (h b hb)), List.map_map]
  rfl
theorem sort_rows2 (bs : List (V × Tr)) : (bs.mergeSort fun a b => leW a.2 b.2).map Prod.snd = (bs.map Prod.snd).mergeSort leW :=
  PySem.W.sort_maps (r := fun a b : V × Tr => leW a.2 b.2) (s := leW) Prod.snd (fun _ _ _ _ => rfl)

def Lets (L : Str) : Prop := 1 ≤ L.length ∧ L.length ≤ 26 ∧ ∀ c ∈ L.cps.toList, 97 ≤ c ∧ c ≤ 122
theorem none_of {sp : Sp} {P : Program} {w : World} {K : PySem.W.Frag} {mg : Str → Option Value} {base : Heap} {f : Addr} {fd : FuncData} {ps : List Str} {k : Nat} (no : ∀ vs H Q E, ¬ sp vs H Q E) : FnOk P w K mg base CX0 k f fd ps sp :=
  ⟨fun vs H Q E h => absurd h (no vs H Q E), fun A outer s H args us vs Q E _ _ _ _ h => absurd h (no vs H Q E)⟩
theorem depth_pos : ∀ t : Tr, 1 ≤ t.depth
  | .node c ks => by simp only [Tr.depth]; omega

theorem lc_rngU {lo : Int} {n : Nat} {Bd : V → Hp → (Hp → Prop) → Prop} {Qd : Hp → Prop} {H0 : Hp} (Pv : Nat → Hp → Prop) (h0 : Pv 0 H0)
    (hs : ∀ (i : Nat) H, i < n → Pv i H → Bd (.int (lo + i)) H (Pv (i + 1))) (hd : ∀ H, Pv n H → Qd H) :
    ∃ W : Nat → Nat → Hp → Prop, (∃ m, W 0 m H0) ∧ ∀ i m H, W i m H → ((Itr lo n).stop i H ∧ Qd H) ∨ ((Itr lo n).go i H ∧ ∃ Nx : Hp → Prop, (∀ H', Nx H' → ∃ m', m' < m ∧ W (i + 1) m' H') ∧ ∀ x H', (Itr lo n).yld i H x H' → Bd x H' Nx) := by
  refine ⟨fun i m H => m = n - i ∧ i ≤ n ∧ Pv i H, ⟨n, by simp, Nat.zero_le _, h0⟩, ?_⟩
  rintro i m H ⟨rfl, hi, p⟩
  by_cases hlt : i < n
  · refine .inr ⟨hlt, Pv (i + 1), fun H' p' => ⟨n - (i + 1), by omega, rfl, hlt, p'⟩, fun x H' y => ?_⟩
    obtain ⟨rfl, rfl⟩ := y
    exact hs i _ hlt p
  · have e : i = n := by omega
    subst e
    exact .inl ⟨Nat.le_refl _, hd H p⟩


def RowT (ok : Addr → Prop) (H : Hp) (b : V × Tr) : Prop := ∃ p x, b.1 = .ref p ∧ H p = some (.tup [.str (ws b.2), x]) ∧ ok p ∧ TrAt ok H x b.2
theorem RowT.imp {ok ok' : Addr → Prop} {H H' : Hp} {b : V × Tr} (x : RowT ok H b) (hk : ∀ b, ok b → ok' b) (h : ∀ b o, ok b → H b = some o → H' b = some o) : RowT ok' H' b := by
  obtain ⟨p, x, e, h1, h2, h3⟩ := x
  exact ⟨p, x, e, h _ _ h2 h1, hk _ h2, TrAt.imp hk h _ _ h3⟩
theorem RowT.dp {K : PySem.W.Frag} {ok : Addr → Prop} {H : Hp} {b : V × Tr} (x : RowT ok H b) : Dp K H b.1 (rdat b.2) := by
  obtain ⟨p, x, e, h1, h2, h3⟩ := x
  rw [e]
  exact .tup (SqT.of h1) (.cons (.str _) (.cons (TrAt.dp _ _ h3) .nil))
theorem RowT.ltr {ok : Addr → Prop} {H : Hp} {b : V × Tr} (x : RowT ok H b) : b.2.lets Ltr := by
  obtain ⟨p, x, e, h1, h2, h3⟩ := x
  exact TrAt.ltr _ _ h3
def sp__law_formed (d : Nat) : Sp := fun vs H Q _ => ∃ (v : V) (t : Tr), vs = [v] ∧ TrAt (fun _ => True) H v t ∧ t.depth ≤ d ∧ t.depth ≤ 40 ∧ t.size ≤ 5000 ∧
  ∀ r H', Same H H' → RowT (fun b => H b = none) H' (r, t.told) → Q r H'
section
variable {P : Program} {w : World} {K : PySem.W.Frag} {mg : Str → Option Value} {base : Heap}
theorem ok__law_formed (T : Txt K mg) : ∀ d : Nat, FnOk P w K mg base CX0 d T.f__law_formed T.d__law_formed ["tree"] (sp__law_formed d)
  | 0 => none_of fun vs H Q E ⟨v, t, _, _, h, _⟩ => by have := depth_pos t; omega
  | d + 1 => by
    have G__law_formed : FnOk P w K mg base CX0 d T.f__law_formed T.d__law_formed ["tree"] (sp__law_formed d) := ok__law_formed T d
    refine T.F__law_formed.ok sc__law_formed (fun vs H Q E h => ?_) (fun cdv A outer s H vs Q E hr h => ?_)
    · obtain ⟨v, t, rfl, _⟩ := h
      rfl
    obtain ⟨v, t, rfl, ht, hd, hd2, hz, q⟩ := h
    refine ⟨_, (pss_cons (ps_set (i := 1) sc__law_formed.nd rfl (Or.inl rfl) (pe_callB (call_sortedData (roomDeep hr)) (by rfl) T.z_sorted (by decide +kernel) (pa_cons (pe_lc (own := [("child", 4)]) (g := gName 4) (tt := tYes) rfl sc__law_formed.nd (pi_list (pe_ix ix_tup (pv 0) pe_int (fun _ _ => rfl))) (blkOk_by (own := [("child", 4)]) (N := ["tree", "children", "inner", "writing", "child", "more"]) (sc := (defScope s__law_formed)) (by decide +kernel)) (fun _ _ _ _ _ => (pg_name (i := 4) sc__law_formed.nd rfl (Or.inl rfl))) (fun _ _ _ _ _ => pts_nil) (fun _ _ _ _ _ => (pe_call G__law_formed (hr.mono (by omega)) (by rfl) T.m__law_formed T.F__law_formed.kp T.b__law_formed .nil pass0 (pa_cons (pv 4) pa_nil)))) pa_nil))) (pss_cons (ps_set (i := 2) sc__law_formed.nd rfl (Or.inl rfl) (pe_join pe_str (pe_lc (own := [("more", 5), ("child", 4)]) (g := gTup K 2 (gCons (gName 5) (gCons (gName 4) gNil))) (tt := tYes) rfl sc__law_formed.nd (pi_list (pv 1)) (blkOk_by (own := [("more", 5), ("child", 4)]) (N := ["tree", "children", "inner", "writing", "child", "more"]) (sc := (defScope s__law_formed)) (by decide +kernel)) (fun _ _ _ _ _ => (pg_tup rfl (pgs_cons (pg_name (i := 5) sc__law_formed.nd rfl (Or.inl rfl)) (pgs_cons (pg_name (i := 4) sc__law_formed.nd rfl (Or.inl rfl)) pgs_nil)))) (fun _ _ _ _ _ => pts_nil) (fun _ _ _ _ _ => (pv 5))))) (pss_cons (ps_set (i := 3) sc__law_formed.nd rfl (Or.inl rfl) (pe_op op_add_str (pe_ix ix_tup (pv 0) pe_int (fun _ _ => rfl)) (pe_ix ix_list (pe_lst (pa_cons pe_str (pa_cons (pe_op op_add_str (pe_op op_add_str pe_str (pv 2)) pe_str) pa_nil))) (pe_callTy call_int1 (by rfl) T.z_int (by decide +kernel) (pa_cons (pe_cmpR op_ne (pv 2) pe_str (nomark _)) pa_nil)) (fun _ _ => rfl)))) (pss_one (ps_ret (pe_tup (pa_cons (pv 3) (pa_cons (pe_tup (pa_cons (pe_ix ix_tup (pv 0) pe_int (fun _ _ => rfl)) (pa_cons (pe_lc (own := [("more", 5), ("child", 4)]) (g := gTup K 2 (gCons (gName 5) (gCons (gName 4) gNil))) (tt := tYes) rfl sc__law_formed.nd (pi_list (pv 1)) (blkOk_by (own := [("more", 5), ("child", 4)]) (N := ["tree", "children", "inner", "writing", "child", "more"]) (sc := (defScope s__law_formed)) (by decide +kernel)) (fun _ _ _ _ _ => (pg_tup rfl (pgs_cons (pg_name (i := 5) sc__law_formed.nd rfl (Or.inl rfl)) (pgs_cons (pg_name (i := 4) sc__law_formed.nd rfl (Or.inl rfl)) pgs_nil)))) (fun _ _ _ _ _ => pts_nil) (fun _ _ _ _ _ => (pv 4))) pa_nil))) pa_nil)))))))), ?_⟩
    obtain ⟨c, ks⟩ := t
    simp only [Tr.depth] at hd hd2
    simp only [Tr.size] at hz
    have lz := len_sizes ks
    cases ht with
    | node h1 h2 k1 k2 c1 c2 r =>
    rename_i a l xs
    have lr := r.len
    refine ⟨_, rfl, _, _, 1, _, rfl, rfl, SqT.of h1, atI_nat (j := 1) rfl, _, rfl, ⟨_, SqL.of h2⟩, fun D hD => ?_⟩
    refine lc_list (xs := xs) (fun i H2 => ∃ bs : List (V × Tr), H2 D = some (.lst (bs.map (·.1))) ∧ (∀ b ∈ bs, RowT (fun b => H b = none ∧ b ≠ D) H2 b) ∧ bs.map (·.2) = tolds (ks.take i) ∧ Same H H2) ⟨[], upd_same, (fun _ h => by cases h), rfl, same_new hD⟩ (fun i H2 _ ⟨_, _, _, _, s⟩ => SqL.of (s _ _ h2)) ?_ ?_
    · rintro i x H2 hx ⟨bs, g1, g2, g3, g4⟩
      obtain ⟨t1, ht1, hx2⟩ := r.getV hx
      have dt := depths_mem (List.mem_of_getElem? ht1)
      have st := sizes_mem (List.mem_of_getElem? ht1)
      have lb : bs.length ≤ ks.length := by
        have := congrArg List.length g3
        rw [List.length_map, tolds_len, List.length_take] at this
        omega
      refine ⟨rfl, _, rfl, x, t1, rfl, hx2.same g4, by omega, by omega, by omega, fun y H3 s3 hy => ?_⟩
      refine ⟨_, s3 _ _ g1, ?_, bs ++ [(y, t1.told)], by rw [upd_same, List.map_append]; rfl, ?_, ?_, same_add (g4.trans s3) hD⟩
      · rw [List.length_map]
        exact Nat.lt_of_le_of_lt (show bs.length ≤ 1000000 by omega) (by decide)
      · intro b hb
        rcases List.mem_append.mp hb with hb | hb
        · exact (g2 b hb).imp (fun _ h => h) fun b o h e => by rw [upd_ne h.2]; exact s3 _ _ e
        · simp only [List.mem_singleton] at hb
          subst hb
          have hn : ∀ b, H2 b = none → H b = none ∧ b ≠ D := fun b h => ⟨g4.free h, fun e => by rw [e, g1] at h; cases h⟩
          exact hy.imp hn fun b o h e => by rw [upd_ne (hn b h).2]; exact e
      · rw [List.map_append, g3, take_succ_of ht1, tolds_map, tolds_map, List.map_append]
        rfl
    rintro H2 ⟨bs, g1, g2, g3, g4⟩
    rw [lr, List.take_length] at g3
    have lb : bs.length = ks.length := by
      have := congrArg List.length g3
      rw [List.length_map, tolds_len] at this
      exact this
    have hdl : ∀ b ∈ bs, b.2.depth ≤ 40 := fun b hb => by
      have h : b.2 ∈ tolds ks := by rw [← g3]; exact List.mem_map_of_mem hb
      rw [tolds_map] at h
      obtain ⟨t1, ht1, e⟩ := List.mem_map.mp h
      rw [← e, told_depth]
      have := depths_mem ht1
      omega
    refine ⟨D, bs.map fun b => (b.1, rdat b.2), rfl, by rw [g1, List.map_map]; rfl, ?_, ?_, ?_, ?_, ?_, fun rs hrs => ?_⟩
    · intro b hb
      obtain ⟨b2, hb2, rfl⟩ := List.mem_map.mp hb
      exact (g2 b2 hb2).dp
    · intro d hd d' hd'
      rw [List.map_map] at hd hd'
      obtain ⟨x, _, rfl⟩ := List.mem_map.mp hd
      obtain ⟨y, _, rfl⟩ := List.mem_map.mp hd'
      exact alike_row x.2 y.2
    · refine .inl fun d hd => ?_
      rw [List.map_map] at hd
      obtain ⟨x, _, rfl⟩ := List.mem_map.mp hd
      exact ⟨_, _, rfl⟩
    · intro b hb
      obtain ⟨b2, hb2, rfl⟩ := List.mem_map.mp hb
      have h1 := dat_depth b2.2
      have h2 := hdl b2 hb2
      simp only [rdat, PyData.depth, PyData.depthAll]
      omega
    · rw [List.length_map]
      exact Nat.le_trans (show bs.length ≤ 1000000 by omega) (by decide)
    rw [sort_rows fun b hb => (g2 b hb).ltr]
    have e2 := sort_rows2 bs
    have hperm := List.mergeSort_perm bs fun a b : V × Tr => leW a.2 b.2
    generalize (bs.mergeSort fun a b => leW a.2 b.2) = cs at *
    rw [g3] at e2
    have lcs := hperm.length_eq
    have g5 : ∀ b ∈ cs, RowT (fun b => H b = none ∧ b ≠ D) (upd H2 rs (.lst (cs.map Prod.fst))) b := fun b hb => (g2 b (hperm.mem_iff.mp hb)).imp (fun _ h => h) fun b o h e => same_new hrs _ _ e
    have g6 : Same H (upd H2 rs (.lst (cs.map Prod.fst))) := same_add g4 (g4.free hrs)
    have g7 : (upd H2 rs (.lst (cs.map Prod.fst))) rs = some (.lst (cs.map Prod.fst)) := upd_same
    have szc : sizes (cs.map Prod.snd) = sizes ks := by rw [e2, sizes_sort, tolds_map, told_sizes]
    generalize upd H2 rs (.lst (cs.map Prod.fst)) = H3 at *
    have hsl : cs.length ≤ 5000 := by omega
    refine ⟨⟨_, rfl⟩, _, rfl, rs, rfl, ⟨_, SqL.of g7⟩, fun D2 hD2 => ?_⟩
    refine lc_list (xs := cs.map Prod.fst) (fun i H4 => H4 D2 = some (.lst ((cs.take i).map fun b => .str (ws b.2))) ∧ Same H3 H4) ⟨upd_same, same_new hD2⟩ (fun i H4 _ ⟨_, s⟩ => SqL.of (s _ _ g7)) ?_ ?_
    · rintro i x H4 hx ⟨m1, m2⟩
      rw [List.getElem?_map] at hx
      cases hc : cs[i]? with
      | none => rw [hc] at hx; cases hx
      | some b =>
        rw [hc] at hx
        cases hx
        obtain ⟨p, y, e, n1, n2, n3⟩ := g5 b (List.mem_of_getElem? hc)
        obtain ⟨bv, bt⟩ := b
        cases e
        refine ⟨_, _, rfl, SqT.of (m2 _ _ n1), rfl, _, _, rfl, _, _, rfl, rfl, rfl, _, rfl, _, m1, ?_, ?_, same_add m2 hD2⟩
        · rw [List.length_map, List.length_take]
          exact Nat.lt_of_le_of_lt (show _ ≤ 1000000 by omega) (by decide)
        · rw [upd_same, take_succ_of hc, List.map_append]
          rfl
    rintro H4 ⟨m1, m2⟩
    rw [List.length_map, List.take_length] at m1
    have e0 : (cs.map fun b => V.str (ws b.2)) = ((cs.map Prod.snd).map ws).map V.str := by simp
    rw [e0] at m1
    refine ⟨_, D2, _, rfl, rfl, .inl (SqL.of m1), ?_, ?_⟩
    · rw [ws_len]
      have := wrs_len (cs.map Prod.snd)
      have e : (Str.ofString "").length = 0 := by decide +kernel
      rw [e, Nat.mul_zero]
      omega
    rw [join_ws]
    have lw := wrs_len (cs.map Prod.snd)
    have h14 : H4 a = some (.tup [.str (ch c), .ref l]) := m2 _ _ (g6 _ _ h1)
    have l2 : (Str.ofString "(").length = 1 := by decide +kernel
    have l3 : (Str.ofString ")").length = 1 := by decide +kernel
    have la : ∀ a b : Str, (a ++ b).length = a.length + b.length := fun a b => by
      show (a.cps ++ b.cps).size = _
      rw [Array.size_append]
      rfl
    have big : ∀ n : Nat, n ≤ 3000010 → n ≤ sizeLine := fun n h => Nat.le_trans h (by decide)
    have lW : (⟨(wrs (cs.map Prod.snd)).toArray⟩ : Str).length ≤ 20000 := by
      show (wrs (cs.map Prod.snd)).toArray.size ≤ _
      rw [List.size_toArray]
      omega
    refine ⟨_, rfl, _, _, 0, _, rfl, rfl, SqT.of h14, atI_nat (j := 0) rfl, ?_⟩
    refine ⟨_, rfl, _, _, rfl, rfl, big _ (by omega), _, _, rfl, rfl, big _ (by rw [la]; omega), (by show 2 ≤ sizeLine; decide), fun l2 hl2 => ⟨_, rfl, rfl, .inr ⟨_, rfl, ?_⟩⟩⟩
    obtain ⟨S, hS, eS, lS⟩ : ∃ S : Str, atI [V.str (Str.ofString ""), V.str (Str.ofString "(" ++ (⟨(wrs (cs.map Prod.snd)).toArray⟩ : Str) ++ Str.ofString ")")] (if (!decide (V.str (⟨(wrs (cs.map Prod.snd)).toArray⟩ : Str) = V.str (Str.ofString ""))) = true then 1 else 0) = some (.str S) ∧ ch c ++ S = ws (.node c (cs.map Prod.snd)) ∧ S.length ≤ 20010 := by
      have es : Str.ofString "" = ⟨#[]⟩ := by decide +kernel
      cases hcs : cs.map Prod.snd with
      | nil =>
        refine ⟨Str.ofString "", ?_, ?_, by decide +kernel⟩
        · have e9 : (⟨(wrs []).toArray⟩ : Str) = Str.ofString "" := by rw [es]; rfl
          rw [e9, decide_eq_true rfl]
          exact atI_nat (j := 0) rfl
        · rw [es]
          show (⟨#[c] ++ #[]⟩ : Str) = ⟨(c :: brk (wrs [])).toArray⟩
          simp [wrs, brk]
      | cons t0 r0 =>
        have hne : (⟨(wrs (t0 :: r0)).toArray⟩ : Str) ≠ Str.ofString "" := by
          rw [es]
          intro e
          obtain ⟨x, l, e2⟩ := wrs_ne (t := t0) (r := r0)
          rw [e2] at e
          have := congrArg (fun z : Str => z.cps.size) e
          simp at this
        have hne2 : ¬ (V.str (⟨(wrs (t0 :: r0)).toArray⟩ : Str) = V.str (Str.ofString "")) := fun e => hne (V.str.inj e)
        refine ⟨Str.ofString "(" ++ (⟨(wrs (t0 :: r0)).toArray⟩ : Str) ++ Str.ofString ")", ?_, ?_, ?_⟩
        · rw [decide_eq_false hne2]
          exact atI_nat (j := 1) rfl
        · have e1 : (Str.ofString "(").cps = #[40] := by decide +kernel
          have e2 : (Str.ofString ")").cps = #[41] := by decide +kernel
          show (⟨#[c] ++ (((Str.ofString "(").cps ++ (wrs (t0 :: r0)).toArray) ++ (Str.ofString ")").cps)⟩ : Str) = ⟨(c :: brk (wrs (t0 :: r0))).toArray⟩
          rw [e1, e2, brk_wrs]
          simp
        · rw [la, la, ← hcs]
          omega
    refine ⟨l2, _, _, _, rfl, rfl, SqL.of upd_same, hS, _, _, rfl, rfl, big _ (by have : (ch c).length = 1 := rfl; omega), ?_⟩
    rw [eS]
    have s5 : Same H (upd H4 l2 (.lst [V.str (Str.ofString ""), V.str (Str.ofString "(" ++ (⟨(wrs (cs.map Prod.snd)).toArray⟩ : Str) ++ Str.ofString ")")])) := (g6.trans m2).trans (same_new hl2)
    have s35 : Same H3 (upd H4 l2 (.lst [V.str (Str.ofString ""), V.str (Str.ofString "(" ++ (⟨(wrs (cs.map Prod.snd)).toArray⟩ : Str) ++ Str.ofString ")")])) := m2.trans (same_new hl2)
    generalize upd H4 l2 (.lst [V.str (Str.ofString ""), V.str (Str.ofString "(" ++ (⟨(wrs (cs.map Prod.snd)).toArray⟩ : Str) ++ Str.ofString ")")]) = H5 at *
    refine ⟨_, rfl, _, rfl, _, _, 0, _, rfl, rfl, SqT.of (s5 _ _ h1), atI_nat (j := 0) rfl, _, rfl, rs, rfl, ⟨_, SqL.of (s35 _ _ g7)⟩, fun D3 hD3 => ?_⟩
    have hD30 : H D3 = none := s5.free hD3
    refine lc_list (xs := cs.map Prod.fst) (fun i H6 => ∃ ys, H6 D3 = some (.lst ys) ∧ TrsAt (fun b => H b = none ∧ b ≠ D3) H6 ys ((cs.take i).map Prod.snd) ∧ Same H5 H6) ⟨[], upd_same, .nil, same_new hD3⟩ (fun i H6 _ ⟨_, _, _, s⟩ => SqL.of (s _ _ (s35 _ _ g7))) ?_ ?_
    · rintro i x H6 hx ⟨ys, m1, m3, m4⟩
      rw [List.getElem?_map] at hx
      cases hc : cs[i]? with
      | none => rw [hc] at hx; cases hx
      | some b =>
        rw [hc] at hx
        cases hx
        obtain ⟨p, y, e, n1, n2, n3⟩ := g5 b (List.mem_of_getElem? hc)
        obtain ⟨bv, bt⟩ := b
        cases e
        have lm := m3.len
        rw [List.length_map, List.length_take] at lm
        have hD33 : H3 D3 = none := s35.free hD3
        have n3' : TrAt (fun b => H b = none ∧ b ≠ D3) H6 y bt := (((n3.off hD33).same s35).same m4).weak fun b h => ⟨h.1.1, h.2⟩
        refine ⟨_, _, rfl, SqT.of (m4 _ _ (s35 _ _ n1)), rfl, _, _, rfl, _, _, rfl, rfl, rfl, _, rfl, _, m1, ?_, ys ++ [y], upd_same, ?_, same_add m4 hD3⟩
        · exact Nat.lt_of_le_of_lt (show ys.length ≤ 1000000 by omega) (by decide)
        · rw [take_succ_of hc, List.map_append]
          exact (m3.append (.cons n3' .nil)).keep (upd_keep fun b h => h.2)
    rintro H6 ⟨ys, m1, m3, m4⟩
    rw [List.length_map, List.take_length] at m3
    refine ⟨(by show 2 ≤ sizeLine; decide), fun a2 ha2 => ⟨(by show 2 ≤ sizeLine; decide), fun p hp => ?_⟩⟩
    have nap : a2 ≠ p := fun e => by rw [← e, upd_same] at hp; cases hp
    have s6 : Same H H6 := s5.trans m4
    have ha20 := s6.free ha2
    have hp0 := s6.free (NdefX.upd_none hp)
    have s8 : Same H6 (upd (upd H6 a2 (.tup [.str (ch c), .ref D3])) p (.tup [.str (ws (.node c (cs.map Prod.snd))), .ref a2])) := (same_new ha2).trans (same_new hp)
    have etold : (Tr.node c ks).told = .node c (cs.map Prod.snd) := by
      rw [e2]
      simp only [Tr.told, tolds_map]
    refine q (.ref p) _ (s6.trans s8) ?_
    rw [etold]
    refine ⟨p, .ref a2, rfl, upd_same, hp0, ?_⟩
    exact .node (by rw [upd_ne nap]; exact upd_same) (s8 _ _ m1) ha20 hD30 c1 c2 ((m3.same s8).weak fun b h => h.1)
end


def dr : Nat → Nat
  | 0 => 0
  | d + 1 => 5 + 4 * dr d
def sx : Nat → Nat
  | 0 => 0
  | d + 1 => 1 + 3 * sx d
theorem sx_mono : ∀ d : Nat, sx d ≤ sx (d + 1)
  | 0 => by simp [sx]
  | d + 1 => by
    have := sx_mono d
    simp only [sx] at this ⊢
    omega
theorem dr_pos (d : Nat) : 5 ≤ dr (d + 1) := by simp only [dr]; omega
theorem datOk_trD {K : PySem.W.Frag} {H : Hp} {ok : Addr → Prop} {v : V} {t : Tr} (x : TrAt ok H v t) (h : t.depth ≤ 31) : DatOk K H v := ⟨t.dat, TrAt.dp t v x, TrAt.lay t v x, by have := dat_depth t; omega⟩
theorem letAt {L : Str} (hL : Lets L) {r : Int} (r0 : 0 ≤ r) (r1 : r < (L.length : Int)) : ∃ (rn : Nat) (c : Nat), r = (rn : Int) ∧ L.cps.toList[rn]? = some c ∧ 97 ≤ c ∧ c ≤ 122 := by
  have hLs : L.cps.toList.length = L.length := by
    show L.cps.toList.length = L.cps.size
    exact Array.length_toList
  have hrn : r.toNat < L.cps.toList.length := by rw [hLs]; omega
  have cL := hL.2.2 _ (List.getElem_mem hrn)
  exact ⟨r.toNat, _, by omega, List.getElem?_eq_getElem hrn, cL.1, cL.2⟩
section
variable {P : Program} {w : World} {K : PySem.W.Frag} {mg : Str → Option Value} {base : Heap}
def sp__law_tree (k : Nat) : Sp := fun vs H Q _ => ∃ (p : Addr) (L : Str) (n d : Nat), vs = [.ref p, .str L, .int (d : Nat)] ∧ Sto H p n ∧ n + dr d < 1000000 ∧ Lets L ∧ 1 ≤ d ∧ d ≤ k ∧ d ≤ 4 ∧
  ∀ r t H', Fr p H H' → Sto H' p (n + dr d) → TrAt (fun b => H b = none) H' r t → t.size ≤ sx d → t.depth ≤ d → Q r H'
theorem ok__law_tree (T : Txt K mg) : ∀ k : Nat, FnOk P w K mg base CX0 (k + 6) T.f__law_tree T.d__law_tree ["store", "letters", "deep"] (sp__law_tree k)
  | 0 => none_of fun vs H Q E ⟨p, L, n, d, _, _, _, _, h1, h2, _⟩ => by omega
  | k + 1 => by
    have G__law_tree : FnOk P w K mg base CX0 (k + 6) T.f__law_tree T.d__law_tree ["store", "letters", "deep"] (sp__law_tree k) := ok__law_tree T k
    have G__law_take : FnOk P w K mg base CX0 1 T.f__law_take T.d__law_take ["store", "many"] sp__law_take := ok__law_take T
    have G__law_formed : FnOk P w K mg base CX0 5 T.f__law_formed T.d__law_formed ["tree"] (sp__law_formed 5) := ok__law_formed T 5
    refine T.F__law_tree.ok sc__law_tree (fun vs H Q E h => ?_) (fun cdv A outer s H vs Q E hr h => ?_)
    · obtain ⟨p, L, n, d, rfl, _⟩ := h
      rfl
    obtain ⟨p, L, n, d, rfl, hp, hn, hL, hd1, hdk, hd4, q⟩ := h
    refine ⟨_, (pss_cons (ps_set (i := 3) sc__law_tree.nd rfl (Or.inl rfl) (pe_lst pa_nil)) (pss_cons (ps_for PassesOwn.never rfl (pi_range1 (by rfl) T.z_range (pa_cons (pe_op op_mul (pe_ix ix_list (pe_lst (pa_cons pe_int (pa_cons pe_int (pa_cons pe_int (pa_cons pe_int (pa_cons pe_int (pa_cons pe_int pa_nil))))))) (pe_call G__law_take (hr.mono (by omega)) (by rfl) T.m__law_take T.F__law_take.kp T.b__law_take .nil pass0 (pa_cons (pv 0) (pa_cons pe_int pa_nil))) (fun _ _ => rfl)) (pe_callTy call_int1 (by rfl) T.z_int (by decide +kernel) (pa_cons (pe_cmpR op_gt (pv 2) pe_int (nomark _)) pa_nil))) pa_nil)) (pg_name (i := 4) sc__law_tree.nd rfl (Or.inl rfl)) (pss_one (ps_if (PW.pt (pw_and (pt_cmpR (op_neD hr.units) (pv 3) (pe_lst pa_nil) (nomark _)) (pw_and1 (pt_cmpR op_eq (pe_call G__law_take (hr.mono (by omega)) (by rfl) T.m__law_take T.F__law_take.kp T.b__law_take .nil pass0 (pa_cons (pv 0) (pa_cons pe_int pa_nil))) pe_int (nomark _))))) (pss_one (ps_expr (pe_bm PySem.F.plainAttrs_list PySem.F.slot_list_append PySem.F.type_list_append mt_append (pv 3) (pa_cons (pe_ix ix_tup (pe_call G__law_formed (hr.mono (by omega)) (by rfl) T.m__law_formed T.F__law_formed.kp T.b__law_formed .nil pass0 (pa_cons (pe_ix ix_list (pv 3) (pe_un un_neg pe_int) (fun _ _ => rfl)) pa_nil)) pe_int (fun _ _ => rfl)) pa_nil)))) (pss_one (ps_expr (pe_bm PySem.F.plainAttrs_list PySem.F.slot_list_append PySem.F.type_list_append mt_append (pv 3) (pa_cons (pe_call G__law_tree (hr.mono (by omega)) (by rfl) T.m__law_tree T.F__law_tree.kp T.b__law_tree .nil pass0 (pa_cons (pv 0) (pa_cons (pv 1) (pa_cons (pe_op op_sub (pv 2) pe_int) pa_nil)))) pa_nil))))))) (pss_one (ps_ret (pe_tup (pa_cons (pe_ix ix_str (pv 1) (pe_call G__law_take (hr.mono (by omega)) (by rfl) T.m__law_take T.F__law_take.kp T.b__law_take .nil pass0 (pa_cons (pv 0) (pa_cons (pe_callB call_len_str (by rfl) T.z_len PySem.boot_len (pa_cons (pv 1) pa_nil)) pa_nil))) (fun _ _ => rfl)) (pa_cons (pv 3) pa_nil))))))), ?_⟩
    obtain ⟨d', rfl⟩ : ∃ d', d = d' + 1 := ⟨d - 1, by omega⟩
    have sz4 : sx d' ≤ 13 := by
      have : d' ≤ 3 := by omega
      obtain rfl | rfl | rfl | rfl : d' = 0 ∨ d' = 1 ∨ d' = 2 ∨ d' = 3 := by omega
      all_goals simp [sx]
    refine ⟨(by show 0 ≤ sizeLine; decide), fun cl hcl => ?_⟩
    have ncp := hp.ne hcl
    refine ⟨(by show 6 ≤ sizeLine; decide), fun l0 hl0 => ?_⟩
    have hp1 := (hp.new (o := .lst []) hcl).new (o := .lst [.int 0, .int 1, .int 2, .int 3, .int 1, .int 2]) hl0
    refine ⟨_, rfl, p, 6, n, rfl, hp1, by omega, by decide, by decide, fun r H1 r0 r1 c1 p1 => ?_⟩
    have nl0 : l0 ≠ p := hp.ne (NdefX.upd_none hl0)
    have hl1 : H1 l0 = some (.lst [.int 0, .int 1, .int 2, .int 3, .int 1, .int 2]) := c1.at upd_same nl0
    have hc1 : H1 cl = some (.lst []) := c1.at (by rw [upd_ne (ne_of_none upd_same hl0)]; exact upd_same) ncp
    have f1 : Fr p H H1 := (((Fr.refl p H).new hcl).new (NdefX.upd_none hl0)).trans (Fr.chg c1)
    obtain ⟨m, hm, hm0, hm3⟩ : ∃ m : Int, atI [V.int 0, V.int 1, V.int 2, V.int 3, V.int 1, V.int 2] r = some (.int m) ∧ 0 ≤ m ∧ m ≤ 3 := by
      obtain rfl | rfl | rfl | rfl | rfl | rfl : r = 0 ∨ r = 1 ∨ r = 2 ∨ r = 3 ∨ r = 4 ∨ r = 5 := by omega
      · exact ⟨0, atI_nat (j := 0) rfl, by decide, by decide⟩
      · exact ⟨1, atI_nat (j := 1) rfl, by decide, by decide⟩
      · exact ⟨2, atI_nat (j := 2) rfl, by decide, by decide⟩
      · exact ⟨3, atI_nat (j := 3) rfl, by decide, by decide⟩
      · exact ⟨1, atI_nat (j := 4) rfl, by decide, by decide⟩
      · exact ⟨2, atI_nat (j := 5) rfl, by decide, by decide⟩
    refine ⟨l0, _, r, _, rfl, rfl, SqL.of hl1, hm, _, rfl, _, _, rfl, rfl, .inr ⟨_, rfl, ?_⟩⟩
    have hn3 : n + dr (d' + 1) < 1000000 := hn
    simp only [dr] at hn3
    obtain ⟨jn, hj, hj3, hjd⟩ : ∃ jn : Nat, m * (if decide ((1 : Int) < ((d' + 1 : Nat) : Int)) = true then 1 else 0) = (jn : Int) ∧ jn ≤ 3 ∧ (jn ≠ 0 → 1 ≤ d') := by
      by_cases h : (1 : Int) < ((d' + 1 : Nat) : Int)
      · rw [decide_eq_true h, if_pos rfl]
        exact ⟨m.toNat, by omega, by omega, fun _ => by omega⟩
      · rw [decide_eq_false h]
        exact ⟨0, by simp, by omega, fun h => absurd rfl h⟩
    have okk : ∀ b, H b = none → b ≠ p := fun b h => hp.ne h
    have frn : ∀ H', Fr p H H' → ∀ {m : Nat}, Sto H' p m → ∀ {b : Addr}, H' b = none → H b = none := fun H' f m hs b h => f.free hs.some h
    refine ⟨m, _, rfl, rfl, .inl ⟨by omega, by omega⟩, (jn : Int), congrArg (fun z => [V.int z]) hj, by omega, by omega, for_range (lo := 0) (n := ((jn : Int)).toNat) (fun i σ H' => ∃ y4 vs ks, σ = [some (.ref p), some (.str L), some (.int ((d' + 1 : Nat) : Int)), some (.ref cl), y4] ∧ H' cl = some (.lst vs) ∧ TrsAt (fun b => H b = none ∧ b ≠ cl) H' vs ks ∧ ks.length = i ∧ ((∀ t ∈ ks, t.size ≤ sx d') ∧ sizes ks ≤ i * sx d') ∧ depths ks ≤ d' ∧ Sto H' p (n + 1 + i * (1 + dr d')) ∧ Fr p H H')
      ⟨none, [], [], rfl, hc1, .nil, rfl, ⟨(fun _ h => by cases h), by simp [sizes]⟩, by simp [depths], by simpa using p1, f1⟩ ?_ ?_⟩
    · rintro i σ H2 hi ⟨y4, vs, ks, rfl, g1, g2, g3, ⟨g4a, g4⟩, g5, p2, f2⟩
      have hi' : i < jn := by omega
      have hjd' : 1 ≤ d' := hjd (by omega)
      have ib : i * (1 + dr d') ≤ 2 * (1 + dr d') := Nat.mul_le_mul_right _ (by omega)
      have is_ : i * sx d' ≤ 2 * 13 := Nat.mul_le_mul (by omega) sz4
      have lz := len_sizes ks
      have lv := g2.len
      refine ⟨_, rfl, (by show 0 ≤ sizeLine; decide), fun e he => ?_⟩
      have s2e := same_new (o := .lst []) he
      have p2' := p2.new (o := .lst []) he
      have g1' : (upd H2 e (.lst [])) cl = some (.lst vs) := s2e _ _ g1
      have g2' : TrsAt (fun b => H b = none ∧ b ≠ cl) (upd H2 e (.lst [])) vs ks := g2.same s2e
      have he0 : H e = none := frn _ f2 p2 he
      have f2' : Fr p H (upd H2 e (.lst [])) := f2.new he0
      obtain ⟨ds, hds, hsh, hdl⟩ := DatOk.all (K := K) (H := upd H2 e (.lst [])) (vs := vs) fun v hv => by
        obtain ⟨j, hj⟩ := List.getElem?_of_mem hv
        obtain ⟨t1, ht1, hx⟩ := g2'.getV hj
        have dt := depths_mem (List.mem_of_getElem? ht1)
        exact datOk_trD hx (by omega)
      refine ⟨_, _, .lst (SqL.of g1') hds, dp_nil upd_same, hsh, shaped_nil, _, rfl, ?_⟩
      rw [eqv_nil, hdl]
      generalize hHe : upd H2 e (.lst []) = He at *
      by_cases hu : vs.length = 0
      · rw [decide_eq_true hu]
        refine iteF ?_
        refine iteF ?_
        refine ⟨_, rfl, .inl ⟨rfl, _, SqL.of g1'⟩, _, rfl, _, rfl, _, rfl, _, 1, rfl, rfl, ?_⟩
        refine ⟨p, L, _, d', congrArg (fun z => [V.ref p, V.str L, V.int z]) (show (((d' + 1 : Nat) : Int) - 1) = (d' : Int) by omega), p2', by omega, hL, hjd' , by omega, by omega, fun r t H7 f7 p7 T7 z7 dd7 => ?_⟩
        have hc7 : H7 cl = some (.lst vs) := f7 _ _ ncp g1'
        have lk := g2'.len
        refine ⟨cl, _, r, rfl, rfl, hc7, Nat.lt_of_le_of_lt (show vs.length ≤ 1000000 by omega) (by decide), ?_⟩
        refine ⟨some _, vs ++ [r], ks ++ [t], rfl, upd_same, ?_, by rw [List.length_append, g3]; rfl, ?_, ?_, ?_, ?_⟩
        · have T7' : TrAt (fun b => H b = none ∧ b ≠ cl) H7 r t := T7.weak fun b hb => ⟨frn _ f2' p2' hb, fun e => by rw [e, g1'] at hb; cases hb⟩
          exact ((g2'.sto p2' f7).append (.cons T7' .nil)).keep (upd_keep fun b h => h.2)
        · refine ⟨fun x hx => (List.mem_append.mp hx).elim (g4a x) fun h => by simp only [List.mem_singleton] at h; rw [h]; exact z7, ?_⟩
          rw [sizes_append]
          simp only [sizes]
          have e : (i + 1) * sx d' = i * sx d' + sx d' := Nat.succ_mul _ _
          omega
        · rw [depths_append]
          simp only [depths]
          omega
        · have p4 : Sto (upd H7 cl (.lst (vs ++ [r]))) p (n + 1 + i * (1 + dr d') + 0 + dr d') := by
            obtain ⟨g, x, s, a, b⟩ := p7
            exact ⟨g, x, s, by rw [upd_ne ncp.symm]; exact a, b⟩
          have e : (i + 1) * (1 + dr d') = i * (1 + dr d') + (1 + dr d') := Nat.succ_mul _ _
          exact p4.mono (by omega)
        · intro b o n1 e
          rw [upd_ne (ne_of_none e hcl)]
          exact f7 b o n1 (f2' b o n1 e)
      · rw [decide_eq_false hu]
        refine iteT ⟨_, rfl, p, 3, _, rfl, p2', by omega, by decide, by decide, fun r H3 r0 r1 c3 p3 => ⟨rfl, _, rfl, ?_⟩⟩
        have g13 : H3 cl = some (.lst vs) := c3.at g1' ncp
        have g23 := g2'.sto p2' (Fr.chg c3)
        have f3' : Fr p H H3 := f2'.trans (Fr.chg c3)
        refine ite2 (fun _ => ?_) (fun _ => ?_)
        · obtain ⟨vs', x, rfl⟩ := concat_of (l := vs) (fun e => hu (by rw [e]; rfl))
          obtain ⟨ks', kl, rfl, x1, x2⟩ := TrsAt.split g23
          cases x2 with
          | cons hx hn2 =>
          cases hn2
          rename_i t1
          have st := g4a t1 (by simp)
          have dt := depths_mem (show t1 ∈ ks' ++ [t1] by simp)
          refine ⟨_, rfl, .inl ⟨rfl, _, SqL.of g13⟩, _, rfl, _, rfl, cl, _, -1, x, rfl, rfl, SqL.of g13, atI_last _ _, x, t1, rfl, hx.weak fun _ _ => trivial, by omega, by omega, by omega, fun r H7 s7 row => ?_⟩
          obtain ⟨pr, y, er, hpr, hpr0, T7⟩ := row
          dsimp only at er hpr T7
          subst er
          have hc7 : H7 cl = some (.lst (vs' ++ [x])) := s7 _ _ g13
          have p7 := p3.keep s7
          refine ⟨pr, _, 1, _, rfl, rfl, SqT.of hpr, atI_nat (j := 1) rfl, cl, _, y, rfl, rfl, hc7, Nat.lt_of_le_of_lt (show (vs' ++ [x]).length ≤ 1000000 by omega) (by decide), ?_⟩
          refine ⟨some _, (vs' ++ [x]) ++ [y], (ks' ++ [t1]) ++ [t1.told], rfl, upd_same, ?_, by rw [List.length_append, g3]; rfl, ?_, ?_, ?_, ?_⟩
          · have T7' : TrAt (fun b => H b = none ∧ b ≠ cl) H7 y t1.told := T7.weak fun b hb => ⟨frn _ f3' p3 hb, fun e => by rw [e, g13] at hb; cases hb⟩
            exact ((g23.same s7).append (.cons T7' .nil)).keep (upd_keep fun b h => h.2)
          · refine ⟨fun x hx => (List.mem_append.mp hx).elim (g4a x) fun h => by simp only [List.mem_singleton] at h; rw [h, told_size]; exact st, ?_⟩
            rw [sizes_append]
            simp only [sizes, told_size]
            have e : (i + 1) * sx d' = i * sx d' + sx d' := Nat.succ_mul _ _
            omega
          · rw [depths_append]
            simp only [depths, told_depth]
            omega
          · have p4 : Sto (upd H7 cl (.lst ((vs' ++ [x]) ++ [y]))) p (n + 1 + i * (1 + dr d') + 1) := by
              obtain ⟨g, x, s, a, b⟩ := p7
              exact ⟨g, x, s, by rw [upd_ne ncp.symm]; exact a, b⟩
            have e : (i + 1) * (1 + dr d') = i * (1 + dr d') + (1 + dr d') := Nat.succ_mul _ _
            exact p4.mono (by omega)
          · intro b o n1 e
            rw [upd_ne (ne_of_none e hcl)]
            exact s7 _ _ (f3' b o n1 e)
        · refine ⟨_, rfl, .inl ⟨rfl, _, SqL.of g13⟩, _, rfl, _, rfl, _, rfl, _, 1, rfl, rfl, ?_⟩
          refine ⟨p, L, _, d', congrArg (fun z => [V.ref p, V.str L, V.int z]) (show (((d' + 1 : Nat) : Int) - 1) = (d' : Int) by omega), p3, by omega, hL, hjd' , by omega, by omega, fun r t H7 f7 p7 T7 z7 dd7 => ?_⟩
          have hc7 : H7 cl = some (.lst vs) := f7 _ _ ncp g13
          have lk := g23.len
          refine ⟨cl, _, r, rfl, rfl, hc7, Nat.lt_of_le_of_lt (show vs.length ≤ 1000000 by omega) (by decide), ?_⟩
          refine ⟨some _, vs ++ [r], ks ++ [t], rfl, upd_same, ?_, by rw [List.length_append, g3]; rfl, ?_, ?_, ?_, ?_⟩
          · have T7' : TrAt (fun b => H b = none ∧ b ≠ cl) H7 r t := T7.weak fun b hb => ⟨frn _ f3' p3 hb, fun e => by rw [e, g13] at hb; cases hb⟩
            exact ((g23.sto p3 f7).append (.cons T7' .nil)).keep (upd_keep fun b h => h.2)
          · refine ⟨fun x hx => (List.mem_append.mp hx).elim (g4a x) fun h => by simp only [List.mem_singleton] at h; rw [h]; exact z7, ?_⟩
            rw [sizes_append]
            simp only [sizes]
            have e : (i + 1) * sx d' = i * sx d' + sx d' := Nat.succ_mul _ _
            omega
          · rw [depths_append]
            simp only [depths]
            omega
          · have p4 : Sto (upd H7 cl (.lst (vs ++ [r]))) p (n + 1 + i * (1 + dr d') + 1 + dr d') := by
              obtain ⟨g, x, s, a, b⟩ := p7
              exact ⟨g, x, s, by rw [upd_ne ncp.symm]; exact a, b⟩
            have e : (i + 1) * (1 + dr d') = i * (1 + dr d') + (1 + dr d') := Nat.succ_mul _ _
            exact p4.mono (by omega)
          · intro b o n1 e
            rw [upd_ne (ne_of_none e hcl)]
            exact f7 b o n1 (f3' b o n1 e)
    · rintro σ H2 ⟨y4, vs, ks, rfl, g1, g2, g3, ⟨g4a, g4⟩, g5, p2, f2⟩
      have ib : jn * (1 + dr d') ≤ 3 * (1 + dr d') := Nat.mul_le_mul_right _ hj3
      have is_ : jn * sx d' ≤ 3 * sx d' := Nat.mul_le_mul_right _ hj3
      have ejn : ((jn : Int)).toNat = jn := by omega
      rw [ejn] at g3 g4 p2
      refine ⟨_, rfl, _, rfl, _, rfl, L, rfl, Nat.le_trans hL.2.1 (by decide), p, _, _, rfl, p2, by omega, by have := hL.1; omega, by have := hL.2.1; omega, fun r H3 r0 r1 c3 p3 => ?_⟩
      obtain ⟨rn, c, rfl, hc, c1', c2'⟩ := letAt hL r0 r1
      refine ⟨L, rn, c, rfl, rfl, Nat.le_trans hL.2.1 (by decide), atI_nat hc, _, rfl, (by show 2 ≤ sizeLine; decide), fun g hg => ?_⟩
      have f3 : Fr p H H3 := f2.trans (Fr.chg c3)
      have hg0 : H g = none := frn _ f3 p3 hg
      have hc3 : H3 cl = some (.lst vs) := c3.at g1 ncp
      refine q (.ref g) (.node c ks) _ (f3.new hg0) ((p3.new hg).mono (by simp only [dr]; omega)) ?_ (by simp only [Tr.size, sx]; omega) (by simp only [Tr.depth]; omega)
      exact .node upd_same (by rw [upd_ne (ne_of_none hc3 hg)]; exact hc3) hg0 hcl c1' c2' (((g2.sto p2 (Fr.chg c3)).same (same_new hg)).weak fun b h => h.1)
end


abbrev PSt := List (List Tr × Nat) × List Tr
def pstep (s : PSt) (c : Nat) : Option PSt :=
  if 97 ≤ c ∧ c ≤ 122 then some (s.1, s.2 ++ [.node c []])
  else if c = 40 then match s.2.getLast? with
    | some (.node d ks) => some ((s.2.dropLast, d) :: s.1, ks)
    | none => none
  else if c = 41 then match s.1 with
    | (pre, d) :: r => some (r, pre ++ [.node d s.2])
    | [] => none
  else none
def prun (s : PSt) : List Nat → Option PSt
  | [] => some s
  | c :: r => (pstep s c).bind fun s' => prun s' r
theorem prun_append : ∀ (a b : List Nat) (s : PSt), prun s (a ++ b) = (prun s a).bind fun s' => prun s' b
  | [], b, s => rfl
  | c :: r, b, s => by
    simp only [List.cons_append, prun]
    cases pstep s c with
    | none => rfl
    | some s' => exact prun_append r b s'
def unw : List (List Tr × Nat) → List Tr → List Tr
  | [], cur => cur
  | (pre, d) :: r, cur => unw r (pre ++ [.node d cur])
def pread (cs : List Nat) : Option Tr := (prun ([], []) cs).bind fun s => (unw s.1 s.2).head?
mutual
theorem prun_wr : ∀ (t : Tr) (st : List (List Tr × Nat)) (cur : List Tr) (r : List Nat), t.lets Ltr → prun (st, cur) (t.wr ++ r) = prun (st, cur ++ [t]) r
  | .node c ks, st, cur, r, h => by
    simp only [Tr.lets] at h
    have e1 : pstep (st, cur) c = some (st, cur ++ [.node c []]) := by
      unfold pstep
      rw [if_pos h.1]
    cases ks with
    | nil =>
      simp only [Tr.wr, wrs, brk, List.cons_append, List.nil_append, prun, e1, Option.bind_some]
    | cons k ks =>
      have e2 : pstep (st, cur ++ [.node c []]) 40 = some ((cur, c) :: st, []) := by
        unfold pstep
        rw [if_neg (by omega), if_pos rfl]
        simp
      have e3 : pstep ((cur, c) :: st, [] ++ (k :: ks)) 41 = some (st, cur ++ [.node c (k :: ks)]) := by
        unfold pstep
        rw [if_neg (by omega), if_neg (by omega), if_pos rfl]
        simp
      simp only [Tr.wr, brk_wrs, List.cons_append, List.append_assoc, prun, e1, e2, Option.bind_some]
      rw [prun_wrs (k :: ks) ((cur, c) :: st) [] _ h.2]
      simp only [List.nil_append, List.cons_append, prun]
      rw [List.nil_append] at e3
      rw [e3]
      rfl
theorem prun_wrs : ∀ (ts : List Tr) (st : List (List Tr × Nat)) (cur : List Tr) (r : List Nat), letss Ltr ts → prun (st, cur) (wrs ts ++ r) = prun (st, cur ++ ts) r
  | [], st, cur, r, _ => by simp [wrs]
  | t :: ts, st, cur, r, h => by
    simp only [letss] at h
    simp only [wrs, List.append_assoc]
    rw [prun_wr t st cur _ h.1, prun_wrs ts st (cur ++ [t]) r h.2]
    simp
end
theorem pread_wr (t : Tr) (h : t.lets Ltr) : pread t.wr = some t := by
  have := prun_wr t [] [] [] h
  rw [List.append_nil] at this
  unfold pread
  rw [this]
  rfl
section
variable {ok : Addr → Prop} {H H' : Hp} {S : Addr → Prop}
mutual
theorem TrO.keepS : ∀ {t : Tr} {v : V} {as : List Addr}, TrO ok H v t as → (∀ b ∈ as, ¬ S b) → (∀ b, S b → ∃ zs, H b = some (.lst zs)) → (∀ b o, ok b → ¬ S b → H b = some o → H' b = some o) → TrO ok H' v t as
  | .node c ks, v, as, x, n, hl, h => by
    cases x with
    | node g1 g2 o1 o2 c1 c2 r => exact .node (h _ _ o1 (fun z => by obtain ⟨zs, e⟩ := hl _ z; rw [g1] at e; cases e) g1) (h _ _ o2 (n _ List.mem_cons_self) g2) o1 o2 c1 c2 (TrsO.keepS r (fun b hb => n b (List.mem_cons_of_mem _ hb)) hl h)
theorem TrsO.keepS : ∀ {ts : List Tr} {vs : List V} {as : List Addr}, TrsO ok H vs ts as → (∀ b ∈ as, ¬ S b) → (∀ b, S b → ∃ zs, H b = some (.lst zs)) → (∀ b o, ok b → ¬ S b → H b = some o → H' b = some o) → TrsO ok H' vs ts as
  | [], vs, as, x, n, hl, h => by cases x; exact .nil
  | t :: r, vs, as, x, n, hl, h => by
    cases x with
    | cons a b => exact .cons (TrO.keepS a (fun b hb => n b (List.mem_append_left _ hb)) hl h) (TrsO.keepS b (fun b hb => n b (List.mem_append_right _ hb)) hl h)
end
end
theorem TrsO.unsnoc {ok : Addr → Prop} {H : Hp} : ∀ {pre : List Tr} {t : Tr} {vs : List V} {as : List Addr}, TrsO ok H vs (pre ++ [t]) as → ∃ vs' v a1 a2, vs = vs' ++ [v] ∧ as = a1 ++ a2 ∧ TrsO ok H vs' pre a1 ∧ TrO ok H v t a2
  | [], t, vs, as, x => by
    cases x with
    | cons a b =>
      cases b
      exact ⟨[], _, [], _, rfl, by simp, .nil, a⟩
  | u :: pre, t, vs, as, x => by
    cases x with
    | cons a b =>
      obtain ⟨vs', v, a1, a2, rfl, rfl, h1, h2⟩ := TrsO.unsnoc b
      exact ⟨_ :: vs', v, _, a2, rfl, by rw [List.append_assoc], .cons a h1, h2⟩
inductive Ctx (ok : Addr → Prop) (H : Hp) : List Addr → List (List Tr × Nat) → Addr → List Addr → Prop
  | nil {l : Addr} : Ctx ok H [] [] l []
  | cons {l0 l a : Addr} {ls : List Addr} {vs : List V} {pre : List Tr} {c : Nat} {st : List (List Tr × Nat)} {as bs : List Addr} : H l0 = some (.lst (vs ++ [.ref a])) → ok l0 → H a = some (.tup [.str (ch c), .ref l]) → ok a → 97 ≤ c → c ≤ 122 → TrsO ok H vs pre as → Ctx ok H ls st l0 bs → Ctx ok H (l0 :: ls) ((pre, c) :: st) l (l0 :: (as ++ bs))
theorem Ctx.keep {ok : Addr → Prop} {H H' : Hp} {ls : List Addr} {st : List (List Tr × Nat)} {l : Addr} {bs : List Addr} {S : Addr → Prop} (x : Ctx ok H ls st l bs) (hS : ∀ b ∈ bs, ¬ S b) (hl : ∀ b, S b → ∃ zs, H b = some (.lst zs))
    (h : ∀ b o, ok b → ¬ S b → H b = some o → H' b = some o) : Ctx ok H' ls st l bs := by
  induction x with
  | nil => exact .nil
  | cons h1 k1 h2 k2 c1 c2 tr cx ih =>
    rename_i l0 l a ls vs pre c st as bs
    have ns : ∀ b ∈ as, ¬ S b := fun b hb => hS b (List.mem_cons_of_mem _ (List.mem_append_left _ hb))
    refine .cons (h _ _ k1 (hS _ List.mem_cons_self) h1) k1 (h _ _ k2 (fun z => by obtain ⟨zs, e⟩ := hl _ z; rw [h2] at e; cases e) h2) k2 c1 c2 ?_ (ih fun b hb => hS b (List.mem_cons_of_mem _ (List.mem_append_right _ hb)))
    exact TrsO.keepS tr ns hl h
theorem Ctx.lst {ok : Addr → Prop} {H : Hp} {ls : List Addr} {st : List (List Tr × Nat)} {l : Addr} {bs : List Addr} (x : Ctx ok H ls st l bs) : ∀ b ∈ bs, ok b ∧ ∃ zs, H b = some (.lst zs) := by
  induction x with
  | nil => intro b hb; cases hb
  | cons h1 k1 h2 k2 c1 c2 tr cx ih =>
    intro b hb
    rcases List.mem_cons.mp hb with e | hb
    · rw [e]; exact ⟨k1, _, h1⟩
    · rcases List.mem_append.mp hb with hb | hb
      · exact TrsO.lst _ _ _ tr b hb
      · exact ih b hb
theorem Ctx.len {ok : Addr → Prop} {H : Hp} {ls : List Addr} {st : List (List Tr × Nat)} {l : Addr} {bs : List Addr} (x : Ctx ok H ls st l bs) : ls.length = st.length := by
  induction x with
  | nil => rfl
  | cons h1 k1 h2 k2 c1 c2 tr cx ih => simp only [List.length_cons, ih]
def szs : List (List Tr × Nat) → Nat
  | [] => 0
  | (pre, _) :: r => sizes pre + 1 + szs r
theorem Ctx.all {ok : Addr → Prop} {H : Hp} {ls : List Addr} {st : List (List Tr × Nat)} {l : Addr} {bs : List Addr} (x : Ctx ok H ls st l bs) : ∀ {vs : List V} {cur : List Tr} {as : List Addr}, H l = some (.lst vs) → ok l → TrsO ok H vs cur as → (l :: (as ++ bs)).Nodup →
    ∃ l0 vs0 as0, ((l :: ls).reverse).head? = some l0 ∧ H l0 = some (.lst vs0) ∧ TrsO ok H vs0 (unw st cur) as0 ∧ as0.Nodup := by
  induction x with
  | nil => intro vs cur as h k t n; exact ⟨_, vs, as, rfl, h, t, by simpa using (List.nodup_cons.mp n).2⟩
  | cons h1 k1 h2 k2 c1 c2 tr cx ih =>
    rename_i l0 l a ls vs0 pre c st as0 bs
    intro vs cur as h k t n
    obtain ⟨l9, vs9, as9, e1, e2, e3, e4⟩ := ih (vs := vs0 ++ [.ref a]) (cur := pre ++ [.node c cur]) (as := as0 ++ (l :: as)) h1 k1 (tr.snoc (.node h2 h k2 k c1 c2 t)) (by
      have e : (l :: (as ++ l0 :: (as0 ++ bs))).Perm (l0 :: (as0 ++ l :: as ++ bs)) := by
        have p1 : (l :: (as ++ l0 :: (as0 ++ bs))).Perm (l0 :: (l :: (as ++ (as0 ++ bs)))) := (List.Perm.cons l List.perm_middle).trans (List.Perm.swap _ _ _)
        refine p1.trans (List.Perm.cons l0 ?_)
        have p2 : (l :: (as ++ (as0 ++ bs))) = (l :: as) ++ as0 ++ bs := by simp
        have p3 : as0 ++ l :: as ++ bs = as0 ++ (l :: as) ++ bs := rfl
        rw [p2, p3]
        exact (List.perm_append_comm).append_right bs
      exact e.nodup_iff.mp n)
    refine ⟨l9, vs9, as9, ?_, e2, e3, e4⟩
    rw [List.reverse_cons] at e1 ⊢
    rw [List.reverse_cons]
    rw [List.head?_append] at e1 ⊢
    rw [List.head?_append]
    cases hh : ls.reverse.head? with
    | none => rw [hh] at e1; simpa using e1
    | some z => rw [hh] at e1; simpa using e1
theorem le_aN {c : Nat} (h : ¬ 97 ≤ c) : (!decide ((ch c).cps.toList < (Str.ofString "a").cps.toList)) = false := by
  have e : (Str.ofString "a").cps.toList = [97] := by decide +kernel
  rw [e]
  show (!decide (([c] : List Nat) < [97])) = false
  have : ([c] : List Nat) < [97] := List.cons_lt_cons_iff.mpr (.inl (by omega))
  simp [this]
theorem le_zN {c : Nat} (h : ¬ c ≤ 122) : (!decide ((Str.ofString "z").cps.toList < (ch c).cps.toList)) = false := by
  have e : (Str.ofString "z").cps.toList = [122] := by decide +kernel
  rw [e]
  show (!decide (([122] : List Nat) < [c])) = false
  have : ([122] : List Nat) < [c] := List.cons_lt_cons_iff.mpr (.inl (by omega))
  simp [this]
def sp_is_letterG : Sp := fun vs H Q _ => ∃ c : Nat, vs = [.str (ch c)] ∧ Q (.bl (decide (97 ≤ c ∧ c ≤ 122))) H
def sp__tree_read : Sp := fun vs H Q _ => ∃ W : Str, vs = [.str W] ∧ W.length ≤ 100000 ∧
  (∀ t, pread W.cps.toList = some t → ∀ r as H', Same H H' → TrO (fun b => H b = none) H' r t as → as.Nodup → Q r H') ∧ (pread W.cps.toList = none → ∀ H', Same H H' → Q .non H')
theorem pstep_size {s s' : PSt} {c : Nat} (h : pstep s c = some s') : s'.2.length ≤ s.2.length + 1 ∨ True := .inr trivial
section
variable {P : Program} {w : World} {K : PySem.W.Frag} {mg : Str → Option Value} {base : Heap}
theorem ok_is_letterG (T : Txt K mg) : FnOk P w K mg base CX0 1 T.f_is_letter T.d_is_letter ["thing"] sp_is_letterG := by
  refine T.F_is_letter.ok sc_is_letter (fun vs H Q E h => ?_) (fun cdv A outer s H vs Q E hr h => ?_)
  · obtain ⟨c, rfl, _⟩ := h
    rfl
  obtain ⟨c, rfl, q⟩ := h
  refine ⟨_, (pss_one (ps_ret (pe_and (pe_callB call_isi (by rfl) T.z_isinstance (by decide +kernel) (pa_cons (pv 0) (pa_cons (pe_bltn (v := .ty "str") (by rfl) T.z_str (by decide +kernel) rfl) pa_nil))) (pe_and (pe_cmpR op_eq (pe_callB call_len_str (by rfl) T.z_len PySem.boot_len (pa_cons (pv 0) pa_nil)) pe_int (nomark _)) (pe_one (pe_chain op_le_str op_le_str pe_str (pv 0) pe_str)))))), ?_⟩
  refine ⟨_, rfl, _, _, _, _, true, rfl, .ty "str", .base (.str _), kit_ty (by decide +kernel), _, rfl, iteT ?_⟩
  refine ⟨_, rfl, _, rfl, (by show 1 ≤ sizeLine; decide), rfl, _, rfl, iteT ?_⟩
  refine ⟨_, rfl, _, _, rfl, rfl, _, rfl, ?_⟩
  by_cases h0 : 97 ≤ c
  · rw [if_pos (le_a h0)]
    refine ⟨_, _, rfl, rfl, ?_⟩
    by_cases h1 : c ≤ 122
    · rw [le_z h1]
      rw [decide_eq_true ⟨h0, h1⟩] at q
      exact q
    · rw [le_zN h1]
      rw [decide_eq_false (fun h => h1 h.2)] at q
      exact q
  · rw [le_aN h0]
    rw [decide_eq_false (fun h => h0 h.1)] at q
    exact iteF q
theorem ok__tree_read (T : Txt K mg) : FnOk P w K mg base CX0 2 T.f__tree_read T.d__tree_read ["text"] sp__tree_read := by
  have G_is_letter : FnOk P w K mg base CX0 1 T.f_is_letter T.d_is_letter ["thing"] sp_is_letterG := ok_is_letterG T
  refine T.F__tree_read.ok sc__tree_read (fun vs H Q E h => ?_) (fun cdv A outer s H vs Q E hr h => ?_)
  · obtain ⟨W, rfl, _⟩ := h
    rfl
  obtain ⟨W, rfl, hz, q1, q2⟩ := h
  refine ⟨_, (pss_cons (ps_set (i := 1) sc__tree_read.nd rfl (Or.inl rfl) (pe_lst (pa_cons (pe_lst pa_nil) pa_nil))) (pss_cons (ps_for PassesOwn.never rfl (pi_str (pv 0)) (pg_name (i := 2) sc__tree_read.nd rfl (Or.inl rfl)) (pss_one (ps_if (pt_val (pe_call G_is_letter (hr.mono (by omega)) (by rfl) T.m_is_letter T.F_is_letter.kp T.b_is_letter .nil pass0 (pa_cons (pv 2) pa_nil))) (pss_one (ps_expr (pe_bm PySem.F.plainAttrs_list PySem.F.slot_list_append PySem.F.type_list_append mt_append (pe_ix ix_list (pv 1) (pe_un un_neg pe_int) (fun _ _ => rfl)) (pa_cons (pe_tup (pa_cons (pv 2) (pa_cons (pe_lst pa_nil) pa_nil))) pa_nil)))) (pss_one (ps_if (PW.pt (pw_and (pt_cmpR op_eq (pv 2) pe_str (nomark _)) (pw_and1 (pt_truth (pe_ix ix_list (pv 1) (pe_un un_neg pe_int) (fun _ _ => rfl)) (by intro _; rfl))))) (pss_one (ps_expr (pe_bm PySem.F.plainAttrs_list PySem.F.slot_list_append PySem.F.type_list_append mt_append (pv 1) (pa_cons (pe_ix ix_tup (pe_ix ix_list (pe_ix ix_list (pv 1) (pe_un un_neg pe_int) (fun _ _ => rfl)) (pe_un un_neg pe_int) (fun _ _ => rfl)) pe_int (fun _ _ => rfl)) pa_nil)))) (pss_one (ps_if (PW.pt (pw_and (pt_cmpR op_eq (pv 2) pe_str (nomark _)) (pw_and1 (pt_cmpR op_gt (pe_callB call_len_seq (by rfl) T.z_len PySem.boot_len (pa_cons (pv 1) pa_nil)) pe_int (nomark _))))) (pss_one (ps_expr (pe_bm0 PySem.F.plainAttrs_list PySem.F.slot_list_pop PySem.F.type_list_pop mt_pop (pv 1)))) (pss_one (ps_ret pe_non))))))))) (pss_one (ps_ret (pe_ifExp (pt_truth (pe_ix ix_list (pv 1) pe_int (fun _ _ => rfl)) (by intro _; rfl)) (pe_ix ix_list (pe_ix ix_list (pv 1) pe_int (fun _ _ => rfl)) pe_int (fun _ _ => rfl)) pe_non))))), ?_⟩
  refine ⟨(by show 0 ≤ sizeLine; decide), fun l0 hl0 => ⟨(by show 1 ≤ sizeLine; decide), fun L hL => ?_⟩⟩
  have nlL : l0 ≠ L := ne_of_none upd_same hL
  have hL0 : H L = none := NdefX.upd_none hL
  generalize hcs : W.cps.toList = cs at *
  have lcs : cs.length ≤ 100000 := by
    rw [← hcs, Array.length_toList]
    exact hz
  have e40 : Str.ofString "(" = ch 40 := by decide +kernel
  have e41 : Str.ofString ")" = ch 41 := by decide +kernel
  have chi : ∀ a b : Nat, (V.str (⟨#[a]⟩ : Str) = V.str (ch b)) ↔ a = b := fun a b => ⟨fun e => by
    have e2 := congrArg (fun z : Str => z.cps) (V.str.inj e)
    simpa [ch] using e2, fun e => by rw [e]; rfl⟩
  have okn : ∀ (H' : Hp), Same H H' → (∀ z, H' L = some z → True) → ∀ b, H' b = none → H' L ≠ none → H b = none ∧ b ≠ L := fun H' s _ b h hn => ⟨s.free h, fun e => hn (e ▸ h)⟩
  refine ⟨_, rfl, W, rfl, for_it walk_str (fun i σ H' => ∃ (y2 : Option V) (l : Addr) (ls : List Addr) (st : List (List Tr × Nat)) (cur : List Tr) (vs : List V) (as bs : List Addr), σ = [some (.str W), some (.ref L), y2] ∧ prun ([], []) (cs.take i) = some (st, cur) ∧ H' L = some (.lst (ls.reverse.map V.ref ++ [.ref l])) ∧
      H' l = some (.lst vs) ∧ (H l = none ∧ l ≠ L) ∧ TrsO (fun b => H b = none ∧ b ≠ L) H' vs cur as ∧ Ctx (fun b => H b = none ∧ b ≠ L) H' ls st l bs ∧ (l :: (as ++ bs)).Nodup ∧ Same H H' ∧ sizes cur + szs st ≤ i ∧ ls.length ≤ i)
    ⟨none, l0, [], [], [], [], [], [], rfl, rfl, upd_same, by rw [upd_ne nlL]; exact upd_same, ⟨hl0, nlL⟩, .nil, .nil, by simp, (same_new hl0).trans (same_new hL), by simp [sizes, szs], by simp⟩ (fun _ _ _ _ _ => trivial) ?_ ?_⟩
  · rintro i x σ H0 H1 hi ⟨y2, l, ls, st, cur, vs, as, bs, rfl, hp, hLv, hl, okl, tr, cx, nd, sm, hsz, hls⟩ ⟨rfl, c, hc, rfl⟩
    have hc' : cs[i]? = some c := by
      rw [← hcs, Array.getElem?_toList]
      exact hc
    have hil : i < cs.length := (List.getElem?_eq_some_iff.mp hc').1
    have htk : cs.take (i + 1) = cs.take i ++ [c] := take_succ_of hc'
    have hstep : prun ([], []) (cs.take (i + 1)) = pstep (st, cur) c := by
      rw [htk, prun_append, hp]
      show (pstep (st, cur) c).bind (fun s => some s) = _
      cases pstep (st, cur) c <;> rfl
    have hfail : pstep (st, cur) c = none → pread cs = none := by
      intro hn
      have e : cs = cs.take (i + 1) ++ cs.drop (i + 1) := (List.take_append_drop _ _).symm
      unfold pread
      rw [e, prun_append, hstep, hn]
      rfl
    have lv := tr.len
    have lz := len_sizes cur
    have none1 : ∀ b, H1 b = none → H b = none ∧ b ≠ L := fun b h => ⟨sm.free h, fun e => by rw [e, hLv] at h; cases h⟩
    refine ⟨_, rfl, c, rfl, _, rfl, ?_⟩
    by_cases h97 : 97 ≤ c ∧ c ≤ 122
    · rw [decide_eq_true h97]
      refine iteT ⟨_, rfl, _, rfl, L, _, -1, _, rfl, rfl, SqL.of hLv, atI_last _ _, .inl ⟨rfl, _, SqL.of hl⟩, _, rfl, (by show 0 ≤ sizeLine; decide), fun e he => ⟨(by show 2 ≤ sizeLine; decide), fun g hg => ?_⟩⟩
      have s3 : Same H1 (upd (upd H1 e (.lst [])) g (.tup [.str (⟨#[c]⟩ : Str), .ref e])) := (same_new he).trans (same_new hg)
      have neg : e ≠ g := ne_of_none upd_same hg
      have he1 := none1 e he
      have hg1 := none1 g (NdefX.upd_none hg)
      have nel : e ≠ l := fun z => by rw [z, hl] at he; cases he
      have ngl : g ≠ l := fun z => by have := NdefX.upd_none hg; rw [z, hl] at this; cases this
      have xg : (upd (upd H1 e (.lst [])) g (.tup [.str (⟨#[c]⟩ : Str), .ref e])) g = some (.tup [.str (ch c), .ref e]) := upd_same
      have xe : (upd (upd H1 e (.lst [])) g (.tup [.str (⟨#[c]⟩ : Str), .ref e])) e = some (.lst []) := by rw [upd_ne neg]; exact upd_same
      generalize upd (upd H1 e (.lst [])) g (.tup [.str (⟨#[c]⟩ : Str), .ref e]) = H3 at *
      refine ⟨l, vs, .ref g, rfl, rfl, s3 _ _ hl, Nat.lt_of_le_of_lt (show vs.length ≤ 1000000 by omega) (by decide), ?_⟩
      have kp : ∀ b o, (H b = none ∧ b ≠ L) → ¬ (b = l) → H3 b = some o → (upd H3 l (.lst (vs ++ [.ref g]))) b = some o := fun b o _ n e => by rw [upd_ne n]; exact e
      have lS : ∀ b, b = l → ∃ zs, H3 b = some (.lst zs) := fun b e => ⟨vs, by rw [e]; exact s3 _ _ hl⟩
      have ndc := List.nodup_cons.mp nd
      refine ⟨_, l, ls, st, cur ++ [.node c []], vs ++ [.ref g], as ++ [e], bs, rfl, ?_, by rw [upd_ne okl.2.symm]; exact s3 _ _ hLv, upd_same, okl, ?_, ?_, ?_, ?_, ?_, by omega⟩
      · rw [hstep]
        unfold pstep
        rw [if_pos h97]
      · refine TrsO.snoc (TrsO.keepS (S := fun b => b = l) (tr.same s3) (fun b hb e => ndc.1 (e ▸ List.mem_append_left _ hb)) lS kp) ?_
        exact .node (by rw [upd_ne ngl]; exact xg) (by rw [upd_ne nel]; exact xe) hg1 he1 h97.1 h97.2 .nil
      · exact (Ctx.keep (S := fun _ => False) cx (fun _ _ z => z) (fun _ z => z.elim) (fun b o _ _ e => s3 b o e)).keep (S := fun b => b = l) (fun b hb e => ndc.1 (e ▸ List.mem_append_right _ hb)) lS kp
      · have old : ∀ b, b ∈ as ++ bs → H1 b ≠ none := fun b hb => by
          rcases List.mem_append.mp hb with hb | hb
          · obtain ⟨_, zs, ee⟩ := TrsO.lst _ _ _ tr b hb
            rw [ee]; simp
          · obtain ⟨_, zs, ee⟩ := cx.lst b hb
            rw [ee]; simp
        have pm : (l :: ((as ++ [e]) ++ bs)).Perm (e :: (l :: (as ++ bs))) := by
          have : (as ++ [e]) ++ bs = as ++ e :: bs := by simp
          rw [this]
          exact (List.Perm.cons l List.perm_middle).trans (List.Perm.swap _ _ _)
        rw [pm.nodup_iff, List.nodup_cons]
        refine ⟨fun hm => ?_, nd⟩
        rcases List.mem_cons.mp hm with z | z
        · exact nel z
        · exact old e z he
      · intro b o eb
        rw [upd_ne (fun z => by rw [z, okl.1] at eb; cases eb)]
        exact s3 _ _ (sm _ _ eb)
      · rw [sizes_append]
        simp only [sizes, Tr.size]
        omega
    · rw [decide_eq_false h97]
      refine iteF ⟨_, rfl, rfl, _, rfl, ?_⟩
      rw [e40]
      by_cases h40 : c = 40
      · rw [decide_eq_true ((chi c 40).mpr h40)]
        refine iteT ⟨_, rfl, _, rfl, L, _, -1, _, rfl, rfl, SqL.of hLv, atI_last _ _, ?_⟩
        cases hcur : cur.getLast? with
        | none =>
          have e0 : cur = [] := List.getLast?_eq_none_iff.mp hcur
          subst e0
          cases tr
          refine ⟨false, .inl ⟨_, SqL.of hl, rfl⟩, iteF ?_⟩
          have hnone : pstep (st, []) c = none := by
            unfold pstep
            rw [if_neg h97, if_pos h40]
            rfl
          refine ⟨_, rfl, rfl, _, rfl, ?_⟩
          rw [e41, decide_eq_false (fun h => by have := (chi c 41).mp h; omega)]
          refine iteF (iteF ?_)
          exact q2 (hfail hnone) _ sm
        | some tl =>
          obtain ⟨d, ks⟩ := tl
          have hsp : cur = cur.dropLast ++ [.node d ks] := by
            have hne : cur ≠ [] := fun e => by rw [e] at hcur; cases hcur
            have := List.dropLast_concat_getLast hne
            rw [List.getLast?_eq_some_getLast hne] at hcur
            rw [← Option.some.inj hcur]
            exact this.symm
          generalize hpre : cur.dropLast = pre at *
          have hnew : pstep (st, cur) c = some ((pre, d) :: st, ks) := by
            unfold pstep
            rw [if_neg h97, if_pos h40]
            simp only [hcur, hpre]
          rw [hsp] at tr hsz
          obtain ⟨vs', v, a1, a2, rfl, rfl, t1, t2⟩ := TrsO.unsnoc tr
          cases t2 with
          | node g1 g2 o1 o2 c1 c2 rr =>
          rename_i a l' ws a3
          refine ⟨true, .inl ⟨_, SqL.of hl, by simp⟩, iteT ?_⟩
          refine ⟨_, rfl, .inl ⟨rfl, _, SqL.of hLv⟩, _, rfl, _, rfl, L, _, -1, _, rfl, rfl, SqL.of hLv, atI_last _ _, _, rfl, l, _, -1, _, rfl, rfl, SqL.of hl, atI_last _ _, a, _, 1, _, rfl, rfl, SqT.of g1, atI_nat (j := 1) rfl, ?_⟩
          refine ⟨L, _, .ref l', rfl, rfl, hLv, ?_, ?_⟩
          · rw [List.length_append, List.length_map, List.length_reverse]
            exact Nat.lt_of_le_of_lt (show ls.length + 1 ≤ 1000000 by omega) (by decide)
          have kp : ∀ b o, (H b = none ∧ b ≠ L) → H1 b = some o → (upd H1 L (.lst ((ls.reverse.map V.ref ++ [.ref l]) ++ [.ref l']))) b = some o := fun b o k e => by rw [upd_ne k.2]; exact e
          refine ⟨_, l', l :: ls, (pre, d) :: st, ks, ws, a3, l :: (a1 ++ bs), rfl, by rw [hstep]; exact hnew, ?_, kp _ _ o2 g2, o2, rr.keep kp, ?_, ?_, ?_, ?_, by simp only [List.length_cons]; omega⟩
          · rw [upd_same]
            simp
          · exact .cons (kp _ _ okl hl) okl (kp _ _ o1 g1) o1 c1 c2 (t1.keep kp) (cx.keep (S := fun _ => False) (fun _ _ z => z) (fun _ z => z.elim) fun b o k _ e => kp b o k e)
          · have e : (l' :: (a3 ++ l :: (a1 ++ bs))).Perm (l :: ((a1 ++ l' :: a3) ++ bs)) := by
              have p1 : (l' :: (a3 ++ l :: (a1 ++ bs))).Perm (l :: (l' :: (a3 ++ (a1 ++ bs)))) := (List.Perm.cons l' List.perm_middle).trans (List.Perm.swap _ _ _)
              refine p1.trans (List.Perm.cons l ?_)
              have p2 : (l' :: (a3 ++ (a1 ++ bs))) = (l' :: a3) ++ a1 ++ bs := by simp
              rw [p2]
              exact (List.perm_append_comm).append_right bs
            exact e.nodup_iff.mpr nd
          · intro b o eb
            rw [upd_ne (fun z => by rw [z, hL0] at eb; cases eb)]
            exact sm _ _ eb
          · rw [sizes_append] at hsz
            simp only [sizes, Tr.size, szs] at hsz ⊢
            omega
      · rw [decide_eq_false (fun h => h40 ((chi c 40).mp h))]
        refine iteF (iteF ⟨_, rfl, rfl, _, rfl, ?_⟩)
        rw [e41]
        by_cases h41 : c = 41
        · rw [decide_eq_true ((chi c 41).mpr h41)]
          refine iteT ⟨_, rfl, L, _, rfl, .inl (SqL.of hLv), _, _, rfl, rfl, _, rfl, ?_⟩
          cases cx with
          | nil =>
            rw [decide_eq_false (by simp)]
            refine iteF ?_
            refine q2 (hfail ?_) _ sm
            unfold pstep
            rw [if_neg h97, if_neg h40, if_pos h41]
          | cons h1 k1 h2 k2 c1 c2 t0 cx =>
            rename_i l1 a ls vs1 pre d st as1 bs
            have hnew : pstep ((pre, d) :: st, cur) c = some (st, pre ++ [.node d cur]) := by
              unfold pstep
              rw [if_neg h97, if_neg h40, if_pos h41]
            rw [decide_eq_true (by
              rw [List.length_append, List.length_map, List.length_reverse, List.length_cons]
              simp only [List.length_cons, List.length_nil]
              omega)]
            refine iteT ⟨_, rfl, .inl ⟨rfl, _, SqL.of hLv⟩, _, _, V.ref l, rfl, rfl, hLv, by simp, ?_⟩
            have kp : ∀ b o, (H b = none ∧ b ≠ L) → H1 b = some o → (upd H1 L (.lst ((l1 :: ls).reverse.map V.ref ++ [V.ref l]).dropLast)) b = some o := fun b o k e => by rw [upd_ne k.2]; exact e
            refine ⟨_, l1, ls, st, pre ++ [.node d cur], vs1 ++ [.ref a], as1 ++ (l :: as), bs, rfl, by rw [hstep]; exact hnew, ?_, kp _ _ k1 h1, k1, ?_, cx.keep (S := fun _ => False) (fun _ _ z => z) (fun _ z => z.elim) (fun b o k _ e => kp b o k e), ?_, ?_, ?_, by simp only [List.length_cons] at hls; omega⟩
            · rw [upd_same, List.dropLast_concat]
              simp
            · exact (t0.keep kp).snoc (.node (kp _ _ k2 h2) (kp _ _ okl hl) k2 okl c1 c2 (tr.keep kp))
            · have e : (l :: (as ++ l1 :: (as1 ++ bs))).Perm (l1 :: (as1 ++ l :: as ++ bs)) := by
                have p1 : (l :: (as ++ l1 :: (as1 ++ bs))).Perm (l1 :: (l :: (as ++ (as1 ++ bs)))) := (List.Perm.cons l List.perm_middle).trans (List.Perm.swap _ _ _)
                refine p1.trans (List.Perm.cons l1 ?_)
                have p2 : (l :: (as ++ (as1 ++ bs))) = (l :: as) ++ as1 ++ bs := by simp
                have p3 : as1 ++ l :: as ++ bs = as1 ++ (l :: as) ++ bs := rfl
                rw [p2, p3]
                exact (List.perm_append_comm).append_right bs
              exact e.nodup_iff.mp nd
            · intro b o eb
              rw [upd_ne (fun z => by rw [z, hL0] at eb; cases eb)]
              exact sm _ _ eb
            · rw [sizes_append]
              simp only [sizes, Tr.size, szs] at hsz ⊢
              omega
        · rw [decide_eq_false (fun h => h41 ((chi c 41).mp h))]
          refine iteF (iteF ?_)
          refine q2 (hfail ?_) _ sm
          unfold pstep
          rw [if_neg h97, if_neg h40, if_neg h41]
  · rintro σ H1 ⟨y2, l, ls, st, cur, vs, as, bs, rfl, hp, hLv, hl, okl, tr, cx, nd, sm, hsz, hls⟩
    have hlen : W.cps.size = cs.length := by rw [← hcs, Array.length_toList]
    rw [hlen, List.take_length] at hp
    obtain ⟨lb, vs0, as0, b1, b2, b3, b4⟩ := cx.all hl okl tr nd
    have hr : pread cs = (unw st cur).head? := by
      unfold pread
      rw [hp]
      rfl
    have h0 : atI (ls.reverse.map V.ref ++ [.ref l]) 0 = some (.ref lb) := by
      refine atI_nat (j := 0) ?_
      have e : ls.reverse.map V.ref ++ [.ref l] = (l :: ls).reverse.map V.ref := by simp
      rw [e, List.getElem?_map, ← List.head?_eq_getElem?, b1]
      rfl
    generalize hu : unw st cur = us at *
    cases b3 with
    | nil =>
      refine ⟨_, rfl, L, _, 0, _, rfl, rfl, SqL.of hLv, h0, false, .inl ⟨_, SqL.of b2, rfl⟩, iteF ?_⟩
      exact q2 (by rw [hr]; rfl) _ sm
    | cons x1 x2 =>
      rename_i v0 vr t0 tr0 a1 a2
      refine ⟨_, rfl, L, _, 0, _, rfl, rfl, SqL.of hLv, h0, true, .inl ⟨_, SqL.of b2, rfl⟩, iteT ?_⟩
      refine ⟨_, rfl, L, _, 0, _, rfl, rfl, SqL.of hLv, h0, lb, _, 0, v0, rfl, rfl, SqL.of b2, atI_nat (j := 0) rfl, ?_⟩
      exact q1 t0 (by rw [hr]; rfl) v0 a1 H1 sm (x1.weak fun b h => h.1) (List.nodup_append.mp b4).1
end

abbrev LSt := Bool × PSt
def srt (ks : List Tr) : Bool := decide (ks.Pairwise fun a b => leW a b = true)
def lstep (s : LSt) (c : Nat) : Option LSt :=
  if 97 ≤ c ∧ c ≤ 122 then some (true, (s.2.1, s.2.2 ++ [.node c []]))
  else if c = 40 then
    if s.1 then match s.2.2.getLast? with
      | some (.node d _) => some (false, ((s.2.2.dropLast, d) :: s.2.1, []))
      | none => none
    else none
  else if c = 41 then match s.2.1 with
    | (pre, d) :: r => if s.2.2 ≠ [] ∧ srt s.2.2 = true then some (false, (r, pre ++ [.node d s.2.2])) else none
    | [] => none
  else none
def lrun (s : LSt) : List Nat → Option LSt
  | [] => some s
  | c :: r => (lstep s c).bind fun s' => lrun s' r
theorem lrun_append : ∀ (a b : List Nat) (s : LSt), lrun s (a ++ b) = (lrun s a).bind fun s' => lrun s' b
  | [], b, s => rfl
  | c :: r, b, s => by
    simp only [List.cons_append, lrun]
    cases lstep s c with
    | none => rfl
    | some s' => exact lrun_append r b s'
def lfin : LSt → Option Tr
  | (_, ([], [t])) => some t
  | _ => none
def lread (cs : List Nat) : Option Tr := (lrun (false, ([], [])) cs).bind lfin
def wst : List (List Tr × Nat) → List Nat
  | [] => []
  | (pre, d) :: r => wst r ++ wrs pre ++ [d, 40]
def Good (ks : List Tr) : Prop := ∀ k ∈ ks, k.told = k ∧ k.lets Ltr
def GoodS (st : List (List Tr × Nat)) : Prop := ∀ p ∈ st, Good p.1 ∧ Ltr p.2
theorem wrs_snoc (ks : List Tr) (t : Tr) : wrs (ks ++ [t]) = wrs ks ++ t.wr := by
  rw [wrs_append]
  simp [wrs]
theorem letss_of {p : Nat → Prop} : ∀ {ts : List Tr}, (∀ t ∈ ts, t.lets p) → letss p ts
  | [], _ => by simp only [letss]
  | t :: r, h => by
    simp only [letss]
    exact ⟨h t List.mem_cons_self, letss_of fun u hu => h u (List.mem_cons_of_mem _ hu)⟩
theorem tolds_self : ∀ {ks : List Tr}, (∀ k ∈ ks, k.told = k) → tolds ks = ks
  | [], _ => rfl
  | k :: r, h => by simp only [tolds, h k List.mem_cons_self, tolds_self fun u hu => h u (List.mem_cons_of_mem _ hu)]
theorem told_of {c : Nat} {ks : List Tr} (h : ∀ k ∈ ks, k.told = k) (hs : srt ks = true) : (Tr.node c ks).told = .node c ks := by
  simp only [Tr.told, tolds_self h]
  rw [List.mergeSort_of_pairwise (of_decide_eq_true hs)]
theorem told_inv {c : Nat} {ks : List Tr} (h : (Tr.node c ks).told = .node c ks) (hl : letss Ltr ks) : (∀ k ∈ ks, k.told = k) ∧ srt ks = true := by
  simp only [Tr.told, Tr.node.injEq, true_and] at h
  refine ⟨fun k hk => ?_, ?_⟩
  · have hk2 : k ∈ (tolds ks).mergeSort leW := by rw [h]; exact hk
    rw [List.mem_mergeSort, tolds_map] at hk2
    obtain ⟨u, hu, rfl⟩ := List.mem_map.mp hk2
    exact told_told u (letss_mem hl hu)
  · unfold srt
    rw [← h]
    exact decide_eq_true (List.pairwise_mergeSort leW_trans leW_total _)
structure LInv (s : LSt) (tx : List Nat) : Prop where
  tx : tx = wst s.2.1 ++ wrs s.2.2
  cur : Good s.2.2
  st : GoodS s.2.1
  lf : s.1 = true → ∃ pre d, s.2.2 = pre ++ [.node d []]
theorem leaf_told (c : Nat) : (Tr.node c []).told = .node c [] := by simp [Tr.told, tolds]
theorem leaf_lets {c : Nat} (h : Ltr c) : (Tr.node c []).lets Ltr := by simp only [Tr.lets, letss]; exact ⟨h, trivial⟩
theorem LInv.step {s s' : LSt} {tx : List Nat} {c : Nat} (I : LInv s tx) (h : lstep s c = some s') : LInv s' (tx ++ [c]) := by
  obtain ⟨b, st, cur⟩ := s
  obtain ⟨e, gc, gs, lf⟩ := I
  dsimp only at e gc gs lf
  unfold lstep at h
  dsimp only at h
  split at h
  · rename_i hc
    cases h
    refine ⟨?_, ?_, gs, fun _ => ⟨cur, c, rfl⟩⟩
    · dsimp only
      rw [e, wrs_snoc]
      simp [Tr.wr, wrs, brk]
    · intro k hk
      rcases List.mem_append.mp hk with hk | hk
      · exact gc k hk
      · rw [List.mem_singleton.mp hk]
        exact ⟨leaf_told c, leaf_lets hc⟩
  · split at h
    · rename_i hc
      subst hc
      split at h
      · rename_i hb
        obtain ⟨pre, d, rfl⟩ := lf hb
        rw [List.getLast?_concat] at h
        dsimp only at h
        cases h
        refine ⟨?_, fun k hk => (by cases hk), ?_, fun z => (by cases z)⟩
        · dsimp only
          rw [e, wrs_snoc, List.dropLast_concat]
          simp [Tr.wr, wrs, brk, wst]
        · intro p hp
          rcases List.mem_cons.mp hp with rfl | hp
          · dsimp only
            rw [List.dropLast_concat]
            refine ⟨fun k hk => gc k (List.mem_append_left _ hk), ?_⟩
            have := (gc (.node d []) (by simp)).2
            simp only [Tr.lets] at this
            exact this.1
          · exact gs p hp
      · cases h
    · split at h
      · rename_i hc
        subst hc
        split at h
        · rename_i pre d r
          split at h
          · rename_i hh
            cases h
            have g0 := gs (pre, d) List.mem_cons_self
            refine ⟨?_, ?_, fun p hp => gs p (List.mem_cons_of_mem _ hp), fun z => (by cases z)⟩
            · dsimp only
              obtain ⟨k, ks, rfl⟩ : ∃ k ks, cur = k :: ks := by
                cases cur with
                | nil => exact absurd rfl hh.1
                | cons k ks => exact ⟨k, ks, rfl⟩
              rw [e, wrs_snoc, Tr.wr, brk_wrs]
              simp [wst]
            · intro k hk
              rcases List.mem_append.mp hk with hk | hk
              · exact g0.1 k hk
              · rw [List.mem_singleton.mp hk]
                refine ⟨told_of (fun k hk => (gc k hk).1) hh.2, ?_⟩
                simp only [Tr.lets]
                exact ⟨g0.2, letss_of fun k hk => (gc k hk).2⟩
          · cases h
        · cases h
      · cases h
theorem LInv.run : ∀ (cs : List Nat) {s s' : LSt} {tx : List Nat}, LInv s tx → lrun s cs = some s' → LInv s' (tx ++ cs)
  | [], s, s', tx, I, h => by
    cases h
    rw [List.append_nil]
    exact I
  | c :: r, s, s', tx, I, h => by
    simp only [lrun] at h
    cases e : lstep s c with
    | none => rw [e] at h; cases h
    | some s1 =>
      rw [e, Option.bind_some] at h
      have := LInv.run r (I.step e) h
      rwa [List.append_assoc, List.singleton_append] at this
theorem linv0 : LInv (false, ([], [])) [] := ⟨rfl, (fun _ h => by cases h), (fun _ h => by cases h), (fun h => by cases h)⟩
theorem lread_sound {cs : List Nat} {t : Tr} (h : lread cs = some t) : cs = t.wr ∧ t.told = t ∧ t.lets Ltr := by
  unfold lread at h
  cases e : lrun (false, ([], [])) cs with
  | none => rw [e] at h; cases h
  | some s =>
    rw [e, Option.bind_some] at h
    have I := LInv.run cs linv0 e
    rw [List.nil_append] at I
    obtain ⟨b, st, cur⟩ := s
    unfold lfin at h
    split at h
    · rename_i t2 heq
      cases h
      cases heq
      have g := I.cur t (by simp)
      exact ⟨by rw [I.tx]; simp [wst, wrs], g.1, g.2⟩
    · cases h
mutual
theorem lrun_wr : ∀ (t : Tr) (b : Bool) (st : List (List Tr × Nat)) (cur : List Tr) (r : List Nat), t.told = t → t.lets Ltr → ∃ b', lrun (b, (st, cur)) (t.wr ++ r) = lrun (b', (st, cur ++ [t])) r
  | .node c ks, b, st, cur, r, ht, h => by
    simp only [Tr.lets] at h
    have e1 : lstep (b, (st, cur)) c = some (true, (st, cur ++ [.node c []])) := by
      unfold lstep
      rw [if_pos h.1]
    obtain ⟨hk, hs⟩ := told_inv ht h.2
    cases ks with
    | nil => exact ⟨true, by simp only [Tr.wr, wrs, brk, List.cons_append, List.nil_append, lrun, e1, Option.bind_some]⟩
    | cons k ks =>
      have e2 : lstep (true, (st, cur ++ [.node c []])) 40 = some (false, ((cur, c) :: st, [])) := by
        unfold lstep
        rw [if_neg (by omega), if_pos rfl]
        simp
      obtain ⟨b2, e4⟩ := lrun_wrs (k :: ks) false ((cur, c) :: st) [] (41 :: r) hk h.2
      have e3 : lstep (b2, ((cur, c) :: st, k :: ks)) 41 = some (false, (st, cur ++ [.node c (k :: ks)])) := by
        unfold lstep
        rw [if_neg (by omega), if_neg (by omega), if_pos rfl]
        dsimp only
        rw [if_pos ⟨by simp, hs⟩]
      refine ⟨false, ?_⟩
      simp only [Tr.wr, brk_wrs, List.cons_append, List.append_assoc, lrun, e1, e2, Option.bind_some]
      rw [List.nil_append] at e4
      rw [List.nil_append, e4]
      simp only [List.nil_append, lrun, e3, Option.bind_some]
theorem lrun_wrs : ∀ (ts : List Tr) (b : Bool) (st : List (List Tr × Nat)) (cur : List Tr) (r : List Nat), (∀ k ∈ ts, k.told = k) → letss Ltr ts → ∃ b', lrun (b, (st, cur)) (wrs ts ++ r) = lrun (b', (st, cur ++ ts)) r
  | [], b, st, cur, r, _, _ => ⟨b, by simp [wrs]⟩
  | t :: ts, b, st, cur, r, hk, h => by
    simp only [letss] at h
    obtain ⟨b1, e1⟩ := lrun_wr t b st cur (wrs ts ++ r) (hk t List.mem_cons_self) h.1
    obtain ⟨b2, e2⟩ := lrun_wrs ts b1 st (cur ++ [t]) r (fun k hh => hk k (List.mem_cons_of_mem _ hh)) h.2
    refine ⟨b2, ?_⟩
    simp only [wrs, List.append_assoc]
    rw [e1, e2]
    simp
end
theorem lread_wr {t : Tr} (ht : t.told = t) (h : t.lets Ltr) : lread t.wr = some t := by
  obtain ⟨b, e⟩ := lrun_wr t false [] [] [] ht h
  rw [List.append_nil] at e
  unfold lread
  rw [e]
  rfl
theorem pread_of {cs : List Nat} {t : Tr} (h : lread cs = some t) : pread cs = some t ∧ t.told.wr = cs := by
  obtain ⟨e, ht, hl⟩ := lread_sound h
  rw [ht]
  exact ⟨by rw [e]; exact pread_wr t hl, e.symm⟩
theorem lread_of {cs : List Nat} {t : Tr} (hl : t.lets Ltr) (h : pread cs = some t) (e : t.told.wr = cs) : lread cs = some t := by
  have hu := told_lets t hl
  have h1 : pread cs = some t.told := by rw [← e]; exact pread_wr _ hu
  have h2 : t = t.told := Option.some.inj (h.symm.trans h1)
  rw [← e]
  rw [h2]
  rw [← h2]
  exact lread_wr h2.symm hl |> fun z => by rw [← h2]; exact z
theorem prun_size : ∀ (cs : List Nat) {s s' : PSt}, prun s cs = some s' → sizes s'.2 + szs s'.1 ≤ sizes s.2 + szs s.1 + cs.length
  | [], s, s', h => by cases h; simp
  | c :: r, s, s', h => by
    simp only [prun] at h
    cases e : pstep s c with
    | none => rw [e] at h; cases h
    | some s1 =>
      rw [e, Option.bind_some] at h
      have ih := prun_size r h
      have : sizes s1.2 + szs s1.1 ≤ sizes s.2 + szs s.1 + 1 := by
        obtain ⟨st, cur⟩ := s
        unfold pstep at e
        dsimp only at e
        split at e
        · cases e
          simp [sizes_append, sizes, Tr.size]
          omega
        · split at e
          · split at e
            · rename_i d ks hg
              cases e
              have hne : cur ≠ [] := fun z => by rw [z] at hg; cases hg
              have hsp := List.dropLast_concat_getLast hne
              rw [List.getLast?_eq_some_getLast hne] at hg
              rw [Option.some.inj hg] at hsp
              have := congrArg sizes hsp
              rw [sizes_append] at this
              simp only [sizes, Tr.size] at this
              simp only [szs]
              omega
            · cases e
          · split at e
            · split at e
              · cases e
                simp only [sizes_append, sizes, Tr.size, szs]
                omega
              · cases e
            · cases e
      simp only [List.length_cons]
      omega
theorem unw_size : ∀ (st : List (List Tr × Nat)) (cur : List Tr), sizes (unw st cur) = sizes cur + szs st
  | [], cur => by simp [unw, szs]
  | (pre, d) :: r, cur => by
    rw [unw, unw_size r]
    simp only [sizes_append, sizes, Tr.size, szs]
    omega
theorem pread_size {cs : List Nat} {t : Tr} (h : pread cs = some t) : t.size ≤ cs.length := by
  unfold pread at h
  cases e : prun ([], []) cs with
  | none => rw [e] at h; cases h
  | some s =>
    rw [e, Option.bind_some] at h
    have h1 := prun_size cs e
    have h2 := unw_size s.1 s.2
    have h3 := sizes_mem (List.mem_of_mem_head? h)
    simp only [sizes, szs] at h1
    omega
mutual
theorem depth_count : ∀ t : Tr, t.depth ≤ 1 + t.wr.count 40
  | .node c ks => by
    cases ks with
    | nil => simp [Tr.depth, depths]
    | cons k r =>
      have := depths_count (k :: r)
      rw [Tr.wr, brk_wrs]
      simp only [Tr.depth, List.count_cons, List.count_append, beq_self_eq_true, if_true]
      omega
theorem depths_count : ∀ ts : List Tr, depths ts ≤ 1 + (wrs ts).count 40
  | [] => by simp [depths]
  | t :: r => by
    have a := depth_count t
    have b := depths_count r
    simp only [depths, wrs, List.count_append]
    omega
end


def alphaS : Str := Str.ofString "abcdefghijklmnopqrstuvwxyz"
theorem alpha_list : alphaS.cps.toList = List.range' 97 26 := by decide +kernel
theorem in_alpha (c : Nat) : decide (c ∈ alphaS.cps.toList) = decide (97 ≤ c ∧ c ≤ 122) := by
  rw [alpha_list]
  refine decide_eq_decide.mpr ?_
  rw [List.mem_range'_1]
  omega
def flatS : List (List Tr × Nat) → List Tr
  | [] => []
  | (pre, d) :: r => flatS r ++ pre ++ [.node d []]
def opn : List (List Tr × Nat) → List Nat
  | [] => []
  | (pre, d) :: r => opn r ++ [(flatS ((pre, d) :: r)).length]
theorem flatS_len : ∀ (st : List (List Tr × Nat)) , (flatS st).length ≤ szs st
  | [] => by simp [flatS, szs]
  | (pre, d) :: r => by
    have := flatS_len r
    have := len_sizes pre
    simp only [flatS, szs, List.length_append, List.length_singleton]
    omega
theorem wr_size : ∀ t : Tr, t.size ≤ t.wr.length := by
  intro t
  refine Tr.rec (motive_1 := fun t => t.size ≤ t.wr.length) (motive_2 := fun ts => sizes ts ≤ (wrs ts).length) (fun c ks ih => ?_) (by simp [sizes]) (fun t r h1 h2 => ?_) t
  · cases ks with
    | nil => simp [Tr.size, sizes, Tr.wr]
    | cons k r =>
      rw [Tr.wr, brk_wrs]
      simp only [Tr.size, List.length_cons, List.length_append]
      omega
  · simp only [sizes, wrs, List.length_append]
    omega
theorem wrs_size (ts : List Tr) : sizes ts ≤ (wrs ts).length := by
  induction ts with
  | nil => simp [sizes]
  | cons t r ih =>
    have := wr_size t
    simp only [sizes, wrs, List.length_append]
    omega
theorem wst_size : ∀ st : List (List Tr × Nat), szs st ≤ (wst st).length
  | [] => by simp [szs]
  | (pre, d) :: r => by
    have := wst_size r
    have := wrs_size pre
    simp only [szs, wst, List.length_append, List.length_cons, List.length_nil]
    omega
theorem ws_lay {t : Tr} (h : t.lets Ltr) : (PyData.str (ws t)).canLay0 = true := by
  have e : ∀ t : Tr, t.lets Ltr → ∀ c ∈ t.wr, c ≤ 122 := by
    intro t
    refine Tr.rec (motive_1 := fun t => t.lets Ltr → ∀ c ∈ t.wr, c ≤ 122) (motive_2 := fun ts => letss Ltr ts → ∀ c ∈ wrs ts, c ≤ 122) (fun c ks ih h x hx => ?_) (fun _ x hx => by simp [wrs] at hx) (fun t r h1 h2 h x hx => ?_) t
    · simp only [Tr.lets] at h
      cases ks with
      | nil =>
        simp [Tr.wr, wrs, brk] at hx
        rw [hx]
        exact h.1.2
      | cons k r =>
        rw [Tr.wr, brk_wrs] at hx
        rcases List.mem_cons.mp hx with rfl | hx
        · exact h.1.2
        rcases List.mem_cons.mp hx with rfl | hx
        · decide
        rcases List.mem_append.mp hx with hx | hx
        · exact ih h.2 x hx
        · rw [List.mem_singleton.mp hx]; decide
    · simp only [letss] at h
      simp only [wrs] at hx
      rcases List.mem_append.mp hx with hx | hx
      · exact h1 h.1 x hx
      · exact h2 h.2 x hx
  simp only [PyData.canLay0]
  unfold PyData.strOk
  have := e t h
  simp [ws]
  intro c hc
  have := this c hc
  omega
theorem RowT.off {ok : Addr → Prop} {H : Hp} {w : Addr} {b : V × Tr} (x : RowT ok H b) (h : H w = none) : RowT (fun b => ok b ∧ b ≠ w) H b := by
  obtain ⟨p, y, e, h1, h2, h3⟩ := x
  exact ⟨p, y, e, h1, ⟨h2, ne_of_none h1 h⟩, h3.off h⟩
theorem eqv_strs : ∀ A B : List Str, PyData.eqv (.list (A.map .str)) (.list (B.map .str)) = decide (A = B)
  | [], [] => by simp [PyData.eqv, PyData.eqvAll]
  | [], y :: B => by simp [PyData.eqv, PyData.eqvAll]
  | x :: A, [] => by simp [PyData.eqv, PyData.eqvAll]
  | x :: A, y :: B => by
    have ih := eqv_strs A B
    simp only [PyData.eqv] at ih
    simp only [List.map_cons, PyData.eqv, PyData.eqvAll, ih]
    by_cases h1 : x = y
    · subst h1
      simp
    · simp [h1]
theorem le_strT (t u : Tr) : leW t u = (!PySem.W.dataLt (.str (ws u)) (.str (ws t))) := by
  have e0 : ∀ t : Tr, (ws t).cps.toList = t.wr := fun t => by simp [ws]
  rw [PySem.W.dataLt_str, e0, e0]
  unfold leW
  exact (PySem.W.not_lt_str _ _).symm
theorem sort_strs (ks : List Tr) : ((ks.map fun t => (V.str (ws t), PyData.str (ws t))).mergeSort (PySem.W.dataLe false Prod.snd)).map Prod.fst = ((ks.mergeSort leW).map ws).map V.str := by
  rw [← PySem.W.sort_maps (r := leW) (s := PySem.W.dataLe false Prod.snd) (fun t : Tr => (V.str (ws t), PyData.str (ws t))) (fun a _ b _ => le_strT a b), List.map_map, List.map_map]
  rfl
theorem srt_iff {ks : List Tr} (h : ∀ k ∈ ks, k.lets Ltr) : decide (ks.map ws = (ks.mergeSort leW).map ws) = srt ks := by
  have inj : ∀ (a b : List Tr), (∀ k ∈ a, k.lets Ltr) → (∀ k ∈ b, k.lets Ltr) → a.map ws = b.map ws → a = b := by
    intro a
    induction a with
    | nil => intro b _ _ e; cases b with | nil => rfl | cons => cases e
    | cons x a ih =>
      intro b ha hb e
      cases b with
      | nil => cases e
      | cons y b =>
        simp only [List.map_cons, List.cons.injEq] at e
        have e1 : x.wr = y.wr := by have := congrArg (fun z : Str => z.cps.toList) e.1; simpa [ws] using this
        rw [wr_eq (ha x List.mem_cons_self) (hb y List.mem_cons_self) e1, ih b (fun k hk => ha k (List.mem_cons_of_mem _ hk)) (fun k hk => hb k (List.mem_cons_of_mem _ hk)) e.2]
  unfold srt
  refine decide_eq_decide.mpr ⟨fun e => ?_, fun e => ?_⟩
  · rw [inj _ _ h (fun k hk => h k (List.mem_mergeSort.mp hk)) e]
    exact List.pairwise_mergeSort leW_trans leW_total _
  · rw [List.mergeSort_of_pairwise e]
theorem cut_hiU {xs : List V} {k : Nat} (h : k ≤ xs.length) : cutV xs none (some (k : Int)) = xs.take k := by
  unfold cutV
  rw [HT.sIx_none, HT.sIx_nat, List.drop_zero, Nat.sub_zero, Nat.min_eq_left h]
theorem cut_loU {xs : List V} {k : Nat} (h : k ≤ xs.length) : cutV xs (some (k : Int)) none = xs.drop k := by
  unfold cutV
  rw [HT.sIx_nat, HT.sIx_none, Nat.min_eq_left h, List.take_of_length_le (by rw [List.length_drop]; omega)]
theorem dp_nats {K : PySem.W.Frag} {H : Hp} : ∀ ns : List Nat, DpAll K H (ns.map fun n : Nat => V.int (n : Int)) (ns.map fun n : Nat => PyData.int (n : Int))
  | [] => .nil
  | n :: r => .cons (.int _) (dp_nats r)
theorem lay_nats : ∀ ns : List Nat, PyData.canLayAll0 (ns.map fun n : Nat => PyData.int (n : Int)) = true
  | [] => by simp only [List.map_nil, PyData.canLayAll0]
  | n :: r => by simp only [List.map_cons, PyData.canLayAll0, PyData.canLay0, lay_nats r, Bool.and_self]
theorem dep_nats : ∀ ns : List Nat, PyData.depthAll (ns.map fun n : Nat => PyData.int (n : Int)) = 0
  | [] => by simp only [List.map_nil, PyData.depthAll]
  | n :: r => by simp only [List.map_cons, PyData.depthAll, PyData.depth, dep_nats r]; omega
theorem dp_strs {K : PySem.W.Frag} {H : Hp} : ∀ xs : List Str, DpAll K H (xs.map V.str) (xs.map PyData.str)
  | [] => .nil
  | x :: r => .cons (.str _) (dp_strs r)
theorem lay_strs : ∀ ks : List Tr, (∀ k ∈ ks, k.lets Ltr) → PyData.canLayAll0 ((ks.map ws).map PyData.str) = true
  | [], _ => by simp only [List.map_nil, PyData.canLayAll0]
  | k :: r, h => by simp only [List.map_cons, PyData.canLayAll0, ws_lay (h k List.mem_cons_self), lay_strs r fun u hu => h u (List.mem_cons_of_mem _ hu), Bool.and_self]
theorem dep_strs : ∀ xs : List Str, PyData.depthAll (xs.map PyData.str) = 0
  | [] => by simp only [List.map_nil, PyData.depthAll]
  | x :: r => by simp only [List.map_cons, PyData.depthAll, PyData.depth, dep_strs r]; omega
theorem rows_dp {K : PySem.W.Frag} {ok : Addr → Prop} {H : Hp} : ∀ bs : List (V × Tr), (∀ b ∈ bs, RowT ok H b) → DpAll K H (bs.map (·.1)) (bs.map fun b => rdat b.2)
  | [], _ => .nil
  | b :: r, h => .cons (h b List.mem_cons_self).dp (rows_dp r fun u hu => h u (List.mem_cons_of_mem _ hu))
theorem tr_lay0 : ∀ t : Tr, t.lets Ltr → t.dat.canLay0 = true := by
  intro t
  refine Tr.rec (motive_1 := fun t => t.lets Ltr → t.dat.canLay0 = true) (motive_2 := fun ts => letss Ltr ts → PyData.canLayAll0 (dats ts) = true) (fun c ks ih h => ?_) (fun _ => by simp [dats, PyData.canLayAll0]) (fun t r h1 h2 h => ?_) t
  · simp only [Tr.lets] at h
    simp only [Tr.dat, PyData.canLay0, PyData.canLayAll0, strOk_ch h.1.2, ih h.2, Bool.and_self]
  · simp only [letss] at h
    simp only [dats, PyData.canLayAll0, h1 h.1, h2 h.2, Bool.and_self]
theorem rows_lay : ∀ ks : List Tr, (∀ k ∈ ks, k.lets Ltr) → PyData.canLayAll0 (ks.map rdat) = true
  | [], _ => by simp only [List.map_nil, PyData.canLayAll0]
  | k :: r, h => by
    have h1 := h k List.mem_cons_self
    have h2 := ws_lay h1
    simp only [List.map_cons, PyData.canLayAll0, rows_lay r fun u hu => h u (List.mem_cons_of_mem _ hu), rdat, PyData.canLay0, tr_lay0 k h1, Bool.and_true, Bool.true_and]
    simpa only [PyData.canLay0] using h2
theorem rows_dep {n : Nat} : ∀ ks : List Tr, (∀ k ∈ ks, k.depth ≤ n) → PyData.depthAll (ks.map rdat) ≤ 2 * n + 1
  | [], _ => by simp only [List.map_nil, PyData.depthAll]; omega
  | k :: r, h => by
    have h1 := dat_depth k
    have h2 := h k List.mem_cons_self
    have h3 := rows_dep r fun u hu => h u (List.mem_cons_of_mem _ hu)
    simp only [List.map_cons, PyData.depthAll, rdat, PyData.depth]
    omega
def sp__law_read : Sp := fun vs H Q _ => ∃ W : Str, vs = [.str W] ∧ W.length ≤ 5000 ∧ W.cps.toList.count 40 ≤ 95 ∧
  (∀ t, lread W.cps.toList = some t → ∀ r H', Same H H' → TrAt (fun b => H b = none) H' r t → Q r H') ∧ (lread W.cps.toList = none → ∀ H', Same H H' → Q .non H')
section
variable {P : Program} {w : World} {K : PySem.W.Frag} {mg : Str → Option Value} {base : Heap}
theorem ok__law_read (T : Txt K mg) : FnOk P w K mg base CX0 2 T.f__law_read T.d__law_read ["text"] sp__law_read := by
  refine T.F__law_read.ok sc__law_read (fun vs H Q E h => ?_) (fun cdv A outer s H vs Q E hr h => ?_)
  · obtain ⟨W, rfl, _⟩ := h
    rfl
  obtain ⟨W, rfl, hz, hcnt, q1, q2⟩ := h
  refine ⟨_, (pss_cons (ps_set (i := 1) sc__law_read.nd rfl (Or.inl rfl) (pe_lst pa_nil)) (pss_cons (ps_set (i := 2) sc__law_read.nd rfl (Or.inl rfl) (pe_lst pa_nil)) (pss_cons (ps_for PassesOwn.never rfl (pi_range1 (by rfl) T.z_range (pa_cons (pe_callB call_len_str (by rfl) T.z_len PySem.boot_len (pa_cons (pv 0) pa_nil)) pa_nil)) (pg_name (i := 3) sc__law_read.nd rfl (Or.inl rfl)) (pss_cons (ps_set (i := 4) sc__law_read.nd rfl (Or.inl rfl) (pe_ix ix_str (pv 0) (pv 3) (fun _ _ => rfl))) (pss_one (ps_if (pt_cmpR op_in_sign (pv 4) pe_str (by rfl)) (pss_one (ps_expr (pe_bm PySem.F.plainAttrs_list PySem.F.slot_list_append PySem.F.type_list_append mt_append (pv 1) (pa_cons (pe_tup (pa_cons (pv 4) (pa_cons (pe_tup (pa_cons (pv 4) (pa_cons (pe_lst pa_nil) pa_nil))) pa_nil))) pa_nil)))) (pss_one (ps_if (PW.pt (pw_and (pt_cmpR op_eq (pv 4) pe_str (nomark _)) (pw_and (pt_cmpR op_gt (pv 3) pe_int (nomark _)) (pw_and1 (pt_cmpR op_in_sign (pe_ix ix_str (pv 0) (pe_op op_sub (pv 3) pe_int) (fun _ _ => rfl)) pe_str (by rfl)))))) (pss_one (ps_expr (pe_bm PySem.F.plainAttrs_list PySem.F.slot_list_append PySem.F.type_list_append mt_append (pv 2) (pa_cons (pe_callB call_len_seq (by rfl) T.z_len PySem.boot_len (pa_cons (pv 1) pa_nil)) pa_nil)))) (pss_one (ps_if (PW.pt (pw_and (pt_cmpR op_eq (pv 4) pe_str (nomark _)) (pw_and1 (pt_cmpR (op_neB (roomDeep hr)) (pv 2) (pe_lst pa_nil) (nomark _))))) (pss_cons (ps_set (i := 5) sc__law_read.nd rfl (Or.inl rfl) (pe_bm0 PySem.F.plainAttrs_list PySem.F.slot_list_pop PySem.F.type_list_pop mt_pop (pv 2))) (pss_cons (ps_set (i := 6) sc__law_read.nd rfl (Or.inl rfl) (pe_slice sl_list (pv 1) (po_some (pv 5)) po_none)) (pss_cons (ps_setLc (i := 7) (own := [("more", 10), ("child", 11)]) (g := gTup K 2 (gCons (gName 10) (gCons (gName 11) gNil))) (tt := tYes) rfl sc__law_read.nd rfl rfl (sw_true rfl rfl rfl (by decide +kernel)) (pi_list (pv 6)) (blkOk_by (own := [("more", 10), ("child", 11)]) (N := ["text", "parts", "open_at", "at", "sign", "begin", "inner", "written", "letter", "writing", "more", "child"]) (sc := (defScope s__law_read)) (by decide +kernel)) (fun _ _ _ _ _ => (pg_tup rfl (pgs_cons (pg_name (i := 10) sc__law_read.nd rfl (Or.inl rfl)) (pgs_cons (pg_name (i := 11) sc__law_read.nd rfl (Or.inl rfl)) pgs_nil)))) (fun _ _ _ _ _ => pts_nil) (fun _ _ _ _ _ => (pv 10))) (pss_cons (ps_if (PW.pt (pw_or (pt_cmpR (op_eqB (roomDeep hr)) (pv 6) (pe_lst pa_nil) (nomark _)) (pw_or1 (pt_cmpR (op_neB (roomDeep hr)) (pv 7) (pe_callB (call_sortedData (roomDeep hr)) (by rfl) T.z_sorted (by decide +kernel) (pa_cons (pv 7) pa_nil)) (nomark _))))) (pss_one (ps_ret pe_non)) pss_nil) (pss_cons (ps_set (i := 8) sc__law_read.nd rfl (Or.inl rfl) (pe_ix ix_tup (pe_ix ix_list (pv 1) (pe_op op_sub (pv 5) pe_int) (fun _ _ => rfl)) pe_int (fun _ _ => rfl))) (pss_cons (ps_set (i := 9) sc__law_read.nd rfl (Or.inl rfl) (pe_op op_add_str (pe_op op_add_str (pe_op op_add_str (pv 8) pe_str) (pe_join pe_str (pv 7))) pe_str)) (pss_one (ps_set (i := 1) sc__law_read.nd rfl (Or.inl rfl) (pe_op op_cat (pe_slice sl_list (pv 1) po_none (po_some (pe_op op_sub (pv 5) pe_int))) (pe_lst (pa_cons (pe_tup (pa_cons (pv 9) (pa_cons (pe_tup (pa_cons (pv 8) (pa_cons (pe_lc (own := [("more", 10), ("child", 11)]) (g := gTup K 2 (gCons (gName 10) (gCons (gName 11) gNil))) (tt := tYes) rfl sc__law_read.nd (pi_list (pv 6)) (blkOk_by (own := [("more", 10), ("child", 11)]) (N := ["text", "parts", "open_at", "at", "sign", "begin", "inner", "written", "letter", "writing", "more", "child"]) (sc := (defScope s__law_read)) (by decide +kernel)) (fun _ _ _ _ _ => (pg_tup rfl (pgs_cons (pg_name (i := 10) sc__law_read.nd rfl (Or.inl rfl)) (pgs_cons (pg_name (i := 11) sc__law_read.nd rfl (Or.inl rfl)) pgs_nil)))) (fun _ _ _ _ _ => pts_nil) (fun _ _ _ _ _ => (pv 11))) pa_nil))) pa_nil))) pa_nil))))))))))) (pss_one (ps_ret pe_non)))))))))) (pss_cons (ps_if (PW.pt (pw_or (pt_cmpR op_ne (pe_callB call_len_seq (by rfl) T.z_len PySem.boot_len (pa_cons (pv 1) pa_nil)) pe_int (nomark _)) (pw_or1 (pt_cmpR (op_neB (roomDeep hr)) (pv 2) (pe_lst pa_nil) (nomark _))))) (pss_one (ps_ret pe_non)) pss_nil) (pss_one (ps_ret (pe_ix ix_tup (pe_ix ix_list (pv 1) pe_int (fun _ _ => rfl)) pe_int (fun _ _ => rfl)))))))), ?_⟩
  refine ⟨(by show 0 ≤ sizeLine; decide), fun pa0 hpa0 => ⟨(by show 0 ≤ sizeLine; decide), fun oa hoa => ?_⟩⟩
  have npo : pa0 ≠ oa := ne_of_none upd_same hoa
  have hoa0 : H oa = none := NdefX.upd_none hoa
  generalize hcs : W.cps.toList = cs at *
  have lcs : cs.length = W.length := by
    rw [← hcs, Array.length_toList]
    rfl
  have e40 : Str.ofString "(" = ch 40 := by decide +kernel
  have e41 : Str.ofString ")" = ch 41 := by decide +kernel
  have chi : ∀ a b : Nat, (V.str (⟨#[a]⟩ : Str) = V.str (ch b)) ↔ a = b := fun a b => ⟨fun e => by
    have e2 := congrArg (fun z : Str => z.cps) (V.str.inj e)
    simpa [ch] using e2, fun e => by rw [e]; rfl⟩
  refine ⟨_, rfl, _, rfl, Nat.le_trans hz (by decide), _, rfl, by omega, by omega, for_range (lo := 0) (n := W.length) (fun i σ H' => ∃ (pa : Addr) (bs : List (V × Tr)) (b : Bool) (st : List (List Tr × Nat)) (cur : List Tr) (y3 y4 y5 y6 y7 y8 y9 y10 y11 : Option V),
      σ = [some (.str W), some (.ref pa), some (.ref oa), y3, y4, y5, y6, y7, y8, y9, y10, y11] ∧ lrun (false, ([], [])) (cs.take i) = some (b, (st, cur)) ∧ (b = true ↔ ∃ j c, i = j + 1 ∧ cs[j]? = some c ∧ 97 ≤ c ∧ c ≤ 122) ∧ H' pa = some (.lst (bs.map (·.1))) ∧ bs.map (·.2) = flatS st ++ cur ∧
      (∀ x ∈ bs, RowT (fun a => H a = none ∧ a ≠ oa ∧ a ≠ pa) H' x) ∧ H' oa = some (.lst ((opn st).map fun n : Nat => V.int (n : Int))) ∧ H pa = none ∧ pa ≠ oa ∧ Same H H')
    ⟨pa0, [], false, [], [], _, _, _, _, _, _, _, _, _, rfl, rfl, ?_, by rw [upd_ne npo]; exact upd_same, rfl, (fun _ h => by cases h), upd_same, hpa0, npo, (same_new hpa0).trans (same_new hoa)⟩ ?_ ?_⟩
  · exact ⟨(fun h => by cases h), fun ⟨j, c, e, _⟩ => by omega⟩
  · rintro i σ H1 hi ⟨pa, bs, b, st, cur, y3, y4, y5, y6, y7, y8, y9, y10, y11, rfl, hrun, hb, hpa, hbs, hrow, hop, hpn, npo2, sm⟩
    obtain ⟨c, hc⟩ : ∃ c, cs[i]? = some c := ⟨_, List.getElem?_eq_getElem (by omega)⟩
    have I := LInv.run _ linv0 hrun
    rw [List.nil_append] at I
    have htk : cs.take (i + 1) = cs.take i ++ [c] := take_succ_of hc
    have hstep : lrun (false, ([], [])) (cs.take (i + 1)) = lstep (b, (st, cur)) c := by
      rw [htk, lrun_append, hrun]
      show (lstep (b, (st, cur)) c).bind (fun s => some s) = _
      cases lstep (b, (st, cur)) c <;> rfl
    have hfail : lstep (b, (st, cur)) c = none → lread cs = none := by
      intro hn
      have e : cs = cs.take (i + 1) ++ cs.drop (i + 1) := (List.take_append_drop _ _).symm
      unfold lread
      rw [e, lrun_append, hstep, hn]
      rfl
    have hlen : bs.length = (flatS st ++ cur).length := by rw [← hbs, List.length_map]
    have hsz : sizes cur + szs st ≤ i := by
      have h1 := congrArg List.length I.tx
      rw [List.length_append] at h1
      have h2 := wst_size st
      have h3 := wrs_size cur
      have h4 : (cs.take i).length ≤ i := by rw [List.length_take]; omega
      dsimp only at h1
      omega
    have hll : bs.length ≤ 5000 := by
      have h2 := flatS_len st
      have h3 := len_sizes cur
      rw [List.length_append] at hlen
      omega
    have none1 : ∀ a, H1 a = none → H a = none ∧ a ≠ oa ∧ a ≠ pa := fun a h => ⟨sm.free h, fun e => (by rw [e, hop] at h; cases h), fun e => (by rw [e, hpa] at h; cases h)⟩
    have hcW : atI W.cps.toList (0 + (i : Int)) = some c := by
      rw [hcs, show (0 : Int) + (i : Int) = ((i : Nat) : Int) by omega]
      exact atI_nat hc
    refine ⟨_, rfl, _, rfl, W, _, c, rfl, rfl, Nat.le_trans hz (by decide), hcW, ?_⟩
    refine ⟨_, rfl, c, alphaS, rfl, rfl, _, rfl, ?_⟩
    rw [in_alpha]
    by_cases h97 : 97 ≤ c ∧ c ≤ 122
    · rw [decide_eq_true h97]
      refine iteT ?_
      refine ⟨_, rfl, .inl ⟨rfl, _, SqL.of hpa⟩, _, rfl, _, rfl, (by show 0 ≤ sizeLine; decide), fun e he => ⟨(by show 2 ≤ sizeLine; decide), fun g hg => ⟨(by show 2 ≤ sizeLine; decide), fun p hp => ?_⟩⟩⟩
      have s4 : Same H1 (upd (upd (upd H1 e (.lst [])) g (.tup [.str (⟨#[c]⟩ : Str), .ref e])) p (.tup [.str (⟨#[c]⟩ : Str), .ref g])) := ((same_new he).trans (same_new hg)).trans (same_new hp)
      have he1 := none1 e he
      have hg1 := none1 g (NdefX.upd_none hg)
      have hp1 := none1 p (NdefX.upd_none (NdefX.upd_none hp))
      have neg : e ≠ g := ne_of_none upd_same hg
      have ngp : g ≠ p := ne_of_none upd_same hp
      have nep : e ≠ p := ne_of_none (by rw [upd_ne neg]; exact upd_same) hp
      have xp : (upd (upd (upd H1 e (.lst [])) g (.tup [.str (⟨#[c]⟩ : Str), .ref e])) p (.tup [.str (⟨#[c]⟩ : Str), .ref g])) p = some (.tup [.str (ws (.node c [])), .ref g]) := upd_same
      have xg : (upd (upd (upd H1 e (.lst [])) g (.tup [.str (⟨#[c]⟩ : Str), .ref e])) p (.tup [.str (⟨#[c]⟩ : Str), .ref g])) g = some (.tup [.str (ch c), .ref e]) := by rw [upd_ne ngp]; exact upd_same
      have xe : (upd (upd (upd H1 e (.lst [])) g (.tup [.str (⟨#[c]⟩ : Str), .ref e])) p (.tup [.str (⟨#[c]⟩ : Str), .ref g])) e = some (.lst []) := by rw [upd_ne nep, upd_ne neg]; exact upd_same
      generalize upd (upd (upd H1 e (.lst [])) g (.tup [.str (⟨#[c]⟩ : Str), .ref e])) p (.tup [.str (⟨#[c]⟩ : Str), .ref g]) = H4 at *
      refine ⟨pa, _, .ref p, rfl, rfl, s4 _ _ hpa, Nat.lt_of_le_of_lt (show _ ≤ 5000 by rw [List.length_map]; exact hll) (by decide), ?_⟩
      have kp : ∀ b o, (H b = none ∧ b ≠ oa ∧ b ≠ pa) → H4 b = some o → (upd H4 pa (.lst (bs.map (·.1) ++ [.ref p]))) b = some o := fun b o k e => by rw [upd_ne k.2.2]; exact e
      refine ⟨pa, bs ++ [(.ref p, .node c [])], true, st, cur ++ [.node c []], _, _, _, _, _, _, _, _, _, rfl, ?_, ⟨fun _ => ⟨i, c, rfl, hc, h97⟩, fun _ => rfl⟩, by rw [upd_same, List.map_append]; rfl, by rw [List.map_append, hbs, List.append_assoc]; rfl, ?_, by rw [upd_ne npo2.symm]; exact s4 _ _ hop, hpn, npo2, fun b o eb => ?_⟩
      · rw [hstep]
        unfold lstep
        rw [if_pos h97]
      · intro x hx
        rcases List.mem_append.mp hx with hx | hx
        · exact (hrow x hx).imp (fun _ h => h) fun b o k e => kp b o k (s4 _ _ e)
        · rw [List.mem_singleton.mp hx]
          exact ⟨p, .ref g, rfl, kp _ _ hp1 xp, hp1, .node (kp _ _ hg1 xg) (kp _ _ he1 xe) hg1 he1 h97.1 h97.2 .nil⟩
      · rw [upd_ne (fun z => by rw [z, hpn] at eb; cases eb)]
        exact s4 _ _ (sm _ _ eb)
    · rw [decide_eq_false h97]
      refine iteF ?_
      refine ⟨_, rfl, rfl, _, rfl, ?_⟩
      rw [e40]
      by_cases h40 : c = 40
      · have n41 : ¬ V.str (⟨#[c]⟩ : Str) = V.str (ch 41) := fun h => by have := (chi c 41).mp h; omega
        rw [decide_eq_true ((chi c 40).mpr h40)]
        refine iteT ⟨_, rfl, _, _, rfl, rfl, _, rfl, ?_⟩
        by_cases hi0 : i = 0
        · rw [decide_eq_false (by omega)]
          refine iteF (iteF ⟨_, rfl, rfl, _, rfl, ?_⟩)
          rw [e41, decide_eq_false n41]
          refine iteF (iteF ?_)
          refine q2 (hfail ?_) _ sm
          have hbf : b = false := by
            cases b with
            | false => rfl
            | true =>
              obtain ⟨j, c0, e, _⟩ := hb.mp rfl
              omega
          unfold lstep
          rw [if_neg h97, if_pos h40, hbf]
          rfl
        · rw [decide_eq_true (by omega)]
          refine iteT ?_
          obtain ⟨c0, hc0⟩ : ∃ c0, cs[i - 1]? = some c0 := ⟨_, List.getElem?_eq_getElem (by omega)⟩
          have hc0W : atI W.cps.toList (0 + (i : Int) - 1) = some c0 := by
            rw [hcs, show (0 : Int) + (i : Int) - 1 = ((i - 1 : Nat) : Int) by omega]
            exact atI_nat hc0
          refine ⟨_, rfl, _, rfl, _, _, rfl, rfl, W, _, c0, rfl, rfl, Nat.le_trans hz (by decide), hc0W, c0, alphaS, rfl, rfl, _, rfl, ?_⟩
          rw [in_alpha]
          by_cases h0 : 97 ≤ c0 ∧ c0 ≤ 122
          · rw [decide_eq_true h0]
            refine iteT ?_
            have hbt : b = true := hb.mpr ⟨i - 1, c0, by omega, hc0, h0⟩
            subst hbt
            obtain ⟨pre, d, hcur⟩ := I.lf rfl
            dsimp only at hcur
            subst hcur
            have hnew : lstep (true, (st, pre ++ [.node d []])) c = some (false, ((pre, d) :: st, [])) := by
              unfold lstep
              rw [if_neg h97, if_pos h40]
              simp
            have lo : (opn st).length ≤ 5000 := by
              have : ∀ st : List (List Tr × Nat), (opn st).length ≤ szs st := by
                intro st
                induction st with
                | nil => simp [opn, szs]
                | cons p r ih => obtain ⟨pre, d⟩ := p; simp only [opn, szs, List.length_append, List.length_singleton]; omega
              have := this st
              omega
            refine ⟨_, rfl, .inl ⟨rfl, _, SqL.of hop⟩, _, rfl, pa, _, rfl, .inl (SqL.of hpa), oa, _, _, rfl, rfl, hop, Nat.lt_of_le_of_lt (show _ ≤ 5000 by rw [List.length_map]; exact lo) (by decide), ?_⟩
            have kp : ∀ b o, (H b = none ∧ b ≠ oa ∧ b ≠ pa) → H1 b = some o → (upd H1 oa (.lst ((opn st).map (fun n : Nat => V.int (n : Int)) ++ [.int ((bs.map (·.1)).length : Nat)]))) b = some o := fun b o k e => by rw [upd_ne k.2.1]; exact e
            refine ⟨pa, bs, false, (pre, d) :: st, [], _, _, _, _, _, _, _, _, _, rfl, by rw [hstep]; exact hnew, ⟨(fun h => by cases h), fun ⟨j, c1, e, e1, e2⟩ => ?_⟩, by rw [upd_ne npo2]; exact hpa, by rw [hbs]; simp [flatS], fun x hx => (hrow x hx).imp (fun _ h => h) kp, ?_, hpn, npo2, fun b o eb => ?_⟩
            · have : j = i := by omega
              subst this
              rw [hc] at e1
              cases e1
              exact absurd e2 h97
            · rw [upd_same, opn, List.map_append]
              congr 3
              simp only [List.map_cons, List.map_nil, List.cons.injEq, and_true, V.int.injEq]
              rw [List.length_map, hlen]
              simp [flatS]
            · rw [upd_ne (fun z => by rw [z, hoa0] at eb; cases eb)]
              exact sm _ _ eb
          · rw [decide_eq_false h0]
            refine iteF ⟨_, rfl, rfl, _, rfl, ?_⟩
            rw [e41, decide_eq_false n41]
            refine iteF (iteF ?_)
            refine q2 (hfail ?_) _ sm
            have hbf : b = false := by
              cases b with
              | false => rfl
              | true =>
                obtain ⟨j, c1, e, e1, e2⟩ := hb.mp rfl
                have : j = i - 1 := by omega
                subst this
                rw [hc0] at e1
                cases e1
                exact absurd e2 h0
            unfold lstep
            rw [if_neg h97, if_pos h40, hbf]
            rfl
      · rw [decide_eq_false (fun h => h40 ((chi c 40).mp h))]
        refine iteF (iteF ⟨_, rfl, rfl, _, rfl, ?_⟩)
        rw [e41]
        by_cases h41 : c = 41
        · rw [decide_eq_true ((chi c 41).mpr h41)]
          refine iteT ⟨_, rfl, (by show 0 ≤ sizeLine; decide), fun e he => ?_⟩
          have s0 : Same H1 (upd H1 e (.lst [])) := same_new he
          have hop0 := s0 _ _ hop
          have hpa0' := s0 _ _ hpa
          have he1 := none1 e he
          refine ⟨_, _, .lst (SqL.of hop0) (dp_nats _), dp_nil upd_same, by simp only [PyData.canLay0]; exact lay_nats _, by decide, by simp only [PyData.depth, dep_nats]; omega, _, rfl, ?_⟩
          rw [eqv_nil, List.length_map]
          cases st with
          | nil =>
            simp only [opn, List.length_nil, decide_true, Bool.not_true]
            refine iteF ?_
            refine q2 (hfail ?_) _ (sm.trans s0)
            unfold lstep
            rw [if_neg h97, if_neg h40, if_pos h41]
          | cons pd r =>
          obtain ⟨pre, d⟩ := pd
          have hstep41 : lstep (b, ((pre, d) :: r, cur)) c = if cur ≠ [] ∧ srt cur = true then some (false, (r, pre ++ [.node d cur])) else none := by
            unfold lstep
            rw [if_neg h97, if_neg h40, if_pos h41]
          rw [show (!decide ((opn ((pre, d) :: r)).length = 0)) = true by simp [opn]]
          refine iteT ?_
          have hop1 : (upd H1 e (.lst [])) oa = some (.lst ((opn r).map (fun n : Nat => V.int (n : Int)) ++ [.int (((flatS ((pre, d) :: r)).length : Nat) : Int)])) := by
            rw [hop0]
            simp only [opn, List.map_append, List.map_cons, List.map_nil]
          refine ⟨_, rfl, .inl ⟨rfl, _, SqL.of hop1⟩, _, _, V.int (((flatS ((pre, d) :: r)).length : Nat) : Int), rfl, rfl, hop1, by simp, ?_⟩
          rw [List.dropLast_concat]
          have k2 : ∀ b o, b ≠ oa → H1 b = some o → (upd (upd H1 e (.lst [])) oa (.lst ((opn r).map (fun n : Nat => V.int (n : Int))))) b = some o := fun b o n h => by rw [upd_ne n]; exact s0 _ _ h
          have hop2 := upd_same (H := upd H1 e (.lst [])) (a := oa) (o := .lst ((opn r).map (fun n : Nat => V.int (n : Int))))
          have e2n : ∀ a, (upd (upd H1 e (.lst [])) oa (.lst ((opn r).map (fun n : Nat => V.int (n : Int))))) a = none → H1 a = none := fun a h => NdefX.upd_none (NdefX.upd_none h)
          generalize upd (upd H1 e (.lst [])) oa (.lst ((opn r).map (fun n : Nat => V.int (n : Int)))) = H2 at *
          have sm2 : Same H H2 := fun b o eb => k2 _ _ (fun z => by rw [z, hoa0] at eb; cases eb) (sm _ _ eb)
          have hpa2 := k2 _ _ npo2 hpa
          have hrow2 : ∀ x ∈ bs, RowT (fun a => H a = none ∧ a ≠ oa ∧ a ≠ pa) H2 x := fun x hx => (hrow x hx).imp (fun _ h => h) fun b o k e => k2 _ _ k.2.1 e
          obtain ⟨b1, b2, rfl, eb1, eb2⟩ := List.map_eq_append_iff.mp hbs
          obtain ⟨b0, bx, rfl, eb0, ebx⟩ : ∃ b0 bx, b1 = b0 ++ [bx] ∧ b0.map (·.2) = flatS r ++ pre ∧ bx.2 = .node d [] := by
            simp only [flatS] at eb1
            obtain ⟨l1, l2, e1, e2, e3⟩ := List.map_eq_append_iff.mp eb1
            obtain ⟨x, rfl⟩ : ∃ x, l2 = [x] := List.length_eq_one_iff.mp (by have := congrArg List.length e3; rwa [List.length_map] at this)
            exact ⟨l1, x, e1, e2, by simpa using e3⟩
          have nb0 : (flatS ((pre, d) :: r)).length = b0.length + 1 := by
            have := congrArg List.length eb1
            rw [List.length_map, List.length_append] at this
            simpa using this.symm
          rw [nb0]
          have gcur : ∀ k ∈ cur, k.lets Ltr := fun k hk => (I.cur k hk).2
          have dcur : ∀ k ∈ cur, k.depth ≤ 96 := fun k hk => by
            have h1 := depths_mem hk
            have h2 := depths_count cur
            have h3 := congrArg (fun l => List.count 40 l) I.tx
            have h4 : (cs.take i).count 40 ≤ cs.count 40 := (List.take_sublist _ _).count_le _
            simp only [List.count_append] at h3
            omega
          have lb2 : b2.length ≤ 5000 := by rw [List.length_append] at hll; omega
          refine ⟨_, rfl, _, rfl, _, rfl, pa, _, rfl, SqL.of hpa2, fun p1 hp1 => ?_⟩
          have ecut : cutV ((b0 ++ [bx] ++ b2).map (·.1)) (some ((b0.length + 1 : Nat) : Int)) none = b2.map (·.1) := by
            rw [cut_loU (by simp), List.map_append, List.drop_left' (by simp)]
          rw [ecut]
          have s3 := same_new hp1 (o := .lst (b2.map (·.1)))
          have hp1' := upd_same (H := H2) (a := p1) (o := .lst (b2.map (·.1)))
          have hp1n := e2n _ hp1
          generalize upd H2 p1 (.lst (b2.map (·.1))) = H3 at *
          refine ⟨_, rfl, p1, rfl, ⟨_, SqL.of hp1'⟩, fun D hD => ?_⟩
          refine lc_list (xs := b2.map (·.1)) (fun i H' => H' D = some (.lst ((b2.take i).map fun b => .str (ws b.2))) ∧ Same H3 H') ⟨upd_same, same_new hD⟩ (fun i H' _ ⟨_, s⟩ => SqL.of (s _ _ hp1')) ?_ ?_
          · rintro j x H4 hx ⟨m1, m2⟩
            rw [List.getElem?_map] at hx
            cases hcc : b2[j]? with
            | none => rw [hcc] at hx; cases hx
            | some bb =>
              rw [hcc] at hx
              cases hx
              obtain ⟨p, y, ee, n1, n2, n3⟩ := hrow2 bb (List.mem_append_right _ (List.mem_of_getElem? hcc))
              obtain ⟨bv, bt⟩ := bb
              cases ee
              refine ⟨_, _, rfl, SqT.of (m2 _ _ (s3 _ _ n1)), rfl, _, _, rfl, _, _, rfl, rfl, rfl, _, rfl, _, m1, ?_, ?_, same_add m2 hD⟩
              · rw [List.length_map, List.length_take]
                exact Nat.lt_of_le_of_lt (show _ ≤ 5000 by omega) (by decide)
              · rw [upd_same, take_succ_of hcc, List.map_append]
                rfl
          rintro H4 ⟨m1, m2⟩
          rw [List.length_map, List.take_length] at m1
          have m1' : H4 D = some (.lst ((cur.map ws).map V.str)) := by rw [m1, ← eb2]; simp
          have s4 := s3.trans m2
          have hp14 := m2 _ _ hp1'
          have hpa4 := s4 _ _ hpa2
          have hop4 := s4 _ _ hop2
          have hrow4 : ∀ x ∈ b0 ++ [bx] ++ b2, RowT (fun a => H a = none ∧ a ≠ oa ∧ a ≠ pa) H4 x := fun x hx => (hrow2 x hx).imp (fun _ h => h) fun b o _ e => s4 _ _ e
          have sm4 := sm2.trans s4
          refine ⟨_, rfl, (by show 0 ≤ sizeLine; decide), fun z hz => ?_⟩
          have s5 : Same H4 (upd H4 z (.lst [])) := same_new hz
          have rdp := rows_dp (K := K) b2 fun x hx => (hrow4 x (List.mem_append_right _ hx)).imp (fun _ h => h) fun b o _ e => s5 _ _ e
          have erd : (b2.map fun b => rdat b.2) = cur.map rdat := by rw [← eb2, List.map_map]; rfl
          rw [erd] at rdp
          refine ⟨_, _, .lst (SqL.of (s5 _ _ hp14)) rdp, dp_nil upd_same, by simp only [PyData.canLay0]; exact rows_lay cur gcur, by decide, by have := rows_dep cur dcur; simp only [PyData.depth]; omega, _, rfl, ?_⟩
          rw [eqv_nil, List.length_map]
          by_cases hc0 : cur = []
          · subst hc0
            rw [decide_eq_true (show ([] : List Tr).length = 0 from rfl)]
            refine iteT (iteT ?_)
            refine q2 (hfail ?_) _ (sm4.trans s5)
            rw [hstep41, if_neg (by simp)]
          rw [decide_eq_false (by intro h; exact hc0 (List.length_eq_zero_iff.mp h))]
          refine iteF ?_
          have m15 := s5 _ _ m1'
          have hpa5 := s5 _ _ hpa4
          have hop5 := s5 _ _ hop4
          have hp15 := s5 _ _ hp14
          have hrow5 : ∀ x ∈ b0 ++ [bx] ++ b2, RowT (fun a => H a = none ∧ a ≠ oa ∧ a ≠ pa) (upd H4 z (.lst [])) x := fun x hx => (hrow4 x hx).imp (fun _ h => h) fun b o _ e => s5 _ _ e
          have sm5 := sm4.trans s5
          clear rdp
          generalize upd H4 z (.lst []) = H5 at *
          refine ⟨_, rfl, _, rfl, D, cur.map (fun t => (V.str (ws t), PyData.str (ws t))), rfl, by rw [m15, List.map_map, List.map_map]; rfl, ?_, ?_, ?_, ?_, ?_, fun rs hrs => ?_⟩
          · intro x hx
            obtain ⟨t, _, rfl⟩ := List.mem_map.mp hx
            exact .str _
          · intro x hx y hy
            rw [List.map_map] at hx hy
            obtain ⟨t, _, rfl⟩ := List.mem_map.mp hx
            obtain ⟨u, _, rfl⟩ := List.mem_map.mp hy
            simp [PySem.W.alike]
          · refine .inr fun x hx => ?_
            rw [List.map_map] at hx
            obtain ⟨t, _, rfl⟩ := List.mem_map.mp hx
            exact ⟨by simp, by simp⟩
          · intro x hx
            obtain ⟨t, _, rfl⟩ := List.mem_map.mp hx
            simp only [PyData.depth]
            omega
          · rw [List.length_map, ← eb2, List.length_map]
            exact Nat.le_trans lb2 (by decide)
          rw [sort_strs]
          have s6 := same_new hrs (o := .lst (((cur.mergeSort leW).map ws).map V.str))
          have gms : ∀ k ∈ cur.mergeSort leW, k.lets Ltr := fun k hk => gcur k (List.mem_mergeSort.mp hk)
          refine ⟨_, _, .lst (SqL.of (s6 _ _ m15)) (dp_strs _), .lst (SqL.of upd_same) (dp_strs _), by simp only [PyData.canLay0]; exact lay_strs cur gcur, by simp only [PyData.canLay0]; exact lay_strs _ gms, by simp only [PyData.depth, dep_strs]; omega, _, rfl, ?_⟩
          rw [eqv_strs, srt_iff gcur]
          cases hs : srt cur with
          | false =>
            refine iteT ?_
            refine q2 (hfail ?_) _ (sm5.trans s6)
            rw [hstep41, if_neg (by rw [hs]; simp)]
          | true =>
          refine iteF ?_
          have hnew : lstep (b, ((pre, d) :: r, cur)) c = some (false, (r, pre ++ [.node d cur])) := by rw [hstep41, if_pos ⟨hc0, hs⟩]
          have m16 := s6 _ _ m15
          have hpa6 := s6 _ _ hpa5
          have hop6 := s6 _ _ hop5
          have hp16 := s6 _ _ hp15
          have hrow6 : ∀ x ∈ b0 ++ [bx] ++ b2, RowT (fun a => H a = none ∧ a ≠ oa ∧ a ≠ pa) (upd H5 rs (.lst (((cur.mergeSort leW).map ws).map V.str))) x := fun x hx => (hrow5 x hx).imp (fun _ h => h) fun b o _ e => s6 _ _ e
          have sm6 := sm5.trans s6
          generalize upd H5 rs (.lst (((cur.mergeSort leW).map ws).map V.str)) = H6 at *
          clear m15 hpa5 hop5 hp15 hrow5 hpa4 hop4 hp14 hrow4 m1 m1'
          obtain ⟨px, yx, ex, nx1, nx2, nx3⟩ := hrow6 bx (by simp)
          rw [ebx] at nx1
          have ewd : ws (.node d []) = ch d := rfl
          rw [ewd] at nx1
          have hatx : atI ((b0 ++ [bx] ++ b2).map (·.1)) (((b0.length + 1 : Nat) : Int) - 1) = some (.ref px) := by
            rw [show (((b0.length + 1 : Nat) : Int) - 1) = ((b0.length : Nat) : Int) by omega, ← ex]
            refine atI_nat ?_
            simp
          refine ⟨_, rfl, _, rfl, _, _, rfl, rfl, pa, _, _, _, rfl, rfl, SqL.of hpa6, hatx, px, _, 0, _, rfl, rfl, SqT.of nx1, atI_nat (j := 0) rfl, ?_⟩
          have lwc : (wrs cur).length ≤ 5000 := by
            have h1 := congrArg List.length I.tx
            rw [List.length_append] at h1
            have h4 : (cs.take i).length ≤ i := by rw [List.length_take]; omega
            dsimp only at h1
            omega
          have la : ∀ a b : Str, (a ++ b).length = a.length + b.length := fun a b => by
            show (a.cps ++ b.cps).size = _
            rw [Array.size_append]
            rfl
          have l1 : ∀ c : Nat, (ch c).length = 1 := fun _ => rfl
          have lJ : (⟨(wrs cur).toArray⟩ : Str).length ≤ 5000 := by
            show (wrs cur).toArray.size ≤ _
            rw [List.size_toArray]
            exact lwc
          have big : ∀ n : Nat, n ≤ 3000010 → n ≤ sizeLine := fun n h => Nat.le_trans h (by decide)
          refine ⟨_, rfl, _, _, rfl, rfl, big _ (by rw [l1, l1]; decide), ⟨_, rfl⟩, _, rfl, _, D, cur.map ws, rfl, rfl, .inl (SqL.of m16), ?_, ?_⟩
          · rw [ws_len]
            have e : (Str.ofString "").length = 0 := by decide +kernel
            rw [e, Nat.mul_zero]
            omega
          rw [join_ws]
          refine ⟨_, _, rfl, rfl, big _ (by rw [la, l1, l1]; omega), _, _, rfl, rfl, big _ (by rw [la, la, l1, l1, l1]; omega), ?_⟩
          have ewr : ch d ++ ch 40 ++ (⟨(wrs cur).toArray⟩ : Str) ++ ch 41 = ws (.node d cur) := by
            obtain ⟨k, ks, rfl⟩ : ∃ k ks, cur = k :: ks := by
              cases cur with
              | nil => exact absurd rfl hc0
              | cons k ks => exact ⟨k, ks, rfl⟩
            show (⟨((#[d] ++ #[40]) ++ (wrs (k :: ks)).toArray) ++ #[41]⟩ : Str) = ⟨(d :: brk (wrs (k :: ks))).toArray⟩
            rw [brk_wrs]
            simp
          rw [ewr]
          refine ⟨_, rfl, _, rfl, _, _, rfl, rfl, _, rfl, pa, _, rfl, SqL.of hpa6, fun u1 h1 => ?_⟩
          have ecut2 : cutV ((b0 ++ [bx] ++ b2).map (·.1)) none (some (((b0.length + 1 : Nat) : Int) - 1)) = b0.map (·.1) := by
            rw [show (((b0.length + 1 : Nat) : Int) - 1) = ((b0.length : Nat) : Int) by omega, cut_hiU (by simp), List.append_assoc, List.map_append, List.take_left' (by simp)]
          rw [ecut2]
          have s7 := same_new h1 (o := .lst (b0.map (·.1)))
          have hu1 := upd_same (H := H6) (a := u1) (o := .lst (b0.map (·.1)))
          have hp17 := s7 _ _ hp16
          have sm7 := sm6.trans s7
          have hop7 := s7 _ _ hop6
          have hpa7 := s7 _ _ hpa6
          have hrow7 : ∀ x ∈ b0 ++ [bx] ++ b2, RowT (fun a => H a = none ∧ a ≠ oa ∧ a ≠ pa) (upd H6 u1 (.lst (b0.map (·.1)))) x := fun x hx => (hrow6 x hx).imp (fun _ h => h) fun b o _ e => s7 _ _ e
          generalize upd H6 u1 (.lst (b0.map (·.1))) = H7 at *
          have none7 : ∀ a, H7 a = none → H a = none ∧ a ≠ oa ∧ a ≠ pa := fun a h => ⟨sm7.free h, fun e => (by rw [e, hop7] at h; cases h), fun e => (by rw [e, hpa7] at h; cases h)⟩
          refine ⟨_, rfl, _, rfl, _, rfl, p1, rfl, ⟨_, SqL.of hp17⟩, fun D3 hD3 => ?_⟩
          refine lc_list (xs := b2.map (·.1)) (fun i H' => ∃ ys, H' D3 = some (.lst ys) ∧ TrsAt (fun a => (H a = none ∧ a ≠ oa ∧ a ≠ pa) ∧ a ≠ D3) H' ys ((b2.take i).map (·.2)) ∧ Same H7 H') ⟨[], upd_same, .nil, same_new hD3⟩ (fun i H' _ ⟨_, _, _, s⟩ => SqL.of (s _ _ hp17)) ?_ ?_
          · rintro j x H8 hx ⟨ys, m1, m3, m4⟩
            rw [List.getElem?_map] at hx
            cases hcc : b2[j]? with
            | none => rw [hcc] at hx; cases hx
            | some bb =>
              rw [hcc] at hx
              cases hx
              obtain ⟨p, y, ee, n1, n2, n3⟩ := hrow7 bb (List.mem_append_right _ (List.mem_of_getElem? hcc))
              obtain ⟨bv, bt⟩ := bb
              cases ee
              have lm := m3.len
              rw [List.length_map, List.length_take] at lm
              have n3' : TrAt (fun a => (H a = none ∧ a ≠ oa ∧ a ≠ pa) ∧ a ≠ D3) H8 y bt := (n3.off hD3).same m4
              refine ⟨_, _, rfl, SqT.of (m4 _ _ n1), rfl, _, _, rfl, _, _, rfl, rfl, rfl, _, rfl, _, m1, ?_, ys ++ [y], upd_same, ?_, same_add m4 hD3⟩
              · exact Nat.lt_of_le_of_lt (show ys.length ≤ 5000 by omega) (by decide)
              · rw [take_succ_of hcc, List.map_append]
                exact (m3.append (.cons n3' .nil)).keep (upd_keep fun b h => h.2)
          rintro H8 ⟨ys, m1, m3, m4⟩
          rw [List.length_map, List.take_length, eb2] at m3
          refine ⟨(by show 2 ≤ sizeLine; decide), fun a2 ha2 => ⟨(by show 2 ≤ sizeLine; decide), fun pp hpp => ⟨(by show 1 ≤ sizeLine; decide), fun u2 hu2 => ?_⟩⟩⟩
          have t1 := same_new ha2 (o := .tup [.str (ch d), .ref D3])
          have t2 := same_new hpp (o := .tup [.str (ws (.node d cur)), .ref a2])
          have t3 := same_new hu2 (o := .lst [.ref pp])
          have ya2 := t3 _ _ (t2 _ _ (upd_same (H := H8) (a := a2) (o := .tup [.str (ch d), .ref D3])))
          have ypp := t3 _ _ (upd_same (H := upd H8 a2 (.tup [.str (ch d), .ref D3])) (a := pp) (o := .tup [.str (ws (.node d cur)), .ref a2]))
          have yu2 := upd_same (H := upd (upd H8 a2 (.tup [.str (ch d), .ref D3])) pp (.tup [.str (ws (.node d cur)), .ref a2])) (a := u2) (o := .lst [.ref pp])
          have T3 := (t1.trans t2).trans t3
          have free8 : ∀ a, H8 a = none → H7 a = none := fun a h => m4.free h
          have oka2 := none7 a2 (free8 a2 ha2)
          have okpp := none7 pp (free8 pp (NdefX.upd_none hpp))
          have okD3 := none7 D3 hD3
          clear t1 t2 t3
          generalize upd (upd (upd H8 a2 (.tup [.str (ch d), .ref D3])) pp (.tup [.str (ws (.node d cur)), .ref a2])) u2 (.lst [.ref pp]) = H9 at *
          have S79 := m4.trans T3
          refine ⟨u1, u2, _, _, rfl, rfl, S79 _ _ hu1, yu2, Nat.le_trans (show _ ≤ 5002 by rw [List.length_map]; simp only [List.length_cons, List.length_nil, List.length_append] at hll ⊢; omega) (by decide), fun u3 hu3 => ?_⟩
          have s9 := same_new hu3 (o := .lst (b0.map (·.1) ++ [V.ref pp]))
          have ok3 := none7 u3 (S79.free hu3)
          have gd := (I.st (pre, d) List.mem_cons_self).2
          refine ⟨u3, b0 ++ [(.ref pp, .node d cur)], false, r, pre ++ [.node d cur], _, _, _, _, _, _, _, _, _, rfl, by rw [hstep]; exact hnew, ⟨(fun h => by cases h), fun ⟨j, c1, ej, e1, e2⟩ => ?_⟩, by rw [upd_same, List.map_append]; rfl, by rw [List.map_append, eb0, List.append_assoc]; rfl, ?_, s9 _ _ (S79 _ _ hop7), ok3.1, ok3.2.1, (sm7.trans S79).trans s9⟩
          · have : j = i := by omega
            subst this
            rw [hc] at e1
            cases e1
            exact absurd e2 h97
          · intro x hx
            rcases List.mem_append.mp hx with hx | hx
            · have x1 := hrow7 x (List.mem_append_left _ (List.mem_append_left _ hx))
              have x2 : RowT (fun a => H a = none ∧ a ≠ oa ∧ a ≠ pa) H9 x := x1.imp (fun _ h => h) fun b o _ e => S79 _ _ e
              exact (x2.off hu3).imp (fun _ h => ⟨h.1.1, h.1.2.1, h.2⟩) fun b o _ e => s9 _ _ e
            · rw [List.mem_singleton.mp hx]
              have x2 : RowT (fun a => H a = none ∧ a ≠ oa ∧ a ≠ pa) H9 (.ref pp, .node d cur) := ⟨pp, .ref a2, rfl, ypp, okpp, .node ya2 (T3 _ _ m1) oka2 okD3 gd.1 gd.2 ((m3.same T3).weak fun b h => h.1)⟩
              exact (x2.off hu3).imp (fun _ h => ⟨h.1.1, h.1.2.1, h.2⟩) fun b o _ e => s9 _ _ e
        · rw [decide_eq_false (fun h => h41 ((chi c 41).mp h))]
          refine iteF (iteF ?_)
          refine q2 (hfail ?_) _ sm
          unfold lstep
          rw [if_neg h97, if_neg h40, if_neg h41]
  · rintro σ H1 ⟨pa, bs, b, st, cur, y3, y4, y5, y6, y7, y8, y9, y10, y11, rfl, hrun, hb, hpa, hbs, hrow, hop, hpn, npo2, sm⟩
    rw [show cs.take W.length = cs by rw [← lcs, List.take_length]] at hrun
    have hl : lread cs = lfin (b, (st, cur)) := by
      unfold lread
      rw [hrun]
      rfl
    refine ⟨_, rfl, pa, _, rfl, .inl (SqL.of hpa), rfl, _, rfl, ?_⟩
    have nolen : ∀ t, lfin (b, (st, cur)) = some t → st = [] ∧ cur = [t] := by
      intro t h
      unfold lfin at h
      split at h
      · rename_i heq
        cases h
        cases heq
        exact ⟨rfl, rfl⟩
      · cases h
    have none_of_ne : (∀ t, ¬ (st = [] ∧ cur = [t])) → lread cs = none := fun h => by
      rw [hl]
      cases e : lfin (b, (st, cur)) with
      | none => rfl
      | some t => exact absurd (nolen t e) (h t)
    by_cases h1 : bs.length = 1
    · rw [show (!decide (V.int (((bs.map (·.1)).length : Nat) : Int) = V.int 1)) = false by rw [List.length_map, h1]; decide]
      refine iteF ⟨_, rfl, (by show 0 ≤ sizeLine; decide), fun e he => ?_⟩
      have s0 : Same H1 (upd H1 e (.lst [])) := same_new he
      refine ⟨_, _, .lst (SqL.of (s0 _ _ hop)) (dp_nats _), dp_nil upd_same, by simp only [PyData.canLay0]; exact lay_nats _, by decide, by simp only [PyData.depth, dep_nats]; omega, _, rfl, ?_⟩
      rw [eqv_nil, List.length_map]
      cases st with
      | nil =>
        simp only [opn, List.length_nil, decide_true, Bool.not_true]
        refine iteF ?_
        simp only [flatS, List.nil_append] at hbs
        obtain ⟨x, rfl⟩ := List.length_eq_one_iff.mp h1
        obtain ⟨px, yx, ex, n1, n2, n3⟩ := (hrow x (by simp)).imp (ok' := fun a => H a = none) (fun _ h => h.1) fun b o _ e => s0 _ _ e
        have hpa1 : (upd H1 e (.lst [])) pa = some (.lst [.ref px]) := by
          rw [s0 _ _ hpa, ← ex]
          rfl
        refine ⟨_, rfl, pa, _, 0, _, rfl, rfl, SqL.of hpa1, atI_nat (j := 0) rfl, px, _, 1, _, rfl, rfl, SqT.of n1, atI_nat (j := 1) rfl, ?_⟩
        refine q1 x.2 ?_ _ _ (sm.trans s0) n3
        rw [hl, ← hbs]
        rfl
      | cons pd r =>
        obtain ⟨pre, d⟩ := pd
        rw [show (!decide ((opn ((pre, d) :: r)).length = 0)) = true by simp [opn]]
        refine iteT ?_
        exact q2 (none_of_ne fun t h => by cases h.1) _ (sm.trans s0)
    · rw [show (!decide (V.int (((bs.map (·.1)).length : Nat) : Int) = V.int 1)) = true by rw [List.length_map, decide_eq_false (fun h => h1 (by have := V.int.inj h; omega))]; rfl]
      refine iteT (iteT ?_)
      refine q2 (none_of_ne fun t h => h1 ?_) _ sm
      have := congrArg List.length hbs
      rw [List.length_map, h.1, h.2] at this
      simpa [flatS] using this
end


section
variable {P : Program} {w : World} {K : PySem.W.Frag} {mg : Str → Option Value} {base : Heap}
def sp_read_tree (Pt : Addr) (q : Str) : Sp := fun vs H Q _ => ∃ (t : Tr), vs = [.str (ws t)] ∧ t.told = t ∧ t.lets Ltr ∧ t.size ≤ 20000 ∧ LamX.TabS H Pt q ∧
  ∀ r as H', Fr Pt H H' → LamX.TabS H' Pt q → TrO (fun b => H b = none) H' r t as → as.Nodup → Q r H'
theorem ok_read_tree (T : Txt K mg) (B : Tbs T base) : FnOk P w K mg base CX0 10 T.f_read_tree T.d_read_tree ["text"] (sp_read_tree T.P__joined q__joined) := by
  have G__tree_read : FnOk P w K mg base CX0 2 T.f__tree_read T.d__tree_read ["text"] sp__tree_read := ok__tree_read T
  have G_written_tree : FnOk P w K mg base CX0 9 T.f_written_tree T.d_written_tree ["tree"] (sp_written_tree T.P__joined q__joined) := ok_written_tree T B
  refine T.F_read_tree.ok sc_read_tree (fun vs H Q E h => ?_) (fun cdv A outer s H vs Q E hr h => ?_)
  · obtain ⟨t, rfl, _⟩ := h
    rfl
  obtain ⟨t, rfl, htd, hl, hz, hT, q⟩ := h
  refine ⟨_, (pss_cons (ps_set (i := 1) sc_read_tree.nd rfl (Or.inl rfl) (pe_ifExp (pt_val (pe_callB call_isi (by rfl) T.z_isinstance (by decide +kernel) (pa_cons (pv 0) (pa_cons (pe_bltn (v := .ty "str") (by rfl) T.z_str (by decide +kernel) rfl) pa_nil)))) (pe_call G__tree_read (hr.mono (by omega)) (by rfl) T.m__tree_read T.F__tree_read.kp T.b__tree_read .nil pass0 (pa_cons (pv 0) pa_nil)) pe_non)) (pss_cons (ps_if (PW.pt (pw_or (pt_cmpR op_isN (pv 1) pe_non (nomark _)) (pw_or1 (pt_cmpR op_ne (pe_call G_written_tree (hr.mono (by omega)) (by rfl) T.m_written_tree T.F_written_tree.kp T.b_written_tree .nil pass0 (pa_cons (pv 1) pa_nil)) (pv 0) (nomark _))))) (pss_one ps_never) pss_nil) (pss_one (ps_ret (pv 1))))), ?_⟩
  have hlen : (ws t).length ≤ 100000 := by
    show t.wr.toArray.size ≤ _
    rw [List.size_toArray]
    have := wrs_len [t]
    simp only [wrs, List.append_nil, sizes] at this
    omega
  have hrd : pread (ws t).cps.toList = some t := by
    have : (ws t).cps.toList = t.wr := by simp [ws]
    rw [this]
    exact pread_wr t hl
  refine ⟨_, rfl, _, _, _, _, true, rfl, .ty "str", .base (.str _), kit_ty (by decide +kernel), _, rfl, iteT ?_⟩
  refine ⟨_, rfl, _, rfl, hlen, fun t' ht' r as H1 s1 x1 n1 => ?_, fun hn => by rw [hrd] at hn; cases hn⟩
  rw [hrd] at ht'
  cases ht'
  have ht1 : TrAt (fun _ => True) H1 r t := (TrO.at _ _ _ x1).weak fun _ _ => trivial
  have hr : ∃ a, r = .ref a := by
    cases x1
    exact ⟨_, rfl⟩
  obtain ⟨a, rfl⟩ := hr
  refine ⟨_, rfl, rfl, _, rfl, ?_⟩
  rw [decide_eq_false (by intro e; cases e)]
  refine iteF ⟨_, rfl, _, t, rfl, ht1, by omega, hT.ext s1, fun H2 f2 T2 => ⟨_, rfl, rfl, _, rfl, ?_⟩⟩
  rw [htd, decide_eq_true rfl]
  refine iteF ⟨_, rfl, ?_⟩
  obtain ⟨tb, hP, _, _⟩ := id hT
  refine q _ as H2 ((Fr.same s1).trans f2) T2 (x1.keep fun b o k e => f2 b o (fun z => by rw [z, hP] at k; cases k) e) n1
end
def rIxE (K : PySem.W.Frag) : R2 := fun x y H Q => rIxL K x y H Q ∨ rIxT K x y H Q
theorem ix_either {X : Cx} : IxR X (rIxE X.K) := by
  intro a b pins s σ H x y v u Q I rx ry h pl
  rcases h with h | h
  · exact ix_list a b pins s σ H x y v u Q I rx ry h pl
  · exact ix_tup a b pins s σ H x y v u Q I rx ry h pl
section
variable {P : Program} {w : World} {K : PySem.W.Frag} {mg : Str → Option Value} {base : Heap}
def SD (H : Hp) (d : Nat) (v u : V) : Prop := (∃ t, TrAt (fun _ => True) H v t ∧ TrAt (fun _ => True) H u t ∧ 2 * t.depth ≤ d ∧ t.size ≤ 100000) ∨
    (∃ a b xs ys ts, v = .ref a ∧ u = .ref b ∧ H a = some (.lst xs) ∧ H b = some (.lst ys) ∧ TrsAt (fun _ => True) H xs ts ∧ TrsAt (fun _ => True) H ys ts ∧ 2 * depths ts + 1 ≤ d ∧ sizes ts ≤ 100000) ∨ (∃ z, v = .str z ∧ u = .str z ∧ 1 ≤ d)
theorem SD.same {H H' : Hp} {d : Nat} {v u : V} (x : SD H d v u) (s : Same H H') : SD H' d v u := by
  rcases x with ⟨t, h1, h2, h3, h4⟩ | ⟨a, b, xs, ys, ts, e1, e2, h1, h2, h3, h4, h5, h6⟩ | h
  · exact .inl ⟨t, h1.same s, h2.same s, h3, h4⟩
  · exact .inr (.inl ⟨a, b, xs, ys, ts, e1, e2, s _ _ h1, s _ _ h2, h3.same s, h4.same s, h5, h6⟩)
  · exact .inr (.inr h)
theorem rIxE_of {K : PySem.W.Frag} {H : Hp} {a : Addr} {fs : List V} {i : Int} {v : V} {Q : VK} (h : SqL K H a fs ∨ SqT K H a fs) (e : atI fs i = some v) (q : Q v H) : rIxE K (.ref a) (.int i) H Q :=
  h.imp (fun h => ⟨a, fs, i, v, rfl, rfl, h, e, q⟩) (fun h => ⟨a, fs, i, v, rfl, rfl, h, e, q⟩)
theorem sqE_same {K : PySem.W.Frag} {H H' : Hp} {a : Addr} {fs : List V} (h : SqL K H a fs ∨ SqT K H a fs) (s : Same H H') : SqL K H' a fs ∨ SqT K H' a fs := h.imp (fun h => Same.seq s h) (fun h => by
  rcases h with (h | ⟨o, h⟩) | h
  · exact .inl (.inl (s _ _ h))
  · exact .inl (.inr ⟨o, s _ _ h⟩)
  · exact .inr h)
def sp__law_same (d : Nat) : Sp := fun vs H Q _ => ∃ (v u : V), vs = [v, u] ∧ SD H d v u ∧ ∀ H', Same H H' → Q (.bl true) H'
theorem ok__law_same (T : Txt K mg) : ∀ d : Nat, FnOk P w K mg base CX0 d T.f__law_same T.d__law_same ["found", "due"] (sp__law_same d)
  | 0 => none_of fun vs H Q E ⟨v, u, _, h, _⟩ => by
    rcases h with ⟨t, _, _, h, _⟩ | ⟨_, _, _, _, _, _, _, _, _, _, _, h, _⟩ | ⟨_, _, _, h⟩
    · have := depth_pos t; omega
    · omega
    · omega
  | d + 1 => by
    have G__law_same : FnOk P w K mg base CX0 d T.f__law_same T.d__law_same ["found", "due"] (sp__law_same d) := ok__law_same T d
    refine T.F__law_same.ok sc__law_same (fun vs H Q E h => ?_) (fun cdv A outer s H vs Q E hr h => ?_)
    · obtain ⟨v, u, rfl, _⟩ := h
      rfl
    obtain ⟨v, u, rfl, hc, q⟩ := h
    refine ⟨_, (pss_cons (ps_if (pt_val (pe_callB call_isiT (by rfl) T.z_isinstance (by decide +kernel) (pa_cons (pv 1) (pa_cons (pe_tup (pa_cons (pe_bltn (v := .ty "list") (by rfl) T.z_list (by decide +kernel) rfl) (pa_cons (pe_bltn (v := .ty "tuple") (by rfl) T.z_tuple (by decide +kernel) rfl) pa_nil))) pa_nil)))) (pss_cons (ps_if (PW.pt (pw_or (pt_cmpR op_ne (pe_callB call_isi (by rfl) T.z_isinstance (by decide +kernel) (pa_cons (pv 0) (pa_cons (pe_bltn (v := .ty "tuple") (by rfl) T.z_tuple (by decide +kernel) rfl) pa_nil))) (pe_callB call_isi (by rfl) T.z_isinstance (by decide +kernel) (pa_cons (pv 1) (pa_cons (pe_bltn (v := .ty "tuple") (by rfl) T.z_tuple (by decide +kernel) rfl) pa_nil))) (nomark _)) (pw_or1 (pt_cmpR op_ne (pe_callB call_isi (by rfl) T.z_isinstance (by decide +kernel) (pa_cons (pv 0) (pa_cons (pe_bltn (v := .ty "list") (by rfl) T.z_list (by decide +kernel) rfl) pa_nil))) (pe_callB call_isi (by rfl) T.z_isinstance (by decide +kernel) (pa_cons (pv 1) (pa_cons (pe_bltn (v := .ty "list") (by rfl) T.z_list (by decide +kernel) rfl) pa_nil))) (nomark _))))) (pss_one (ps_ret pe_bl)) pss_nil) (pss_cons (ps_if (pt_cmpR op_ne (pe_callB call_len_seq (by rfl) T.z_len PySem.boot_len (pa_cons (pv 0) pa_nil)) (pe_callB call_len_seq (by rfl) T.z_len PySem.boot_len (pa_cons (pv 1) pa_nil)) (nomark _)) (pss_one (ps_ret pe_bl)) pss_nil) (pss_one (ps_ret (pe_cmpR (op_eqD hr.units) (pe_lc (own := [("k", 2)]) (g := gName 2) (tt := tNot (tB (tCall (sp__law_same d) [] E0 (tCons (tOp (rIxE K) (tVar 0) (tVar 2)) (tCons (tOp (rIxE K) (tVar 1) (tVar 2)) tNil))))) rfl sc__law_same.nd (pi_range1 (by rfl) T.z_range (pa_cons (pe_callB call_len_seq (by rfl) T.z_len PySem.boot_len (pa_cons (pv 1) pa_nil)) pa_nil)) (blkOk_by (own := [("k", 2)]) (N := ["found", "due", "k", "key"]) (sc := (defScope s__law_same)) (by decide +kernel)) (fun _ _ _ _ _ => (pg_name (i := 2) sc__law_same.nd rfl (Or.inl rfl))) (fun _ _ _ _ _ => pts_one (pt_not (pt_val (pe_call G__law_same (hr.mono (by omega)) (by rfl) T.m__law_same T.F__law_same.kp T.b__law_same .nil pass0 (pa_cons (pe_ix ix_either (pv 0) (pv 2) (fun _ _ => rfl)) (pa_cons (pe_ix ix_either (pv 1) (pv 2) (fun _ _ => rfl)) pa_nil)))))) (fun _ _ _ _ _ => (pv 2))) (pe_lst pa_nil) (nomark _)))))) pss_nil) (pss_cons (ps_if (pt_val (pe_callB call_isi (by rfl) T.z_isinstance (by decide +kernel) (pa_cons (pv 1) (pa_cons (pe_bltn (v := .ty "str") (by rfl) T.z_str (by decide +kernel) rfl) pa_nil)))) (pss_one (ps_ret (pe_and (pe_callB call_isi (by rfl) T.z_isinstance (by decide +kernel) (pa_cons (pv 0) (pa_cons (pe_bltn (v := .ty "str") (by rfl) T.z_str (by decide +kernel) rfl) pa_nil))) (pe_one (pe_cmpR op_eq (pv 0) (pv 1) (nomark _)))))) pss_nil) (pss_cons ps_never (pss_one ps_never)))), ?_⟩
    refine ⟨_, rfl, (by show 2 ≤ sizeLine; decide), fun tp htp => ?_⟩
    have s1 : Same H (upd H tp (.tup [.ty "list", .ty "tuple"])) := same_new htp
    have xtp : (upd H tp (.tup [.ty "list", .ty "tuple"])) tp = some (.tup [.ty "list", .ty "tuple"]) := upd_same
    generalize upd H tp (.tup [.ty "list", .ty "tuple"]) = H1 at *
    have pc : Paired ClsV [V.ty "list", V.ty "tuple"] [.type "list", .type "tuple"] := .cons (.ty "list") (.cons (.ty "tuple") .nil)
    have hc1 := hc.same s1
    have key : (∃ (a b : Addr) (fs gs : List V) (ty : String), v = .ref a ∧ u = .ref b ∧ (SqL K H1 a fs ∨ SqT K H1 a fs) ∧ (SqL K H1 b gs ∨ SqT K H1 b gs) ∧ fs.length = gs.length ∧ fs.length ≤ 1000000 ∧ (∀ (i : Nat) (h : i < fs.length) (h' : i < gs.length), SD H1 d fs[i] gs[i]) ∧ (ty = "tuple" ∨ ty = "list") ∧ TyX K H1 v (.type ty) ∧ TyX K H1 u (.type ty)) ∨ (∃ z, v = .str z ∧ u = .str z) := by
      rcases hc1 with ⟨t, hv, hu, hd, hz⟩ | ⟨a, b, xs, ys, ts, rfl, rfl, ha, hb, hx, hy, hd, hz⟩ | ⟨z, rfl, rfl, hd⟩
      · obtain ⟨c, ks⟩ := t
        simp only [Tr.depth] at hd
        simp only [Tr.size] at hz
        cases hv with
        | node h1 h2 k1 k2 c1 c2 r =>
        cases hu with
        | node h1' h2' k1' k2' c1' c2' r' =>
        refine .inl ⟨_, _, _, _, "tuple", rfl, rfl, .inr (SqT.of h1), .inr (SqT.of h1'), rfl, by simp, fun i h h' => ?_, .inl rfl, .base (.tup h1), .base (.tup h1')⟩
        match i, h with
        | 0, _ => exact .inr (.inr ⟨_, rfl, rfl, by omega⟩)
        | 1, _ => exact .inr (.inl ⟨_, _, _, _, ks, rfl, rfl, h2, h2', r, r', by omega, by omega⟩)
      · have lx := hx.len
        have ly := hy.len
        have lz := len_sizes ts
        refine .inl ⟨_, _, _, _, "list", rfl, rfl, .inl (SqL.of ha), .inl (SqL.of hb), by omega, by omega, fun i h h' => ?_, .inr rfl, .base (.lst ha), .base (.lst hb)⟩
        have hi : i < ts.length := by omega
        obtain ⟨v1, e1, x1⟩ := hx.get (i := i) (List.getElem?_eq_getElem hi)
        obtain ⟨v2, e2, x2⟩ := hy.get (i := i) (List.getElem?_eq_getElem hi)
        rw [List.getElem?_eq_getElem h] at e1
        rw [List.getElem?_eq_getElem h'] at e2
        cases e1
        cases e2
        have dt := depths_mem (List.getElem_mem hi)
        have st := sizes_mem (List.getElem_mem hi)
        exact .inl ⟨_, x1, x2, by omega, by omega⟩
      · exact .inr ⟨z, rfl, rfl⟩
    rcases key with ⟨a, b, fs, gs, ty, rfl, rfl, hfa, hgb, hlen, hbig, hit, hty, tv, tu⟩ | ⟨z, rfl, rfl⟩
    · have kt : PySem.W.kitAny K (.type ty) [.type "list", .type "tuple"] = some true := by
        rcases hty with rfl | rfl <;> rfl
      have k1 : PySem.W.kitOne K (.type ty) (.type "tuple") = some (decide (ty = "tuple")) := by
        rcases hty with rfl | rfl
        · exact kit_ty (by decide +kernel)
        · exact kit_ty (by decide +kernel)
      have k2 : PySem.W.kitOne K (.type ty) (.type "list") = some (decide (ty = "list")) := by
        rcases hty with rfl | rfl
        · exact kit_ty (by decide +kernel)
        · exact kit_ty (by decide +kernel)
      refine ⟨_, tp, _, _, _, true, rfl, xtp, pc, tu, kt, _, rfl, iteT ?_⟩
      refine ⟨_, rfl, _, _, _, _, _, rfl, .ty "tuple", tv, k1, _, rfl, _, _, _, _, _, rfl, .ty "tuple", tu, k1, rfl, _, rfl, ?_⟩
      rw [decide_eq_true rfl]
      refine iteF ?_
      refine ⟨_, rfl, _, _, _, _, _, rfl, .ty "list", tv, k2, _, rfl, _, _, _, _, _, rfl, .ty "list", tu, k2, rfl, _, rfl, ?_⟩
      rw [decide_eq_true rfl]
      refine iteF ?_
      refine ⟨_, rfl, _, _, rfl, hfa, _, rfl, _, _, rfl, hgb, rfl, _, rfl, ?_⟩
      rw [hlen, decide_eq_true rfl]
      refine iteF ?_
      refine ⟨_, rfl, _, _, rfl, hgb, _, rfl, by omega, by omega, fun D hD => ?_⟩
      refine lc_rngU (lo := 0) (n := ((gs.length : Int)).toNat) (fun i H2 => H2 D = some (.lst []) ∧ Same H1 H2) ⟨upd_same, same_new hD⟩ ?_ ?_
      · rintro i H2 hi ⟨g1, g2⟩
        have hi' : i < gs.length := by omega
        have hi2 : i < fs.length := by omega
        refine ⟨rfl, _, rfl, _, rfl, rIxE_of (sqE_same hfa g2) (at_of (j := i) (v := fs[i]) (by omega) (List.getElem?_eq_getElem hi2)) ⟨_, rfl, _, rfl, rIxE_of (sqE_same hgb g2) (at_of (j := i) (v := gs[i]) (by omega) (List.getElem?_eq_getElem hi')) ⟨fs[i], gs[i], rfl, (hit i hi2 hi').same g2, fun H3 s3 => ⟨_, rfl, iteF ?_⟩⟩⟩⟩
        exact ⟨s3 _ _ g1, g2.trans s3⟩
      · rintro H2 ⟨g1, g2⟩
        refine ⟨(by show 0 ≤ sizeLine; decide), fun e he => ⟨_, _, dp_nil (by rw [upd_ne (ne_of_none g1 he)]; exact g1), dp_nil upd_same, shaped_nil, shaped_nil, ?_⟩⟩
        rw [eqv_nil]
        exact q _ (s1.trans (same_add g2 (g2.free he)))
    · refine ⟨_, tp, _, _, _, false, rfl, xtp, pc, .base (.str _), rfl, _, rfl, iteF ?_⟩
      refine ⟨_, rfl, _, _, _, _, true, rfl, .ty "str", .base (.str _), kit_ty (by decide +kernel), _, rfl, iteT ?_⟩
      refine ⟨_, rfl, _, _, _, _, true, rfl, .ty "str", .base (.str _), kit_ty (by decide +kernel), _, rfl, iteT ?_⟩
      refine ⟨_, rfl, _, rfl, rfl, ?_⟩
      rw [decide_eq_true rfl]
      exact q _ s1
end

mutual
inductive Dt (ok : Addr → Prop) (H : Hp) : V → PyData → Prop
  | non : Dt ok H .non .none
  | bl (b : Bool) : Dt ok H (.bl b) (.bool b)
  | int (i : Int) : Dt ok H (.int i) (.int i)
  | str (x : Str) : Dt ok H (.str x) (.str x)
  | dic {a : Addr} : H a = some (.dK []) → ok a → Dt ok H (.ref a) (.dict [])
  | lst {a : Addr} {xs : List V} {ds : List PyData} : H a = some (.lst xs) → ok a → xs.length ≤ 1000 → DtAll ok H xs ds → Dt ok H (.ref a) (.list ds)
  | tup {a : Addr} {xs : List V} {ds : List PyData} : H a = some (.tup xs) → ok a → xs.length ≤ 1000 → DtAll ok H xs ds → Dt ok H (.ref a) (.tuple ds)
inductive DtAll (ok : Addr → Prop) (H : Hp) : List V → List PyData → Prop
  | nil : DtAll ok H [] []
  | cons {v : V} {vs : List V} {d : PyData} {ds : List PyData} : Dt ok H v d → DtAll ok H vs ds → DtAll ok H (v :: vs) (d :: ds)
end
section
variable {ok ok' : Addr → Prop} {H H' : Hp} {K : PySem.W.Frag}
mutual
theorem Dt.imp (hk : ∀ b o, ok b → H b = some o → ok' b) (h : ∀ b o, ok b → H b = some o → H' b = some o) : ∀ {v : V} {d : PyData}, Dt ok H v d → Dt ok' H' v d
  | _, _, .non => .non
  | _, _, .bl b => .bl b
  | _, _, .int i => .int i
  | _, _, .str x => .str x
  | _, _, .dic e k => .dic (h _ _ k e) (hk _ _ k e)
  | _, _, .lst e k l r => .lst (h _ _ k e) (hk _ _ k e) l (DtAll.imp hk h r)
  | _, _, .tup e k l r => .tup (h _ _ k e) (hk _ _ k e) l (DtAll.imp hk h r)
theorem DtAll.imp (hk : ∀ b o, ok b → H b = some o → ok' b) (h : ∀ b o, ok b → H b = some o → H' b = some o) : ∀ {vs : List V} {ds : List PyData}, DtAll ok H vs ds → DtAll ok' H' vs ds
  | _, _, .nil => .nil
  | _, _, .cons a b => .cons (Dt.imp hk h a) (DtAll.imp hk h b)
end
theorem Dt.keep {v : V} {d : PyData} (x : Dt ok H v d) (h : ∀ b o, ok b → H b = some o → H' b = some o) : Dt ok H' v d := x.imp (fun _ _ k _ => k) h
theorem Dt.same {v : V} {d : PyData} (x : Dt ok H v d) (s : Same H H') : Dt ok H' v d := x.keep fun b o _ h => s b o h
theorem Dt.weak {v : V} {d : PyData} (x : Dt ok H v d) (h : ∀ b, ok b → ok' b) : Dt ok' H v d := x.imp (fun b _ k _ => h b k) fun _ _ _ e => e
theorem Dt.any {v : V} {d : PyData} (x : Dt ok H v d) : Dt (fun _ => True) H v d := x.weak fun _ _ => trivial
theorem Dt.off {w : Addr} {v : V} {d : PyData} (x : Dt ok H v d) (h : H w = none) : Dt (fun b => ok b ∧ b ≠ w) H v d := x.imp (fun _ _ k e => ⟨k, ne_of_none e h⟩) fun _ _ _ e => e
theorem DtAll.keep {vs : List V} {ds : List PyData} (x : DtAll ok H vs ds) (h : ∀ b o, ok b → H b = some o → H' b = some o) : DtAll ok H' vs ds := x.imp (fun _ _ k _ => k) h
theorem DtAll.same {vs : List V} {ds : List PyData} (x : DtAll ok H vs ds) (s : Same H H') : DtAll ok H' vs ds := x.keep fun b o _ h => s b o h
theorem DtAll.weak {vs : List V} {ds : List PyData} (x : DtAll ok H vs ds) (h : ∀ b, ok b → ok' b) : DtAll ok' H vs ds := x.imp (fun b _ k _ => h b k) fun _ _ _ e => e
mutual
theorem Dt.dp : ∀ {v : V} {d : PyData}, Dt ok H v d → d.canLay0 = true → Dp K H v d
  | _, _, .non, _ => .non
  | _, _, .bl b, _ => .bl b
  | _, _, .int i, _ => .int i
  | _, _, .str x, _ => .str x
  | _, _, .dic _ _, h => by simp [PyData.canLay0] at h
  | _, _, .lst e _ _ r, h => .lst (SqL.of e) (DtAll.dp r (by simpa only [PyData.canLay0] using h))
  | _, _, .tup e _ _ r, h => .tup (SqT.of e) (DtAll.dp r (by simpa only [PyData.canLay0] using h))
theorem DtAll.dp : ∀ {vs : List V} {ds : List PyData}, DtAll ok H vs ds → PyData.canLayAll0 ds = true → DpAll K H vs ds
  | _, _, .nil, _ => .nil
  | _, _, .cons a b, h => by
    simp only [PyData.canLayAll0, Bool.and_eq_true] at h
    exact .cons (Dt.dp a h.1) (DtAll.dp b h.2)
end
theorem DtAll.len : ∀ {vs : List V} {ds : List PyData}, DtAll ok H vs ds → vs.length = ds.length
  | _, _, .nil => rfl
  | _, _, .cons _ b => by simp only [List.length_cons, DtAll.len b]
theorem DtAll.getV : ∀ {vs : List V} {ds : List PyData} {i : Nat} {x : V}, DtAll ok H vs ds → vs[i]? = some x → ∃ d, ds[i]? = some d ∧ Dt ok H x d
  | _, _, 0, _, .cons a _, h => by cases h; exact ⟨_, rfl, a⟩
  | _, _, i + 1, _, .cons _ b, h => by
    rw [List.getElem?_cons_succ] at h
    obtain ⟨d, h1, h2⟩ := DtAll.getV b h
    exact ⟨d, by rw [List.getElem?_cons_succ]; exact h1, h2⟩
theorem DtAll.snoc : ∀ {vs : List V} {ds : List PyData} {v : V} {d : PyData}, DtAll ok H vs ds → Dt ok H v d → DtAll ok H (vs ++ [v]) (ds ++ [d])
  | _, _, _, _, .nil, y => .cons y .nil
  | _, _, _, _, .cons a b, y => .cons a (DtAll.snoc b y)
theorem dt_ints : ∀ xs : List Int, DtAll ok H (xs.map V.int) (xs.map PyData.int)
  | [] => .nil
  | x :: r => .cons (.int x) (dt_ints r)
theorem dt_intsL {a : Addr} {xs : List Int} (h : H a = some (.lst (xs.map V.int))) (k : ok a) (l : xs.length ≤ 1000) : Dt ok H (.ref a) (.list (xs.map PyData.int)) := .lst h k (by rw [List.length_map]; exact l) (dt_ints xs)
theorem dtAll_ints : ∀ {w : List Int} {vs : List V}, DtAll ok H vs (w.map PyData.int) → vs = w.map V.int
  | [], _, h => by cases h; rfl
  | x :: r, _, h => by
    cases h with
    | cons a b =>
      cases a
      rw [dtAll_ints b]
      rfl
theorem Dt.intsL {v : V} {w : List Int} (h : Dt ok H v (.list (w.map PyData.int))) : ∃ a, v = .ref a ∧ H a = some (.lst (w.map V.int)) ∧ ok a := by
  cases h with
  | lst e k l r =>
    rw [dtAll_ints r] at e
    exact ⟨_, rfl, e, k⟩
end
theorem layAll_mem {d : PyData} : ∀ {ds : List PyData}, PyData.canLayAll0 ds = true → d ∈ ds → d.canLay0 = true
  | x :: r, h, hm => by
    simp only [PyData.canLayAll0, Bool.and_eq_true] at h
    rcases List.mem_cons.mp hm with rfl | hm
    · exact h.1
    · exact layAll_mem h.2 hm
theorem depthAll_mem {d : PyData} : ∀ {ds : List PyData}, d ∈ ds → d.depth ≤ PyData.depthAll ds
  | x :: r, h => by
    simp only [PyData.depthAll]
    rcases List.mem_cons.mp h with rfl | h
    · omega
    · have := depthAll_mem h
      omega
theorem eqT {x y : V} {i : Decidable (x = y)} {A B : Prop} (h : x = y) (k : A) : if (@decide (x = y) i) = true then A else B := by
  rw [decide_eq_true h]
  exact iteT k
theorem eqF {x y : V} {i : Decidable (x = y)} {A B : Prop} (h : x ≠ y) (k : B) : if (@decide (x = y) i) = true then A else B := by
  rw [decide_eq_false h]
  exact iteF k
theorem noneOf {sp : Sp} {P : Program} {w : World} {K : PySem.W.Frag} {mg : Str → Option Value} {base : Heap} {f : Addr} {fd : FuncData} {ps : List Str} {k : Nat} (no : ∀ vs H Q E, ¬ sp vs H Q E) : FnOk P w K mg base CX0 k f fd ps sp :=
  ⟨fun vs H Q E h => absurd h (no vs H Q E), fun A outer s H args us vs Q E _ _ _ _ h => absurd h (no vs H Q E)⟩

theorem ine {a b : Int} (h : a ≠ b) : V.int a ≠ V.int b := fun e => h (V.int.inj e)
def tyN : PyData → String
  | .none => "NoneType"
  | .bool _ => "bool"
  | .int _ => "int"
  | .str _ => "str"
  | .list _ => "list"
  | .tuple _ => "tuple"
  | .dict _ => "dict"
theorem Dt.ty {ok : Addr → Prop} {H : Hp} {K : PySem.W.Frag} {v : V} {d : PyData} (h : Dt ok H v d) : TyX K H v (.type (tyN d)) := by
  cases h with
  | non => exact .base .non
  | bl b => exact .base (.bl b)
  | int i => exact .base (.int i)
  | str x => exact .base (.str x)
  | lst e _ _ _ => exact .base (.lst e)
  | tup e _ _ _ => exact .base (.tup e)
  | dic e _ => exact .base (.dK e)
def isIntD : PyData → Bool
  | .int _ => true
  | .bool _ => true
  | _ => false
def isBoolD : PyData → Bool
  | .bool _ => true
  | _ => false
def isStrD : PyData → Bool
  | .str _ => true
  | _ => false
def isListD : PyData → Bool
  | .list _ => true
  | _ => false
def isTupD : PyData → Bool
  | .tuple _ => true
  | _ => false
def isDictD : PyData → Bool
  | .dict _ => true
  | _ => false
section
variable {K : PySem.W.Frag}
theorem k_int (d : PyData) : PySem.W.kitOne K (.type (tyN d)) (.type "int") = some (isIntD d) := by cases d <;> exact kit_ty (by dsimp only [tyN, isIntD]; decide +kernel)
theorem k_bool (d : PyData) : PySem.W.kitOne K (.type (tyN d)) (.type "bool") = some (isBoolD d) := by cases d <;> exact kit_ty (by dsimp only [tyN, isBoolD]; decide +kernel)
theorem k_str (d : PyData) : PySem.W.kitOne K (.type (tyN d)) (.type "str") = some (isStrD d) := by cases d <;> exact kit_ty (by dsimp only [tyN, isStrD]; decide +kernel)
theorem k_list (d : PyData) : PySem.W.kitOne K (.type (tyN d)) (.type "list") = some (isListD d) := by cases d <;> exact kit_ty (by dsimp only [tyN, isListD]; decide +kernel)
theorem k_tuple (d : PyData) : PySem.W.kitOne K (.type (tyN d)) (.type "tuple") = some (isTupD d) := by cases d <;> exact kit_ty (by dsimp only [tyN, isTupD]; decide +kernel)
theorem k_dict (d : PyData) : PySem.W.kitOne K (.type (tyN d)) (.type "dict") = some (isDictD d) := by cases d <;> exact kit_ty (by dsimp only [tyN, isDictD]; decide +kernel)
end

def ExX (a : Addr) (cls : Value) (d : Option Addr) : HO := .ext fun h => ∃ (o : Obj) (vs : Array Value), h.get? a = some o ∧ Zc cls d o ∧ o.data = .fields vs
theorem exX_ok {P : Program} {w : World} {H : Hp} {h : Heap} {a : Addr} {cls : Value} {d : Option Addr} (x : ∃ (o : Obj) (vs : Array Value), h.get? a = some o ∧ Zc cls d o ∧ o.data = .fields vs) : ObjOk P w H h a (ExX a cls d) :=
  ⟨x, (let ⟨o, _, e, _⟩ := x; ⟨o, e⟩), fun _ _ ⟨o, vs, e, r⟩ k => ⟨o, vs, k o e, r⟩⟩
section
variable {X : Cx} {pins : List (Addr × Obj)} {σ : L2.St} {H : Hp} {sI t : Shared} {B : Heap} {a : Addr} {o : HO}
theorem inv_tracked (I : Inv X pins σ H sI) (gr : ∀ b u, sI.heap.get? b = some u → b ∉ frs X.stack → B.get? b = some u) (st : B.StaysIn t.heap) (up : sI.heap.UpToSlots t.heap) (os : t.os = sI.os) (ag : AllBare t.gens)
    (ha : sI.heap.get? a = none) (na : H a = none) (new : ObjOk X.prog X.w (upd H a o) t.heap a o) : Inv X pins σ (upd H a o) t := by
  have far : ∀ b u, sI.heap.get? b = some u → b ≠ a := fun b u e z => by rw [z, ha] at e; cases e
  have fr : ∀ b u, sI.heap.get? b = some u → b ∈ frs X.stack → ∃ sl, t.heap.get? b = some { u with slots := sl } := fun b u e hb => by
    obtain ⟨_, u2, e2, hd⟩ := I.stack.mem hb
    have := e.symm.trans e2
    cases this
    exact up b u e hd
  have on : ∀ b u, H b = some u → (upd H a o) b = some u := fun b u e => by
    rw [upd_ne (ne_of_none e na)]
    exact e
  refine I.call' (ch := []) os { keep := ?k, slot := ?s, free := ?f, there := ?t, tups := fun b xs e => on b _ e, frzs := fun b u xs e => on b _ e, tbls := fun b ps e => ⟨#[], (on b _ e).trans (by simp)⟩ } (((I.inGround gr).kept st).laidN (fun _ _ e => e) na new) ag (by intro b hb; cases hb)
  case k => intro b u e _ hb _; exact st b u (gr b u e hb)
  case s => intro b u e _ hb _; exact fr b u e hb
  case f => intro b u e n _; rw [upd_ne (far b u e)]; exact n
  case t =>
    intro b u e _
    by_cases hb : b ∈ frs X.stack
    · obtain ⟨sl, q⟩ := fr b u e hb
      exact ⟨_, q⟩
    · exact ⟨u, st b u (gr b u e hb)⟩
theorem inv_suite0 (I : Inv X pins σ H t) (a : Addr) : Inv (X.suite a (X.pn ++ pins)) [] σ H t where
  ok := I.ok.suite _ _
  os := I.os
  bare := I.bare
  base := I.base
  loc := I.loc
  cell := I.cell
  free := I.free
  freeC := I.freeC
  pin := by
    intro p hp
    rw [List.append_nil] at hp
    exact I.pin p hp
  hok := I.hok
  len := I.len
theorem inv_unsuite0 {pn2 : List (Addr × Obj)} (I : Inv (X.suite a (X.pn ++ pins)) pn2 σ H t) (ok : X.Ok) : Inv X pins σ H t where
  ok := ok
  os := I.os
  bare := I.bare
  base := I.base
  loc := I.loc
  cell := I.cell
  free := I.free
  freeC := I.freeC
  pin := by
    intro p hp
    exact I.pin p (List.mem_append_left _ hp)
  hok := I.hok
  len := I.len
end
def wKeep (K : PySem.W.Frag) (c : Value) (i : Nat) (ts : Addr → Value → Option Addr → TS) (D : Ends) : WX := fun cls d σ H =>
  PySem.W.exmOne K cls c = some true ∧ ∀ a, H a = none → ts a cls d ⟨fun σ2 H2 => D.nx (σ2.set i none) H2, D.rt, fun σ2 H2 => D.bk (σ2.set i none) H2, fun σ2 H2 => D.ct (σ2.set i none) H2⟩ (σ.set i (some (.ref a))) (upd H a (ExX a cls d))
section
variable {X : Cx} {x n : Str} {c : Value} {i : Nat} {body more : List Stmt} {st0 : Stmt} {np pos pos2 : Pos} {tb : WX → TS} {ts : Addr → Value → Option Addr → TS}
theorem ps_try_keep (hst : X.stack = X.env :: X.outer) (hfm : X.env.frame = some X.env.locals) (hnd : X.N.Nodup) (hix : X.N[i]? = some n) (hkd : X.env.kindOf n = some .local) (hnm : Names X x c)
    (hbody : ∀ (W : WX) (pn : List (Addr × Obj)) (xe : Value → Shared → Prop), L2.Takes (X.tr pn xe) W → PassesOwn (model X.prog X.w) X.A X.env xe → PSs (X.tr pn xe) body (tb W))
    (hsuite : ∀ (a : Addr) (cls : Value) (d : Option Addr) (pn : List (Addr × Obj)), PSs (X.suite a pn) (st0 :: more) (ts a cls d)) :
    PS X (.Try body [.ExceptHandler (some (.Name x np)) (some n) (st0 :: more) pos2] [] [] pos) (fun D σ H => tb (wKeep X.K c i ts D) D σ H) := by
  refine ⟨fun pins s σ H D I hw => ?_⟩
  have oX := I.ok
  have frA := oX.frames.trans (congrArg some hst)
  have slot_n : Loc X.env.scope n := Or.inl hkd
  refine wpAny_Try_except ?_
  refine wpAny_mono ((hbody (wKeep X.K c i ts D) (X.pn ++ pins) (fun e r1 => wpAny (model X.prog X.w) X.A (noteFrame e X.env) (fun _ r2 => wpAny (model X.prog X.w) X.A (setFlight e none)
    (fun _ r3 => wpAny (model X.prog X.w) X.A (handleBy e X.env [.ExceptHandler (some (.Name x np)) (some n) (st0 :: more) pos2]) (SP X pins D) X.xe r3) X.xe r2) X.xe r1) ?grab PassesOwn.looking).run [] s σ H D (I.toTry _) hw) ?fin fun _ _ z => z
  case fin =>
    intro f r1 hf
    cases f with
    | next => exact let ⟨σ2, H2, J, q⟩ := hf; wpAny_execs_nil ⟨σ2, H2, J.ofTry oX, q⟩
    | brk => exact let ⟨σ2, H2, J, q⟩ := hf; ⟨σ2, H2, J.ofTry oX, q⟩
    | cont => exact let ⟨σ2, H2, J, q⟩ := hf; ⟨σ2, H2, J.ofTry oX, q⟩
    | ret u => exact let ⟨v, σ2, H2, J, r, q⟩ := hf; ⟨v, σ2, H2, J.ofTry oX, r, q⟩
  case grab =>
    rintro u t0 ⟨a, B, sI, pins2, σ2, H2, cls, d, rfl, I2, gr, up, sky, na, os, ag, hkind, hgo⟩
    have J := I2.ofTry oX
    have sky2 := sky
    rw [show (X.tr (X.pn ++ pins) _).stack = X.env :: X.outer from hst] at sky2
    show wpAny (model X.prog X.w) X.A (noteFrame (.ref a) X.env) _ _ _
    refine Sky.land Zc.steady frA hfm sky2 fun h3 fl3 up3 => ?_
    have track : ∀ h, HandSPX.FlyingZ B (X.env :: X.outer) a (Zc cls d) h → sI.heap.UpToSlots h → Inv X pins σ2 (upd H2 a (ExX a cls d)) { t0 with heap := h } := fun h fl u2 => by
      obtain ⟨oe, vs, he, hz, hd⟩ := fl.there
      refine inv_tracked (B := B) J gr fl.1 u2 os ag ?_ na (exX_ok ⟨oe, vs, he, hz, hd⟩)
      cases e : sI.heap.get? a with
      | none => rfl
      | some u3 =>
        exfalso
        by_cases hm : a ∈ frs X.stack
        · rw [hst] at hm
          obtain ⟨_, o4, e4, n4⟩ := fl.2.2.1.mem hm
          have e5 := he.symm.trans e4
          cases e5
          exact n4 _ hd
        · have e4 := gr a u3 e hm
          rw [fl.2.1] at e4
          cases e4
    obtain ⟨oe3, vs3, he3, hz3, _⟩ := fl3.there
    have S3 := inv_suite0 (track h3 fl3 (up.trans up3)) a
    refine wpAny_handleBy_cons (codeAny_handlers_test ?_) (by intro z; cases z)
    have kind3 : PySem.W.Looks (model X.prog X.w) h3 (typeOf (.ref a)) cls := by
      intro A Q E r k q
      refine wpAny_typeOf_ref (k _ _ he3) ?_
      rw [hz3.1]
      exact q
    have hit := PySem.W.exm_one (M := model X.prog X.w) S3.kIn kind3 hkind
    have named : ∀ {Q : Value → Shared → Prop} {E : Value → Shared → Prop}, Q c { t0 with heap := h3 } → wpAny (model X.prog X.w) (X.A.mark (some (.ref a))) (eval (.Name x np) X.env) Q E { t0 with heap := h3 } := fun {Q E} q => by
      rcases hnm with ⟨g1, g2, g3 | ⟨g3, g4, g5⟩⟩
      · exact ld_glob (X := X.suite a (X.pn ++ pins)) S3 g1 g3 q g2
      · exact ld_blt (X := X.suite a (X.pn ++ pins)) S3 g1 g3 g4 q g5 g2
    refine named (hit.here (codeAny_handlers_suite_as (HandSPX.lands_againZ fl3 fun h4 fl4 up4 => ?_)))
    have S4 := inv_suite0 (track h4 fl4 ((up.trans up3).trans up4)) a
    refine store_ok (X := X.suite a (X.pn ++ pins)) (v := .ref a) S4 hnd hix slot_n rfl (fun s5 S5 => ?_) (Or.inr hkd)
    refine wpAny_mono ((hsuite a cls d (X.pn ++ pins)).run [] s5 _ _ _ S5 (hgo a na)) (fun f s6 hf => ?_) fun _ _ z => z.elim
    have close : ∀ {σ6 : L2.St} {H6 : Hp} {Q : Shared → Prop}, Inv (X.suite a (X.pn ++ pins)) [] σ6 H6 s6 → (∀ s7, Inv X pins (σ6.set i none) H6 s7 → Q s7) →
        wpAny (model X.prog X.w) X.A (do bindName X.env n .none; unbindBehindTheSuite X.env n pos2) (fun _ s7 => Q s7) X.xe s6 := fun J6 hq => gone_ok (inv_unsuite0 J6 oX) hnd hix hkd hq
    cases f with
    | next => exact let ⟨σ6, H6, J6, q⟩ := hf; close J6 fun s7 J7 => ⟨_, _, J7, q⟩
    | brk => exact let ⟨σ6, H6, J6, q⟩ := hf; close J6 fun s7 J7 => ⟨_, _, J7, q⟩
    | cont => exact let ⟨σ6, H6, J6, q⟩ := hf; close J6 fun s7 J7 => ⟨_, _, J7, q⟩
    | ret u => exact let ⟨v6, σ6, H6, J6, r6, q⟩ := hf; close J6 fun s7 J7 => ⟨_, _, _, J7, r6, q⟩
def rIsX (K : PySem.W.Frag) (D : Addr) : List V → Hp → VK → Prop := fun xs H Q => ∃ (a : Addr) (y : V) (u : Value) (b : Bool), xs = [.ref a, y] ∧ H a = some (ExX a (.ref D) none) ∧ ClsV y u ∧ PySem.W.kitOne K (.ref D) u = some b ∧ Q (.bl b) H
theorem call_isX {D : Addr} (C : ExcC X.K D) : CallR X (.builtin "isinstance") (rIsX X.K D) := by
  intro pins s σ H xs us Q I r hq
  obtain ⟨a, y, u, b, rfl, ha, hy, hk, q⟩ := hq
  obtain ⟨u1, u2, rfl, r1, r2⟩ := vals2 r
  have e2 := hy.eq r2
  subst e2
  cases (show u1 = Value.ref a from r1)
  obtain ⟨⟨oe, vs, he, hz, hd⟩, _, _⟩ := I.hok a _ ha
  obtain ⟨oc, od, dt, sl⟩ := oe
  obtain ⟨z1, z2⟩ := hz
  dsimp only at z1 z2 hd
  subst z1 z2 hd
  have J : PySem.W.InstAt s.heap a _ D none := ⟨he, rfl, rfl, trivial⟩
  exact PySem.W.kia_one (PySem.W.handS_kitx_exc C.hg C.hk C.hs C.hd C.ha C.hn C.ht C.hm) I.kIn J hk (fun z => nomatch z) fun tk => ⟨.bl b, H, I.tok tk, rfl, q⟩
end
def rIsXT (K : PySem.W.Frag) (D : Addr) : List V → Hp → VK → Prop := fun xs H Q => ∃ (a tp : Addr) (ys : List V) (us : List Value) (b : Bool), xs = [.ref a, .ref tp] ∧ H a = some (ExX a (.ref D) none) ∧ H tp = some (.tup ys) ∧ Paired ClsV ys us ∧ PySem.W.kitAny K (.ref D) us = some b ∧ Q (.bl b) H
theorem call_isXT {X : Cx} {D : Addr} (C : ExcC X.K D) : CallR X (.builtin "isinstance") (rIsXT X.K D) := by
  intro pins s σ H xs us Q I r hq
  obtain ⟨a, tp, ys, cs, b, rfl, ha, ht, hy, hk, q⟩ := hq
  obtain ⟨u1, u2, rfl, r1, r2⟩ := vals2 r
  cases (show u2 = Value.ref tp from r2)
  cases (show u1 = Value.ref a from r1)
  obtain ⟨⟨oe, vs, he, hz, hd⟩, _, _⟩ := I.hok a _ ha
  obtain ⟨oc, od, dt, sl⟩ := oe
  obtain ⟨z1, z2⟩ := hz
  dsimp only at z1 z2 hd
  subst z1 z2 hd
  have J : PySem.W.InstAt s.heap a _ D none := ⟨he, rfl, rfl, trivial⟩
  obtain ⟨_, its, rv, o, h1, h2, n, h3⟩ := (show ObjOk X.prog X.w H s.heap tp (.tup ys) from I.hok tp _ ht)
  have e3 := ClsV.all hy rv
  subst e3
  obtain ⟨tc, td, tdt, tsl⟩ := o
  simp only at h2 h3
  subst h2 h3
  exact PySem.W.kia_tup (PySem.W.handS_kitx_exc C.hg C.hk C.hs C.hd C.ha C.hn C.ht C.hm) I.kIn J h1 hk (fun z => nomatch z) fun tk => ⟨.bl b, H, I.tok tk, rfl, q⟩
theorem kit_own {K : PySem.W.Frag} {C : Addr} {t : Value} {b : Bool} (h1 : PySem.W.hasDictIn K C = true) (h2 : PySem.W.typeIn K (.ref C) = some (.type "type")) (h3 : PySem.W.subIn K t (.ref C) = some b) (h4 : b = true ∨ (t == .ref C) = false) : PySem.W.kitOne K t (.ref C) = some b := by
  obtain ⟨cd, hc, _⟩ := PySem.W.any_some h1
  unfold PySem.W.kitOne
  split
  · rename_i e
    rcases h4 with rfl | h4
    · rfl
    · rw [h4] at e; cases e
  · show (if ((PySem.W.clsIn K C).isSome && PySem.W.typeIn K (.ref C) == some (.type "type")) = true then PySem.W.subIn K t (.ref C) else none) = some b
    rw [if_pos (by rw [hc, h2]; rfl), h3]
theorem kit_val {K : PySem.W.Frag} {D : Addr} (h : PySem.W.subIn K (.ref D) (.type "ValueError") = some true) : PySem.W.kitOne K (.ref D) (.type "ValueError") = some true := by
  have hm : PySem.W.kitMeta "ValueError" = true := by decide +kernel
  show (if (Value.ref D == Value.type "ValueError") = true then some true else if PySem.W.kitMeta "ValueError" = true then PySem.W.subIn K (.ref D) (.type "ValueError") else none) = some true
  rw [if_neg (by intro z; exact absurd (beq_iff_eq.mp z) (by simp)), if_pos hm, h]


def NoT (d : PyData) : Prop := ∀ W t, d = .str W → lread W.cps.toList ≠ some t
def sp_read_treeX (C Pt : Addr) (q : Str) : Sp := fun vs H Q E => ∃ (v : V) (d : PyData), vs = [v] ∧ Dt (fun _ => True) H v d ∧ LamX.TabS H Pt q ∧ (∀ W, d = .str W → W.length ≤ 5000) ∧
  (∀ W t, d = .str W → lread W.cps.toList = some t → ∀ r as H', Fr Pt H H' → LamX.TabS H' Pt q → TrO (fun b => H b = none) H' r t as → Q r H') ∧ (NoT d → ∀ H', Fr Pt H H' → LamX.TabS H' Pt q → E (.ref C) none H')
def sp__law_said (Pt : Addr) (q : Str) : Sp := fun vs H Q _ => ∃ (v : V) (d : PyData), vs = [v] ∧ Dt (fun _ => True) H v d ∧ LamX.TabS H Pt q ∧ (∀ W, d = .str W → W.length ≤ 5000) ∧
  (∀ W t, d = .str W → lread W.cps.toList = some t → ∀ r x as H', Fr Pt H H' → LamX.TabS H' Pt q → H' r = some (.tup [.str (Str.ofString "told"), x]) → TrO (fun b => H b = none) H' x t as → Q (.ref r) H') ∧
  (NoT d → ∀ r H', Fr Pt H H' → LamX.TabS H' Pt q → H' r = some (.tup [.str (Str.ofString "none"), .non]) → Q (.ref r) H')
section
variable {P : Program} {w : World} {K : PySem.W.Frag} {mg : Str → Option Value} {base : Heap}
theorem ok_read_treeX (T : Txt K mg) (B : Tbs T base) : FnOk P w K mg base (L2.CX P w) 10 T.f_read_tree T.d_read_tree ["text"] (sp_read_treeX T.C_NoText T.P__joined q__joined) := by
  have G__tree_read : FnOk P w K mg base CX0 2 T.f__tree_read T.d__tree_read ["text"] sp__tree_read := ok__tree_read T
  have G_written_tree : FnOk P w K mg base CX0 9 T.f_written_tree T.d_written_tree ["tree"] (sp_written_tree T.P__joined q__joined) := ok_written_tree T B
  refine T.F_read_tree.okX sc_read_tree (fun vs H Q E h => ?_) (fun cdv A outer s H vs Q E hr h => ?_)
  · obtain ⟨v, d, rfl, _⟩ := h
    rfl
  obtain ⟨v, d, rfl, ht, hT, hz, q1, q2⟩ := h
  refine ⟨_, (pss_cons (ps_set (i := 1) sc_read_tree.nd rfl (Or.inl rfl) (pe_ifExp (pt_val (pe_callB call_isi (by rfl) T.z_isinstance (by decide +kernel) (pa_cons (pv 0) (pa_cons (pe_bltn (v := .ty "str") (by rfl) T.z_str (by decide +kernel) rfl) pa_nil)))) (pe_call G__tree_read (hr.mono (by omega)) (by rfl) T.m__tree_read T.F__tree_read.kp T.b__tree_read .nil pass0 (pa_cons (pv 0) pa_nil)) pe_non)) (pss_cons (ps_if (PW.pt (pw_or (pt_cmpR op_isN (pv 1) pe_non (nomark _)) (pw_or1 (pt_cmpR op_ne (pe_call G_written_tree (hr.mono (by omega)) (by rfl) T.m_written_tree T.F_written_tree.kp T.b_written_tree .nil pass0 (pa_cons (pv 1) pa_nil)) (pv 0) (nomark _))))) (pss_one (ps_raise rfl (takes_of rfl rfl rfl rfl) (pmk_own PySem.F.excBase_ValueError T.x_NoText T.g_NoText T.k_NoText (raises_own T.b_NoText T.t_NoText) rfl))) pss_nil) (pss_one (ps_ret (pv 1))))), ?_⟩
  refine ⟨_, rfl, _, _, _, _, _, rfl, .ty "str", ht.ty, k_str d, _, rfl, ?_⟩
  cases hS : isStrD d with
  | false =>
    refine iteF ?_
    refine ⟨_, rfl, rfl, _, rfl, iteT (iteT ?_)⟩
    refine q2 (fun W t e _ => by rw [e] at hS; cases hS) _ (Fr.refl _ _) hT
  | true =>
    cases ht with
    | str W =>
      have hz1 := hz W rfl
      refine iteT ?_
      refine ⟨_, rfl, _, rfl, by omega, fun t ht' r as H1 s1 x1 n1 => ?_, fun hn H1 s1 => ?_⟩
      · have ht1 : TrAt (fun _ => True) H1 r t := (TrO.at _ _ _ x1).weak fun _ _ => trivial
        have hlt := TrAt.ltr _ _ ht1
        have hsz := pread_size ht'
        have hWl : W.cps.toList.length = W.length := Array.length_toList
        have hr : ∃ a, r = .ref a := by
          cases x1
          exact ⟨_, rfl⟩
        obtain ⟨a, rfl⟩ := hr
        refine ⟨_, rfl, rfl, _, rfl, ?_⟩
        rw [decide_eq_false (by intro e; cases e)]
        refine iteF ⟨_, rfl, _, t, rfl, ht1, by omega, hT.ext s1, fun H2 f2 T2 => ⟨_, rfl, rfl, _, rfl, ?_⟩⟩
        by_cases he : ws t.told = W
        · have hl : lread W.cps.toList = some t := lread_of hlt ht' (by rw [← he]; simp [ws])
          rw [he, decide_eq_true rfl]
          refine iteF ⟨_, rfl, ?_⟩
          obtain ⟨tb, hP, _, _⟩ := id hT
          exact q1 W t rfl hl _ as H2 ((Fr.same s1).trans f2) T2 (x1.keep fun b o k e => f2 b o (fun z => by rw [z, hP] at k; cases k) e)
        · rw [decide_eq_false (fun e => he (V.str.inj e))]
          refine iteT ?_
          refine q2 (fun W' t' e hl => ?_) _ ((Fr.same s1).trans f2) T2
          cases e
          obtain ⟨e1, e2⟩ := pread_of hl
          rw [ht'] at e1
          cases e1
          refine he ?_
          show (⟨t.told.wr.toArray⟩ : Str) = W
          rw [e2]
      · refine ⟨_, rfl, rfl, _, rfl, iteT (iteT ?_)⟩
        refine q2 (fun W' t' e hl => ?_) _ (Fr.same s1) (hT.ext s1)
        cases e
        have := (pread_of hl).1
        rw [hn] at this
        cases this
    | _ => cases hS
theorem ok__law_said (T : Txt K mg) (B : Tbs T base) : FnOk P w K mg base CX0 11 T.f__law_said T.d__law_said ["text"] (sp__law_said T.P__joined q__joined) := by
  have G_read_tree : FnOk P w K mg base (L2.CX P w) 10 T.f_read_tree T.d_read_tree ["text"] (sp_read_treeX T.C_NoText T.P__joined q__joined) := ok_read_treeX T B
  refine T.F__law_said.ok sc__law_said (fun vs H Q E h => ?_) (fun cdv A outer s H vs Q E hr h => ?_)
  · obtain ⟨v, d, rfl, _⟩ := h
    rfl
  obtain ⟨v, d, rfl, ht, hT, hz, q1, q2⟩ := h
  refine ⟨_, (pss_cons (ps_set (i := 1) sc__law_said.nd rfl (Or.inl rfl) pe_non) (pss_cons (ps_set (i := 2) sc__law_said.nd rfl (Or.inl rfl) pe_non) (pss_cons (ps_try_keep (i := 3) rfl rfl sc__law_said.nd rfl rfl ⟨rfl, by decide, .inl T.g_HeapError⟩ (fun W pn xe tk _ => (pss_one (ps_set (i := 1) sc__law_said.nd rfl (Or.inl rfl) (pe_callS G_read_tree (hr.mono (by omega)) (by rfl) T.m_read_tree T.F_read_tree.kp T.b_read_tree (fun σ => passAt tk σ) (pa_cons (pv 0) pa_nil))))) (fun a cls d pn => (pss_one (ps_set (i := 2) sc__law_said.nd rfl (Or.inl rfl) (pv 3))))) (pss_cons (ps_if (pt_cmpR op_isN (pv 2) pe_non (nomark _)) (pss_one (ps_ret (pe_tup (pa_cons pe_str (pa_cons (pv 1) pa_nil))))) pss_nil) (pss_cons (ps_if (pt_val (pe_callB (call_isXT T.E_NoText) (by rfl) T.z_isinstance (by decide +kernel) (pa_cons (pv 2) (pa_cons (pe_tup (pa_cons (pe_glob (v := .ref T.C_NoFit) rfl T.g_NoFit rfl) (pa_cons (pe_glob (v := .ref T.C_NoLetter) rfl T.g_NoLetter rfl) (pa_cons (pe_glob (v := .ref T.C_NoName) rfl T.g_NoName rfl) (pa_cons (pe_glob (v := .ref T.C_NoNumber) rfl T.g_NoNumber rfl) (pa_cons (pe_glob (v := .ref T.C_NoRow) rfl T.g_NoRow rfl) (pa_cons (pe_glob (v := .ref T.C_NoTree) rfl T.g_NoTree rfl) (pa_cons (pe_glob (v := .ref T.C_TooMany) rfl T.g_TooMany rfl) pa_nil)))))))) pa_nil)))) (pss_one (ps_ret (pe_tup (pa_cons pe_str (pa_cons pe_non pa_nil))))) pss_nil) (pss_one (ps_ret (pe_tup (pa_cons (pe_ix ix_list (pe_lst (pa_cons pe_str (pa_cons pe_str pa_nil))) (pe_callTy call_int1 (by rfl) T.z_int (by decide +kernel) (pa_cons (pe_and (pe_callB (call_isX T.E_NoText) (by rfl) T.z_isinstance (by decide +kernel) (pa_cons (pv 2) (pa_cons (pe_glob (v := .ref T.C_NoText) rfl T.g_NoText rfl) pa_nil))) (pe_one (pe_callB (call_isX T.E_NoText) (by rfl) T.z_isinstance (by decide +kernel) (pa_cons (pv 2) (pa_cons (pe_bltn (v := .ty "ValueError") (by rfl) T.z_ValueError (by decide +kernel) rfl) pa_nil))))) pa_nil)) (fun _ _ => rfl)) (pa_cons pe_non pa_nil)))))))))), ?_⟩
  refine ⟨_, rfl, v, d, rfl, ht, hT, hz, fun W t e hl r as H1 f1 T1 x1 => ?_, fun hn H1 f1 T1 => ⟨T.em_NoText_HeapError, fun a ha => ?_⟩⟩
  · refine ⟨_, rfl, rfl, _, rfl, ?_⟩
    rw [decide_eq_true rfl]
    refine iteT ⟨_, rfl, (by show 2 ≤ sizeLine; decide), fun r2 h2 => ?_⟩
    have s2 := same_new h2 (o := .tup [.str (Str.ofString "told"), r])
    exact q1 W t e hl r2 r as _ (f1.trans (Fr.same s2)) (T1.ext s2) upd_same (x1.same s2)
  · have s1 := same_new (o := ExX a (.ref T.C_NoText) none) ha
    refine ⟨_, rfl, _, rfl, rfl, _, rfl, ?_⟩
    rw [decide_eq_false (by intro e; cases e)]
    refine iteF ⟨_, rfl, (by show 7 ≤ sizeLine; decide), fun tp htp => ⟨a, tp, _, _, false, rfl, ?_, upd_same, .cons (.own _) (.cons (.own _) (.cons (.own _) (.cons (.own _) (.cons (.own _) (.cons (.own _) (.cons (.own _) .nil)))))), ?_, _, rfl, iteF ?_⟩⟩
    · exact same_new htp _ _ upd_same
    · show PySem.W.kitAny K (.ref T.C_NoText) [.ref T.C_NoFit, .ref T.C_NoLetter, .ref T.C_NoName, .ref T.C_NoNumber, .ref T.C_NoRow, .ref T.C_NoTree, .ref T.C_TooMany] = some false
      simp only [PySem.W.kitAny, T.ki_NoText_NoFit, T.ki_NoText_NoLetter, T.ki_NoText_NoName, T.ki_NoText_NoNumber, T.ki_NoText_NoRow, T.ki_NoText_NoTree, T.ki_NoText_TooMany]
    have s2 := same_new htp (o := .tup [.ref T.C_NoFit, .ref T.C_NoLetter, .ref T.C_NoName, .ref T.C_NoNumber, .ref T.C_NoRow, .ref T.C_NoTree, .ref T.C_TooMany])
    have ha2 := s2 _ _ (upd_same (H := H1) (a := a) (o := ExX a (.ref T.C_NoText) none))
    have S2 := s1.trans s2
    generalize upd (upd H1 a (ExX a (.ref T.C_NoText) none)) tp (.tup [.ref T.C_NoFit, .ref T.C_NoLetter, .ref T.C_NoName, .ref T.C_NoNumber, .ref T.C_NoRow, .ref T.C_NoTree, .ref T.C_TooMany]) = H2 at *
    refine ⟨(by show 2 ≤ sizeLine; decide), fun l hl => ?_⟩
    have s3 := same_new hl (o := .lst [.str (Str.ofString "odd"), .str (Str.ofString "none")])
    refine ⟨_, rfl, a, _, _, _, rfl, s3 _ _ ha2, .own _, T.ki_NoText_NoText, _, rfl, iteT ⟨_, rfl, a, _, _, _, rfl, s3 _ _ ha2, .ty _, T.ki_NoText_ValueError, .inr ⟨_, rfl, ?_⟩⟩⟩
    refine ⟨l, _, 1, _, rfl, rfl, SqL.of upd_same, atI_nat (j := 1) rfl, (by show 2 ≤ sizeLine; decide), fun r hr2 => ?_⟩
    have s4 := same_new hr2 (o := .tup [.str (Str.ofString "none"), .non])
    exact q2 hn r _ (f1.trans (Fr.same ((S2.trans s3).trans s4))) (((T1.ext S2).ext s3).ext s4) upd_same
end

def revS (z : Str) : Str := ⟨z.cps.toList.reverse.toArray⟩
def tRevS (te : TE) : TE := fun σ H Q => te σ H fun x H1 => ∃ z : Str, x = .str z ∧ z.length ≤ sizeLine ∧ Q (.str (revS z)) H1
theorem pe_revS {X : Cx} {e : PySem.Expr} {te : TE} {k : Nat} {p1 p2 p3 pos : Pos} (he : PE X e te) : PE X (.Subscript e (.Slice none none (some (.UnaryOp .USub (.Constant (.int 1) k p1) p2)) p3) pos) (tRevS te) := by
  refine ⟨fun pins s σ H Q I h => ?_⟩
  refine Subscript_ (thn (he.run pins s σ H _ I h) fun v s1 ⟨x, H1, I1, r1, z, ex, hz, q⟩ => ?_)
  subst ex
  obtain ⟨t, rfl⟩ := r1
  have step : PO X (some (.UnaryOp .USub (.Constant (.int 1) k p1) p2)) (tPart (tUn (rU fun i => .int (-i)) (tC (.int 1)))) := po_some (pe_un un_neg pe_int)
  refine wpAny_Slice (thn (po_none.run pins s1 σ H1 (fun o H2 => o = none ∧ H2 = H1) I1 ⟨rfl, rfl⟩) fun v1 s2 ⟨o1, H2, I2, g1, f1, f2⟩ => ?_)
  subst f1 f2
  refine thn (po_none.run pins s2 σ H2 (fun o H3 => o = none ∧ H3 = H2) I2 ⟨rfl, rfl⟩) fun v2 s3 ⟨o2, H3, I3, g2, f3, f4⟩ => ?_
  subst f3 f4
  refine thn (step.run pins s3 σ H3 (fun o H4 => o = some (-1) ∧ H4 = H3) I3 ⟨1, rfl, -1, rfl, rfl, rfl⟩) fun v3 s4 ⟨o3, H4, I4, g3, f5, f6⟩ => ?_
  subst f5 f6
  obtain ⟨l, rfl, el⟩ := IsPart.raw g1
  obtain ⟨u, rfl, eu⟩ := IsPart.raw g2
  obtain ⟨st, rfl, es⟩ := IsPart.raw g3
  have I5 : Inv X pins σ H4 { s4 with heap := s4.heap.push { cls := .type "slice", data := .fields #[partValue l, partValue u, partValue st] } } := I4.kept (t' := s4.toks) fun b ob q => Heap.get?_push_of_some _ q
  show wpAny (model X.prog X.w) X.A (subscriptTail e (.Slice none none (some (.UnaryOp .USub (.Constant (.int 1) k p1) p2)) p3) (.str z t) (.ref s4.heap.objs.size)) (EP X pins σ Q) X.xe { s4 with heap := s4.heap.push { cls := .type "slice", data := .fields #[partValue l, partValue u, partValue st] } }
  refine tail_any (ops := [.str z t, .ref s4.heap.objs.size]) (typeIs_str _ _ _) PySem.F.slot_str_getitem.lookup ?_ (by with_unfolding_all rfl)
  refine wpAny_getItem_str_slice (l := l) (u := u) (st := st) ⟨_, Heap.get?_push_size _ rfl, rfl, rfl⟩ (by rw [es]; rfl) ?_
  have ep : slicePicked z l u st = (List.range z.length).reverse := by
    unfold slicePicked
    rw [el, eu, es]
    show Builtin.Str.strSliceIndices none none (-1) z.length = _
    rw [PyProof.Rows.picked_rev, PySem.W.krv_range]
  have em : sliceMade z t l u st = .str (revS z) := by
    unfold sliceMade
    rw [es, ep, if_neg (by simp), List.filterMap_reverse]
    have e : (List.range z.length).filterMap (z.cps[·]?) = z.cps.toList := PySem.W.krv_all z.cps
    rw [e]
    rfl
  rw [em]
  have hl : (revS z).length ≤ sizeLine := by
    show (z.cps.toList.reverse.toArray).size ≤ sizeLine
    rw [List.size_toArray, List.length_reverse, Array.length_toList]
    exact hz
  exact ⟨hl, .str _, H4, I5.tok _, ⟨_, rfl⟩, q⟩


def Sz (z : Str) (n m : Nat) : Prop := z.length ≤ n ∧ z.cps.toList.count 40 ≤ m
theorem Sz.mono {z : Str} {n m n' m' : Nat} (h : Sz z n m) (a : n ≤ n') (b : m ≤ m') : Sz z n' m' := ⟨Nat.le_trans h.1 a, Nat.le_trans h.2 b⟩
theorem Sz.add {x y : Str} {a b c d : Nat} (h : Sz x a b) (k : Sz y c d) : Sz (x ++ y) (a + c) (b + d) := by
  refine ⟨?_, ?_⟩
  · show (x.cps ++ y.cps).size ≤ _
    rw [Array.size_append]
    exact Nat.add_le_add h.1 k.1
  · show (x.cps ++ y.cps).toList.count 40 ≤ _
    rw [Array.toList_append, List.count_append]
    exact Nat.add_le_add h.2 k.2
theorem Sz.cut {x : Str} {a b : Nat} (h : Sz x a b) (lo hi : Option Int) : Sz (cutS x lo hi) a b := by
  refine ⟨Nat.le_trans (cutS_length x lo hi) h.1, Nat.le_trans ?_ h.2⟩
  show (((x.cps.toList.drop (HT.sIx x.length 0 lo)).take (HT.sIx x.length x.length hi - HT.sIx x.length 0 lo)).toArray).toList.count 40 ≤ _
  rw [List.toList_toArray]
  exact ((List.take_sublist _ _).trans (List.drop_sublist _ _)).count_le _
theorem Sz.rev {x : Str} {a b : Nat} (h : Sz x a b) : Sz (revS x) a b := by
  refine ⟨?_, ?_⟩
  · show (x.cps.toList.reverse.toArray).size ≤ a
    rw [List.size_toArray, List.length_reverse, Array.length_toList]
    exact h.1
  · show (x.cps.toList.reverse.toArray).toList.count 40 ≤ b
    rw [List.toList_toArray, List.count_reverse]
    exact h.2
theorem Sz.one (c : Nat) : Sz ⟨#[c]⟩ 1 1 := ⟨Nat.le_refl _, by
  show ([c] : List Nat).count 40 ≤ 1
  have := List.count_le_length (a := 40) (l := [c])
  simpa using this⟩
theorem Sz.cutN {x : Str} {a k : Nat} : Sz (cutS x (some (a : Int)) (some ((a : Int) + (k : Int)))) k k := by
  have hl : (cutS x (some (a : Int)) (some ((a : Int) + (k : Int)))).cps.toList.length ≤ k := by
    show (((x.cps.toList.drop (HT.sIx x.length 0 (some (a : Int)))).take (HT.sIx x.length x.length (some ((a : Int) + (k : Int))) - HT.sIx x.length 0 (some (a : Int)))).toArray).toList.length ≤ k
    rw [List.toList_toArray, List.length_take, show ((a : Int) + (k : Int)) = ((a + k : Nat) : Int) by omega, HT.sIx_nat, HT.sIx_nat]
    omega
  exact ⟨by rw [Array.length_toList] at hl; exact hl, Nat.le_trans List.count_le_length hl⟩
theorem Sz.lit {x : Str} {n : Nat} (h : x.length ≤ n) : Sz x n n := ⟨h, Nat.le_trans List.count_le_length (by rw [Array.length_toList]; exact h)⟩
def sp__law_spoilt : Sp := fun vs H Q _ => ∃ (p : Addr) (X : Str) (n : Nat), vs = [.ref p, .str X] ∧ Sto H p n ∧ n + 10 < 1000000 ∧ Sz X 400 44 ∧
  ∀ Y H', Fr p H H' → Sto H' p (n + 5) → Sz Y 2000 95 → Q (.str Y) H'
section
variable {P : Program} {w : World} {K : PySem.W.Frag} {mg : Str → Option Value} {base : Heap}
theorem ok__law_spoilt (T : Txt K mg) : FnOk P w K mg base CX0 2 T.f__law_spoilt T.d__law_spoilt ["store", "text"] sp__law_spoilt := by
  have G__law_take : FnOk P w K mg base CX0 1 T.f__law_take T.d__law_take ["store", "many"] sp__law_take := ok__law_take T
  refine T.F__law_spoilt.ok sc__law_spoilt (fun vs H Q E h => ?_) (fun cdv A outer s H vs Q E hr h => ?_)
  · obtain ⟨p, X, n, rfl, _⟩ := h
    rfl
  obtain ⟨p, X, n, rfl, hp, hn, hX, q⟩ := h
  refine ⟨_, (pss_cons (ps_set (i := 2) sc__law_spoilt.nd rfl (Or.inl rfl) (pe_call G__law_take (hr.mono (by omega)) (by rfl) T.m__law_take T.F__law_take.kp T.b__law_take .nil pass0 (pa_cons (pv 0) (pa_cons pe_int pa_nil)))) (pss_cons (ps_set (i := 3) sc__law_spoilt.nd rfl (Or.inl rfl) (pe_call G__law_take (hr.mono (by omega)) (by rfl) T.m__law_take T.F__law_take.kp T.b__law_take .nil pass0 (pa_cons (pv 0) (pa_cons (pe_op op_add (pe_callB call_len_str (by rfl) T.z_len PySem.boot_len (pa_cons (pv 1) pa_nil)) pe_int) pa_nil)))) (pss_cons (ps_set (i := 4) sc__law_spoilt.nd rfl (Or.inl rfl) (pe_ix ix_str pe_str (pe_call G__law_take (hr.mono (by omega)) (by rfl) T.m__law_take T.F__law_take.kp T.b__law_take .nil pass0 (pa_cons (pv 0) (pa_cons pe_int pa_nil))) (fun _ _ => rfl))) (pss_cons (ps_if (pt_cmpR op_eq (pv 2) pe_int (nomark _)) (pss_one (ps_ret (pe_op op_add_str (pe_slice sl_str (pv 1) po_none (po_some (pv 3))) (pe_slice sl_str (pv 1) (po_some (pe_op op_add (pv 3) pe_int)) po_none)))) pss_nil) (pss_cons (ps_if (pt_cmpR op_eq (pv 2) pe_int (nomark _)) (pss_one (ps_ret (pe_op op_add_str (pe_op op_add_str (pe_slice sl_str (pv 1) po_none (po_some (pv 3))) (pv 4)) (pe_slice sl_str (pv 1) (po_some (pv 3)) po_none)))) pss_nil) (pss_cons (ps_if (pt_cmpR op_eq (pv 2) pe_int (nomark _)) (pss_one (ps_ret (pe_op op_add_str (pe_op op_add_str (pe_slice sl_str (pv 1) po_none (po_some (pv 3))) (pv 4)) (pe_slice sl_str (pv 1) (po_some (pe_op op_add (pv 3) pe_int)) po_none)))) pss_nil) (pss_cons (ps_if (pt_cmpR op_eq (pv 2) pe_int (nomark _)) (pss_one (ps_ret (pe_op op_add_str (pe_op op_add_str (pe_slice sl_str (pv 1) po_none (po_some (pv 3))) (pe_revS (pe_slice sl_str (pv 1) (po_some (pv 3)) (po_some (pe_op op_add (pv 3) pe_int))))) (pe_slice sl_str (pv 1) (po_some (pe_op op_add (pv 3) pe_int)) po_none)))) pss_nil) (pss_cons (ps_if (pt_cmpR op_eq (pv 2) pe_int (nomark _)) (pss_one (ps_ret (pe_op op_add_str (pe_op op_add_str (pe_slice sl_str (pv 1) po_none (po_some (pv 3))) (pe_slice sl_str (pv 1) (po_some (pv 3)) (po_some (pe_op op_add (pv 3) pe_int)))) (pe_slice sl_str (pv 1) (po_some (pv 3)) po_none)))) pss_nil) (pss_cons (ps_if (pt_cmpR op_eq (pv 2) pe_int (nomark _)) (pss_one (ps_ret (pe_op op_add_str (pv 1) (pe_ix ix_list (pe_lst (pa_cons pe_str (pa_cons pe_str (pa_cons pe_str (pa_cons pe_str (pa_cons pe_str (pa_cons pe_str pa_nil))))))) (pe_call G__law_take (hr.mono (by omega)) (by rfl) T.m__law_take T.F__law_take.kp T.b__law_take .nil pass0 (pa_cons (pv 0) (pa_cons pe_int pa_nil))) (fun _ _ => rfl))))) pss_nil) (pss_cons (ps_if (pt_cmpR op_eq (pv 2) pe_int (nomark _)) (pss_one (ps_ret (pe_op op_add_str (pe_ix ix_list (pe_lst (pa_cons pe_str (pa_cons pe_str (pa_cons pe_str (pa_cons pe_str (pa_cons pe_str pa_nil)))))) (pe_call G__law_take (hr.mono (by omega)) (by rfl) T.m__law_take T.F__law_take.kp T.b__law_take .nil pass0 (pa_cons (pv 0) (pa_cons pe_int pa_nil))) (fun _ _ => rfl)) (pv 1)))) pss_nil) (pss_cons (ps_if (pt_cmpR op_eq (pv 2) pe_int (nomark _)) (pss_one (ps_ret (pe_op op_add_str (pv 1) (pv 1)))) pss_nil) (pss_one (ps_ret (pv 1)))))))))))))), ?_⟩
  have big : ∀ n : Nat, n ≤ 3000010 → n ≤ sizeLine := fun n h => Nat.le_trans h (by decide)
  have bX : X.length ≤ sizeLine := big _ (Nat.le_trans hX.1 (by decide))
  refine ⟨_, rfl, p, 9, n, rfl, hp, by omega, by decide, by decide, fun kd H1 k0 k1 c1 p1 => ?_⟩
  have hX1 := hX.1
  refine ⟨_, rfl, _, rfl, X, rfl, bX, _, _, rfl, rfl, p, _, _, rfl, p1, by omega, by omega, by omega, fun at1 H2 a0 a1 c2 p2 => ?_⟩
  refine ⟨_, rfl, p, 14, _, rfl, p2, by omega, by decide, by decide, fun sg H3 s0 s1 c3 p3 => ?_⟩
  have F3 := ((Fr.chg c1).trans (Fr.chg c2)).trans (Fr.chg c3)
  obtain ⟨sc, hsc⟩ : ∃ sc, atI (Str.ofString "abz(()) A1,.w\t").cps.toList sg = some sc := by
    have e : (Str.ofString "abz(()) A1,.w\t").cps.toList.length = 14 := by decide +kernel
    obtain ⟨j, hj⟩ : ∃ j : Nat, sg = (j : Int) := ⟨sg.toNat, by omega⟩
    subst hj
    exact ⟨_, atI_nat (List.getElem?_eq_getElem (by omega))⟩
  refine ⟨_, sg, sc, rfl, rfl, by decide +kernel, hsc, ?_⟩
  have hS := Sz.one sc
  have fin : ∀ Y H', Fr p H3 H' → Sto H' p (n + 5) → Sz Y 2000 95 → Q (.str Y) H' := fun Y H' f st z => q Y H' (F3.trans f) st z
  have p3' : Sto H3 p (n + 5) := p3.mono (by omega)
  obtain ⟨an, ha⟩ : ∃ an : Nat, at1 = (an : Int) := ⟨at1.toNat, by omega⟩
  subst ha
  have szl : ∀ {x y : Str} {a b c d : Nat}, Sz x a b → Sz y c d → a + c ≤ 3000010 → x.length + y.length ≤ sizeLine := fun h k l => big _ (by have := h.1; have := k.1; omega)
  have C : ∀ lo hi, Sz (cutS X lo hi) 400 44 := fun lo hi => hX.cut lo hi
  have e2 : ((an : Int) + 2) = ((an : Int) + ((2 : Nat) : Int)) := rfl
  have e4 : ((an : Int) + 4) = ((an : Int) + ((4 : Nat) : Int)) := rfl
  have C2 : Sz (cutS X (some (an : Int)) (some ((an : Int) + 2))) 2 2 := Sz.cutN
  have C4 : Sz (cutS X (some (an : Int)) (some ((an : Int) + 4))) 4 4 := Sz.cutN
  refine ⟨_, rfl, rfl, _, rfl, ite2 (fun _ => ?_) fun _ => ?_⟩
  · exact ⟨_, rfl, _, rfl, _, rfl, X, rfl, bX, _, rfl, _, rfl, _, _, rfl, rfl, _, rfl, X, rfl, bX, _, _, rfl, rfl, szl (C _ _) (C _ _) (by decide), fin _ _ (Fr.refl _ _) p3' (((C _ _).add (C _ _)).mono (by decide) (by decide))⟩
  refine ⟨_, rfl, rfl, _, rfl, ite2 (fun _ => ?_) fun _ => ?_⟩
  · exact ⟨_, rfl, _, rfl, _, rfl, X, rfl, bX, _, rfl, _, _, rfl, rfl, szl (C _ _) hS (by decide), _, rfl, _, rfl, _, rfl, X, rfl, bX, _, _, rfl, rfl, szl ((C _ _).add hS) (C _ _) (by decide), fin _ _ (Fr.refl _ _) p3' ((((C _ _).add hS).add (C _ _)).mono (by decide) (by decide))⟩
  refine ⟨_, rfl, rfl, _, rfl, ite2 (fun _ => ?_) fun _ => ?_⟩
  · exact ⟨_, rfl, _, rfl, _, rfl, X, rfl, bX, _, rfl, _, _, rfl, rfl, szl (C _ _) hS (by decide), _, rfl, _, rfl, _, _, rfl, rfl, _, rfl, X, rfl, bX, _, _, rfl, rfl, szl ((C _ _).add hS) (C _ _) (by decide), fin _ _ (Fr.refl _ _) p3' ((((C _ _).add hS).add (C _ _)).mono (by decide) (by decide))⟩
  refine ⟨_, rfl, rfl, _, rfl, ite2 (fun _ => ?_) fun _ => ?_⟩
  · refine ⟨_, rfl, _, rfl, _, rfl, X, rfl, bX, _, rfl, _, rfl, _, rfl, _, rfl, _, _, rfl, rfl, _, rfl, X, rfl, bX, _, rfl, Nat.le_trans C2.1 (by decide), ?_⟩
    exact ⟨_, _, rfl, rfl, szl (C _ _) C2.rev (by decide), _, rfl, _, rfl, _, _, rfl, rfl, _, rfl, X, rfl, bX, _, _, rfl, rfl, szl ((C _ _).add C2.rev) (C _ _) (by decide), fin _ _ (Fr.refl _ _) p3' ((((C _ _).add C2.rev).add (C _ _)).mono (by decide) (by decide))⟩
  refine ⟨_, rfl, rfl, _, rfl, ite2 (fun _ => ?_) fun _ => ?_⟩
  · refine ⟨_, rfl, _, rfl, _, rfl, X, rfl, bX, _, rfl, _, rfl, _, rfl, _, rfl, _, _, rfl, rfl, _, rfl, X, rfl, bX, ?_⟩
    exact ⟨_, _, rfl, rfl, szl (C _ _) C4 (by decide), _, rfl, _, rfl, _, rfl, X, rfl, bX, _, _, rfl, rfl, szl ((C _ _).add C4) (C _ _) (by decide), fin _ _ (Fr.refl _ _) p3' ((((C _ _).add C4).add (C _ _)).mono (by decide) (by decide))⟩
  refine ⟨_, rfl, rfl, _, rfl, ite2 (fun _ => ?_) fun _ => ?_⟩
  · refine ⟨_, rfl, (by show 6 ≤ sizeLine; decide), fun l hl => ?_⟩
    have nl := p3.ne hl
    refine ⟨_, rfl, p, 6, _, rfl, p3.new hl, by omega, by decide, by decide, fun r H4 r0 r1 c4 p4 => ?_⟩
    have hl4 := c4.at (upd_same (o := .lst [.str (Str.ofString "a"), .str (Str.ofString ")"), .str (Str.ofString "()"), .str (Str.ofString " "), .str (Str.ofString "("), .str (Str.ofString "\n")])) nl
    obtain ⟨S, hat, hsz⟩ : ∃ S : Str, atI [V.str (Str.ofString "a"), V.str (Str.ofString ")"), V.str (Str.ofString "()"), V.str (Str.ofString " "), V.str (Str.ofString "("), V.str (Str.ofString "\n")] r = some (.str S) ∧ Sz S 2 2 := by
      obtain rfl | rfl | rfl | rfl | rfl | rfl : r = 0 ∨ r = 1 ∨ r = 2 ∨ r = 3 ∨ r = 4 ∨ r = 5 := by omega
      · exact ⟨_, atI_nat (j := 0) rfl, .lit (by decide +kernel)⟩
      · exact ⟨_, atI_nat (j := 1) rfl, .lit (by decide +kernel)⟩
      · exact ⟨_, atI_nat (j := 2) rfl, .lit (by decide +kernel)⟩
      · exact ⟨_, atI_nat (j := 3) rfl, .lit (by decide +kernel)⟩
      · exact ⟨_, atI_nat (j := 4) rfl, .lit (by decide +kernel)⟩
      · exact ⟨_, atI_nat (j := 5) rfl, .lit (by decide +kernel)⟩
    exact ⟨l, _, r, _, rfl, rfl, SqL.of hl4, hat, _, _, rfl, rfl, szl hX hsz (by decide), fin _ _ ((Fr.same (same_new hl)).trans (Fr.chg c4)) (p4.mono (by omega)) ((hX.add hsz).mono (by decide) (by decide))⟩
  refine ⟨_, rfl, rfl, _, rfl, ite2 (fun _ => ?_) fun _ => ?_⟩
  · refine ⟨(by show 5 ≤ sizeLine; decide), fun l hl => ?_⟩
    have nl := p3.ne hl
    refine ⟨_, rfl, p, 5, _, rfl, p3.new hl, by omega, by decide, by decide, fun r H4 r0 r1 c4 p4 => ?_⟩
    have hl4 := c4.at (upd_same (o := .lst [.str (Str.ofString "a"), .str (Str.ofString "("), .str (Str.ofString " "), .str (Str.ofString "()"), .str (Str.ofString "b(")])) nl
    obtain ⟨S, hat, hsz⟩ : ∃ S : Str, atI [V.str (Str.ofString "a"), V.str (Str.ofString "("), V.str (Str.ofString " "), V.str (Str.ofString "()"), V.str (Str.ofString "b(")] r = some (.str S) ∧ Sz S 2 2 := by
      obtain rfl | rfl | rfl | rfl | rfl : r = 0 ∨ r = 1 ∨ r = 2 ∨ r = 3 ∨ r = 4 := by omega
      · exact ⟨_, atI_nat (j := 0) rfl, .lit (by decide +kernel)⟩
      · exact ⟨_, atI_nat (j := 1) rfl, .lit (by decide +kernel)⟩
      · exact ⟨_, atI_nat (j := 2) rfl, .lit (by decide +kernel)⟩
      · exact ⟨_, atI_nat (j := 3) rfl, .lit (by decide +kernel)⟩
      · exact ⟨_, atI_nat (j := 4) rfl, .lit (by decide +kernel)⟩
    exact ⟨l, _, r, _, rfl, rfl, SqL.of hl4, hat, _, rfl, _, _, rfl, rfl, szl hsz hX (by decide), fin _ _ ((Fr.same (same_new hl)).trans (Fr.chg c4)) (p4.mono (by omega)) ((hsz.add hX).mono (by decide) (by decide))⟩
  refine ⟨_, rfl, rfl, _, rfl, ite2 (fun _ => ?_) fun _ => ?_⟩
  · exact ⟨_, rfl, _, rfl, _, _, rfl, rfl, szl hX hX (by decide), fin _ _ (Fr.refl _ _) p3' ((hX.add hX).mono (by decide) (by decide))⟩
  · exact ⟨_, rfl, fin _ _ (Fr.refl _ _) p3' (hX.mono (by decide) (by decide))⟩
end


def rMulS : R2 := fun x y H Q => ∃ (z : Str) (n : Int), x = .str z ∧ y = .int n ∧ MulOk z n ∧ Q (.str (Txt.mul z n)) H
theorem op_mulS {X : Cx} : OpR X (binaryOp .Mult) rMulS := by
  intro pins s σ H x y v u Q I rx ry h
  obtain ⟨z, n, rfl, rfl, ok, q⟩ := h
  obtain ⟨t, rfl⟩ := rx
  obtain ⟨t2, rfl⟩ := ry
  exact PySem.SB.mul ok fun t' k => ⟨.str _, H, I.tok k, ⟨_, rfl⟩, q⟩
theorem fold_sz {c : Array Nat} {a b : Nat} (h1 : c.size ≤ a) (h2 : c.toList.count 40 ≤ b) : ∀ (m : Nat) (acc : Array Nat) (A B : Nat), acc.size ≤ A → acc.toList.count 40 ≤ B → ((List.replicate m c).foldl (· ++ ·) acc).size ≤ A + m * a ∧ ((List.replicate m c).foldl (· ++ ·) acc).toList.count 40 ≤ B + m * b
  | 0, acc, A, B, h3, h4 => by
    rw [List.replicate_zero, List.foldl_nil]
    exact ⟨by omega, by omega⟩
  | m + 1, acc, A, B, h3, h4 => by
    rw [List.replicate_succ, List.foldl_cons]
    obtain ⟨g1, g2⟩ := fold_sz h1 h2 m (acc ++ c) (A + a) (B + b) (by rw [Array.size_append]; omega) (by rw [Array.toList_append, List.count_append]; omega)
    refine ⟨Nat.le_trans g1 ?_, Nat.le_trans g2 ?_⟩
    · rw [Nat.succ_mul]; omega
    · rw [Nat.succ_mul]; omega
theorem Sz.mul {x : Str} {a b : Nat} (h : Sz x a b) (n : Nat) (hn : 1 ≤ n) : Sz (Txt.mul x (n : Int)) (n * a) (n * b) := by
  unfold Txt.mul
  rw [if_neg (by omega)]
  have m1 : a ≤ n * a := Nat.le_mul_of_pos_left a hn
  have m2 : b ≤ n * b := Nat.le_mul_of_pos_left b hn
  split
  · exact h.mono m1 m2
  · have := fold_sz h.1 h.2 n #[] 0 0 (Nat.le_refl _) (Nat.le_refl _)
    exact ⟨Nat.le_trans this.1 (by omega), Nat.le_trans this.2 (by omega)⟩
def odd1 : List Str := ["", " ", "a", "A", "ab", "a()", "a(b)", "(a)", "a(b", "a b", "a(c b)", "a(cb)", "a(bc)", "a(b,c)", "aa(a)"].map Str.ofString
def odd2 : List Str := ["a(a(a(a)))", "a((b))", "a(b)(c)", "a(b(c)b)", "a(bb(c))", "a)("].map Str.ofString
def odd3 : List Str := ["a(b))", "1", "a(\n)", "a[b]", "a(b())"].map Str.ofString
theorem odd_short : ∀ s ∈ odd1 ++ odd2 ++ odd3, s.length ≤ 20 := by decide +kernel
theorem dt_strs {ok : Addr → Prop} {H : Hp} : ∀ xs : List Str, DtAll ok H (xs.map V.str) (xs.map PyData.str)
  | [] => .nil
  | x :: r => .cons (.str _) (dt_strs r)
theorem DtAll.app {ok : Addr → Prop} {H : Hp} : ∀ {vs us : List V} {ds es : List PyData}, DtAll ok H vs ds → DtAll ok H us es → DtAll ok H (vs ++ us) (ds ++ es)
  | _, _, _, _, .nil, y => y
  | _, _, _, _, .cons a b, y => .cons a (DtAll.app b y)
def SzD (d : PyData) : Prop := ∀ W, d = .str W → Sz W 5000 95
def sp__law_odd : Sp := fun vs H Q _ => ∃ (p : Addr) (n : Nat), vs = [.ref p] ∧ Sto H p n ∧ n + 10 < 1000000 ∧ ∀ v d H', Fr p H H' → Sto H' p (n + 2) → Dt (fun b => b ≠ p) H' v d → SzD d → Q v H'
section
variable {P : Program} {w : World} {K : PySem.W.Frag} {mg : Str → Option Value} {base : Heap}
theorem ok__law_odd (T : Txt K mg) : FnOk P w K mg base CX0 2 T.f__law_odd T.d__law_odd ["store"] sp__law_odd := by
  have G__law_take : FnOk P w K mg base CX0 1 T.f__law_take T.d__law_take ["store", "many"] sp__law_take := ok__law_take T
  refine T.F__law_odd.ok sc__law_odd (fun vs H Q E h => ?_) (fun cdv A outer s H vs Q E hr h => ?_)
  · obtain ⟨p, n, rfl, _⟩ := h
    rfl
  obtain ⟨p, n, rfl, hp, hn, q⟩ := h
  refine ⟨_, (pss_cons (ps_set (i := 1) sc__law_odd.nd rfl (Or.inl rfl) (pe_lst (pa_cons pe_str (pa_cons pe_str (pa_cons pe_str (pa_cons pe_str (pa_cons pe_str (pa_cons pe_str (pa_cons pe_str (pa_cons pe_str (pa_cons pe_str (pa_cons pe_str (pa_cons pe_str (pa_cons pe_str (pa_cons pe_str (pa_cons pe_str (pa_cons pe_str pa_nil))))))))))))))))) (pss_cons (ps_set (i := 1) sc__law_odd.nd rfl (Or.inl rfl) (pe_op op_cat (pv 1) (pe_lst (pa_cons pe_str (pa_cons pe_str (pa_cons pe_str (pa_cons pe_str (pa_cons pe_str (pa_cons pe_str pa_nil))))))))) (pss_cons (ps_set (i := 1) sc__law_odd.nd rfl (Or.inl rfl) (pe_op op_cat (pv 1) (pe_lst (pa_cons pe_str (pa_cons pe_str (pa_cons pe_str (pa_cons pe_str (pa_cons pe_str pa_nil)))))))) (pss_cons (ps_set (i := 2) sc__law_odd.nd rfl (Or.inl rfl) (pe_ix ix_list (pe_lst (pa_cons (pe_op op_mulS pe_str pe_int) (pa_cons (pe_op op_add_str (pe_op op_mulS pe_str pe_int) pe_str) (pa_cons (pe_op op_mulS pe_str pe_int) (pa_cons (pe_op op_mulS pe_str pe_int) (pa_cons (pe_op op_mulS pe_str pe_int) pa_nil)))))) (pe_call G__law_take (hr.mono (by omega)) (by rfl) T.m__law_take T.F__law_take.kp T.b__law_take .nil pass0 (pa_cons (pv 0) (pa_cons pe_int pa_nil))) (fun _ _ => rfl))) (pss_cons (ps_set (i := 3) sc__law_odd.nd rfl (Or.inl rfl) (pe_lst (pa_cons pe_non (pa_cons pe_int (pa_cons pe_bl (pa_cons (pe_lst (pa_cons pe_str pa_nil)) (pa_cons (pe_tup (pa_cons pe_str (pa_cons (pe_lst pa_nil) pa_nil))) (pa_cons pe_dnewK (pa_cons pe_int pa_nil))))))))) (pss_one (ps_ret (pe_ix ix_list (pe_op op_cat (pe_op op_cat (pv 1) (pe_lst (pa_cons (pv 2) (pa_cons (pe_op op_add_str (pe_op op_add_str (pe_op op_mulS pe_str pe_int) pe_str) (pe_op op_mulS pe_str pe_int)) pa_nil)))) (pv 3)) (pe_call G__law_take (hr.mono (by omega)) (by rfl) T.m__law_take T.F__law_take.kp T.b__law_take .nil pass0 (pa_cons (pv 0) (pa_cons pe_int pa_nil))) (fun _ _ => rfl))))))))), ?_⟩
  have big : ∀ n : Nat, n ≤ 3000010 → n ≤ sizeLine := fun n h => Nat.le_trans h (by decide)
  have szl : ∀ {x y : Str} {a b c d : Nat}, Sz x a b → Sz y c d → a + c ≤ 3000010 → x.length + y.length ≤ sizeLine := fun h k l => big _ (by have := h.1; have := k.1; omega)
  refine ⟨(by show 15 ≤ sizeLine; decide), fun l1 h1 => ?_⟩
  have k1 : (upd H l1 (.lst (odd1.map V.str))) l1 = some (.lst (odd1.map V.str)) := upd_same
  have s1 : Same H (upd H l1 (.lst (odd1.map V.str))) := same_new h1
  show gName 1 (V.ref l1) _ (upd H l1 (.lst (odd1.map V.str))) _
  generalize upd H l1 (.lst (odd1.map V.str)) = H1 at *
  refine ⟨_, rfl, (by show 6 ≤ sizeLine; decide), fun l2 h2 => ?_⟩
  have s2 := same_new h2 (o := .lst (odd2.map V.str))
  refine ⟨l1, l2, odd1.map V.str, odd2.map V.str, rfl, rfl, s2 _ _ k1, upd_same, (by show 21 ≤ sizeLine; decide), fun l3 h3 => ?_⟩
  have s3 : Same (upd H1 l2 (.lst (odd2.map V.str))) (upd (upd H1 l2 (.lst (odd2.map V.str))) l3 (.lst (odd1.map V.str ++ odd2.map V.str))) := same_new h3
  have k3 : (upd (upd H1 l2 (.lst (odd2.map V.str))) l3 (.lst (odd1.map V.str ++ odd2.map V.str))) l3 = some (.lst (odd1.map V.str ++ odd2.map V.str)) := upd_same
  have S3 := (s1.trans s2).trans s3
  show gName 1 (V.ref l3) _ (upd (upd H1 l2 (.lst (odd2.map V.str))) l3 (.lst (odd1.map V.str ++ odd2.map V.str))) _
  generalize upd (upd H1 l2 (.lst (odd2.map V.str))) l3 (.lst (odd1.map V.str ++ odd2.map V.str)) = H3 at *
  refine ⟨_, rfl, (by show 5 ≤ sizeLine; decide), fun l4 h4 => ?_⟩
  have s4 := same_new h4 (o := .lst (odd3.map V.str))
  refine ⟨l3, l4, odd1.map V.str ++ odd2.map V.str, odd3.map V.str, rfl, rfl, s4 _ _ k3, upd_same, (by show 26 ≤ sizeLine; decide), fun l5 h5 => ?_⟩
  have s5 : Same (upd H3 l4 (.lst (odd3.map V.str))) (upd (upd H3 l4 (.lst (odd3.map V.str))) l5 (.lst (odd1.map V.str ++ odd2.map V.str ++ odd3.map V.str))) := same_new h5
  have k5 : (upd (upd H3 l4 (.lst (odd3.map V.str))) l5 (.lst (odd1.map V.str ++ odd2.map V.str ++ odd3.map V.str))) l5 = some (.lst (odd1.map V.str ++ odd2.map V.str ++ odd3.map V.str)) := upd_same
  have S5 := (S3.trans s4).trans s5
  have n5 : l5 ≠ p := (hp.keep (S3.trans s4)).ne h5
  show gName 1 (V.ref l5) _ (upd (upd H3 l4 (.lst (odd3.map V.str))) l5 (.lst (odd1.map V.str ++ odd2.map V.str ++ odd3.map V.str))) _
  generalize upd (upd H3 l4 (.lst (odd3.map V.str))) l5 (.lst (odd1.map V.str ++ odd2.map V.str ++ odd3.map V.str)) = H5 at *
  clear s1 s2 s3 s4 s5 k1 k3 S3
  have z1 : Sz (Str.ofString "a(") 2 1 := ⟨by decide +kernel, by decide +kernel⟩
  have z2 : Sz (Str.ofString ")") 1 0 := ⟨by decide +kernel, by decide +kernel⟩
  have z3 : Sz (Str.ofString "ab") 2 0 := ⟨by decide +kernel, by decide +kernel⟩
  have z4 : Sz (Str.ofString "(") 1 1 := ⟨by decide +kernel, by decide +kernel⟩
  have z5 : Sz (Str.ofString "a") 1 0 := ⟨by decide +kernel, by decide +kernel⟩
  have m1 : Sz (Txt.mul (Str.ofString "a(") 90) 180 90 := z1.mul 90 (by decide)
  have m2 : Sz (Txt.mul (Str.ofString ")") 2500) 2500 0 := z2.mul 2500 (by decide)
  have m3 : Sz (Txt.mul (Str.ofString "ab") 1400) 2800 0 := z3.mul 1400 (by decide)
  have m4 : Sz (Txt.mul (Str.ofString "(") 90) 90 90 := z4.mul 90 (by decide)
  have m5 : Sz (Txt.mul (Str.ofString "a(") 20) 40 20 := z1.mul 20 (by decide)
  have m6 : Sz (Txt.mul (Str.ofString ")") 20) 20 0 := z2.mul 20 (by decide)
  have o1 : MulOk (Str.ofString "a(") 90 := by unfold MulOk; decide +kernel
  have o2 : MulOk (Str.ofString ")") 2500 := by unfold MulOk; decide +kernel
  have o3 : MulOk (Str.ofString "ab") 1400 := by unfold MulOk; decide +kernel
  have o4 : MulOk (Str.ofString "(") 90 := by unfold MulOk; decide +kernel
  have o5 : MulOk (Str.ofString "a(") 20 := by unfold MulOk; decide +kernel
  have o6 : MulOk (Str.ofString ")") 20 := by unfold MulOk; decide +kernel
  refine ⟨_, _, rfl, rfl, o1, _, _, rfl, rfl, o1, _, _, rfl, rfl, szl m1 z5 (by decide), _, _, rfl, rfl, o2, _, _, rfl, rfl, o3, _, _, rfl, rfl, o4, (by show 5 ≤ sizeLine; decide), fun l6 h6 => ?_⟩
  have p5 := hp.keep S5
  have n6 := p5.ne h6
  have s6 := same_new h6 (o := .lst [V.str (Txt.mul (Str.ofString "a(") 90), V.str (Txt.mul (Str.ofString "a(") 90 ++ Str.ofString "a"), V.str (Txt.mul (Str.ofString ")") 2500), V.str (Txt.mul (Str.ofString "ab") 1400), V.str (Txt.mul (Str.ofString "(") 90)])
  have k6 := upd_same (H := H5) (a := l6) (o := .lst [V.str (Txt.mul (Str.ofString "a(") 90), V.str (Txt.mul (Str.ofString "a(") 90 ++ Str.ofString "a"), V.str (Txt.mul (Str.ofString ")") 2500), V.str (Txt.mul (Str.ofString "ab") 1400), V.str (Txt.mul (Str.ofString "(") 90)])
  have k56 := s6 _ _ k5
  have p6 := p5.keep s6
  have S6 := S5.trans s6
  generalize upd H5 l6 (.lst [V.str (Txt.mul (Str.ofString "a(") 90), V.str (Txt.mul (Str.ofString "a(") 90 ++ Str.ofString "a"), V.str (Txt.mul (Str.ofString ")") 2500), V.str (Txt.mul (Str.ofString "ab") 1400), V.str (Txt.mul (Str.ofString "(") 90)]) = H6 at *
  refine ⟨_, rfl, p, 5, _, rfl, p6, by omega, by decide, by decide, fun r H7 r0 r1 c7 p7 => ?_⟩
  have k67 := c7.at k6 n6
  have k57 := c7.at k56 n5
  have F7 := (Fr.same (p := p) S6).trans (Fr.chg c7)
  obtain ⟨LS, hat, hLS⟩ : ∃ S : Str, atI [V.str (Txt.mul (Str.ofString "a(") 90), V.str (Txt.mul (Str.ofString "a(") 90 ++ Str.ofString "a"), V.str (Txt.mul (Str.ofString ")") 2500), V.str (Txt.mul (Str.ofString "ab") 1400), V.str (Txt.mul (Str.ofString "(") 90)] r = some (.str S) ∧ Sz S 5000 95 := by
    obtain rfl | rfl | rfl | rfl | rfl : r = 0 ∨ r = 1 ∨ r = 2 ∨ r = 3 ∨ r = 4 := by omega
    · exact ⟨_, atI_nat (j := 0) rfl, m1.mono (by decide) (by decide)⟩
    · exact ⟨_, atI_nat (j := 1) rfl, (m1.add z5).mono (by decide) (by decide)⟩
    · exact ⟨_, atI_nat (j := 2) rfl, m2.mono (by decide) (by decide)⟩
    · exact ⟨_, atI_nat (j := 3) rfl, m3.mono (by decide) (by decide)⟩
    · exact ⟨_, atI_nat (j := 4) rfl, m4.mono (by decide) (by decide)⟩
  refine ⟨l6, _, r, _, rfl, rfl, SqL.of k67, hat, ?_⟩
  clear m1 m2 m3 m4 o1 o2 o3 o4 hat k67
  refine ⟨(by show 1 ≤ sizeLine; decide), fun t1 ht1 => ?_⟩
  have a1 := same_new ht1 (o := .lst [V.str (Str.ofString "a")])
  refine ⟨(by show 0 ≤ sizeLine; decide), fun t2 ht2 => ?_⟩
  have a2 := same_new ht2 (o := .lst [])
  refine ⟨(by show 2 ≤ sizeLine; decide), fun t3 ht3 => ?_⟩
  have a3 := same_new ht3 (o := .tup [V.str (Str.ofString "a"), V.ref t2])
  refine fun t4 ht4 => ?_
  have a4 := same_new ht4 (o := .dK [])
  have A2 := a1.trans a2
  have A3 := A2.trans a3
  have A4 := A3.trans a4
  have v1 := ((a2.trans a3).trans a4) _ _ (upd_same (H := H7) (a := t1) (o := .lst [V.str (Str.ofString "a")]))
  have v2 := (a3.trans a4) _ _ (upd_same (H := upd H7 t1 (.lst [V.str (Str.ofString "a")])) (a := t2) (o := .lst []))
  have v3 := a4 _ _ (upd_same (H := upd (upd H7 t1 (.lst [V.str (Str.ofString "a")])) t2 (.lst [])) (a := t3) (o := .tup [V.str (Str.ofString "a"), V.ref t2]))
  have v4 := upd_same (H := upd (upd (upd H7 t1 (.lst [V.str (Str.ofString "a")])) t2 (.lst [])) t3 (.tup [V.str (Str.ofString "a"), V.ref t2])) (a := t4) (o := .dK [])
  have w1 := p7.ne ht1
  have w2 := (p7.keep a1).ne ht2
  have w3 := (p7.keep A2).ne ht3
  have w4 := (p7.keep A3).ne ht4
  have p8 := p7.keep A4
  have k58 := A4 _ _ k57
  have F8 := F7.trans (Fr.same A4)
  clear a1 a2 a3 a4 A2 A3 A4
  generalize upd (upd (upd (upd H7 t1 (.lst [V.str (Str.ofString "a")])) t2 (.lst [])) t3 (.tup [V.str (Str.ofString "a"), V.ref t2])) t4 (.dK []) = H8 at *
  refine ⟨(by show 7 ≤ sizeLine; decide), fun l7 hl7 => ?_⟩
  have s8 := same_new hl7 (o := .lst [V.non, V.int 0, V.bl true, V.ref t1, V.ref t3, V.ref t4, V.int 7])
  have k7 := upd_same (H := H8) (a := l7) (o := .lst [V.non, V.int 0, V.bl true, V.ref t1, V.ref t3, V.ref t4, V.int 7])
  have D8 : DtAll (fun b => b ≠ p) (upd H8 l7 (.lst [V.non, V.int 0, V.bl true, V.ref t1, V.ref t3, V.ref t4, V.int 7])) [V.non, V.int 0, V.bl true, V.ref t1, V.ref t3, V.ref t4, V.int 7] [.none, .int 0, .bool true, .list [.str (Str.ofString "a")], .tuple [.str (Str.ofString "a"), .list []], .dict [], .int 7] :=
    .cons .non (.cons (.int _) (.cons (.bl _) (.cons (.lst (s8 _ _ v1) w1 (by simp) (.cons (.str _) .nil)) (.cons (.tup (s8 _ _ v3) w3 (by simp) (.cons (.str _) (.cons (.lst (s8 _ _ v2) w2 (by simp) .nil) .nil))) (.cons (.dic (s8 _ _ v4) w4) (.cons (.int _) .nil))))))
  have p9 := p8.keep s8
  have k59 := s8 _ _ k58
  have F9 := F8.trans (Fr.same s8)
  clear v1 v2 v3 v4
  generalize upd H8 l7 (.lst [V.non, V.int 0, V.bl true, V.ref t1, V.ref t3, V.ref t4, V.int 7]) = H9 at *
  refine ⟨_, rfl, _, rfl, _, _, rfl, rfl, o5, _, _, rfl, rfl, szl m5 z5 (by decide), _, _, rfl, rfl, o6, _, _, rfl, rfl, szl (m5.add z5) m6 (by decide), (by show 2 ≤ sizeLine; decide), fun l8 hl8 => ?_⟩
  have hTW := (m5.add z5).add m6
  generalize Txt.mul (Str.ofString "a(") 20 ++ Str.ofString "a" ++ Txt.mul (Str.ofString ")") 20 = TW at *
  have s10 := same_new hl8 (o := .lst [V.str LS, V.str TW])
  refine ⟨l5, l8, _, _, rfl, rfl, s10 _ _ k59, upd_same, (by show 28 ≤ sizeLine; decide), fun l9 hl9 => ?_⟩
  have s11 := same_new hl9 (o := .lst (odd1.map V.str ++ odd2.map V.str ++ odd3.map V.str ++ [V.str LS, V.str TW]))
  have k9 := upd_same (H := upd H9 l8 (.lst [V.str LS, V.str TW])) (a := l9) (o := .lst (odd1.map V.str ++ odd2.map V.str ++ odd3.map V.str ++ [V.str LS, V.str TW]))
  have S11 := s10.trans s11
  generalize upd (upd H9 l8 (.lst [V.str LS, V.str TW])) l9 (.lst (odd1.map V.str ++ odd2.map V.str ++ odd3.map V.str ++ [V.str LS, V.str TW])) = H11 at *
  refine ⟨_, rfl, l9, l7, _, _, rfl, rfl, k9, S11 _ _ k7, (by show 35 ≤ sizeLine; decide), fun l10 hl10 => ?_⟩
  have s12 := same_new hl10 (o := .lst (odd1.map V.str ++ odd2.map V.str ++ odd3.map V.str ++ [V.str LS, V.str TW] ++ [V.non, V.int 0, V.bl true, V.ref t1, V.ref t3, V.ref t4, V.int 7]))
  have k10 := upd_same (H := H11) (a := l10) (o := .lst (odd1.map V.str ++ odd2.map V.str ++ odd3.map V.str ++ [V.str LS, V.str TW] ++ [V.non, V.int 0, V.bl true, V.ref t1, V.ref t3, V.ref t4, V.int 7]))
  have S12 := S11.trans s12
  have n10 := (p9.keep S11).ne hl10
  have AF := (((((dt_strs (ok := fun b => b ≠ p) (H := upd H11 l10 (.lst (odd1.map V.str ++ odd2.map V.str ++ odd3.map V.str ++ [V.str LS, V.str TW] ++ [V.non, V.int 0, V.bl true, V.ref t1, V.ref t3, V.ref t4, V.int 7]))) odd1).app (dt_strs odd2)).app (dt_strs odd3)).app (DtAll.cons (.str LS) (.cons (.str TW) .nil))).app (D8.same S12))
  have p12 := p9.keep S12
  have F12 := F9.trans (Fr.same S12)
  generalize hVS : odd1.map V.str ++ odd2.map V.str ++ odd3.map V.str ++ [V.str LS, V.str TW] ++ [V.non, V.int 0, V.bl true, V.ref t1, V.ref t3, V.ref t4, V.int 7] = VS at *
  have hlen : VS.length = 35 := by rw [← hVS]; rfl
  have hD : ∀ d ∈ odd1.map PyData.str ++ odd2.map PyData.str ++ odd3.map PyData.str ++ [.str LS, .str TW] ++ [.none, .int 0, .bool true, .list [.str (Str.ofString "a")], .tuple [.str (Str.ofString "a"), .list []], .dict [], .int 7], SzD d := by
    intro d hd W e
    subst e
    rcases List.mem_append.mp hd with hd | hd
    · rcases List.mem_append.mp hd with hd | hd
      · rw [← List.map_append, ← List.map_append] at hd
        obtain ⟨x, hx, e⟩ := List.mem_map.mp hd
        cases e
        exact (Sz.lit (odd_short _ hx)).mono (by decide) (by decide)
      · simp only [List.mem_cons, List.not_mem_nil, or_false, PyData.str.injEq] at hd
        rcases hd with rfl | rfl
        · exact hLS
        · exact hTW.mono (by decide) (by decide)
    · simp at hd
  refine ⟨_, rfl, p, 35, _, rfl, p12, by omega, by decide, by decide, fun r2 H13 r20 r21 c13 p13 => ?_⟩
  have k13 := c13.at k10 n10
  obtain ⟨j, hj⟩ : ∃ j : Nat, r2 = (j : Int) := ⟨r2.toNat, by omega⟩
  subst hj
  have hjl : j < VS.length := by omega
  obtain ⟨d, hd1, hd2⟩ := AF.getV (List.getElem?_eq_getElem hjl)
  refine ⟨l10, _, _, _, rfl, rfl, SqL.of k13, atI_nat (List.getElem?_eq_getElem hjl), ?_⟩
  exact q _ d H13 (F12.trans (Fr.chg c13)) (p13.mono (by omega)) (hd2.keep fun b o h e => (c13 b h).trans e) (hD d (List.mem_of_getElem? hd1))
end

def spLaw (K : PySem.W.Frag) : Sp := fun vs H Q _ => ∃ (a : Addr) (ns : List Int), vs = [.ref a] ∧ SqL K H a (ns.map V.int) ∧ ns.length ≤ 63 ∧ ∀ H', Q (.bl true) H'


mutual
theorem count_size : ∀ t : Tr, t.lets Ltr → t.wr.count 40 ≤ t.size
  | .node c ks, h => by
    simp only [Tr.lets] at h
    have hc : c ≠ 40 := by have := h.1.1; omega
    cases ks with
    | nil =>
      simp only [Tr.wr, wrs, brk, Tr.size, sizes, List.count_cons, List.count_nil]
      have : (c == 40) = false := by simpa using hc
      rw [this]
      simp
    | cons k r =>
      have := counts_size (k :: r) h.2
      rw [Tr.wr, brk_wrs]
      simp only [Tr.size, List.count_cons, List.count_append, List.count_nil]
      have e : (c == 40) = false := by simpa using hc
      rw [e]
      simp
      omega
theorem counts_size : ∀ ts : List Tr, letss Ltr ts → (wrs ts).count 40 ≤ sizes ts
  | [], _ => by simp [wrs]
  | t :: r, h => by
    simp only [letss] at h
    have a := count_size t h.1
    have b := counts_size r h.2
    simp only [wrs, sizes, List.count_append]
    omega
end
theorem sx4 {d : Nat} (h : d ≤ 4) : sx d ≤ 40 := by
  obtain rfl | rfl | rfl | rfl | rfl : d = 0 ∨ d = 1 ∨ d = 2 ∨ d = 3 ∨ d = 4 := by omega
  all_goals decide
theorem dr4 {d : Nat} (h : d ≤ 4) : dr d ≤ 500 := by
  obtain rfl | rfl | rfl | rfl | rfl : d = 0 ∨ d = 1 ∨ d = 2 ∨ d = 3 ∨ d = 4 := by omega
  all_goals decide
def DueX (H : Hp) (d : PyData) (dv : V) : Prop := (NoT d ∧ dv = .non) ∨ (∃ W t, d = .str W ∧ lread W.cps.toList = some t ∧ TrAt (fun _ => True) H dv t)
theorem SqL.fr2 {K : PySem.W.Frag} {p P a : Addr} {H H' : Hp} {xs : List V} {ps : Array Value} (h : SqL K H a xs) (hp : H p = none) (hP : H P = some (.tbl ps)) (f : ∀ b o, b ≠ p → b ≠ P → H b = some o → H' b = some o) : SqL K H' a xs := by
  rcases h with (h | ⟨o, h⟩) | h
  · exact .inl (.inl (f _ _ (ne_of_none h hp) (fun e => by rw [e, hP] at h; cases h) h))
  · exact .inl (.inr ⟨o, f _ _ (ne_of_none h hp) (fun e => by rw [e, hP] at h; cases h) h⟩)
  · exact .inr h
theorem TrAt.frU {ok : Addr → Prop} {P : Addr} {H H' : Hp} {v : V} {t : Tr} {ps : Array Value} (x : TrAt ok H v t) (hP : H P = some (.tbl ps)) (f : Fr P H H') : TrAt ok H' v t :=
  ((TrAt.kind1 t v x).keep fun b o h e => f b o (fun e2 => h.2 ps (by rw [e2]; exact hP)) e).weak fun b h => h.1
section
variable {P : Program} {w : World} {K : PySem.W.Frag} {mg : Str → Option Value} {base : Heap}
theorem ok_law (T : Txt K mg) (B : Tbs T base) : FnOk P w K mg base CX0 210 T.f_law T.d_law ["script"] (spLawT K [T.P__joined]) := by
  have G__law_cell : FnOk P w K mg base CX0 1 T.f__law_cell T.d__law_cell ["script", "k"] (sp__law_cell K) := ok__law_cell T
  have G__law_store : FnOk P w K mg base CX0 1 T.f__law_store T.d__law_store ["cell"] sp__law_store := ok__law_store T
  have G__law_take : FnOk P w K mg base CX0 1 T.f__law_take T.d__law_take ["store", "many"] sp__law_take := ok__law_take T
  have G__law_tree : FnOk P w K mg base CX0 10 T.f__law_tree T.d__law_tree ["store", "letters", "deep"] (sp__law_tree 4) := ok__law_tree T 4
  have G__law_formed : FnOk P w K mg base CX0 10 T.f__law_formed T.d__law_formed ["tree"] (sp__law_formed 10) := ok__law_formed T 10
  have G__law_spoilt : FnOk P w K mg base CX0 2 T.f__law_spoilt T.d__law_spoilt ["store", "text"] sp__law_spoilt := ok__law_spoilt T
  have G__law_odd : FnOk P w K mg base CX0 2 T.f__law_odd T.d__law_odd ["store"] sp__law_odd := ok__law_odd T
  have G__law_read : FnOk P w K mg base CX0 2 T.f__law_read T.d__law_read ["text"] sp__law_read := ok__law_read T
  have G__law_said : FnOk P w K mg base CX0 11 T.f__law_said T.d__law_said ["text"] (sp__law_said T.P__joined q__joined) := ok__law_said T B
  have G__law_same : FnOk P w K mg base CX0 200 T.f__law_same T.d__law_same ["found", "due"] (sp__law_same 200) := ok__law_same T 200
  refine T.F_law.ok sc_law (fun vs H Q E h => ?_) (fun cdv A outer s H vs Q E hr h => ?_)
  · obtain ⟨a, ns, rfl, _⟩ := h
    rfl
  obtain ⟨a, ns, rfl, hS, h63, hPs, qq⟩ := h
  generalize hPt : T.P__joined = Pt at *
  have hP0 : H Pt = some (.tbl #[]) := hPs Pt (by simp)
  have hT0 : LamX.TabS H Pt q__joined := LamX.TabS.nil hP0
  have L1 : Lets (Str.ofString "a") := ⟨by decide +kernel, by decide +kernel, by decide +kernel⟩
  have L2 : Lets (Str.ofString "ab") := ⟨by decide +kernel, by decide +kernel, by decide +kernel⟩
  have L3 : Lets (Str.ofString "abz") := ⟨by decide +kernel, by decide +kernel, by decide +kernel⟩
  refine ⟨_, (pss_cons (ps_for PassesOwn.never rfl (pi_range1 (by rfl) T.z_range (pa_cons (pe_callB (call_min2 rfl) (by rfl) T.z_min (by decide +kernel) (pa_cons (pe_callB (call_max2 rfl) (by rfl) T.z_max (by decide +kernel) (pa_cons (pe_callB call_len_seq (by rfl) T.z_len PySem.boot_len (pa_cons (pv 0) pa_nil)) (pa_cons pe_int pa_nil))) (pa_cons pe_int pa_nil))) pa_nil)) (pg_name (i := 1) sc_law.nd rfl (Or.inl rfl)) (pss_cons (ps_set (i := 2) sc_law.nd rfl (Or.inl rfl) (pe_call G__law_store (hr.mono (by omega)) (by rfl) T.m__law_store T.F__law_store.kp T.b__law_store .nil pass0 (pa_cons (pe_call G__law_cell (hr.mono (by omega)) (by rfl) T.m__law_cell T.F__law_cell.kp T.b__law_cell .nil pass0 (pa_cons (pv 0) (pa_cons (pv 1) pa_nil))) pa_nil))) (pss_cons (ps_set (i := 3) sc_law.nd rfl (Or.inl rfl) (pe_call G__law_tree (hr.mono (by omega)) (by rfl) T.m__law_tree T.F__law_tree.kp T.b__law_tree .nil pass0 (pa_cons (pv 2) (pa_cons (pe_ix ix_list (pe_lst (pa_cons pe_str (pa_cons pe_str (pa_cons pe_str pa_nil)))) (pe_call G__law_take (hr.mono (by omega)) (by rfl) T.m__law_take T.F__law_take.kp T.b__law_take .nil pass0 (pa_cons (pv 2) (pa_cons pe_int pa_nil))) (fun _ _ => rfl)) (pa_cons (pe_op op_add pe_int (pe_call G__law_take (hr.mono (by omega)) (by rfl) T.m__law_take T.F__law_take.kp T.b__law_take .nil pass0 (pa_cons (pv 2) (pa_cons pe_int pa_nil)))) pa_nil))))) (pss_cons (ps_set (i := 4) sc_law.nd rfl (Or.inl rfl) (pe_call G__law_spoilt (hr.mono (by omega)) (by rfl) T.m__law_spoilt T.F__law_spoilt.kp T.b__law_spoilt .nil pass0 (pa_cons (pv 2) (pa_cons (pe_ix ix_tup (pe_call G__law_formed (hr.mono (by omega)) (by rfl) T.m__law_formed T.F__law_formed.kp T.b__law_formed .nil pass0 (pa_cons (pv 3) pa_nil)) pe_int (fun _ _ => rfl)) pa_nil)))) (C8.pss_cut (ps_if (pt_cmpR op_eq (pe_call G__law_take (hr.mono (by omega)) (by rfl) T.m__law_take T.F__law_take.kp T.b__law_take .nil pass0 (pa_cons (pv 2) (pa_cons pe_int pa_nil))) pe_int (nomark _)) (pss_one (ps_set (i := 4) sc_law.nd rfl (Or.inl rfl) (pe_call G__law_odd (hr.mono (by omega)) (by rfl) T.m__law_odd T.F__law_odd.kp T.b__law_odd .nil pass0 (pa_cons (pv 2) pa_nil)))) pss_nil) (pss_cons (ps_set (i := 5) sc_law.nd rfl (Or.inl rfl) pe_non) (C8.pss_cut (ps_if (pt_val (pe_callB call_isi (by rfl) T.z_isinstance (by decide +kernel) (pa_cons (pv 4) (pa_cons (pe_bltn (v := .ty "str") (by rfl) T.z_str (by decide +kernel) rfl) pa_nil)))) (pss_one (ps_set (i := 5) sc_law.nd rfl (Or.inl rfl) (pe_call G__law_read (hr.mono (by omega)) (by rfl) T.m__law_read T.F__law_read.kp T.b__law_read .nil pass0 (pa_cons (pv 4) pa_nil)))) pss_nil) (pss_cons (ps_asg (pe_call G__law_said (hr.mono (by omega)) (by rfl) T.m__law_said T.F__law_said.kp T.b__law_said .nil pass0 (pa_cons (pv 4) pa_nil)) (pg_tup rfl (pgs_cons (pg_name (i := 6) sc_law.nd rfl (Or.inl rfl)) (pgs_cons (pg_name (i := 7) sc_law.nd rfl (Or.inl rfl)) pgs_nil)))) (pss_one (ps_if (PW.pt (pw_or (pt_cmpR op_ne (pv 6) (pe_ix ix_list (pe_lst (pa_cons pe_str (pa_cons pe_str pa_nil))) (pe_callTy call_int1 (by rfl) T.z_int (by decide +kernel) (pa_cons (pe_cmpR op_isN (pv 5) pe_non (nomark _)) pa_nil)) (fun _ _ => rfl)) (nomark _)) (pw_or1 (PW.pt (pw_and (pt_cmpR op_notN (pv 5) pe_non (nomark _)) (pw_and1 (pt_not (pt_val (pe_call G__law_same (hr.mono (by omega)) (by rfl) T.m__law_same T.F__law_same.kp T.b__law_same .nil pass0 (pa_cons (pv 7) (pa_cons (pv 5) pa_nil))))))))))) (pss_one (ps_ret pe_bl)) pss_nil)))))))))) (pss_one (ps_ret pe_bl))), ?_⟩
  have lm : (ns.map V.int).length = ns.length := List.length_map _
  obtain ⟨j, hj, hj0, hj1⟩ : ∃ j : Int, (if 20 < (if 3 > ((ns.map V.int).length : Int) then 3 else ((ns.map V.int).length : Int)) then 20 else (if 3 > ((ns.map V.int).length : Int) then 3 else ((ns.map V.int).length : Int))) = j ∧ 0 ≤ j ∧ j ≤ 20 := ⟨_, rfl, by split <;> split <;> omega, by split <;> split <;> omega⟩
  refine ⟨_, rfl, a, _, rfl, .inl hS, _, _, rfl, _, _, rfl, j, congrArg (fun z => [V.int z]) hj, by omega, by omega, for_range (lo := 0) (n := j.toNat) (fun i σ H' => (∃ y1 y2 y3 y4 y5 y6 y7, σ = [some (.ref a), y1, y2, y3, y4, y5, y6, y7]) ∧ SqL K H' a (ns.map V.int) ∧ LamX.TabS H' Pt q__joined) ⟨⟨_, _, _, _, _, _, _, rfl⟩, hS, hT0⟩ ?_ ?_⟩
  · rintro i σ H0 hi ⟨⟨y1, y2, y3, y4, y5, y6, y7, rfl⟩, hS0, hT0⟩
    obtain ⟨tb0, hPt0, _, _⟩ := id hT0
    refine ⟨_, rfl, _, rfl, a, ns, _, rfl, hS0, h63, by omega, by omega, fun c => ⟨c, rfl, fun p H1 hp s1 S1 => ?_⟩⟩
    have nPp : Pt ≠ p := ne_of_none hPt0 hp
    have T1 := hT0.ext s1
    refine ⟨_, rfl, (by show 3 ≤ sizeLine; decide), fun l1 hl1 => ?_⟩
    have S1' := S1.new (o := .lst [.str (Str.ofString "a"), .str (Str.ofString "ab"), .str (Str.ofString "abz")]) hl1
    have T1' := T1.ext (same_new (o := .lst [.str (Str.ofString "a"), .str (Str.ofString "ab"), .str (Str.ofString "abz")]) hl1)
    have nl1 := S1.ne hl1
    refine ⟨_, rfl, p, 3, _, rfl, S1', by omega, by decide, by decide, fun r H2 r0 r1 c2 S2 => ?_⟩
    obtain ⟨_, _, _, e1, _⟩ := id S1'
    have T2 := TabS.fr T1' e1 (Fr.chg c2)
    have hl2 := c2.at (upd_same (o := .lst [.str (Str.ofString "a"), .str (Str.ofString "ab"), .str (Str.ofString "abz")])) nl1
    obtain ⟨L, hL, hLt⟩ : ∃ L : Str, atI [V.str (Str.ofString "a"), V.str (Str.ofString "ab"), V.str (Str.ofString "abz")] r = some (.str L) ∧ Lets L := by
      obtain rfl | rfl | rfl : r = 0 ∨ r = 1 ∨ r = 2 := by omega
      · exact ⟨_, atI_nat (j := 0) rfl, L1⟩
      · exact ⟨_, atI_nat (j := 1) rfl, L2⟩
      · exact ⟨_, atI_nat (j := 2) rfl, L3⟩
    refine ⟨l1, _, r, _, rfl, rfl, SqL.of hl2, hL, ?_⟩
    refine ⟨_, rfl, p, 4, _, rfl, S2, by omega, by decide, by decide, fun r3 H3 r30 r31 c3 S3 => ?_⟩
    obtain ⟨_, _, _, e2, _⟩ := id S2
    have T3 := TabS.fr T2 e2 (Fr.chg c3)
    have d4 : (1 + r3).toNat ≤ 4 := by omega
    have hdr := dr4 d4
    have hsx := sx4 d4
    refine ⟨_, _, rfl, rfl, p, L, _, (1 + r3).toNat, congrArg (fun z => [V.ref p, V.str L, V.int z]) (show 1 + r3 = (((1 + r3).toNat : Nat) : Int) by omega), S3, by omega, hLt, by omega, by omega, by omega, fun tv t H4 f4 S4 x4 z4 dd4 => ?_⟩
    obtain ⟨_, _, _, e3, _⟩ := id S3
    have T4 := TabS.fr T3 e3 f4
    have F4 : Fr p H0 H4 := ((((Fr.same s1).trans (Fr.same (same_new hl1))).trans (Fr.chg c2)).trans (Fr.chg c3)).trans f4
    have hLt4 : t.lets Ltr := TrAt.ltr _ _ x4
    have hToldL := told_lets t hLt4
    refine ⟨_, rfl, _, rfl, tv, t, rfl, x4.weak fun _ _ => trivial, by omega, by omega, by omega, fun rw5 H5 s5 row => ?_⟩
    obtain ⟨pr, dv5, er, hpr, hpr0, D5⟩ := row
    dsimp only at er hpr D5
    subst er
    have S5 := S4.keep s5
    have T5 := T4.ext s5
    have F5 := F4.trans (Fr.same s5)
    have hSz : Sz (ws t.told) 400 44 := by
      have h1 := wrs_len [t.told]
      simp only [wrs, List.append_nil, sizes] at h1
      have h2 := count_size t.told hToldL
      rw [told_size] at h1 h2
      refine ⟨?_, ?_⟩
      · show t.told.wr.toArray.size ≤ 400
        rw [List.size_toArray]
        omega
      · show t.told.wr.toArray.toList.count 40 ≤ 44
        rw [List.toList_toArray]
        omega
    refine ⟨pr, _, 0, _, rfl, rfl, SqT.of hpr, atI_nat (j := 0) rfl, p, ws t.told, _, rfl, S5, by omega, hSz, fun Y H6 f6 S6 hY => ?_⟩
    obtain ⟨_, _, _, e5, _⟩ := id S5
    have T6 := TabS.fr T5 e5 f6
    have F6 := F5.trans f6
    refine ⟨fun σ' H' => ∃ v d, σ' = [some (.ref a), some (.int (0 + i)), some (.ref p), some tv, some v, y5, y6, y7] ∧ Dt (fun b => b ≠ p) H' v d ∧ SzD d ∧ Sto H' p 2000 ∧ LamX.TabS H' Pt q__joined ∧ Fr p H0 H', ?_, ?_⟩
    · refine ⟨_, rfl, p, 3, _, rfl, S6, by omega, by decide, by decide, fun r7 H7 r70 r71 c7 S7 => ⟨rfl, _, rfl, ?_⟩⟩
      obtain ⟨_, _, _, e6, _⟩ := id S6
      have T7 := TabS.fr T6 e6 (Fr.chg c7)
      have F7 := F6.trans (Fr.chg c7)
      refine ite2 (fun _ => ?_) fun _ => ?_
      · refine ⟨_, rfl, p, _, rfl, S7, by omega, fun v d H8 f8 S8 x8 z8 => ?_⟩
        obtain ⟨_, _, _, e7, _⟩ := id S7
        exact ⟨v, d, rfl, x8, z8, S8.mono (by omega), TabS.fr T7 e7 f8, F7.trans f8⟩
      · exact ⟨.str Y, .str Y, rfl, .str _, (fun W e => by cases e; exact hY.mono (by decide) (by decide)), S7.mono (by omega), T7, F7⟩
    rintro σ' H7 ⟨v, d, rfl, xv, zd, S7, T7, F7⟩
    refine ⟨fun σ' H' => ∃ dv, σ' = [some (.ref a), some (.int (0 + i)), some (.ref p), some tv, some v, some dv, y6, y7] ∧ DueX H' d dv ∧ Same H7 H', ?_, ?_⟩
    · refine ⟨_, rfl, _, _, _, _, _, rfl, .ty "str", xv.ty, k_str d, _, rfl, ?_⟩
      cases hSd : isStrD d with
      | false => exact iteF ⟨.non, rfl, .inl ⟨(fun W t e _ => by rw [e] at hSd; cases hSd), rfl⟩, Same.refl _⟩
      | true =>
        cases xv with
        | str W =>
          have zW := zd W rfl
          exact iteT ⟨_, rfl, W, rfl, zW.1, zW.2, fun t ht r H8 s8 x8 => ⟨r, rfl, .inr ⟨W, t, rfl, ht, x8.weak fun _ _ => trivial⟩, s8⟩, fun hn H8 s8 => ⟨.non, rfl, .inl ⟨(fun W' t e hl => by cases e; rw [hn] at hl; cases hl), rfl⟩, s8⟩⟩
        | _ => cases hSd
    rintro σ' H8 ⟨dv, rfl, hdue, s8⟩
    have T8 := T7.ext s8
    obtain ⟨tb8, hP8, _, _⟩ := id T8
    have last : ∀ H', (∀ b o, b ≠ Pt → H8 b = some o → H' b = some o) → SqL K H' a (ns.map V.int) := fun H' f => SqL.fr2 hS0 hp hPt0 fun b o n1 n2 e => f b o n2 (s8 _ _ (F7 b o n1 e))
    refine ⟨_, rfl, v, d, rfl, (xv.same s8).any, T8, fun W e => (zd W e).1, fun W t e hl r x as H9 f9 T9 h9 x9 => ?_, fun hn r H9 f9 T9 h9 => ?_⟩
    · rcases hdue with ⟨hno, _⟩ | ⟨W2, t2, e2, hl2, xd⟩
      · exact absurd hl (hno W t e)
      have eW : W2 = W := by rw [e] at e2; cases e2; rfl
      subst eW
      have et : t2 = t := Option.some.inj (hl2.symm.trans hl)
      subst et
      have zW := zd W2 e
      obtain ⟨eW2, _, _⟩ := lread_sound hl
      have hdp : t2.depth ≤ 96 := by
        have := depth_count t2
        rw [← eW2] at this
        have := zW.2
        omega
      have hsz : t2.size ≤ 5000 := by
        have h1 := wr_size t2
        have h2 := zW.1
        have h3 : W2.cps.toList.length = W2.length := Array.length_toList
        rw [← eW2] at h1
        omega
      have xd9 := xd.frU hP8 f9
      have xf9 : TrAt (fun _ => True) H9 x t2 := (TrO.at _ _ _ x9).weak fun _ _ => trivial
      obtain ⟨da, rfl⟩ : ∃ da, dv = .ref da := by
        cases xd
        exact ⟨_, rfl⟩
      refine ⟨_, _, rfl, SqT.of h9, rfl, ?_⟩
      refine ⟨_, _, rfl, _, _, rfl, rfl, ?_⟩
      refine ⟨_, rfl, (by show 2 ≤ sizeLine; decide), fun l hl' => ⟨_, rfl, rfl, .inr ⟨_, rfl, ?_⟩⟩⟩
      have s10 := same_new hl' (o := .lst [.str (Str.ofString "told"), .str (Str.ofString "none")])
      rw [decide_eq_false (show ¬ V.ref da = V.non by intro z; cases z)]
      refine ⟨l, _, _, .str (Str.ofString "told"), rfl, rfl, SqL.of upd_same, atI_nat (j := 0) rfl, rfl, _, rfl, ?_⟩
      rw [decide_eq_true rfl]
      refine iteF ⟨_, rfl, rfl, _, rfl, ?_⟩
      rw [decide_eq_false (show ¬ V.ref da = V.non by intro z; cases z)]
      refine iteT ⟨_, rfl, _, rfl, x, .ref da, rfl, .inl ⟨t2, xf9.same s10, xd9.same s10, by omega, by omega⟩, fun H11 s11 => ⟨_, rfl, iteF ?_⟩⟩
      exact ⟨⟨_, _, _, _, _, _, _, rfl⟩, last _ fun b o n e => s11 _ _ (s10 _ _ (f9 b o n e)), (T9.ext s10).ext s11⟩
    · rcases hdue with ⟨_, rfl⟩ | ⟨W2, t2, e2, hl2, xd⟩
      · refine ⟨_, _, rfl, SqT.of h9, rfl, ?_⟩
        refine ⟨_, _, rfl, _, _, rfl, rfl, ?_⟩
        refine ⟨_, rfl, (by show 2 ≤ sizeLine; decide), fun l hl' => ⟨_, rfl, rfl, .inr ⟨_, rfl, ?_⟩⟩⟩
        have s10 := same_new hl' (o := .lst [.str (Str.ofString "told"), .str (Str.ofString "none")])
        rw [decide_eq_true (show V.non = V.non from rfl)]
        refine ⟨l, _, _, .str (Str.ofString "none"), rfl, rfl, SqL.of upd_same, atI_nat (j := 1) rfl, rfl, _, rfl, ?_⟩
        rw [decide_eq_true rfl]
        refine iteF ⟨_, rfl, rfl, _, rfl, ?_⟩
        rw [decide_eq_true rfl]
        refine iteF (iteF ?_)
        exact ⟨⟨_, _, _, _, _, _, _, rfl⟩, last _ fun b o n e => s10 _ _ (f9 b o n e), T9.ext s10⟩
      · exact absurd hl2 (hn W2 t2 e2)
  · rintro σ H' ⟨_, _, _⟩
    exact qq H'
end

theorem all_mk {l : PySem.W.OpenLaw} {w : World} {K : PySem.W.Frag} {h : Heap} {mg : Str → Option Value} {fa f0 f1 f2 f3 f4 f5 f6 f7 f8 f9 f10 f11 f12 f13 f14 f15 f16 f17 f18 f19 f20 f21 f22 : Addr} (X : K.In h) (G : h.Ns mainGlobals mg) (hfa : mg "law" = some (.ref fa))
    {od0 an0 od1 an1 od2 an2 od3 an3 od4 an4 od5 an5 od6 an6 od7 an7 od8 an8 od9 an9 od10 an10 od11 an11 od12 an12 od13 an13 od14 an14 od15 an15 od16 an16 od17 an17 od18 an18 od19 an19 od20 an20 od21 an21 od22 an22 : Option Addr} {sl0 sl1 sl2 sl3 sl4 sl5 sl6 sl7 sl8 sl9 sl10 sl11 sl12 sl13 sl14 sl15 sl16 sl17 sl18 sl19 sl20 sl21 sl22 : Array (Option Value)} {oc0 kV0 dc0 pm0 ct0 cd0 oc1 kV1 dc1 pm1 ct1 cd1 oc2 kV2 dc2 pm2 ct2 cd2 oc3 kV3 dc3 pm3 ct3 cd3 oc4 kV4 dc4 pm4 ct4 cd4 oc5 kV5 dc5 pm5 ct5 cd5 oc6 kV6 dc6 pm6 ct6 cd6 oc7 kV7 dc7 pm7 ct7 oc8 kV8 dc8 pm8 ct8 cd8 oc9 kV9 dc9 pm9 ct9 cd9 oc10 kV10 dc10 pm10 ct10 cd10 oc11 kV11 dc11 pm11 ct11 cd11 oc12 kV12 dc12 pm12 ct12 cd12 oc13 kV13 dc13 pm13 ct13 cd13 oc14 kV14 dc14 pm14 ct14 cd14 oc15 kV15 dc15 pm15 ct15 cd15 oc16 kV16 dc16 pm16 ct16 cd16 oc17 kV17 dc17 pm17 ct17 cd17 oc18 kV18 dc18 pm18 ct18 cd18 oc19 kV19 dc19 pm19 ct19 cd19 oc20 kV20 dc20 pm20 ct20 cd20 oc21 kV21 dc21 pm21 ct21 cd21 oc22 kV22 dc22 pm22 ct22 cd22 : Value} {c7 P7 : Addr}
    (a0 : PySem.W.nsIn K mainGlobals "is_letter" = some (some (.ref f0))) (l0 : K.lookup f0 = some ⟨oc0, od0, .func (PySem.W.fnOf "is_letter" "is_letter" (defArgs s_is_letter) (defBody s_is_letter) (defScope s_is_letter) .none kV0 dc0 pm0 an0 cd0 ct0), sl0⟩) (d0 : PySem.W.codeIn K cd0 "is_letter" = true) (k0 : PySem.W.keepIn K (.ref f0) = true)
    (a1 : PySem.W.nsIn K mainGlobals "is_tree" = some (some (.ref f1))) (l1 : K.lookup f1 = some ⟨oc1, od1, .func (PySem.W.fnOf "is_tree" "is_tree" (defArgs s_is_tree) (defBody s_is_tree) (defScope s_is_tree) .none kV1 dc1 pm1 an1 cd1 ct1), sl1⟩) (d1 : PySem.W.codeIn K cd1 "is_tree" = true) (k1 : PySem.W.keepIn K (.ref f1) = true)
    (a2 : PySem.W.nsIn K mainGlobals "_is_part" = some (some (.ref f2))) (l2 : K.lookup f2 = some ⟨oc2, od2, .func (PySem.W.fnOf "_is_part" "_is_part" (defArgs s__is_part) (defBody s__is_part) (defScope s__is_part) .none kV2 dc2 pm2 an2 cd2 ct2), sl2⟩) (d2 : PySem.W.codeIn K cd2 "_is_part" = true) (k2 : PySem.W.keepIn K (.ref f2) = true)
    (a3 : PySem.W.nsIn K mainGlobals "check_tree" = some (some (.ref f3))) (l3 : K.lookup f3 = some ⟨oc3, od3, .func (PySem.W.fnOf "check_tree" "check_tree" (defArgs s_check_tree) (defBody s_check_tree) (defScope s_check_tree) .none kV3 dc3 pm3 an3 cd3 ct3), sl3⟩) (d3 : PySem.W.codeIn K cd3 "check_tree" = true) (k3 : PySem.W.keepIn K (.ref f3) = true)
    (a4 : PySem.W.nsIn K mainGlobals "parts_upward" = some (some (.ref f4))) (l4 : K.lookup f4 = some ⟨oc4, od4, .func (PySem.W.fnOf "parts_upward" "parts_upward" (defArgs s_parts_upward) (defBody s_parts_upward) (defScope s_parts_upward) .none kV4 dc4 pm4 an4 cd4 ct4), sl4⟩) (d4 : PySem.W.codeIn K cd4 "parts_upward" = true) (k4 : PySem.W.keepIn K (.ref f4) = true)
    (a5 : PySem.W.nsIn K mainGlobals "built_upward" = some (some (.ref f5))) (l5 : K.lookup f5 = some ⟨oc5, od5, .func (PySem.W.fnOf "built_upward" "built_upward" (defArgs s_built_upward) (defBody s_built_upward) (defScope s_built_upward) .none kV5 dc5 pm5 an5 cd5 ct5), sl5⟩) (d5 : PySem.W.codeIn K cd5 "built_upward" = true) (k5 : PySem.W.keepIn K (.ref f5) = true)
    (a6 : PySem.W.nsIn K mainGlobals "_written_and_told" = some (some (.ref f6))) (l6 : K.lookup f6 = some ⟨oc6, od6, .func (PySem.W.fnOf "_written_and_told" "_written_and_told" (defArgs s__written_and_told) (defBody s__written_and_told) (defScope s__written_and_told) .none kV6 dc6 pm6 an6 cd6 ct6), sl6⟩) (d6 : PySem.W.codeIn K cd6 "_written_and_told" = true) (k6 : PySem.W.keepIn K (.ref f6) = true)
    (a7 : PySem.W.nsIn K mainGlobals "_joined" = some (some (.ref f7))) (l7 : K.lookup f7 = some ⟨oc7, od7, .func (PySem.W.fnOf "_joined" "_joined" (defArgs s__joined) (defBody s__joined) (defScope s__joined) .none kV7 dc7 pm7 an7 (.ref c7) ct7), sl7⟩) (d7 : PySem.W.codeIn K (.ref c7) "_joined" = true) (k7 : PySem.W.keepIn K (.ref f7) = true)
    (a8 : PySem.W.nsIn K mainGlobals "written_part" = some (some (.ref f8))) (l8 : K.lookup f8 = some ⟨oc8, od8, .func (PySem.W.fnOf "written_part" "written_part" (defArgs s_written_part) (defBody s_written_part) (defScope s_written_part) .none kV8 dc8 pm8 an8 cd8 ct8), sl8⟩) (d8 : PySem.W.codeIn K cd8 "written_part" = true) (k8 : PySem.W.keepIn K (.ref f8) = true)
    (a9 : PySem.W.nsIn K mainGlobals "written_tree" = some (some (.ref f9))) (l9 : K.lookup f9 = some ⟨oc9, od9, .func (PySem.W.fnOf "written_tree" "written_tree" (defArgs s_written_tree) (defBody s_written_tree) (defScope s_written_tree) .none kV9 dc9 pm9 an9 cd9 ct9), sl9⟩) (d9 : PySem.W.codeIn K cd9 "written_tree" = true) (k9 : PySem.W.keepIn K (.ref f9) = true)
    (a10 : PySem.W.nsIn K mainGlobals "read_tree" = some (some (.ref f10))) (l10 : K.lookup f10 = some ⟨oc10, od10, .func (PySem.W.fnOf "read_tree" "read_tree" (defArgs s_read_tree) (defBody s_read_tree) (defScope s_read_tree) .none kV10 dc10 pm10 an10 cd10 ct10), sl10⟩) (d10 : PySem.W.codeIn K cd10 "read_tree" = true) (k10 : PySem.W.keepIn K (.ref f10) = true)
    (a11 : PySem.W.nsIn K mainGlobals "_tree_read" = some (some (.ref f11))) (l11 : K.lookup f11 = some ⟨oc11, od11, .func (PySem.W.fnOf "_tree_read" "_tree_read" (defArgs s__tree_read) (defBody s__tree_read) (defScope s__tree_read) .none kV11 dc11 pm11 an11 cd11 ct11), sl11⟩) (d11 : PySem.W.codeIn K cd11 "_tree_read" = true) (k11 : PySem.W.keepIn K (.ref f11) = true)
    (a12 : PySem.W.nsIn K mainGlobals "_law_cell" = some (some (.ref f12))) (l12 : K.lookup f12 = some ⟨oc12, od12, .func (PySem.W.fnOf "_law_cell" "_law_cell" (defArgs s__law_cell) (defBody s__law_cell) (defScope s__law_cell) .none kV12 dc12 pm12 an12 cd12 ct12), sl12⟩) (d12 : PySem.W.codeIn K cd12 "_law_cell" = true) (k12 : PySem.W.keepIn K (.ref f12) = true)
    (a13 : PySem.W.nsIn K mainGlobals "_law_store" = some (some (.ref f13))) (l13 : K.lookup f13 = some ⟨oc13, od13, .func (PySem.W.fnOf "_law_store" "_law_store" (defArgs s__law_store) (defBody s__law_store) (defScope s__law_store) .none kV13 dc13 pm13 an13 cd13 ct13), sl13⟩) (d13 : PySem.W.codeIn K cd13 "_law_store" = true) (k13 : PySem.W.keepIn K (.ref f13) = true)
    (a14 : PySem.W.nsIn K mainGlobals "_law_take" = some (some (.ref f14))) (l14 : K.lookup f14 = some ⟨oc14, od14, .func (PySem.W.fnOf "_law_take" "_law_take" (defArgs s__law_take) (defBody s__law_take) (defScope s__law_take) .none kV14 dc14 pm14 an14 cd14 ct14), sl14⟩) (d14 : PySem.W.codeIn K cd14 "_law_take" = true) (k14 : PySem.W.keepIn K (.ref f14) = true)
    (a15 : PySem.W.nsIn K mainGlobals "_law_tree" = some (some (.ref f15))) (l15 : K.lookup f15 = some ⟨oc15, od15, .func (PySem.W.fnOf "_law_tree" "_law_tree" (defArgs s__law_tree) (defBody s__law_tree) (defScope s__law_tree) .none kV15 dc15 pm15 an15 cd15 ct15), sl15⟩) (d15 : PySem.W.codeIn K cd15 "_law_tree" = true) (k15 : PySem.W.keepIn K (.ref f15) = true)
    (a16 : PySem.W.nsIn K mainGlobals "_law_formed" = some (some (.ref f16))) (l16 : K.lookup f16 = some ⟨oc16, od16, .func (PySem.W.fnOf "_law_formed" "_law_formed" (defArgs s__law_formed) (defBody s__law_formed) (defScope s__law_formed) .none kV16 dc16 pm16 an16 cd16 ct16), sl16⟩) (d16 : PySem.W.codeIn K cd16 "_law_formed" = true) (k16 : PySem.W.keepIn K (.ref f16) = true)
    (a17 : PySem.W.nsIn K mainGlobals "_law_same" = some (some (.ref f17))) (l17 : K.lookup f17 = some ⟨oc17, od17, .func (PySem.W.fnOf "_law_same" "_law_same" (defArgs s__law_same) (defBody s__law_same) (defScope s__law_same) .none kV17 dc17 pm17 an17 cd17 ct17), sl17⟩) (d17 : PySem.W.codeIn K cd17 "_law_same" = true) (k17 : PySem.W.keepIn K (.ref f17) = true)
    (a18 : PySem.W.nsIn K mainGlobals "_law_read" = some (some (.ref f18))) (l18 : K.lookup f18 = some ⟨oc18, od18, .func (PySem.W.fnOf "_law_read" "_law_read" (defArgs s__law_read) (defBody s__law_read) (defScope s__law_read) .none kV18 dc18 pm18 an18 cd18 ct18), sl18⟩) (d18 : PySem.W.codeIn K cd18 "_law_read" = true) (k18 : PySem.W.keepIn K (.ref f18) = true)
    (a19 : PySem.W.nsIn K mainGlobals "_law_spoilt" = some (some (.ref f19))) (l19 : K.lookup f19 = some ⟨oc19, od19, .func (PySem.W.fnOf "_law_spoilt" "_law_spoilt" (defArgs s__law_spoilt) (defBody s__law_spoilt) (defScope s__law_spoilt) .none kV19 dc19 pm19 an19 cd19 ct19), sl19⟩) (d19 : PySem.W.codeIn K cd19 "_law_spoilt" = true) (k19 : PySem.W.keepIn K (.ref f19) = true)
    (a20 : PySem.W.nsIn K mainGlobals "_law_odd" = some (some (.ref f20))) (l20 : K.lookup f20 = some ⟨oc20, od20, .func (PySem.W.fnOf "_law_odd" "_law_odd" (defArgs s__law_odd) (defBody s__law_odd) (defScope s__law_odd) .none kV20 dc20 pm20 an20 cd20 ct20), sl20⟩) (d20 : PySem.W.codeIn K cd20 "_law_odd" = true) (k20 : PySem.W.keepIn K (.ref f20) = true)
    (a21 : PySem.W.nsIn K mainGlobals "_law_said" = some (some (.ref f21))) (l21 : K.lookup f21 = some ⟨oc21, od21, .func (PySem.W.fnOf "_law_said" "_law_said" (defArgs s__law_said) (defBody s__law_said) (defScope s__law_said) .none kV21 dc21 pm21 an21 cd21 ct21), sl21⟩) (d21 : PySem.W.codeIn K cd21 "_law_said" = true) (k21 : PySem.W.keepIn K (.ref f21) = true)
    (a22 : PySem.W.nsIn K mainGlobals "law" = some (some (.ref f22))) (l22 : K.lookup f22 = some ⟨oc22, od22, .func (PySem.W.fnOf "law" "law" (defArgs s_law) (defBody s_law) (defScope s_law) .none kV22 dc22 pm22 an22 cd22 ct22), sl22⟩) (d22 : PySem.W.codeIn K cd22 "law" = true) (k22 : PySem.W.keepIn K (.ref f22) = true)
    (t7 : PySem.W.tabIn K "_joined" = some (c7, P7)) (u7 : K.lookup P7 = none)
    (z_bool : PySem.W.nsIn K mainGlobals "bool" = some none)
    (z_dict : PySem.W.nsIn K mainGlobals "dict" = some none)
    (z_int : PySem.W.nsIn K mainGlobals "int" = some none)
    (z_isinstance : PySem.W.nsIn K mainGlobals "isinstance" = some none)
    (z_len : PySem.W.nsIn K mainGlobals "len" = some none)
    (z_list : PySem.W.nsIn K mainGlobals "list" = some none)
    (z_max : PySem.W.nsIn K mainGlobals "max" = some none)
    (z_min : PySem.W.nsIn K mainGlobals "min" = some none)
    (z_range : PySem.W.nsIn K mainGlobals "range" = some none)
    (z_sorted : PySem.W.nsIn K mainGlobals "sorted" = some none)
    (z_str : PySem.W.nsIn K mainGlobals "str" = some none)
    (z_tuple : PySem.W.nsIn K mainGlobals "tuple" = some none)
    {C_HeapError C_NoTree C_NoLetter C_NoFit C_TooMany C_NoNumber C_NoText C_NoName C_NoRow : Addr}
    (ac_HeapError : PySem.W.nsIn K mainGlobals "HeapError" = some (some (.ref C_HeapError)))
    (k_HeapErrorc : PySem.W.keepIn K (.ref C_HeapError) = true)
    (ac_NoTree : PySem.W.nsIn K mainGlobals "NoTree" = some (some (.ref C_NoTree)))
    (k_NoTreec : PySem.W.keepIn K (.ref C_NoTree) = true)
    (ac_NoLetter : PySem.W.nsIn K mainGlobals "NoLetter" = some (some (.ref C_NoLetter)))
    (k_NoLetterc : PySem.W.keepIn K (.ref C_NoLetter) = true)
    (ac_NoFit : PySem.W.nsIn K mainGlobals "NoFit" = some (some (.ref C_NoFit)))
    (k_NoFitc : PySem.W.keepIn K (.ref C_NoFit) = true)
    (ac_TooMany : PySem.W.nsIn K mainGlobals "TooMany" = some (some (.ref C_TooMany)))
    (k_TooManyc : PySem.W.keepIn K (.ref C_TooMany) = true)
    (ac_NoNumber : PySem.W.nsIn K mainGlobals "NoNumber" = some (some (.ref C_NoNumber)))
    (k_NoNumberc : PySem.W.keepIn K (.ref C_NoNumber) = true)
    (ac_NoText : PySem.W.nsIn K mainGlobals "NoText" = some (some (.ref C_NoText)))
    (k_NoTextc : PySem.W.keepIn K (.ref C_NoText) = true)
    (ac_NoName : PySem.W.nsIn K mainGlobals "NoName" = some (some (.ref C_NoName)))
    (k_NoNamec : PySem.W.keepIn K (.ref C_NoName) = true)
    (ac_NoRow : PySem.W.nsIn K mainGlobals "NoRow" = some (some (.ref C_NoRow)))
    (k_NoRowc : PySem.W.keepIn K (.ref C_NoRow) = true)
    (x_NoTreec : PySem.W.excIn K C_NoTree [.type "ValueError", .type "Exception", .type "BaseException", .type "object"] "ValueError.__new__" = true)
    (b_NoTreec : PySem.W.subIn K (.ref C_NoTree) (.type "BaseException") = some true)
    (t_NoTreec : PySem.W.typeIn K (.ref C_NoTree) = some (.type "type"))
    (E_NoTreec : ExcC K C_NoTree)
    (em_NoTree_HeapErrorc : PySem.W.exmOne K (.ref C_NoTree) (.ref C_HeapError) = some true)
    (ki_NoTree_NoTreec : PySem.W.kitOne K (.ref C_NoTree) (.ref C_NoTree) = some true)
    (ki_NoTree_NoLetterc : PySem.W.kitOne K (.ref C_NoTree) (.ref C_NoLetter) = some false)
    (ki_NoTree_NoFitc : PySem.W.kitOne K (.ref C_NoTree) (.ref C_NoFit) = some false)
    (ki_NoTree_TooManyc : PySem.W.kitOne K (.ref C_NoTree) (.ref C_TooMany) = some false)
    (ki_NoTree_NoNumberc : PySem.W.kitOne K (.ref C_NoTree) (.ref C_NoNumber) = some false)
    (ki_NoTree_NoTextc : PySem.W.kitOne K (.ref C_NoTree) (.ref C_NoText) = some false)
    (ki_NoTree_NoNamec : PySem.W.kitOne K (.ref C_NoTree) (.ref C_NoName) = some false)
    (ki_NoTree_NoRowc : PySem.W.kitOne K (.ref C_NoTree) (.ref C_NoRow) = some false)
    (ki_NoTree_ValueErrorc : PySem.W.kitOne K (.ref C_NoTree) (.type "ValueError") = some true)
    (x_NoTextc : PySem.W.excIn K C_NoText [.type "ValueError", .type "Exception", .type "BaseException", .type "object"] "ValueError.__new__" = true)
    (b_NoTextc : PySem.W.subIn K (.ref C_NoText) (.type "BaseException") = some true)
    (t_NoTextc : PySem.W.typeIn K (.ref C_NoText) = some (.type "type"))
    (E_NoTextc : ExcC K C_NoText)
    (em_NoText_HeapErrorc : PySem.W.exmOne K (.ref C_NoText) (.ref C_HeapError) = some true)
    (ki_NoText_NoTreec : PySem.W.kitOne K (.ref C_NoText) (.ref C_NoTree) = some false)
    (ki_NoText_NoLetterc : PySem.W.kitOne K (.ref C_NoText) (.ref C_NoLetter) = some false)
    (ki_NoText_NoFitc : PySem.W.kitOne K (.ref C_NoText) (.ref C_NoFit) = some false)
    (ki_NoText_TooManyc : PySem.W.kitOne K (.ref C_NoText) (.ref C_TooMany) = some false)
    (ki_NoText_NoNumberc : PySem.W.kitOne K (.ref C_NoText) (.ref C_NoNumber) = some false)
    (ki_NoText_NoTextc : PySem.W.kitOne K (.ref C_NoText) (.ref C_NoText) = some true)
    (ki_NoText_NoNamec : PySem.W.kitOne K (.ref C_NoText) (.ref C_NoName) = some false)
    (ki_NoText_NoRowc : PySem.W.kitOne K (.ref C_NoText) (.ref C_NoRow) = some false)
    (ki_NoText_ValueErrorc : PySem.W.kitOne K (.ref C_NoText) (.type "ValueError") = some true)
    (zc_ValueError : PySem.W.nsIn K mainGlobals "ValueError" = some none)
    : LawT l w K 210 "script" mg fa [("_joined", c7, P7)] := by
  have e := hfa.symm.trans (PySem.W.mg_of X G a22)
  cases e
  have F0 := fun_mk (st := s_is_letter) l0 d0 k0
  have b0 := F0.binds (ps := ["thing"]) fun _ _ _ _ _ _ us hl => match us, hl with | [_], _ => rfl
  have F1 := fun_mk (st := s_is_tree) l1 d1 k1
  have b1 := F1.binds (ps := ["thing"]) fun _ _ _ _ _ _ us hl => match us, hl with | [_], _ => rfl
  have F2 := fun_mk (st := s__is_part) l2 d2 k2
  have b2 := F2.binds (ps := ["thing"]) fun _ _ _ _ _ _ us hl => match us, hl with | [_], _ => rfl
  have F3 := fun_mk (st := s_check_tree) l3 d3 k3
  have b3 := F3.binds (ps := ["thing"]) fun _ _ _ _ _ _ us hl => match us, hl with | [_], _ => rfl
  have F4 := fun_mk (st := s_parts_upward) l4 d4 k4
  have b4 := F4.binds (ps := ["tree"]) fun _ _ _ _ _ _ us hl => match us, hl with | [_], _ => rfl
  have F5 := fun_mk (st := s_built_upward) l5 d5 k5
  have b5 := F5.binds (ps := ["tree", "made"]) fun _ _ _ _ _ _ us hl => match us, hl with | [_, _], _ => rfl
  have F6 := fun_mk (st := s__written_and_told) l6 d6 k6
  have b6 := F6.binds (ps := ["tree"]) fun _ _ _ _ _ _ us hl => match us, hl with | [_], _ => rfl
  have F7 := fun_mk (st := s__joined) l7 d7 k7
  have b7 := F7.binds (ps := ["letter", "below"]) fun _ _ _ _ _ _ us hl => match us, hl with | [_, _], _ => rfl
  have F8 := fun_mk (st := s_written_part) l8 d8 k8
  have b8 := F8.binds (ps := ["letter", "texts"]) fun _ _ _ _ _ _ us hl => match us, hl with | [_, _], _ => rfl
  have F9 := fun_mk (st := s_written_tree) l9 d9 k9
  have b9 := F9.binds (ps := ["tree"]) fun _ _ _ _ _ _ us hl => match us, hl with | [_], _ => rfl
  have F10 := fun_mk (st := s_read_tree) l10 d10 k10
  have b10 := F10.binds (ps := ["text"]) fun _ _ _ _ _ _ us hl => match us, hl with | [_], _ => rfl
  have F11 := fun_mk (st := s__tree_read) l11 d11 k11
  have b11 := F11.binds (ps := ["text"]) fun _ _ _ _ _ _ us hl => match us, hl with | [_], _ => rfl
  have F12 := fun_mk (st := s__law_cell) l12 d12 k12
  have b12 := F12.binds (ps := ["script", "k"]) fun _ _ _ _ _ _ us hl => match us, hl with | [_, _], _ => rfl
  have F13 := fun_mk (st := s__law_store) l13 d13 k13
  have b13 := F13.binds (ps := ["cell"]) fun _ _ _ _ _ _ us hl => match us, hl with | [_], _ => rfl
  have F14 := fun_mk (st := s__law_take) l14 d14 k14
  have b14 := F14.binds (ps := ["store", "many"]) fun _ _ _ _ _ _ us hl => match us, hl with | [_, _], _ => rfl
  have F15 := fun_mk (st := s__law_tree) l15 d15 k15
  have b15 := F15.binds (ps := ["store", "letters", "deep"]) fun _ _ _ _ _ _ us hl => match us, hl with | [_, _, _], _ => rfl
  have F16 := fun_mk (st := s__law_formed) l16 d16 k16
  have b16 := F16.binds (ps := ["tree"]) fun _ _ _ _ _ _ us hl => match us, hl with | [_], _ => rfl
  have F17 := fun_mk (st := s__law_same) l17 d17 k17
  have b17 := F17.binds (ps := ["found", "due"]) fun _ _ _ _ _ _ us hl => match us, hl with | [_, _], _ => rfl
  have F18 := fun_mk (st := s__law_read) l18 d18 k18
  have b18 := F18.binds (ps := ["text"]) fun _ _ _ _ _ _ us hl => match us, hl with | [_], _ => rfl
  have F19 := fun_mk (st := s__law_spoilt) l19 d19 k19
  have b19 := F19.binds (ps := ["store", "text"]) fun _ _ _ _ _ _ us hl => match us, hl with | [_, _], _ => rfl
  have F20 := fun_mk (st := s__law_odd) l20 d20 k20
  have b20 := F20.binds (ps := ["store"]) fun _ _ _ _ _ _ us hl => match us, hl with | [_], _ => rfl
  have F21 := fun_mk (st := s__law_said) l21 d21 k21
  have b21 := F21.binds (ps := ["text"]) fun _ _ _ _ _ _ us hl => match us, hl with | [_], _ => rfl
  have F22 := fun_mk (st := s_law) l22 d22 k22
  have b22 := F22.binds (ps := ["script"]) fun _ _ _ _ _ _ us hl => match us, hl with | [_], _ => rfl
  let T : Txt K mg := ⟨f0, _, F0, b0, PySem.W.mg_of X G a0, f1, _, F1, b1, PySem.W.mg_of X G a1, f2, _, F2, b2, PySem.W.mg_of X G a2, f3, _, F3, b3, PySem.W.mg_of X G a3, f4, _, F4, b4, PySem.W.mg_of X G a4, f5, _, F5, b5, PySem.W.mg_of X G a5, f6, _, F6, b6, PySem.W.mg_of X G a6, f7, _, F7, b7, PySem.W.mg_of X G a7, f8, _, F8, b8, PySem.W.mg_of X G a8, f9, _, F9, b9, PySem.W.mg_of X G a9, f10, _, F10, b10, PySem.W.mg_of X G a10, f11, _, F11, b11, PySem.W.mg_of X G a11, f12, _, F12, b12, PySem.W.mg_of X G a12, f13, _, F13, b13, PySem.W.mg_of X G a13, f14, _, F14, b14, PySem.W.mg_of X G a14, f15, _, F15, b15, PySem.W.mg_of X G a15, f16, _, F16, b16, PySem.W.mg_of X G a16, f17, _, F17, b17, PySem.W.mg_of X G a17, f18, _, F18, b18, PySem.W.mg_of X G a18, f19, _, F19, b19, PySem.W.mg_of X G a19, f20, _, F20, b20, PySem.W.mg_of X G a20, f21, _, F21, b21, PySem.W.mg_of X G a21, fa, _, F22, b22, PySem.W.mg_of X G a22, c7, P7, rfl, PySem.W.mg_none_of X G z_bool, PySem.W.mg_none_of X G z_dict, PySem.W.mg_none_of X G z_int, PySem.W.mg_none_of X G z_isinstance, PySem.W.mg_none_of X G z_len, PySem.W.mg_none_of X G z_list, PySem.W.mg_none_of X G z_max, PySem.W.mg_none_of X G z_min, PySem.W.mg_none_of X G z_range, PySem.W.mg_none_of X G z_sorted, PySem.W.mg_none_of X G z_str, PySem.W.mg_none_of X G z_tuple, C_HeapError, C_NoTree, C_NoLetter, C_NoFit, C_TooMany, C_NoNumber, C_NoText, C_NoName, C_NoRow, PySem.W.mg_of X G ac_HeapError, k_HeapErrorc, PySem.W.mg_of X G ac_NoTree, k_NoTreec, PySem.W.mg_of X G ac_NoLetter, k_NoLetterc, PySem.W.mg_of X G ac_NoFit, k_NoFitc, PySem.W.mg_of X G ac_TooMany, k_TooManyc, PySem.W.mg_of X G ac_NoNumber, k_NoNumberc, PySem.W.mg_of X G ac_NoText, k_NoTextc, PySem.W.mg_of X G ac_NoName, k_NoNamec, PySem.W.mg_of X G ac_NoRow, k_NoRowc, x_NoTreec, b_NoTreec, t_NoTreec, E_NoTreec, em_NoTree_HeapErrorc, ki_NoTree_NoTreec, ki_NoTree_NoLetterc, ki_NoTree_NoFitc, ki_NoTree_TooManyc, ki_NoTree_NoNumberc, ki_NoTree_NoTextc, ki_NoTree_NoNamec, ki_NoTree_NoRowc, ki_NoTree_ValueErrorc, x_NoTextc, b_NoTextc, t_NoTextc, E_NoTextc, em_NoText_HeapErrorc, ki_NoText_NoTreec, ki_NoText_NoLetterc, ki_NoText_NoFitc, ki_NoText_TooManyc, ki_NoText_NoNumberc, ki_NoText_NoTextc, ki_NoText_NoNamec, ki_NoText_NoRowc, ki_NoText_ValueErrorc, PySem.W.mg_none_of X G zc_ValueError⟩
  refine ⟨?_, PySem.W.fnOf "law" "law" (defArgs s_law) (defBody s_law) (defScope s_law) .none kV22 dc22 pm22 an22 cd22 ct22, fun s v => .of_eq rfl, fun base _ _ hb => ?_⟩
  · intro z hz
    simp only [List.mem_cons, List.not_mem_nil, or_false] at hz
    subst hz
    exact ⟨t7, u7⟩
  · have B : Tbs T base := ⟨hb ("_joined", c7, P7) (by simp)⟩
    exact ok_law T B
end My
open PySem PySem.W PyProof.Rows
set_option maxRecDepth 100000 in
set_option maxHeartbeats 0 in
theorem PySem.Challenge.cw_heaptrees_k76_texts_of_no_tree_holds : PySem.Challenge.rw_heaptrees_k76_texts_of_no_tree.Holds := by
  w_on; o_law; k_head; (case hw => w_witness2)
  k_fill
  refine My.walk_ofT (l := PySem.Challenge.rw_heaptrees_k76_texts_of_no_tree) (n := 63) (k := 210) (x := "script") rfl (by decide) (by decide) rfl ⟨rfl, by decide, by decide⟩ (fun w h Y => Y.1) ["_joined"] ?R ?F
  case R => decide +kernel
  case F =>
    intro w mg fa h KX G hmg
    refine' ⟨_, ?n, ?m⟩
    case m =>
      refine' My.all_mk KX G hmg ?a0 ?l0 ?d0 ?k0 ?a1 ?l1 ?d1 ?k1 ?a2 ?l2 ?d2 ?k2 ?a3 ?l3 ?d3 ?k3 ?a4 ?l4 ?d4 ?k4 ?a5 ?l5 ?d5 ?k5 ?a6 ?l6 ?d6 ?k6 ?a7 ?l7 ?d7 ?k7 ?a8 ?l8 ?d8 ?k8 ?a9 ?l9 ?d9 ?k9 ?a10 ?l10 ?d10 ?k10 ?a11 ?l11 ?d11 ?k11 ?a12 ?l12 ?d12 ?k12 ?a13 ?l13 ?d13 ?k13 ?a14 ?l14 ?d14 ?k14 ?a15 ?l15 ?d15 ?k15 ?a16 ?l16 ?d16 ?k16 ?a17 ?l17 ?d17 ?k17 ?a18 ?l18 ?d18 ?k18 ?a19 ?l19 ?d19 ?k19 ?a20 ?l20 ?d20 ?k20 ?a21 ?l21 ?d21 ?k21 ?a22 ?l22 ?d22 ?k22 ?t7 ?u7 ?z_bool ?z_dict ?z_int ?z_isinstance ?z_len ?z_list ?z_max ?z_min ?z_range ?z_sorted ?z_str ?z_tuple ?ac_HeapError ?k_HeapErrorc ?ac_NoTree ?k_NoTreec ?ac_NoLetter ?k_NoLetterc ?ac_NoFit ?k_NoFitc ?ac_TooMany ?k_TooManyc ?ac_NoNumber ?k_NoNumberc ?ac_NoText ?k_NoTextc ?ac_NoName ?k_NoNamec ?ac_NoRow ?k_NoRowc ?x_NoTreec ?b_NoTreec ?t_NoTreec ?E_NoTreec ?em_NoTree_HeapErrorc ?ki_NoTree_NoTreec ?ki_NoTree_NoLetterc ?ki_NoTree_NoFitc ?ki_NoTree_TooManyc ?ki_NoTree_NoNumberc ?ki_NoTree_NoTextc ?ki_NoTree_NoNamec ?ki_NoTree_NoRowc ?ki_NoTree_ValueErrorc ?x_NoTextc ?b_NoTextc ?t_NoTextc ?E_NoTextc ?em_NoText_HeapErrorc ?ki_NoText_NoTreec ?ki_NoText_NoLetterc ?ki_NoText_NoFitc ?ki_NoText_TooManyc ?ki_NoText_NoNumberc ?ki_NoText_NoTextc ?ki_NoText_NoNamec ?ki_NoText_NoRowc ?ki_NoText_ValueErrorc ?zc_ValueError
      (case ac_HeapError => k_is)
      (case k_HeapErrorc => k_is)
      (case ac_NoTree => k_is)
      (case k_NoTreec => k_is)
      (case ac_NoLetter => k_is)
      (case k_NoLetterc => k_is)
      (case ac_NoFit => k_is)
      (case k_NoFitc => k_is)
      (case ac_TooMany => k_is)
      (case k_TooManyc => k_is)
      (case ac_NoNumber => k_is)
      (case k_NoNumberc => k_is)
      (case ac_NoText => k_is)
      (case k_NoTextc => k_is)
      (case ac_NoName => k_is)
      (case k_NoNamec => k_is)
      (case ac_NoRow => k_is)
      (case k_NoRowc => k_is)
      (case x_NoTreec => k_exc)
      (case b_NoTreec => k_is)
      (case t_NoTreec => k_is)
      (case E_NoTreec => refine ⟨?_, ?_, ?_, ?_, ?_, ?_, ?_, ?_⟩ <;> first | k_is | rfl | decide +kernel)
      (case em_NoTree_HeapErrorc => exact PySem.W.exm_ref (by k_is) (by k_is) (by k_is) (by first | k_is | rfl))
      (case ki_NoTree_NoTreec => exact My.kit_own (by k_is) (by k_is) (by first | k_is | rfl) (by first | exact .inl rfl | exact .inr rfl | exact .inr (by decide +kernel)))
      (case ki_NoTree_NoLetterc => exact My.kit_own (by k_is) (by k_is) (by first | k_is | rfl) (by first | exact .inl rfl | exact .inr rfl | exact .inr (by decide +kernel)))
      (case ki_NoTree_NoFitc => exact My.kit_own (by k_is) (by k_is) (by first | k_is | rfl) (by first | exact .inl rfl | exact .inr rfl | exact .inr (by decide +kernel)))
      (case ki_NoTree_TooManyc => exact My.kit_own (by k_is) (by k_is) (by first | k_is | rfl) (by first | exact .inl rfl | exact .inr rfl | exact .inr (by decide +kernel)))
      (case ki_NoTree_NoNumberc => exact My.kit_own (by k_is) (by k_is) (by first | k_is | rfl) (by first | exact .inl rfl | exact .inr rfl | exact .inr (by decide +kernel)))
      (case ki_NoTree_NoTextc => exact My.kit_own (by k_is) (by k_is) (by first | k_is | rfl) (by first | exact .inl rfl | exact .inr rfl | exact .inr (by decide +kernel)))
      (case ki_NoTree_NoNamec => exact My.kit_own (by k_is) (by k_is) (by first | k_is | rfl) (by first | exact .inl rfl | exact .inr rfl | exact .inr (by decide +kernel)))
      (case ki_NoTree_NoRowc => exact My.kit_own (by k_is) (by k_is) (by first | k_is | rfl) (by first | exact .inl rfl | exact .inr rfl | exact .inr (by decide +kernel)))
      (case ki_NoTree_ValueErrorc => exact My.kit_val (by k_is))
      (case x_NoTextc => k_exc)
      (case b_NoTextc => k_is)
      (case t_NoTextc => k_is)
      (case E_NoTextc => refine ⟨?_, ?_, ?_, ?_, ?_, ?_, ?_, ?_⟩ <;> first | k_is | rfl | decide +kernel)
      (case em_NoText_HeapErrorc => exact PySem.W.exm_ref (by k_is) (by k_is) (by k_is) (by first | k_is | rfl))
      (case ki_NoText_NoTreec => exact My.kit_own (by k_is) (by k_is) (by first | k_is | rfl) (by first | exact .inl rfl | exact .inr rfl | exact .inr (by decide +kernel)))
      (case ki_NoText_NoLetterc => exact My.kit_own (by k_is) (by k_is) (by first | k_is | rfl) (by first | exact .inl rfl | exact .inr rfl | exact .inr (by decide +kernel)))
      (case ki_NoText_NoFitc => exact My.kit_own (by k_is) (by k_is) (by first | k_is | rfl) (by first | exact .inl rfl | exact .inr rfl | exact .inr (by decide +kernel)))
      (case ki_NoText_TooManyc => exact My.kit_own (by k_is) (by k_is) (by first | k_is | rfl) (by first | exact .inl rfl | exact .inr rfl | exact .inr (by decide +kernel)))
      (case ki_NoText_NoNumberc => exact My.kit_own (by k_is) (by k_is) (by first | k_is | rfl) (by first | exact .inl rfl | exact .inr rfl | exact .inr (by decide +kernel)))
      (case ki_NoText_NoTextc => exact My.kit_own (by k_is) (by k_is) (by first | k_is | rfl) (by first | exact .inl rfl | exact .inr rfl | exact .inr (by decide +kernel)))
      (case ki_NoText_NoNamec => exact My.kit_own (by k_is) (by k_is) (by first | k_is | rfl) (by first | exact .inl rfl | exact .inr rfl | exact .inr (by decide +kernel)))
      (case ki_NoText_NoRowc => exact My.kit_own (by k_is) (by k_is) (by first | k_is | rfl) (by first | exact .inl rfl | exact .inr rfl | exact .inr (by decide +kernel)))
      (case ki_NoText_ValueErrorc => exact My.kit_val (by k_is))
      (case zc_ValueError => k_is)
      (case a0 => k_is)
      (case l0 => k_is)
      (case d0 => k_is)
      (case k0 => k_is)
      (case a1 => k_is)
      (case l1 => k_is)
      (case d1 => k_is)
      (case k1 => k_is)
      (case a2 => k_is)
      (case l2 => k_is)
      (case d2 => k_is)
      (case k2 => k_is)
      (case a3 => k_is)
      (case l3 => k_is)
      (case d3 => k_is)
      (case k3 => k_is)
      (case a4 => k_is)
      (case l4 => k_is)
      (case d4 => k_is)
      (case k4 => k_is)
      (case a5 => k_is)
      (case l5 => k_is)
      (case d5 => k_is)
      (case k5 => k_is)
      (case a6 => k_is)
      (case l6 => k_is)
      (case d6 => k_is)
      (case k6 => k_is)
      (case a7 => k_is)
      (case l7 => k_is)
      (case d7 => k_is)
      (case k7 => k_is)
      (case a8 => k_is)
      (case l8 => k_is)
      (case d8 => k_is)
      (case k8 => k_is)
      (case a9 => k_is)
      (case l9 => k_is)
      (case d9 => k_is)
      (case k9 => k_is)
      (case a10 => k_is)
      (case l10 => k_is)
      (case d10 => k_is)
      (case k10 => k_is)
      (case a11 => k_is)
      (case l11 => k_is)
      (case d11 => k_is)
      (case k11 => k_is)
      (case a12 => k_is)
      (case l12 => k_is)
      (case d12 => k_is)
      (case k12 => k_is)
      (case a13 => k_is)
      (case l13 => k_is)
      (case d13 => k_is)
      (case k13 => k_is)
      (case a14 => k_is)
      (case l14 => k_is)
      (case d14 => k_is)
      (case k14 => k_is)
      (case a15 => k_is)
      (case l15 => k_is)
      (case d15 => k_is)
      (case k15 => k_is)
      (case a16 => k_is)
      (case l16 => k_is)
      (case d16 => k_is)
      (case k16 => k_is)
      (case a17 => k_is)
      (case l17 => k_is)
      (case d17 => k_is)
      (case k17 => k_is)
      (case a18 => k_is)
      (case l18 => k_is)
      (case d18 => k_is)
      (case k18 => k_is)
      (case a19 => k_is)
      (case l19 => k_is)
      (case d19 => k_is)
      (case k19 => k_is)
      (case a20 => k_is)
      (case l20 => k_is)
      (case d20 => k_is)
      (case k20 => k_is)
      (case a21 => k_is)
      (case l21 => k_is)
      (case d21 => k_is)
      (case k21 => k_is)
      (case a22 => k_is)
      (case l22 => k_is)
      (case d22 => k_is)
      (case k22 => k_is)
      (case t7 => rfl)
      (case u7 => rfl)
      (case z_bool => k_is)
      (case z_dict => k_is)
      (case z_int => k_is)
      (case z_isinstance => k_is)
      (case z_len => k_is)
      (case z_list => k_is)
      (case z_max => k_is)
      (case z_min => k_is)
      (case z_range => k_is)
      (case z_sorted => k_is)
      (case z_str => k_is)
      (case z_tuple => k_is)
    case n => rfl
#print axioms PySem.Challenge.cw_heaptrees_k76_texts_of_no_tree_holds
