
import PyProof.Rows.All
import Wide.All
import OpenK.AllK
import Wide.FinOn
import HandS.ForMost
import HandS.Wide
import HandS.IsInst
import HandS.Flow
import HandS.Style
import HandS.Codes
import HandS.Lambda
import HandS.Star
import HandS.Nested
import HandS.EndTab
import HandS.SortKw
import HandS.FStr
import HandS.NoneIn
import HandS.More
import HandS.Zip
import HandS.Conv
import HandS.TupAny
import HandS.RaiseMore
import HandS.Walk
import HandS.Iter
import HandS.Dict
import PyProof.StrLawsRepr
import KE.SortKeyHeap
import PySem.Challenge.RW_heaptrees_k04_heaps_told
set_option Elab.async false
set_option linter.all false
set_option maxRecDepth 100000
set_option maxHeartbeats 4000000
namespace My
open PySem PySem.Spec PyProof.Rows L2
def topS (i : Nat) : Stmt := PySem.Challenge.pw_heaptrees_k04_heaps_told.main.body.getD i (.Pass ⟨0, 0, 0, 0⟩)
abbrev s_is_letter : Stmt := topS 4
theorem sc_is_letter : FnScope ["thing"] ["thing"] (defScope s_is_letter) := ⟨rfl, rfl, rfl, by decide +kernel, rfl, by decide +kernel, by decide +kernel⟩
abbrev s_is_tree : Stmt := topS 6
theorem sc_is_tree : FnScope ["thing", "waiting", "part"] ["thing"] (defScope s_is_tree) := ⟨rfl, rfl, rfl, by decide +kernel, rfl, by decide +kernel, by decide +kernel⟩
abbrev s__is_part : Stmt := topS 7
theorem sc__is_part : FnScope ["thing"] ["thing"] (defScope s__is_part) := ⟨rfl, rfl, rfl, by decide +kernel, rfl, by decide +kernel, by decide +kernel⟩
abbrev s_check_tree : Stmt := topS 8
theorem sc_check_tree : FnScope ["thing"] ["thing"] (defScope s_check_tree) := ⟨rfl, rfl, rfl, by decide +kernel, rfl, by decide +kernel, by decide +kernel⟩
abbrev s_parts_upward : Stmt := topS 9
theorem sc_parts_upward : FnScope ["tree", "parts", "waiting", "part"] ["tree"] (defScope s_parts_upward) := ⟨rfl, rfl, rfl, by decide +kernel, rfl, by decide +kernel, by decide +kernel⟩
abbrev s_built_upward : Stmt := topS 10
theorem sc_built_upward : FnScope ["tree", "made", "waiting", "letter", "children", "first", "below"] ["tree", "made"] (defScope s_built_upward) := ⟨rfl, rfl, rfl, by decide +kernel, rfl, by decide +kernel, by decide +kernel⟩
abbrev s__written_and_told : Stmt := topS 11
theorem sc__written_and_told : FnScope ["tree"] ["tree"] (defScope s__written_and_told) := ⟨rfl, rfl, rfl, by decide +kernel, rfl, by decide +kernel, by decide +kernel⟩
abbrev s__joined : Stmt := topS 12
theorem sc__joined : FnScope ["letter", "below", "rows", "row"] ["letter", "below"] (defScope s__joined) := ⟨rfl, rfl, rfl, by decide +kernel, rfl, by decide +kernel, by decide +kernel⟩
abbrev s_written_part : Stmt := topS 13
theorem sc_written_part : FnScope ["letter", "texts", "written"] ["letter", "texts"] (defScope s_written_part) := ⟨rfl, rfl, rfl, by decide +kernel, rfl, by decide +kernel, by decide +kernel⟩
abbrev s_heap_of : Stmt := topS 14
theorem sc_heap_of : FnScope ["tree", "rows", "child", "heap", "last", "written"] ["tree"] (defScope s_heap_of) := ⟨rfl, rfl, rfl, by decide +kernel, rfl, by decide +kernel, by decide +kernel⟩
abbrev s__law_pool : Stmt := topS 16
theorem sc__law_pool : FnScope ["script", "k", "cell"] ["script", "k"] (defScope s__law_pool) := ⟨rfl, rfl, rfl, by decide +kernel, rfl, by decide +kernel, by decide +kernel⟩
abbrev s__law_take : Stmt := topS 17
theorem sc__law_take : FnScope ["pool", "many", "found", "step", "mark"] ["pool", "many"] (defScope s__law_take) := ⟨rfl, rfl, rfl, by decide +kernel, rfl, by decide +kernel, by decide +kernel⟩
abbrev s__law_mixed_up : Stmt := topS 18
theorem sc__law_mixed_up : FnScope ["pool", "things", "left", "found"] ["pool", "things"] (defScope s__law_mixed_up) := ⟨rfl, rfl, rfl, by decide +kernel, rfl, by decide +kernel, by decide +kernel⟩
abbrev s__law_grown : Stmt := topS 19
theorem sc__law_grown : FnScope ["pool", "most", "letters", "many", "way", "depths", "rows", "k", "head", "trees", "children", "child"] ["pool", "most", "letters"] (defScope s__law_grown) := ⟨rfl, rfl, rfl, by decide +kernel, rfl, by decide +kernel, by decide +kernel⟩
abbrev s__law_shuffled : Stmt := topS 20
theorem sc__law_shuffled : FnScope ["pool", "tree", "child"] ["pool", "tree"] (defScope s__law_shuffled) := ⟨rfl, rfl, rfl, by decide +kernel, rfl, by decide +kernel, by decide +kernel⟩
abbrev s__law_tree : Stmt := topS 21
theorem sc__law_tree : FnScope ["pool", "most", "letters", "one", "other", "rows"] ["pool", "most", "letters"] (defScope s__law_tree) := ⟨rfl, rfl, rfl, by decide +kernel, rfl, by decide +kernel, by decide +kernel⟩
abbrev s__law_letters : Stmt := topS 22
theorem sc__law_letters : FnScope ["pool"] ["pool"] (defScope s__law_letters) := ⟨rfl, rfl, rfl, by decide +kernel, rfl, by decide +kernel, by decide +kernel⟩
abbrev s__law_copy : Stmt := topS 23
theorem sc__law_copy : FnScope ["tree", "child"] ["tree"] (defScope s__law_copy) := ⟨rfl, rfl, rfl, by decide +kernel, rfl, by decide +kernel, by decide +kernel⟩
abbrev s__law_form : Stmt := topS 24
theorem sc__law_form : FnScope ["tree", "left", "found", "least", "k", "written", "child", "one"] ["tree"] (defScope s__law_form) := ⟨rfl, rfl, rfl, by decide +kernel, rfl, by decide +kernel, by decide +kernel⟩
abbrev s__law_same : Stmt := topS 25
theorem sc__law_same : FnScope ["one", "other", "a", "b"] ["one", "other"] (defScope s__law_same) := ⟨rfl, rfl, rfl, by decide +kernel, rfl, by decide +kernel, by decide +kernel⟩
abbrev s__law_marked : Stmt := topS 26
theorem sc__law_marked : FnScope ["tree", "marks", "child"] ["tree", "marks"] (defScope s__law_marked) := ⟨rfl, rfl, rfl, by decide +kernel, rfl, by decide +kernel, by decide +kernel⟩
abbrev s__law_wider : Stmt := topS 27
theorem sc__law_wider : FnScope ["pool", "tree", "children", "left", "one", "turn"] ["pool", "tree"] (defScope s__law_wider) := ⟨rfl, rfl, rfl, by decide +kernel, rfl, by decide +kernel, by decide +kernel⟩
abbrev s__law_parts : Stmt := topS 28
theorem sc__law_parts : FnScope ["tree", "child"] ["tree"] (defScope s__law_parts) := ⟨rfl, rfl, rfl, by decide +kernel, rfl, by decide +kernel, by decide +kernel⟩
abbrev s__law_due : Stmt := topS 29
theorem sc__law_due : FnScope ["tree", "forms", "numbers", "child", "written", "form"] ["tree"] (defScope s__law_due) := ⟨rfl, rfl, rfl, by decide +kernel, rfl, by decide +kernel, by decide +kernel⟩
abbrev s__law_is_heap : Stmt := topS 30
theorem sc__law_is_heap : FnScope ["found", "due", "one", "other"] ["found", "due"] (defScope s__law_is_heap) := ⟨rfl, rfl, rfl, by decide +kernel, rfl, by decide +kernel, by decide +kernel⟩
abbrev s_law : Stmt := topS 31
theorem sc_law : FnScope ["script", "k", "pool", "tree", "due", "handed", "again", "found", "marks", "other", "one", "more", "copied"] ["script"] (defScope s_law) := ⟨rfl, rfl, rfl, by decide +kernel, rfl, by decide +kernel, by decide +kernel⟩
structure Txt (K : PySem.W.Frag) (mg : Str → Option Value) where
  f_is_letter : Addr
  d_is_letter : FuncData
  F_is_letter : Fun K "is_letter" "is_letter" s_is_letter f_is_letter d_is_letter
  b_is_letter : Binds K d_is_letter ["thing"] []
  m_is_letter : mg "is_letter" = some (.ref f_is_letter)
  f_is_tree : Addr
  d_is_tree : FuncData
  F_is_tree : Fun K "is_tree" "is_tree" s_is_tree f_is_tree d_is_tree
  b_is_tree : Binds K d_is_tree ["thing"] []
  m_is_tree : mg "is_tree" = some (.ref f_is_tree)
  f__is_part : Addr
  d__is_part : FuncData
  F__is_part : Fun K "_is_part" "_is_part" s__is_part f__is_part d__is_part
  b__is_part : Binds K d__is_part ["thing"] []
  m__is_part : mg "_is_part" = some (.ref f__is_part)
  f_check_tree : Addr
  d_check_tree : FuncData
  F_check_tree : Fun K "check_tree" "check_tree" s_check_tree f_check_tree d_check_tree
  b_check_tree : Binds K d_check_tree ["thing"] []
  m_check_tree : mg "check_tree" = some (.ref f_check_tree)
  f_parts_upward : Addr
  d_parts_upward : FuncData
  F_parts_upward : Fun K "parts_upward" "parts_upward" s_parts_upward f_parts_upward d_parts_upward
  b_parts_upward : Binds K d_parts_upward ["tree"] []
  m_parts_upward : mg "parts_upward" = some (.ref f_parts_upward)
  f_built_upward : Addr
  d_built_upward : FuncData
  F_built_upward : Fun K "built_upward" "built_upward" s_built_upward f_built_upward d_built_upward
  b_built_upward : Binds K d_built_upward ["tree", "made"] []
  m_built_upward : mg "built_upward" = some (.ref f_built_upward)
  f__written_and_told : Addr
  d__written_and_told : FuncData
  F__written_and_told : Fun K "_written_and_told" "_written_and_told" s__written_and_told f__written_and_told d__written_and_told
  b__written_and_told : Binds K d__written_and_told ["tree"] []
  m__written_and_told : mg "_written_and_told" = some (.ref f__written_and_told)
  f__joined : Addr
  d__joined : FuncData
  F__joined : Fun K "_joined" "_joined" s__joined f__joined d__joined
  b__joined : Binds K d__joined ["letter", "below"] []
  m__joined : mg "_joined" = some (.ref f__joined)
  f_written_part : Addr
  d_written_part : FuncData
  F_written_part : Fun K "written_part" "written_part" s_written_part f_written_part d_written_part
  b_written_part : Binds K d_written_part ["letter", "texts"] []
  m_written_part : mg "written_part" = some (.ref f_written_part)
  f_heap_of : Addr
  d_heap_of : FuncData
  F_heap_of : Fun K "heap_of" "heap_of" s_heap_of f_heap_of d_heap_of
  b_heap_of : Binds K d_heap_of ["tree"] []
  m_heap_of : mg "heap_of" = some (.ref f_heap_of)
  f__law_pool : Addr
  d__law_pool : FuncData
  F__law_pool : Fun K "_law_pool" "_law_pool" s__law_pool f__law_pool d__law_pool
  b__law_pool : Binds K d__law_pool ["script", "k"] []
  m__law_pool : mg "_law_pool" = some (.ref f__law_pool)
  f__law_take : Addr
  d__law_take : FuncData
  F__law_take : Fun K "_law_take" "_law_take" s__law_take f__law_take d__law_take
  b__law_take : Binds K d__law_take ["pool", "many"] []
  m__law_take : mg "_law_take" = some (.ref f__law_take)
  f__law_mixed_up : Addr
  d__law_mixed_up : FuncData
  F__law_mixed_up : Fun K "_law_mixed_up" "_law_mixed_up" s__law_mixed_up f__law_mixed_up d__law_mixed_up
  b__law_mixed_up : Binds K d__law_mixed_up ["pool", "things"] []
  m__law_mixed_up : mg "_law_mixed_up" = some (.ref f__law_mixed_up)
  f__law_grown : Addr
  d__law_grown : FuncData
  F__law_grown : Fun K "_law_grown" "_law_grown" s__law_grown f__law_grown d__law_grown
  b__law_grown : Binds K d__law_grown ["pool", "most", "letters"] []
  m__law_grown : mg "_law_grown" = some (.ref f__law_grown)
  f__law_shuffled : Addr
  d__law_shuffled : FuncData
  F__law_shuffled : Fun K "_law_shuffled" "_law_shuffled" s__law_shuffled f__law_shuffled d__law_shuffled
  b__law_shuffled : Binds K d__law_shuffled ["pool", "tree"] []
  m__law_shuffled : mg "_law_shuffled" = some (.ref f__law_shuffled)
  f__law_tree : Addr
  d__law_tree : FuncData
  F__law_tree : Fun K "_law_tree" "_law_tree" s__law_tree f__law_tree d__law_tree
  b__law_tree : Binds K d__law_tree ["pool", "most", "letters"] []
  m__law_tree : mg "_law_tree" = some (.ref f__law_tree)
  f__law_letters : Addr
  d__law_letters : FuncData
  F__law_letters : Fun K "_law_letters" "_law_letters" s__law_letters f__law_letters d__law_letters
  b__law_letters : Binds K d__law_letters ["pool"] []
  m__law_letters : mg "_law_letters" = some (.ref f__law_letters)
  f__law_copy : Addr
  d__law_copy : FuncData
  F__law_copy : Fun K "_law_copy" "_law_copy" s__law_copy f__law_copy d__law_copy
  b__law_copy : Binds K d__law_copy ["tree"] []
  m__law_copy : mg "_law_copy" = some (.ref f__law_copy)
  f__law_form : Addr
  d__law_form : FuncData
  F__law_form : Fun K "_law_form" "_law_form" s__law_form f__law_form d__law_form
  b__law_form : Binds K d__law_form ["tree"] []
  m__law_form : mg "_law_form" = some (.ref f__law_form)
  f__law_same : Addr
  d__law_same : FuncData
  F__law_same : Fun K "_law_same" "_law_same" s__law_same f__law_same d__law_same
  b__law_same : Binds K d__law_same ["one", "other"] []
  m__law_same : mg "_law_same" = some (.ref f__law_same)
  f__law_marked : Addr
  d__law_marked : FuncData
  F__law_marked : Fun K "_law_marked" "_law_marked" s__law_marked f__law_marked d__law_marked
  b__law_marked : Binds K d__law_marked ["tree", "marks"] []
  m__law_marked : mg "_law_marked" = some (.ref f__law_marked)
  f__law_wider : Addr
  d__law_wider : FuncData
  F__law_wider : Fun K "_law_wider" "_law_wider" s__law_wider f__law_wider d__law_wider
  b__law_wider : Binds K d__law_wider ["pool", "tree"] []
  m__law_wider : mg "_law_wider" = some (.ref f__law_wider)
  f__law_parts : Addr
  d__law_parts : FuncData
  F__law_parts : Fun K "_law_parts" "_law_parts" s__law_parts f__law_parts d__law_parts
  b__law_parts : Binds K d__law_parts ["tree"] []
  m__law_parts : mg "_law_parts" = some (.ref f__law_parts)
  f__law_due : Addr
  d__law_due : FuncData
  F__law_due : Fun K "_law_due" "_law_due" s__law_due f__law_due d__law_due
  b__law_due : Binds K d__law_due ["tree"] []
  m__law_due : mg "_law_due" = some (.ref f__law_due)
  f__law_is_heap : Addr
  d__law_is_heap : FuncData
  F__law_is_heap : Fun K "_law_is_heap" "_law_is_heap" s__law_is_heap f__law_is_heap d__law_is_heap
  b__law_is_heap : Binds K d__law_is_heap ["found", "due"] []
  m__law_is_heap : mg "_law_is_heap" = some (.ref f__law_is_heap)
  f_law : Addr
  d_law : FuncData
  F_law : Fun K "law" "law" s_law f_law d_law
  b_law : Binds K d_law ["script"] []
  m_law : mg "law" = some (.ref f_law)
  c__joined : Addr
  P__joined : Addr
  h__joined : d__joined.code = .ref c__joined
  c_heap_of : Addr
  P_heap_of : Addr
  h_heap_of : d_heap_of.code = .ref c_heap_of
  n__joined_heap_of : P__joined ≠ P_heap_of
  z_bool : mg "bool" = none
  z_int : mg "int" = none
  z_isinstance : mg "isinstance" = none
  z_len : mg "len" = none
  z_list : mg "list" = none
  z_max : mg "max" = none
  z_min : mg "min" = none
  z_range : mg "range" = none
  z_sorted : mg "sorted" = none
  z_str : mg "str" = none
  z_sum : mg "sum" = none
  z_tuple : mg "tuple" = none
  z_zip : mg "zip" = none
structure Tbs {K : PySem.W.Frag} {mg : Str → Option Value} (T : Txt K mg) (base : Heap) : Prop where
  tb__joined : LamX.TabB base mg T.c__joined T.P__joined
  tb_heap_of : LamX.TabB base mg T.c_heap_of T.P_heap_of
abbrev q__joined : Str := "_joined" ++ ".<locals>." ++ "<lambda>"
abbrev q_heap_of : Str := "heap_of" ++ ".<locals>." ++ "<lambda>"
local macro_rules | `(tactic| walk_at "my rd") => `(tactic| repeat (first | refine ⟨_, rfl, ?_⟩ | refine ⟨_, _, rfl, rfl, ?_⟩ | refine ⟨rfl, ?_⟩))
local macro_rules | `(tactic| walk_at "my one") => `(tactic| first | refine ⟨_, rfl, ?_⟩ | refine ⟨_, _, rfl, rfl, ?_⟩ | refine ⟨rfl, ?_⟩)
def Chg (p : Addr) (H H' : Hp) : Prop := ∀ b, b ≠ p → H' b = H b
theorem Chg.refl (p : Addr) (H : Hp) : Chg p H H := fun _ _ => rfl
theorem Chg.trans {p : Addr} {H H1 H2 : Hp} (a : Chg p H H1) (b : Chg p H1 H2) : Chg p H H2 := fun c hc => (b c hc).trans (a c hc)
theorem Chg.upd {p : Addr} {H : Hp} {o : HO} : Chg p H (upd H p o) := fun _ h => upd_ne h
theorem Chg.at {p b : Addr} {H H' : Hp} {o : HO} (c : Chg p H H') (h : H b = some o) (n : b ≠ p) : H' b = some o := (c b n).trans h
theorem Chg.seq {K : PySem.W.Frag} {p a : Addr} {H H' : Hp} {xs : List V} (c : Chg p H H') (hp : H p = none) (h : SqL K H a xs) : SqL K H' a xs := by
  rcases h with (h | ⟨o, h⟩) | h
  · exact .inl (.inl (c.at h (ne_of_none h hp)))
  · exact .inl (.inr ⟨o, c.at h (ne_of_none h hp)⟩)
  · exact .inr h
theorem same_new {H : Hp} {p : Addr} {o : HO} (h : H p = none) : Same H (upd H p o) := fun b u q => by rw [upd_ne (ne_of_none q h)]; exact q
theorem nn_mul {a b A B : Int} (h0 : 0 ≤ a) (h1 : a ≤ A) (g0 : 0 ≤ b) (g1 : b ≤ B) : 0 ≤ a * b ∧ a * b ≤ A * B :=
  ⟨Int.mul_nonneg h0 g0, Int.mul_le_mul h1 g1 g0 (Int.le_trans h0 h1)⟩
theorem divW {i j : Int} (h : 0 < j) (h2 : j < 2 ^ 60) : CDivW i j := wide_div (b := 60) h (by omega) (by decide) (by decide)

theorem lay_ints : ∀ xs : List Int, PyData.canLayAll0 (xs.map PyData.int) = true
  | [] => by simp only [List.map_nil, PyData.canLayAll0]
  | x :: r => by simp only [List.map_cons, PyData.canLayAll0, PyData.canLay0, lay_ints r, Bool.and_self]
theorem dep_ints : ∀ xs : List Int, PyData.depthAll (xs.map PyData.int) ≤ 1
  | [] => by simp only [List.map_nil, PyData.depthAll]; omega
  | x :: r => by
    have := dep_ints r
    simp only [List.map_cons, PyData.depthAll, PyData.depth]
    omega
theorem shaped_ints (xs : List Int) : SeqAt.shaped (.list (xs.map PyData.int)) = true := by
  have a := lay_ints xs
  have b := dep_ints xs
  unfold SeqAt.shaped
  rw [Bool.and_eq_true]
  refine ⟨by simp only [PyData.canLay0]; exact a, decide_eq_true ?_⟩
  simp only [PyData.depth]
  omega
theorem dp_ints {K : PySem.W.Frag} {H : Hp} : ∀ xs : List Int, DpAll K H (xs.map V.int) (xs.map PyData.int)
  | [] => .nil
  | x :: r => .cons (.int x) (dp_ints r)
theorem dp_intsL {K : PySem.W.Frag} {H : Hp} {a : Addr} {xs : List Int} (h : SqL K H a (xs.map V.int)) : Dp K H (.ref a) (.list (xs.map PyData.int)) := .lst h (dp_ints xs)
theorem eqv_self {d : PyData} (h : SeqAt.shaped d = true) : PyData.eqv d d = true := SeqAt.eqv_refl d (SeqAt.canLay_of_shaped h)

inductive Tr where
  | node (c : Nat) (ks : List Tr)
def ch (c : Nat) : Str := ⟨#[c]⟩
mutual
def Tr.size : Tr → Nat
  | .node _ ks => 1 + sizes ks
def sizes : List Tr → Nat
  | [] => 0
  | t :: r => t.size + sizes r
end
mutual
def Tr.depth : Tr → Nat
  | .node _ ks => 1 + depths ks
def depths : List Tr → Nat
  | [] => 0
  | t :: r => max t.depth (depths r)
end
mutual
def Tr.post : Tr → List Tr
  | .node c ks => posts ks ++ [.node c ks]
def posts : List Tr → List Tr
  | [] => []
  | t :: r => t.post ++ posts r
end

mutual
def Tr.lets (p : Nat → Prop) : Tr → Prop
  | .node c ks => p c ∧ letss p ks
def letss (p : Nat → Prop) : List Tr → Prop
  | [] => True
  | t :: r => t.lets p ∧ letss p r
end
def Tr.kids : Tr → List Tr
  | .node _ ks => ks
def Tr.top : Tr → Nat
  | .node c _ => c
theorem sizes_append : ∀ a b : List Tr, sizes (a ++ b) = sizes a + sizes b
  | [], b => by simp only [List.nil_append, sizes]; omega
  | t :: r, b => by simp only [List.cons_append, sizes, sizes_append r b]; omega
theorem depths_append : ∀ a b : List Tr, depths (a ++ b) = max (depths a) (depths b)
  | [], b => by simp only [List.nil_append, depths]; omega
  | t :: r, b => by simp only [List.cons_append, depths, depths_append r b]; omega
theorem posts_append : ∀ a b : List Tr, posts (a ++ b) = posts a ++ posts b
  | [], b => by simp only [List.nil_append, posts]
  | t :: r, b => by simp only [List.cons_append, posts, posts_append r b, List.append_assoc]
theorem letss_append (p : Nat → Prop) : ∀ a b : List Tr, letss p (a ++ b) ↔ letss p a ∧ letss p b
  | [], b => by simp only [List.nil_append, letss, true_and]
  | t :: r, b => by simp only [List.cons_append, letss, letss_append p r b, and_assoc]
theorem size_pos : ∀ t : Tr, 1 ≤ t.size
  | .node c ks => by simp only [Tr.size]; omega
theorem len_sizes : ∀ ts : List Tr, ts.length ≤ sizes ts
  | [] => Nat.le_refl _
  | t :: r => by
    have a := size_pos t
    have b := len_sizes r
    simp only [List.length_cons, sizes]
    omega
mutual
theorem post_len : ∀ t : Tr, t.post.length = t.size
  | .node c ks => by simp only [Tr.post, List.length_append, posts_len ks, List.length_singleton, Tr.size]; omega
theorem posts_len : ∀ ts : List Tr, (posts ts).length = sizes ts
  | [] => rfl
  | t :: r => by simp only [posts, List.length_append, post_len t, posts_len r, sizes]
end
theorem sizes_mem : ∀ {ts : List Tr} {t : Tr}, t ∈ ts → t.size ≤ sizes ts
  | u :: r, t, h => by
    rcases List.mem_cons.mp h with e | h
    · subst e; simp only [sizes]; omega
    · have := sizes_mem h
      simp only [sizes]; omega
theorem depths_mem : ∀ {ts : List Tr} {t : Tr}, t ∈ ts → t.depth ≤ depths ts
  | u :: r, t, h => by
    rcases List.mem_cons.mp h with e | h
    · subst e; simp only [depths]; omega
    · have := depths_mem h
      simp only [depths]; omega
theorem letss_mem {p : Nat → Prop} : ∀ {ts : List Tr} {t : Tr}, letss p ts → t ∈ ts → t.lets p
  | u :: r, t, hl, h => by
    simp only [letss] at hl
    rcases List.mem_cons.mp h with e | h
    · subst e; exact hl.1
    · exact letss_mem hl.2 h
mutual
theorem lets_mono {p q : Nat → Prop} (h : ∀ c, p c → q c) : ∀ t : Tr, t.lets p → t.lets q
  | .node c ks, a => by
    simp only [Tr.lets] at a ⊢
    exact ⟨h _ a.1, letss_mono h ks a.2⟩
theorem letss_mono {p q : Nat → Prop} (h : ∀ c, p c → q c) : ∀ ts : List Tr, letss p ts → letss q ts
  | [], _ => trivial
  | t :: r, a => by
    simp only [letss] at a ⊢
    exact ⟨lets_mono h t a.1, letss_mono h r a.2⟩
end
mutual
inductive TrAt (ok : Addr → Prop) (H : Hp) : V → Tr → Prop
  | node {a l : Addr} {vs : List V} {c : Nat} {ks : List Tr} : H a = some (.tup [.str (ch c), .ref l]) → H l = some (.lst vs) → ok a → ok l → 97 ≤ c → c ≤ 122 → TrsAt ok H vs ks → TrAt ok H (.ref a) (.node c ks)
inductive TrsAt (ok : Addr → Prop) (H : Hp) : List V → List Tr → Prop
  | nil : TrsAt ok H [] []
  | cons {v : V} {vs : List V} {t : Tr} {ts : List Tr} : TrAt ok H v t → TrsAt ok H vs ts → TrsAt ok H (v :: vs) (t :: ts)
end
section
variable {ok ok' : Addr → Prop} {H H' : Hp}
mutual
theorem TrAt.imp (hk : ∀ b, ok b → ok' b) (h : ∀ b o, ok b → H b = some o → H' b = some o) : ∀ (t : Tr) (v : V), TrAt ok H v t → TrAt ok' H' v t
  | .node c ks, v, x => by
    cases x with
    | node h1 h2 k1 k2 c1 c2 r => exact .node (h _ _ k1 h1) (h _ _ k2 h2) (hk _ k1) (hk _ k2) c1 c2 (TrsAt.imp hk h ks _ r)
theorem TrsAt.imp (hk : ∀ b, ok b → ok' b) (h : ∀ b o, ok b → H b = some o → H' b = some o) : ∀ (ts : List Tr) (vs : List V), TrsAt ok H vs ts → TrsAt ok' H' vs ts
  | [], _, x => by cases x; exact .nil
  | t :: r, _, x => by
    cases x with
    | cons a b => exact .cons (TrAt.imp hk h t _ a) (TrsAt.imp hk h r _ b)
end
theorem TrAt.keep {v : V} {t : Tr} (x : TrAt ok H v t) (h : ∀ b o, ok b → H b = some o → H' b = some o) : TrAt ok H' v t := TrAt.imp (fun _ k => k) h t v x
theorem TrsAt.keep {vs : List V} {ts : List Tr} (x : TrsAt ok H vs ts) (h : ∀ b o, ok b → H b = some o → H' b = some o) : TrsAt ok H' vs ts := TrsAt.imp (fun _ k => k) h ts vs x
theorem TrAt.weak {v : V} {t : Tr} (x : TrAt ok H v t) (h : ∀ b, ok b → ok' b) : TrAt ok' H v t := TrAt.imp h (fun _ _ _ e => e) t v x
theorem TrsAt.weak {vs : List V} {ts : List Tr} (x : TrsAt ok H vs ts) (h : ∀ b, ok b → ok' b) : TrsAt ok' H vs ts := TrsAt.imp h (fun _ _ _ e => e) ts vs x
mutual
theorem TrAt.there : ∀ (t : Tr) (v : V), TrAt ok H v t → TrAt (fun b => ok b ∧ ∃ o, H b = some o) H v t
  | .node c ks, v, x => by
    cases x with
    | node h1 h2 k1 k2 c1 c2 r => exact .node h1 h2 ⟨k1, _, h1⟩ ⟨k2, _, h2⟩ c1 c2 (TrsAt.there ks _ r)
theorem TrsAt.there : ∀ (ts : List Tr) (vs : List V), TrsAt ok H vs ts → TrsAt (fun b => ok b ∧ ∃ o, H b = some o) H vs ts
  | [], _, x => by cases x; exact .nil
  | t :: r, _, x => by
    cases x with
    | cons a b => exact .cons (TrAt.there t _ a) (TrsAt.there r _ b)
end
theorem TrsAt.len : ∀ {vs : List V} {ts : List Tr}, TrsAt ok H vs ts → vs.length = ts.length
  | [], [], _ => rfl
  | v :: vs, t :: ts, h => by
    cases h with
    | cons a b => simp only [List.length_cons, TrsAt.len b]
  | [], _ :: _, h => by cases h
  | _ :: _, [], h => by cases h
theorem TrsAt.get : ∀ {vs : List V} {ts : List Tr} {i : Nat} {t : Tr}, TrsAt ok H vs ts → ts[i]? = some t → ∃ v, vs[i]? = some v ∧ TrAt ok H v t
  | _, _, i, t, .nil, e => by simp at e
  | _, _, 0, t, .cons a _, e => by simp at e; subst e; exact ⟨_, rfl, a⟩
  | _, _, i + 1, t, .cons _ b, e => by
    obtain ⟨v, h1, h2⟩ := TrsAt.get (i := i) (t := t) b (by simpa using e)
    exact ⟨v, by simpa using h1, h2⟩
theorem TrsAt.getV : ∀ {vs : List V} {ts : List Tr} {i : Nat} {v : V}, TrsAt ok H vs ts → vs[i]? = some v → ∃ t, ts[i]? = some t ∧ TrAt ok H v t
  | _, _, i, t, .nil, e => by simp at e
  | _, _, 0, t, .cons a _, e => by simp at e; subst e; exact ⟨_, rfl, a⟩
  | _, _, i + 1, t, .cons _ b, e => by
    obtain ⟨v, h1, h2⟩ := TrsAt.getV (i := i) (v := t) b (by simpa using e)
    exact ⟨v, by simpa using h1, h2⟩
theorem TrsAt.append : ∀ {vs ws : List V} {ts us : List Tr}, TrsAt ok H vs ts → TrsAt ok H ws us → TrsAt ok H (vs ++ ws) (ts ++ us)
  | [], _, [], _, _, h => h
  | v :: vs, _, t :: ts, _, h, g => by
    cases h with
    | cons a b => exact .cons a (TrsAt.append b g)
  | [], _, _ :: _, _, h, _ => by cases h
  | _ :: _, _, [], _, h, _ => by cases h
theorem TrsAt.split : ∀ {vs ws : List V} {ts : List Tr}, TrsAt ok H (vs ++ ws) ts → ∃ a b, ts = a ++ b ∧ TrsAt ok H vs a ∧ TrsAt ok H ws b
  | [], ws, ts, h => ⟨[], ts, rfl, .nil, h⟩
  | v :: vs, ws, _, h => by
    cases h with
    | cons x y =>
      obtain ⟨a, b, e, h1, h2⟩ := TrsAt.split y
      exact ⟨_ :: a, b, by rw [e]; rfl, .cons x h1, h2⟩
theorem TrsAt.perm {vs ws : List V} (p : vs.Perm ws) : ∀ {ts : List Tr}, TrsAt ok H vs ts → ∃ us, ts.Perm us ∧ TrsAt ok H ws us := by
  induction p with
  | nil => intro ts h; exact ⟨ts, .refl _, h⟩
  | cons x _ ih =>
    intro ts h
    cases h with
    | cons a b =>
      obtain ⟨us, p1, h1⟩ := ih b
      exact ⟨_ :: us, p1.cons _, .cons a h1⟩
  | swap x y l =>
    intro ts h
    cases h with
    | cons a b =>
      cases b with
      | cons c d => exact ⟨_, .swap _ _ _, .cons c (.cons a d)⟩
  | trans _ _ ih1 ih2 =>
    intro ts h
    obtain ⟨us, p1, h1⟩ := ih1 h
    obtain ⟨ws, p2, h2⟩ := ih2 h1
    exact ⟨ws, p1.trans p2, h2⟩
theorem TrsAt.rev {vs : List V} {ts : List Tr} (h : TrsAt ok H vs ts) : TrsAt ok H vs.reverse ts.reverse := by
  induction vs generalizing ts with
  | nil => cases h; exact .nil
  | cons v vs ih =>
    cases h with
    | cons a b =>
      rw [List.reverse_cons, List.reverse_cons]
      exact (ih b).append (.cons a .nil)
end
theorem sizes_perm {a b : List Tr} (p : a.Perm b) : sizes a = sizes b := by
  induction p with
  | nil => rfl
  | cons x _ ih => simp only [sizes, ih]
  | swap x y l => simp only [sizes]; omega
  | trans _ _ ih1 ih2 => exact ih1.trans ih2
theorem depths_perm {a b : List Tr} (p : a.Perm b) : depths a = depths b := by
  induction p with
  | nil => rfl
  | cons x _ ih => simp only [depths, ih]
  | swap x y l => simp only [depths]; omega
  | trans _ _ ih1 ih2 => exact ih1.trans ih2
theorem letss_perm {p : Nat → Prop} {a b : List Tr} (h : a.Perm b) : letss p a → letss p b := by
  induction h with
  | nil => exact id
  | cons x _ ih =>
    intro q
    simp only [letss] at q ⊢
    exact ⟨q.1, ih q.2⟩
  | swap x y l =>
    intro q
    simp only [letss] at q ⊢
    exact ⟨q.2.1, q.1, q.2.2⟩
  | trans _ _ ih1 ih2 => exact fun q => ih2 (ih1 q)
mutual
inductive Sh : Tr → Tr → Prop
  | node {c : Nat} {ks us ls : List Tr} : ks.Perm us → Shs us ls → Sh (.node c ks) (.node c ls)
inductive Shs : List Tr → List Tr → Prop
  | nil : Shs [] []
  | cons {t u : Tr} {ts us : List Tr} : Sh t u → Shs ts us → Shs (t :: ts) (u :: us)
end
mutual
theorem Sh.refl : ∀ t : Tr, Sh t t
  | .node c ks => .node (.refl _) (Shs.refl ks)
theorem Shs.refl : ∀ ts : List Tr, Shs ts ts
  | [] => .nil
  | t :: r => .cons (Sh.refl t) (Shs.refl r)
end
mutual
theorem Sh.size : ∀ {t u : Tr}, Sh t u → t.size = u.size
  | _, _, .node p h => by simp only [Tr.size, sizes_perm p, Shs.sizes h]
theorem Shs.sizes : ∀ {ts us : List Tr}, Shs ts us → My.sizes ts = My.sizes us
  | _, _, .nil => rfl
  | _, _, .cons a b => by simp only [My.sizes, Sh.size a, Shs.sizes b]
end
mutual
theorem Sh.depth : ∀ {t u : Tr}, Sh t u → t.depth = u.depth
  | _, _, .node p h => by simp only [Tr.depth, depths_perm p, Shs.depths h]
theorem Shs.depths : ∀ {ts us : List Tr}, Shs ts us → My.depths ts = My.depths us
  | _, _, .nil => rfl
  | _, _, .cons a b => by simp only [My.depths, Sh.depth a, Shs.depths b]
end
mutual
theorem Sh.lets {p : Nat → Prop} : ∀ {t u : Tr}, Sh t u → t.lets p → u.lets p
  | _, _, .node q h, a => by
    simp only [Tr.lets] at a ⊢
    exact ⟨a.1, Shs.letss h (letss_perm q a.2)⟩
theorem Shs.letss {p : Nat → Prop} : ∀ {ts us : List Tr}, Shs ts us → My.letss p ts → My.letss p us
  | _, _, .nil, a => a
  | _, _, .cons x y, a => by
    simp only [My.letss] at a ⊢
    exact ⟨Sh.lets x a.1, Shs.letss y a.2⟩
end
theorem Shs.len : ∀ {ts us : List Tr}, Shs ts us → ts.length = us.length
  | _, _, .nil => rfl
  | _, _, .cons a b => by simp only [List.length_cons, Shs.len b]
theorem Shs.append : ∀ {ts us ts' us' : List Tr}, Shs ts us → Shs ts' us' → Shs (ts ++ ts') (us ++ us')
  | _, _, _, _, .nil, h => h
  | _, _, _, _, .cons a b, h => .cons a (Shs.append b h)

def Fr (p : Addr) (H H' : Hp) : Prop := ∀ b o, b ≠ p → H b = some o → H' b = some o
theorem Fr.refl (p : Addr) (H : Hp) : Fr p H H := fun _ _ _ h => h
theorem Fr.trans {p : Addr} {H H1 H2 : Hp} (a : Fr p H H1) (b : Fr p H1 H2) : Fr p H H2 := fun c o n h => b c o n (a c o n h)
theorem Fr.same {p : Addr} {H H' : Hp} (s : Same H H') : Fr p H H' := fun b o _ h => s b o h
theorem Fr.chg {p : Addr} {H H' : Hp} (c : Chg p H H') : Fr p H H' := fun _ _ n h => c.at h n
theorem Fr.new {p q : Addr} {H H' : Hp} {o : HO} (f : Fr p H H') (h : H q = none) : Fr p H (upd H' q o) := fun b u n e => by
  rw [upd_ne (ne_of_none e h)]
  exact f b u n e
theorem same_add {q : Addr} {H H' : Hp} {o : HO} (f : Same H H') (h : H q = none) : Same H (upd H' q o) := fun b u e => by
  rw [upd_ne (ne_of_none e h)]
  exact f b u e
theorem Fr.free {p q : Addr} {H H' : Hp} (f : Fr p H H') (hp : H' p ≠ none) (h : H' q = none) : H q = none := by
  cases e : H q with
  | none => rfl
  | some o =>
    by_cases hq : q = p
    · subst hq; exact absurd h hp
    · rw [f q o hq e] at h; cases h
theorem Fr.seq {K : PySem.W.Frag} {p a : Addr} {H H' : Hp} {xs : List V} (c : Fr p H H') (hp : H p = none) (h : SqL K H a xs) : SqL K H' a xs := by
  rcases h with (h | ⟨o, h⟩) | h
  · exact .inl (.inl (c _ _ (ne_of_none h hp) h))
  · exact .inl (.inr ⟨o, c _ _ (ne_of_none h hp) h⟩)
  · exact .inr h
theorem TrAt.same {ok : Addr → Prop} {H H' : Hp} {v : V} {t : Tr} (x : TrAt ok H v t) (s : Same H H') : TrAt ok H' v t := x.keep fun b o _ h => s b o h
theorem TrsAt.same {ok : Addr → Prop} {H H' : Hp} {vs : List V} {ts : List Tr} (x : TrsAt ok H vs ts) (s : Same H H') : TrsAt ok H' vs ts := x.keep fun b o _ h => s b o h
theorem TrAt.off {ok : Addr → Prop} {H : Hp} {v : V} {t : Tr} {w : Addr} (x : TrAt ok H v t) (h : H w = none) : TrAt (fun b => ok b ∧ b ≠ w) H v t :=
  (TrAt.there t v x).weak fun b ⟨k, o, e⟩ => ⟨k, ne_of_none e h⟩
theorem TrsAt.off {ok : Addr → Prop} {H : Hp} {vs : List V} {ts : List Tr} {w : Addr} (x : TrsAt ok H vs ts) (h : H w = none) : TrsAt (fun b => ok b ∧ b ≠ w) H vs ts :=
  (TrsAt.there ts vs x).weak fun b ⟨k, o, e⟩ => ⟨k, ne_of_none e h⟩
theorem upd_keep {H : Hp} {w : Addr} {o : HO} {ok : Addr → Prop} (h : ∀ b, ok b → b ≠ w) : ∀ b u, ok b → H b = some u → (upd H w o) b = some u := fun b u k e => by
  rw [upd_ne (h b k)]
  exact e
theorem lc_outer {K : PySem.W.Frag} {a : Addr} {xs : List V} {Bd : V → Hp → (Hp → Prop) → Prop} {Qd : Hp → Prop} {H0 : Hp} (Pv : Nat → Hp → Prop) (h0 : Pv 0 H0) (hl : ∀ i H, i ≤ xs.length → Pv i H → SqL K H a xs)
    (hs : ∀ i x H, xs[i]? = some x → Pv i H → Bd x H (Pv (i + 1))) (hd : ∀ H, Pv xs.length H → Qd H) :
    ∃ W : Nat → Nat → Hp → Prop, (∃ m, W 0 m H0) ∧ ∀ i m H, W i m H → ((Itl K a).stop i H ∧ Qd H) ∨ ((Itl K a).go i H ∧ ∃ Nx : Hp → Prop, (∀ H', Nx H' → ∃ m', m' < m ∧ W (i + 1) m' H') ∧ ∀ x H', (Itl K a).yld i H x H' → Bd x H' Nx) := by
  refine ⟨fun i m H => m = xs.length - i ∧ i ≤ xs.length ∧ Pv i H, ⟨xs.length, by simp, Nat.zero_le _, h0⟩, ?_⟩
  rintro i m H ⟨rfl, hi, p⟩
  have q := hl i H hi p
  by_cases hlt : i < xs.length
  · refine .inr ⟨⟨xs, xs[i], q, by simp [hlt]⟩, Pv (i + 1), fun H' p' => ⟨xs.length - (i + 1), by omega, rfl, hlt, p'⟩, fun x H' y => ?_⟩
    obtain ⟨e, y⟩ := y
    subst e
    exact hs i x _ (y xs q) p
  · have e : i = xs.length := by omega
    subst e
    exact .inl ⟨⟨xs, q, Nat.le_refl _⟩, hd H p⟩
theorem take_succ_of {α : Type} {l : List α} {i : Nat} {x : α} (h : l[i]? = some x) : l.take (i + 1) = l.take i ++ [x] := by
  rw [List.take_add_one, h]
  rfl

def RowL (params : Arguments) (scope : PySem.Scope) (body : PySem.Expr) : Prop :=
  (∃ (x : Str) (p1 p2 p3 : Pos) (k0 : Nat), body = .Subscript (.Name x p1) (.Constant (.int 0) k0 p2) p3 ∧ (x == Str.ofString "__debug__") = false ∧ scope.names = [(x, .local)] ∧
    ∀ (fd : FuncData) (u : Value), fd.params = params → fd.defaults = .none → fd.kwdefaults = .none → bindArgs fd ⟨[u], []⟩ = pure [(x, u)]) ∧
  scope.kind = .function ∧ scope.isGenerator = false ∧ scope.isCoroutine = false
theorem row_call {P : Program} {w : World} {A : Around} {s : Shared} {f p c' : Addr} {nm q : Str} {params : Arguments} {scope : PySem.Scope} {body : PySem.Expr} {clos : List (Str × Addr)} {pm ctv : Value} {its : Array Value} {x : Str} {tx : Tok}
    (R : RowL params scope body) (hd : A.depth < recursionLimit) (hf : s.heap.get? f = some (PySem.W.kla_obj nm q params body scope clos pm c' ctv))
    (hc : s.heap.CodeRec (.ref c') q) (hn : s.heap.NoLimit) (ht : IsTup s.heap p its) (h0 : its[0]? = some (.str x tx)) :
    wpAny (model P w) A (call (.ref f) [.ref p]) (PySem.W.KeyPure (.str x) s) (fun _ _ => False) s := by
  obtain ⟨⟨z, p1, p2, p3, k0, rfl, hz, hnm, hb⟩, hk, hg, ho⟩ := R
  refine wpAny_call ?_
  refine PySem.W.kla_callFunE hd hf rfl ho hg rfl hc ?_
  refine BindsTo.of_eq (hb _ _ rfl rfl rfl) _ _ _ _ ?_
  refine wpAny_newFunctionEnv (by intro y hy; rw [show (PySem.W.kla_fn nm q params _ scope clos pm (.ref c') ctv).scope.names = _ from hnm] at hy; simp only [List.mem_singleton] at hy; subst hy; simp) (by intro y hy; simp only [List.mem_singleton] at hy; subst hy; rw [show (PySem.W.kla_fn nm q params _ scope clos pm (.ref c') ctv).scope.names = _ from hnm]; simp) (fun h' hns hsame => ?_) hk
  have hkeep : ∀ b o, s.heap.get? b = some o → h'.get? b = some o := by
    intro b o hb
    have hne : b ≠ s.heap.objs.size := fun e => by
      rw [e] at hb
      simp [Heap.get?] at hb
    rw [hsame.2 b hne]
    exact Heap.get?_push_of_some _ hb
  refine ⟨hn.keeps hkeep, PySem.W.kla_codeExpr ?_⟩
  refine Subscript_Constant (wpAny_Name (wpAny_loadName_local (m := fun y => List.lookup y [(z, Value.ref p)].reverse) (v := .ref p) hk ?_ hns ?_ ?_) hz)
  · simp [Env.kindOf, newEnv, hnm]
  · simp
  refine wpAny_Constant_int ?_
  obtain ⟨o, g1, g2, n, g3⟩ := ht
  have ht' : IsTup h' p its := ⟨o, hkeep _ _ g1, g2, n, g3⟩
  refine ⟨"tuple", _, rfl, ⟨o, hkeep _ _ g1, g2⟩, ?_⟩
  have hz0 : its.size ≠ 0 := fun e => by
    rw [Array.getElem?_eq_none (by omega)] at h0
    cases h0
  refine getItem_tuple (j := 0) ht' (by decide) (by decide) ?_ h0 ?_
  · simp [seqIndex?]
    intro e
    rw [e] at hz0
    exact hz0 rfl
  exact ⟨h', _, rfl, hkeep, .str _ _⟩

def leS (a b : V × Str) : Bool := decide (a.2.cps.toList ≤ b.2.cps.toList)
def RowO (f c : Addr) (q : Str) : HO := .ext fun h => ∃ nm params body scope clos pm ctv, h.get? f = some (PySem.W.kla_obj nm q params body scope clos pm c ctv) ∧ RowL params scope body
def rSortRow : List V → List V → Hp → VK → Prop := fun xs zs H Q => ∃ (a f c : Addr) (q : Str) (bs : List (V × Str)), xs = [.ref a] ∧ zs = [.ref f] ∧ H f = some (RowO f c q) ∧ H c = some (LamX.CodeO c q) ∧ H a = some (.lst (bs.map Prod.fst)) ∧
  (∀ b ∈ bs, ∃ p rest, b.1 = .ref p ∧ H p = some (.tup (.str b.2 :: rest))) ∧ bs.length ≤ sizeLine ∧ ∀ r, H r = none → Q (.ref r) (upd H r (.lst ((bs.mergeSort leS).map Prod.fst)))
def RowR (H : Hp) (v : Value) (b : V × Str) : Prop := RelV b.1 v ∧ ∃ p rest, b.1 = .ref p ∧ H p = some (.tup (.str b.2 :: rest))
theorem eachRow {H : Hp} : ∀ {bs : List (V × Str)} {its : List Value}, Vals (bs.map Prod.fst) its → (∀ b ∈ bs, ∃ p rest, b.1 = .ref p ∧ H p = some (.tup (.str b.2 :: rest))) → PySem.W.EachIs (RowR H) its bs
  | [], _, v, _ => by cases v; exact .nil
  | b :: r, _, v, h => by
    cases v with
    | cons g1 g2 => exact .cons ⟨g1, h b (by simp)⟩ (eachRow g2 fun x hx => h x (by simp [hx]))
theorem rowEach {H : Hp} : ∀ {bs : List (V × Str)} {its : List Value}, PySem.W.EachIs (RowR H) its bs → Vals (bs.map Prod.fst) its
  | [], _, v => by cases v; exact .nil
  | b :: r, _, v => by
    cases v with
    | cons g1 g2 => exact .cons g1.1 (rowEach g2)
theorem cr_sortRow {X : Cx} {k : Nat} (hr : Room k X.A) : CallRK X (.builtin "sorted") ["key"] rSortRow := by
  intro pins s σ H xs zs us ws Q I hv hw h
  obtain ⟨a, f, c, q, bs, rfl, rfl, hf, hc, ha, hp, hz, q2⟩ := h
  cases hv with
  | cons g1 g2 =>
  cases g2
  cases hw with
  | cons g3 g4 =>
  cases g4
  cases g1
  cases g3
  have oa := I.hok _ _ ha
  have of := I.hok _ _ hf
  have oc := I.hok _ _ hc
  obtain ⟨nm, params, body, scope, clos, pm, ctv, hfo, hR⟩ := of.1
  obtain ⟨oz, its, n, hits, hao⟩ := oa
  refine PySem.W.sorted_key_data (vs := its) (bs := bs) (R := RowR H) (f := .ref f) (b := false) (fun b => .str b.2) ⟨_, hao, rfl, n, rfl⟩ (eachRow hits hp) ?_ ?_ hz ?_ (ksk_s1 _ _) (fun x => ksk_l1 _ _) (fun x => ?_) (fun v x hv hx h tk hk => ?_) (fun out c' h' tk hk hn ho hl he => ?_)
  · intro d hd d' hd'
    simp only [List.mem_map] at hd hd'
    obtain ⟨_, _, rfl⟩ := hd
    obtain ⟨_, _, rfl⟩ := hd'
    rfl
  · refine .inr fun d hd => ?_
    simp only [List.mem_map] at hd
    obtain ⟨_, _, rfl⟩ := hd
    exact ⟨by simp, by simp⟩
  · intro x _
    have := hr.un
    have e : (PyData.str x.2).depth = 0 := rfl
    omega
  · rfl
  · obtain ⟨hv1, p, rest, e1, e2⟩ := hv
    obtain ⟨v1, w1⟩ := x
    dsimp only at e1 hv1 e2 hx ⊢
    subst e1
    cases hv1
    have op := I.hok _ _ e2
    obtain ⟨_, its2, g1, g2, g3, n2, g4⟩ := op
    cases g1 with
    | cons k1 k2 =>
    obtain ⟨tx, rfl⟩ := k1
    obtain ⟨oc', vs', t', c1, c2, c3⟩ := oc.1
    refine row_call (its := _) (x := w1) (tx := tx) hR ?_ (hk _ _ hfo) ⟨_, _, _, _, rfl, hk _ _ c1, c2, c3⟩ (I.nolimit.keeps hk) ⟨g2, hk _ _ g3, n2, g4⟩ (by simp)
    have := hr.dp
    show X.A.depth < recursionLimit
    omega
  · refine ⟨.ref (s.heap.objs.size + 1), _, I.laid (a := s.heap.objs.size + 1) (o := .lst ((bs.mergeSort leS).map Prod.fst)) hk (by omega) ?_, rfl, q2 _ ?_⟩
    · have e : PySem.W.dataLe false (fun b : V × Str => PyData.str b.2) = leS := PySem.W.dataLe_str _
      rw [e] at he
      exact ⟨by simpa using hz, out, c', rowEach he, ho⟩
    · exact I.hok.fresh (by omega)
theorem rowO_ok {P : Program} {w : World} {H : Hp} {h : Heap} {c : Addr} {nm q : Str} {params : Arguments} {scope : PySem.Scope} {body : PySem.Expr} {clos : List (Str × Addr)} {pm ctv : Value} (hR : RowL params scope body) :
    ObjOk P w H (h.push (PySem.W.kla_obj nm q params body scope clos pm c ctv)) h.objs.size (RowO h.objs.size c q) := by
  have e : (h.push (PySem.W.kla_obj nm q params body scope clos pm c ctv)).get? h.objs.size = some (PySem.W.kla_obj nm q params body scope clos pm c ctv) := Heap.get?_push_size _ rfl
  refine ⟨⟨_, _, _, _, _, _, _, e, hR⟩, ⟨_, e⟩, fun h1 h2 ⟨a1, a2, a3, a4, a5, a6, a7, e1, e2⟩ k => ⟨a1, a2, a3, a4, a5, a6, a7, k _ e1, e2⟩⟩
theorem pe_lamRow {X : Cx} {c P : Addr} {params : Arguments} {body : PySem.Expr} {scope : PySem.Scope} {pos : Pos} (tb : LamX.TabB X.base X.mg c P) (hc : X.env.code = .ref c) (hd : defaultsOf params X.env = ([], []))
    (hR : RowL params scope body) : PE X (.Lambda params body scope pos) (fun σ H Q => LamX.TabS H P (X.env.qual ++ "<lambda>") ∧ ∀ (f c : Addr) (H1 : Hp), Fr P H H1 → LamX.TabS H1 P (X.env.qual ++ "<lambda>") → H1 f = some (RowO f c (X.env.qual ++ "<lambda>")) → H1 c = some (LamX.CodeO c (X.env.qual ++ "<lambda>")) → Q (.ref f) H1) := by
  refine ⟨fun pins s σ H Q I h => ?_⟩
  obtain ⟨ht, q⟩ := h
  have hclo : closureFor scope X.env = pure (cloFrom X.env.cells scope.names []) := by
    refine closure_ok ?_
    intro y hy he
    obtain ⟨⟨z, p1, p2, p3, k0, rfl, hz, hnm, hb⟩, hk, hg, ho⟩ := hR
    rw [hnm] at hy
    simp only [List.mem_singleton] at hy
    subst hy
    cases he
  have ht' := ht
  obtain ⟨ps, hP, hT, hA⟩ := ht'
  have oP : s.heap.get? P = some (PySem.W.tabObj ps) := I.hok _ _ hP
  refine PySem.W.kla_eval hd ?_
  cases hcd : codeAmong pos ps.toList with
  | some cv =>
    obtain ⟨c', rfl, hc'⟩ := hA _ _ hcd
    refine PySem.W.kla_makeFunctionHit hclo I.ok.glob (I.mod.glob.keeps I.bk) hc (tb.code.keeps I.bk) oP hT hcd (tb.bm.keeps I.bk) (fun ctv h' tk hk hs => ?_)
    have I1 := I.kept (t' := tk) hk
    have hz : s.heap.objs.size ≤ h'.objs.size := hs
    have hn : H h'.objs.size = none := I.hok.fresh hz
    refine ⟨.ref h'.objs.size, upd H h'.objs.size (RowO h'.objs.size c' (X.env.qual ++ "<lambda>")), ?_, rfl, q _ c' _ (fun b o _ hb => ?_) (ht.ext fun b o hb => ?_) upd_same ?_⟩
    · exact I1.laid (h' := h'.push _) (t' := tk) (fun b u hb => Heap.get?_push_of_some _ hb) (Nat.le_refl _) (rowO_ok hR)
    · rw [upd_ne (ne_of_none hb hn)]; exact hb
    · rw [upd_ne (ne_of_none hb hn)]; exact hb
    · rw [upd_ne (ne_of_none hc' hn)]; exact hc'
  | none =>
    refine PySem.W.kla_makeFunction hclo I.ok.glob (I.mod.glob.keeps I.bk) hc (tb.code.keeps I.bk) oP hT hcd tb.gP (tb.bm.keeps I.bk) (fun c' ctv h' tk he hl hu hrec hP' => ?_)
    obtain ⟨c2, o2, vs2, t2, ec, e1, e2, e3⟩ := hrec
    cases ec
    have I2 := LamX.inv_table (t' := tk) (c := c') (q := X.env.qual ++ "<lambda>") I hP he (more := #[rawInt ↑pos.line, rawInt ↑pos.col, .ref c']) hP' hl ⟨_, _, _, e1, e2, e3⟩
    have hn : (upd (upd H P (.tbl (ps ++ #[rawInt ↑pos.line, rawInt ↑pos.col, .ref c']))) c' (LamX.CodeO c' (X.env.qual ++ "<lambda>"))) h'.objs.size = none := I2.hok.fresh (Nat.le_refl _)
    have hcn : H c' = none := I.hok.fresh hl
    have hPc : P ≠ c' := fun e => by rw [e] at hP; rw [hcn] at hP; cases hP
    refine ⟨.ref h'.objs.size, _, I2.laid (h' := h'.push _) (o := RowO h'.objs.size c' (X.env.qual ++ "<lambda>")) (t' := tk) (fun b u hb => Heap.get?_push_of_some _ hb) (Nat.le_refl _) (rowO_ok hR), rfl, q _ c' _ ?_ ?_ upd_same ?_⟩
    · intro b o hbP hb
      have h1 : (upd (upd H P (.tbl (ps ++ #[rawInt ↑pos.line, rawInt ↑pos.col, .ref c']))) c' (LamX.CodeO c' (X.env.qual ++ "<lambda>"))) b = some o := by
        rw [upd_ne (ne_of_none hb hcn), upd_ne hbP]; exact hb
      rw [upd_ne (ne_of_none h1 hn)]; exact h1
    · refine LamX.TabS.ext (H := upd (upd H P (.tbl (ps ++ #[rawInt ↑pos.line, rawInt ↑pos.col, .ref c']))) c' (LamX.CodeO c' (X.env.qual ++ "<lambda>"))) ?_ (fun b o hb => by rw [upd_ne (ne_of_none hb hn)]; exact hb)
      refine ⟨_, by rw [upd_ne hPc]; exact upd_same, ?_, ?_⟩
      · simpa using TriplesOk_snoc _ _ _ _ hT
      · intro pos2 cv hcv
        rw [Array.toList_append] at hcv
        rcases LamX.among_app _ hT hcv with h | h
        · obtain ⟨c3, e3, h3⟩ := hA _ _ h
          refine ⟨c3, e3, ?_⟩
          rw [upd_ne (ne_of_none h3 hcn), upd_ne (fun e => by rw [e, hP] at h3; cases h3)]
          exact h3
        · exact ⟨c', h, upd_same⟩
    · have h1 : (upd (upd H P (.tbl (ps ++ #[rawInt ↑pos.line, rawInt ↑pos.col, .ref c']))) c' (LamX.CodeO c' (X.env.qual ++ "<lambda>"))) c' = some (LamX.CodeO c' (X.env.qual ++ "<lambda>")) := upd_same
      rw [upd_ne (ne_of_none h1 hn)]; exact h1

theorem take_zip {α : Type} (sel : Nat → Bool) (j : Nat) : ∀ (xs : List α) (i : Nat), (∀ k, k < i + xs.length → sel k = decide (j ≤ k)) → (xs.zipIdx i).filterMap (fun x => if sel x.2 = true then none else some x.1) = xs.take (j - i)
  | [], i, _ => by simp
  | x :: r, i, hs => by
    rw [List.zipIdx_cons, List.filterMap_cons]
    have ih := take_zip sel j r (i + 1) fun k hk => hs k (by rw [List.length_cons]; omega)
    have h0 := hs i (by rw [List.length_cons]; omega)
    by_cases h : j ≤ i
    · have e : j - i = 0 := by omega
      have e2 : j - (i + 1) = 0 := by omega
      rw [e2] at ih
      simp only [h0, h, decide_true, if_true, e, List.take_zero]
      simpa using ih
    · have e : j - i = (j - (i + 1)) + 1 := by omega
      rw [e, List.take_succ_cons, ← ih]
      simp [h0, h]
theorem run_delFrom {P : Program} {w : World} {A : Around} {E : Value → Shared → Prop} {s : Shared} {l sl : Addr} {items : Array Value} {n j : Nat} {t : Tok} {Q : Unit → Shared → Prop}
    (hl : s.heap.get? l = some { cls := Value.type "list", data := Data.seq items n }) (hs : s.heap.get? sl = some { cls := .type "slice", data := .fields #[.int j t, .none, .none] }) (hj : j ≤ items.size) (hz : items.size ≤ sizeLine)
    (q : ∀ f : Array Value → Array Value, f items = (items.toList.take j).toArray → Q () { s with heap := s.heap.update l (Obj.mapSeq f) }) :
    wpAny (model P w) A (delItem (.ref l) (.ref sl)) Q E s := by
  refine wpAny_delItem_slot (T := "list") ⟨_, hl, rfl⟩ (by decide) PySem.F.slot_list_delitem ?_
  refine wpAny_call_entry PySem.F.slot_list_delitem ⟨_, hl, rfl⟩ PySem.F.entry_list_delitem ?_ (PySem.F.args_list_delitem_2 _ _)
  show wpAny _ _ (do
      let __x ← slotArgs "__delitem__" 1 { pos := [.ref l, .ref sl] }
      _) _ _ _
  refine wpAny_bind (wpAny_pure ?_)
  refine wpAny_bind ?_
  refine wpAny_bind (wpAny_specialOf (T := "slice") (r := none) ⟨_, hs, rfl⟩ rfl ?_)
  refine wpAny_pure ?_
  refine wpAny_bind (wpAny_typeOf (T := "slice") ⟨_, hs, rfl⟩ ?_)
  dsimp only
  rw [if_neg (by decide)]
  refine wpAny_bind ?_
  rw [listSliceParts_eq]
  refine wpAny_bind (wpAny_field hs rfl (i := 2) rfl (wpAny_bind (wpAny_listPart .none ?_)))
  dsimp only [rawPart]
  rw [if_neg (by decide)]
  refine wpAny_bind (wpAny_field hs rfl (i := 0) rfl (wpAny_bind (wpAny_listPart (.int _ _) ?_)))
  refine wpAny_bind (wpAny_field hs rfl (i := 1) rfl (wpAny_bind (wpAny_listPart .none (wpAny_pure ?_))))
  dsimp only
  refine wpAny_bind (wpAny_listItems hl rfl ?_)
  have eb : sliceBounds (some (j : Int)) none none items.size = ((j : Int), (items.size : Int), 1) := by
    simp [sliceBounds]
    omega
  rw [show sliceIndices (rawPart (some (j : Int))) (rawPart none) .none items.size = pure (sliceBounds (some (j : Int)) none none items.size) from sliceIndices_raw (some (j : Int)) none none items.size (by simp), eb]
  refine wpAny_bind (wpAny_pure ?_)
  dsimp only
  refine wpAny_bind (wpAny_rule ?_)
  refine wpAny_bind (wpAny_updateSeq hl rfl (wpAny_bind (wpAny_letGo (wpAny_pure ⟨_, rfl, q _ ?_⟩))) hz ?_)
  · refine congrArg List.toArray ((take_zip (fun k => _) j items.toList 0 ?_).trans (by rw [Nat.sub_zero]))
    intro k hk
    show (if (1 : Int) > 0 then decide ((j : Int) ≤ (k : Int)) && decide ((k : Int) < (items.size : Int)) && ((k : Int) - j) % 1 == 0 else _) = _
    rw [Nat.zero_add, Array.length_toList] at hk
    rw [if_pos (by decide), Int.emod_one, decide_eq_true (show (k : Int) < (items.size : Int) by omega)]
    by_cases h : j ≤ k
    · simp [h]
    · simp [h]
  · refine Nat.le_trans ?_ (Nat.le_succ_of_le hz)
    rw [List.size_toArray]
    refine Nat.le_trans (List.length_filterMap_le _ _) ?_
    simp
theorem ps_delFrom {X : Cx} {pos p2 : Pos} {o e : PySem.Expr} {to te : TE} {tpos : Pos} (ho : PE X o to) (he : PE X e te) :
    PS X (.Delete [.Subscript o (.Slice (some e) none none p2) tpos] pos) (fun D σ H => to σ H fun x H1 => te σ H1 fun y H2 => ∃ (l : Addr) (xs : List V) (j : Nat), x = .ref l ∧ y = .int j ∧ H2 l = some (.lst xs) ∧ j ≤ xs.length ∧ D.nx σ (upd H2 l (.lst (xs.take j)))) := by
  refine ⟨fun pins s σ H D I h => ?_⟩
  refine wpAny_Delete (wpAny_deleteEach_cons (wpAny_delete_Subscript ?_))
  refine thn (ho.run pins s σ H _ I h) fun u s1 hx => ?_
  obtain ⟨x, H1, I1, r1, h1⟩ := hx
  refine wpAny_Slice ?_
  rw [evalPart_some]
  refine thn (he.run pins s1 σ H1 _ I1 h1) fun u2 s2 hx => ?_
  obtain ⟨y, H2, I2, r2, l, xs, j, rfl, rfl, hl, hj, q⟩ := hx
  cases r1
  obtain ⟨t, rfl⟩ := r2
  rw [evalPart_none]
  refine wpAny_pure ?_
  refine wpAny_pure ?_
  have hsl : (s2.heap.push { cls := .type "slice", data := .fields #[.int j t, .none, .none] }).get? s2.heap.objs.size = some { cls := .type "slice", data := .fields #[.int j t, .none, .none] } := Heap.get?_push_size _ rfl
  have I3 := I2.kept (h' := s2.heap.push { cls := .type "slice", data := .fields #[.int j t, .none, .none] }) (t' := s2.toks) (fun b u hb => Heap.get?_push_of_some _ hb)
  obtain ⟨oz, its, n, hits, hao⟩ := I3.hok _ _ hl
  have ll : xs.length = its.length := L2.Vals.length hits
  refine run_delFrom (items := its.toArray) hao hsl (by simp; omega) (by simp; omega) (fun f hf => ?_)
  refine wpAny_deleteEach_nil ?_
  refine ⟨σ, _, I3.lset (its := its) (its' := its.take j) (ys := xs.take j) hl hao (by simpa using hf) ?_ ?_, q⟩
  · exact L2.Vals.take j hits
  · rw [List.length_take]; omega

theorem okC {P : Program} {w : World} {K : PySem.W.Frag} {mg : Str → Option Value} {base : Heap} {x qual : Str} {st : Stmt} {f c : Addr} {fd : FuncData} {N ps : List Str} {k : Nat} {sp : Sp} (F : Fun K x qual st f fd) (hc : fd.code = .ref c) (S : FnScope N ps (defScope st))
    (len : ∀ vs H Q E, sp vs H Q E → vs.length = ps.length)
    (hb : ∀ (A : Around) (outer : List Env) (s : Shared) (H : Hp) (vs : List V) (Q : VK) (E : XK), Room k (A.deeper (envOfC qual (defScope st) s.heap.objs.size f (.ref c))) → sp vs H Q E →
      ∃ t, PSs (cxOf CX0 P w K mg base N qual (defScope st) f (.ref c) A outer s H E).nox (defBody st) t ∧ t { nx := fun _ H' => Q .non H', rt := Q } (L2.start N vs) H) : FnOk P w K mg base CX0 (k + 1) f fd ps sp := by
  obtain ⟨oc, od, kV, doc, pm, an, cdv, ct, osl, rfl, lk, hcd⟩ := F.ex
  cases hc
  exact fn_of lk hcd S len fun A outer s H vs Q E hr hsp => by
    obtain ⟨t, h, q⟩ := hb A outer s H vs Q E hr hsp
    exact ⟨t, h.nox, q⟩
theorem rowL_mk {x : Str} {p0 p1 p2 p3 : Pos} {k0 : Nat} {scope : PySem.Scope} (hz : (x == Str.ofString "__debug__") = false) (hn : scope.names = [(x, .local)]) (hk : scope.kind = .function) (hg : scope.isGenerator = false) (hc : scope.isCoroutine = false)
    (hb : ∀ (nm q : Str) (b : FuncBody) (sc : PySem.Scope) (g : Addr) (cl : List (Str × Addr)) (pm an : Value) (cd : Option Addr) (ct bl : Value) (bu : Addr) (u : Value), bindArgs ⟨nm, q, { posonlyargs := [], args := [{ arg := x, annotation := none, pos := p0 }], vararg := none, kwonlyargs := [], kw_defaults := [], kwarg := none, defaults := [] }, b, sc, g, cl, .none, .none, pm, an, cd, ct, bl, bu⟩ ⟨[u], []⟩ = pure [(x, u)]) :
    RowL { posonlyargs := [], args := [{ arg := x, annotation := none, pos := p0 }], vararg := none, kwonlyargs := [], kw_defaults := [], kwarg := none, defaults := [] } scope (.Subscript (.Name x p1) (.Constant (.int 0) k0 p2) p3) := by
  refine ⟨⟨x, p1, p2, p3, k0, rfl, hz, hn, fun fd u e1 e2 e3 => ?_⟩, hk, hg, hc⟩
  obtain ⟨nm, q, pr, b, sc, g, cl, d, kd, pm, an, cd, ct, bl, bu⟩ := fd
  subst e1 e2 e3
  exact hb _ _ _ _ _ _ _ _ _ _ _ _ _
def spLawT (K : PySem.W.Frag) (Ps : List Addr) : Sp := fun vs H Q _ => ∃ (a : Addr) (ns : List Int), vs = [.ref a] ∧ SqL K H a (ns.map V.int) ∧ ns.length ≤ 63 ∧ (∀ P ∈ Ps, H P = some (.tbl #[])) ∧ ∀ H', Q (.bl true) H'
def LawT (l : PySem.W.OpenLaw) (w : World) (K : PySem.W.Frag) (k : Nat) (x : Str) (mg : Str → Option Value) (fa : Addr) (cs : List (Str × Addr × Addr)) : Prop :=
  (∀ z ∈ cs, PySem.W.tabIn K z.1 = some (z.2.1, z.2.2) ∧ K.lookup z.2.2 = none) ∧ ∃ fd : FuncData, (∀ (s : Shared) (v : Value), BindsTo s fd ⟨[v], []⟩ [(x, v)]) ∧
    ∀ base : Heap, K.In base → base.Ns mainGlobals mg → (∀ z ∈ cs, LamX.TabB base mg z.2.1 z.2.2) → FnOk l.prog w K mg base CX0 k fa fd [x] (spLawT K (cs.map fun z => z.2.2))
theorem walk_ofT {l : PySem.W.OpenLaw} {n k : Nat} {q : Program} {loose : List Str} {XP : (Str → Option Value) → Heap → Prop} {YP : World → Heap → Prop} {d : DefRec} {K : Params → PySem.W.Frag} {x : Str}
    (hn : l.most = some n) (hz : n ≤ sizeLine) (h63 : n ≤ 63) (hd : d.params.defaults = []) (hr : Room k callerA) (hY : ∀ w h, YP w h → (K w.params).In h) (names : List Str)
    (hR : (names.all fun z => (recsOf q).any fun e => e.name == z) = true)
    (hF : ∀ (w : World) (mg : Str → Option Value) (fa : Addr) (h : Heap), (K w.params).In h → h.Ns mainGlobals mg → mg d.name = some (.ref fa) → ∃ cs : List (Str × Addr × Addr), cs.map Prod.fst = names ∧ LawT l w (K w.params) k x mg fa cs) :
    PySem.W.WalkO q loose XP YP l.row.toRowW d [] fun f vs => call f vs := by
  refine Att.attach_callB hn hd fun w s0 s1 mg mb fa o pm cd doc a vs ns G Y ho hod hcr hmg ha hi hl hb hg => ?_
  obtain ⟨cs, hcs, hT, fd, hB, hOk⟩ := hF w mg fa s1.heap (hY w _ Y) G.T.g hmg
  have key : ∀ z ∈ cs, PySem.W.CodeHd s1.heap z.2.1 z.2.2 ∧ s1.heap.get? z.2.2 = some (PySem.W.tabObj #[]) := by
    intro z hz
    have h1 : z.1 ∈ names := by rw [← hcs]; exact List.mem_map_of_mem hz
    have h2 := List.all_eq_true.mp hR _ h1
    cases hf : (recsOf q).find? fun e => e.name == z.1 with
    | none =>
      rw [List.find?_eq_none] at hf
      rw [List.any_eq_true] at h2
      obtain ⟨e, he, h3⟩ := h2
      exact absurd h3 (hf e he)
    | some dd => exact PySem.W.tab_of G.T (hY w _ Y) hf (hT z hz).1
  refine LamX.law_callTs (K := K w.params) (cs := cs.map fun z => z.2) (hY w _ Y) G.T.g G.T.b G.T.builtins G.T.nolimit hg ?_ ?_ ?_ G.T.bmain ha hi (Nat.le_trans hl hz) hr (fun base h1 h2 h3 => hOk base h1 h2 fun z hz => h3 _ (List.mem_map_of_mem hz)) (fun s u => hB s u) (fun H hH hS => ⟨a, ns, rfl, hS, ?_, ?_, fun _ => rfl⟩) (fun _ _ _ h => h)
  · intro p hp
    obtain ⟨z, hz, rfl⟩ := List.mem_map.mp hp
    exact (key z hz).2
  · intro p hp
    obtain ⟨z, hz, rfl⟩ := List.mem_map.mp hp
    exact (hT z hz).2
  · intro p hp
    obtain ⟨z, hz, rfl⟩ := List.mem_map.mp hp
    exact (key z hz).1
  · exact Nat.le_trans hl h63
  · intro P hP
    obtain ⟨z, hz, rfl⟩ := List.mem_map.mp hP
    exact hH _ (List.mem_map_of_mem hz)

mutual
def Tr.dat : Tr → PyData
  | .node c ks => .tuple [.str (ch c), .list (dats ks)]
def dats : List Tr → List PyData
  | [] => []
  | t :: r => t.dat :: dats r
end
mutual
theorem dat_depth : ∀ t : Tr, t.dat.depth ≤ 2 * t.depth
  | .node c ks => by
    have := dats_depth ks
    simp only [Tr.dat, PyData.depth, PyData.depthAll, Tr.depth]
    omega
theorem dats_depth : ∀ ts : List Tr, PyData.depthAll (dats ts) ≤ 2 * depths ts
  | [] => by simp only [dats, PyData.depthAll, depths]; omega
  | t :: r => by
    have a := dat_depth t
    have b := dats_depth r
    simp only [dats, PyData.depthAll, depths]
    omega
end
section
variable {ok : Addr → Prop} {H : Hp} {K : PySem.W.Frag}
theorem strOk_ch {c : Nat} (h : c ≤ 122) : PyData.strOk (ch c) = true := by
  unfold PyData.strOk ch
  simp
  omega
mutual
theorem TrAt.lay : ∀ (t : Tr) (v : V), TrAt ok H v t → t.dat.canLay0 = true
  | .node c ks, v, x => by
    cases x with
    | node h1 h2 k1 k2 c1 c2 r => simp only [Tr.dat, PyData.canLay0, PyData.canLayAll0, strOk_ch c2, TrsAt.lay ks _ r, Bool.and_self]
theorem TrsAt.lay : ∀ (ts : List Tr) (vs : List V), TrsAt ok H vs ts → PyData.canLayAll0 (dats ts) = true
  | [], _, _ => by simp only [dats, PyData.canLayAll0]
  | t :: r, _, x => by
    cases x with
    | cons a b => simp only [dats, PyData.canLayAll0, TrAt.lay t _ a, TrsAt.lay r _ b, Bool.and_self]
end
mutual
theorem TrAt.dp : ∀ (t : Tr) (v : V), TrAt ok H v t → Dp K H v t.dat
  | .node c ks, v, x => by
    cases x with
    | node h1 h2 k1 k2 c1 c2 r =>
      simp only [Tr.dat]
      exact .tup (SqT.of h1) (.cons (.str _) (.cons (.lst (SqL.of h2) (TrsAt.dp ks _ r)) .nil))
theorem TrsAt.dp : ∀ (ts : List Tr) (vs : List V), TrsAt ok H vs ts → DpAll K H vs (dats ts)
  | [], _, x => by cases x; exact .nil
  | t :: r, _, x => by
    cases x with
    | cons a b => exact .cons (TrAt.dp t _ a) (TrsAt.dp r _ b)
end
theorem shaped_tr {v : V} {t : Tr} (x : TrAt ok H v t) (h : t.depth ≤ 32) : SeqAt.shaped t.dat = true := by
  unfold SeqAt.shaped
  rw [Bool.and_eq_true]
  exact ⟨TrAt.lay t v x, decide_eq_true (by have := dat_depth t; omega)⟩
theorem shaped_trs {vs : List V} {ts : List Tr} (x : TrsAt ok H vs ts) (h : depths ts ≤ 31) : SeqAt.shaped (.list (dats ts)) = true := by
  unfold SeqAt.shaped
  rw [Bool.and_eq_true]
  refine ⟨by simp only [PyData.canLay0]; exact TrsAt.lay ts vs x, decide_eq_true ?_⟩
  have := dats_depth ts
  simp only [PyData.depth]
  omega
end
def DatOk (K : PySem.W.Frag) (H : Hp) (v : V) : Prop := ∃ d, Dp K H v d ∧ d.canLay0 = true ∧ d.depth ≤ 63
theorem DatOk.all {K : PySem.W.Frag} {H : Hp} : ∀ {vs : List V}, (∀ v ∈ vs, DatOk K H v) → ∃ ds, DpAll K H vs ds ∧ SeqAt.shaped (.list ds) = true ∧ ds.length = vs.length
  | [], _ => ⟨[], .nil, by decide +kernel, rfl⟩
  | v :: r, h => by
    obtain ⟨d, h1, h2, h3⟩ := h v List.mem_cons_self
    obtain ⟨ds, g1, g2, g3⟩ := DatOk.all (vs := r) fun u hu => h u (List.mem_cons_of_mem _ hu)
    unfold SeqAt.shaped at g2
    rw [Bool.and_eq_true] at g2
    have g4 := of_decide_eq_true g2.2
    have g5 := g2.1
    simp only [PyData.canLay0] at g5
    simp only [PyData.depth] at g4
    refine ⟨d :: ds, .cons h1 g1, ?_, by simp only [List.length_cons, g3]⟩
    unfold SeqAt.shaped
    rw [Bool.and_eq_true]
    refine ⟨by simp only [PyData.canLay0, PyData.canLayAll0, h2, g5, Bool.and_self], decide_eq_true ?_⟩
    simp only [PyData.depth, PyData.depthAll]
    omega
theorem datOk_int {K : PySem.W.Frag} {H : Hp} (i : Int) : DatOk K H (.int i) := ⟨.int i, .int i, by simp only [PyData.canLay0], by simp only [PyData.depth]; omega⟩
theorem datOk_tr {K : PySem.W.Frag} {H : Hp} {ok : Addr → Prop} {v : V} {t : Tr} (x : TrAt ok H v t) (h : t.depth ≤ 31) : DatOk K H v := ⟨t.dat, TrAt.dp t v x, TrAt.lay t v x, by have := dat_depth t; omega⟩
theorem eqv_nil (ds : List PyData) : PyData.eqv (.list ds) (.list []) = decide (ds.length = 0) := by
  cases ds with
  | nil => simp [PyData.eqv, PyData.eqvAll]
  | cons d r => simp [PyData.eqv, PyData.eqvAll]
theorem shaped_nil : SeqAt.shaped (.list []) = true := by decide +kernel
theorem dp_nil {K : PySem.W.Frag} {H : Hp} {a : Addr} (h : H a = some (.lst [])) : Dp K H (.ref a) (.list []) := .lst (SqL.of h) .nil


def sp_is_letter : Sp := fun vs H Q _ => ∃ c : Nat, vs = [.str (ch c)] ∧ 97 ≤ c ∧ c ≤ 122 ∧ Q (.bl true) H
def sp__is_part : Sp := fun vs H Q _ => ∃ (v : V) (t : Tr), vs = [v] ∧ TrAt (fun _ => True) H v t ∧ Q (.bl true) H
def sp_is_tree : Sp := fun vs H Q _ => ∃ (v : V) (t : Tr), vs = [v] ∧ TrAt (fun _ => True) H v t ∧ t.size ≤ 1000000 ∧ ∀ H', Same H H' → Q (.bl true) H'
def sp_check_tree : Sp := fun vs H Q _ => ∃ (v : V) (t : Tr), vs = [v] ∧ TrAt (fun _ => True) H v t ∧ t.size ≤ 1000000 ∧ ∀ H', Same H H' → Q .non H'
def sp_parts_upward : Sp := fun vs H Q _ => ∃ (v : V) (t : Tr) (ok : Addr → Prop), vs = [v] ∧ TrAt ok H v t ∧ t.size ≤ 1000000 ∧
  ∀ r ws H', Same H H' → H r = none → H' r = some (.lst ws) → TrsAt (fun b => ok b ∧ H b ≠ none) H' ws t.post → Q (.ref r) H'
theorem le_a {c : Nat} (h : 97 ≤ c) : (!decide ((ch c).cps.toList < (Str.ofString "a").cps.toList)) = true := by
  have e : (Str.ofString "a").cps.toList = [97] := by decide +kernel
  rw [e]
  show (!decide (([c] : List Nat) < [97])) = true
  have : ¬ (([c] : List Nat) < [97]) := by
    intro q
    have := List.cons_lt_cons_iff.mp q
    rcases this with z | ⟨z, y⟩
    · omega
    · exact absurd y (by decide)
  simp [this]
theorem le_z {c : Nat} (h : c ≤ 122) : (!decide ((Str.ofString "z").cps.toList < (ch c).cps.toList)) = true := by
  have e : (Str.ofString "z").cps.toList = [122] := by decide +kernel
  rw [e]
  show (!decide (([122] : List Nat) < [c])) = true
  have : ¬ (([122] : List Nat) < [c]) := by
    intro q
    have := List.cons_lt_cons_iff.mp q
    rcases this with z | ⟨z, y⟩
    · omega
    · exact absurd y (by decide)
  simp [this]
theorem concat_of {α : Type} {l : List α} (h : l ≠ []) : ∃ a b, l = a ++ [b] := ⟨l.dropLast, l.getLast h, (List.dropLast_concat_getLast h).symm⟩
section
variable {P : Program} {w : World} {K : PySem.W.Frag} {mg : Str → Option Value} {base : Heap}
theorem ok_is_letter (T : Txt K mg) : FnOk P w K mg base CX0 1 T.f_is_letter T.d_is_letter ["thing"] sp_is_letter := by
  refine T.F_is_letter.ok sc_is_letter (fun vs H Q E h => ?_) (fun cdv A outer s H vs Q E hr h => ?_)
  · obtain ⟨c, rfl, _⟩ := h
    rfl
  obtain ⟨c, rfl, h0, h1, q⟩ := h
  refine ⟨_, (pss_one (ps_ret (pe_and (pe_callB call_isi (by rfl) T.z_isinstance (by decide +kernel) (pa_cons (pv 0) (pa_cons (pe_bltn (v := .ty "str") (by rfl) T.z_str (by decide +kernel) rfl) pa_nil))) (pe_and (pe_cmpR op_eq (pe_callB call_len_str (by rfl) T.z_len PySem.boot_len (pa_cons (pv 0) pa_nil)) pe_int (nomark _)) (pe_one (pe_chain op_le_str op_le_str pe_str (pv 0) pe_str)))))), ?_⟩
  refine ⟨_, rfl, _, _, _, _, true, rfl, .ty "str", .base (.str _), kit_ty (by decide +kernel), _, rfl, iteT ?_⟩
  refine ⟨_, rfl, _, rfl, (by show 1 ≤ sizeLine; decide), rfl, _, rfl, iteT ?_⟩
  refine ⟨_, rfl, _, _, rfl, rfl, _, rfl, ?_⟩
  rw [if_pos (le_a h0)]
  refine ⟨_, _, rfl, rfl, ?_⟩
  rw [le_z h1]
  exact q
theorem ok__is_part (T : Txt K mg) : FnOk P w K mg base CX0 2 T.f__is_part T.d__is_part ["thing"] sp__is_part := by
  have G_is_letter : FnOk P w K mg base CX0 1 T.f_is_letter T.d_is_letter ["thing"] sp_is_letter := ok_is_letter T
  refine T.F__is_part.ok sc__is_part (fun vs H Q E h => ?_) (fun cdv A outer s H vs Q E hr h => ?_)
  · obtain ⟨v, t, rfl, _⟩ := h
    rfl
  obtain ⟨v, t, rfl, ht, q⟩ := h
  refine ⟨_, (pss_cons (ps_if (PW.pt (pw_or (pt_not (pt_val (pe_callB call_isi (by rfl) T.z_isinstance (by decide +kernel) (pa_cons (pv 0) (pa_cons (pe_bltn (v := .ty "tuple") (by rfl) T.z_tuple (by decide +kernel) rfl) pa_nil))))) (pw_or1 (pt_cmpR op_ne (pe_callB call_len_seq (by rfl) T.z_len PySem.boot_len (pa_cons (pv 0) pa_nil)) pe_int (nomark _))))) (pss_one (ps_ret pe_bl)) pss_nil) (pss_one (ps_ret (pe_and (pe_call G_is_letter (hr.mono (by omega)) (by rfl) T.m_is_letter T.F_is_letter.kp T.b_is_letter .nil pass0 (pa_cons (pe_ix ix_tup (pv 0) pe_int (fun _ _ => rfl)) pa_nil)) (pe_one (pe_callB call_isi (by rfl) T.z_isinstance (by decide +kernel) (pa_cons (pe_ix ix_tup (pv 0) pe_int (fun _ _ => rfl)) (pa_cons (pe_bltn (v := .ty "list") (by rfl) T.z_list (by decide +kernel) rfl) pa_nil)))))))), ?_⟩
  obtain ⟨c, ks⟩ := t
  cases ht with
  | node h1 h2 _ _ c1 c2 _ =>
    refine ⟨_, rfl, _, _, _, _, true, rfl, .ty "tuple", .base (.tup h1), kit_ty (by decide +kernel), _, rfl, iteF ?_⟩
    refine ⟨_, rfl, _, _, rfl, .inr (SqT.of h1), rfl, _, rfl, iteF ?_⟩
    refine ⟨_, rfl, _, _, 0, _, rfl, rfl, SqT.of h1, atI_nat (j := 0) rfl, _, rfl, c1, c2, _, rfl, iteT ?_⟩
    exact ⟨_, rfl, _, _, 1, _, rfl, rfl, SqT.of h1, atI_nat (j := 1) rfl, _, _, _, _, true, rfl, .ty "list", .base (.lst h2), kit_ty (by decide +kernel), q⟩
theorem ok_is_tree (T : Txt K mg) : FnOk P w K mg base CX0 3 T.f_is_tree T.d_is_tree ["thing"] sp_is_tree := by
  have G__is_part : FnOk P w K mg base CX0 2 T.f__is_part T.d__is_part ["thing"] sp__is_part := ok__is_part T
  refine T.F_is_tree.ok sc_is_tree (fun vs H Q E h => ?_) (fun cdv A outer s H vs Q E hr h => ?_)
  · obtain ⟨v, t, rfl, _⟩ := h
    rfl
  obtain ⟨v, t, rfl, ht, hz, q⟩ := h
  refine ⟨_, (pss_cons (ps_set (i := 1) sc_is_tree.nd rfl (Or.inl rfl) (pe_lst (pa_cons (pv 0) pa_nil))) (pss_cons (ps_while PassesOwn.never (pt_truth (pv 1) (by intro _; rfl)) (pss_cons (ps_set (i := 2) sc_is_tree.nd rfl (Or.inl rfl) (pe_bm0 PySem.F.plainAttrs_list PySem.F.slot_list_pop PySem.F.type_list_pop mt_pop (pv 1))) (pss_cons (ps_if (pt_not (pt_val (pe_call G__is_part (hr.mono (by omega)) (by rfl) T.m__is_part T.F__is_part.kp T.b__is_part .nil pass0 (pa_cons (pv 2) pa_nil)))) (pss_one (ps_ret pe_bl)) pss_nil) (pss_one (ps_expr (pe_bm PySem.F.plainAttrs_list PySem.F.slot_list_extend PySem.F.type_list_extend mt_extend (pv 1) (pa_cons (pe_ix ix_tup (pv 2) pe_int (fun _ _ => rfl)) pa_nil))))))) (pss_one (ps_ret pe_bl)))), ?_⟩
  refine ⟨_, rfl, (by show 1 ≤ sizeLine; decide), fun p hp => ?_⟩
  refine ⟨fun m σ H' => ∃ y ws ts, σ = [some v, some (.ref p), y] ∧ H' p = some (.lst ws) ∧ TrsAt (fun b => True ∧ b ≠ p) H' ws ts ∧ sizes ts = m ∧ m ≤ 1000000 ∧ Same H H',
    ⟨t.size, none, [v], [t], rfl, upd_same, .cons ((ht.off hp).same (same_new hp)) .nil, by simp only [sizes]; omega, hz, same_new hp⟩, ?_⟩
  rintro m σ H' ⟨y, ws, ts, rfl, hw, hts, hm, hm2, hs⟩
  by_cases he : ws = []
  · subst he
    refine ⟨_, rfl, false, .inl ⟨_, SqL.of hw, rfl⟩, iteF ?_⟩
    exact q _ hs
  · refine ⟨_, rfl, true, .inl ⟨_, SqL.of hw, by cases ws with | nil => exact absurd rfl he | cons a b => rfl⟩, iteT ?_⟩
    obtain ⟨ws', x, rfl⟩ := concat_of he
    obtain ⟨ts', tl, rfl, h1, h2⟩ := TrsAt.split hts
    cases h2 with
    | cons hx hn =>
      cases hn
      rename_i tx
      obtain ⟨c, ks⟩ := tx
      refine ⟨fun σ2 H2 => ∃ y ws ts, σ2 = [some v, some (.ref p), y] ∧ H2 p = some (.lst ws) ∧ TrsAt (fun b => True ∧ b ≠ p) H2 ws ts ∧ sizes ts < m ∧ Same H H2, fun σ2 H2 ⟨y, ws, ts, e1, e2, e3, e4, e5⟩ => ⟨sizes ts, e4, y, ws, ts, e1, e2, e3, rfl, by omega, e5⟩, ?_⟩
      refine ⟨_, rfl, .inl ⟨rfl, _, SqL.of hw⟩, _, _, x, rfl, rfl, hw, by simp, ?_⟩
      have kp : ∀ b u, (True ∧ b ≠ p) → H' b = some u → (upd H' p (.lst (ws' ++ [x]).dropLast)) b = some u := upd_keep fun b h => h.2
      have hx2 := hx.keep kp
      have hp3 : (upd H' p (.lst (ws' ++ [x]).dropLast)) p = some (.lst ws') := by rw [upd_same, List.dropLast_concat]
      refine ⟨_, rfl, x, _, rfl, hx2.weak fun _ _ => trivial, _, rfl, iteF ?_⟩
      cases hx2 with
      | node g1 g2 k1 k2 c1 c2 r =>
        have ll := r.len
        have l2 := h1.len
        have l3 := len_sizes ts'
        have l4 := len_sizes ks
        rw [sizes_append] at hm
        simp only [sizes, Tr.size] at hm
        refine ⟨_, rfl, .inl ⟨rfl, _, SqL.of hp3⟩, _, rfl, _, _, 1, _, rfl, rfl, SqT.of g1, atI_nat (j := 1) rfl, p, _, ws', _, rfl, rfl, hp3, g2, ?_, ?_⟩
        · exact Nat.le_trans (show ws'.length + _ ≤ 1000000 by omega) (by decide)
        · refine ⟨some _, _, ts' ++ ks, rfl, upd_same, ?_, ?_, ?_⟩
          · exact ((h1.keep kp).append r).keep (upd_keep fun b h => h.2)
          · rw [sizes_append]
            omega
          · exact same_add (same_add hs hp) hp
theorem ok_check_tree (T : Txt K mg) : FnOk P w K mg base CX0 4 T.f_check_tree T.d_check_tree ["thing"] sp_check_tree := by
  have G_is_tree : FnOk P w K mg base CX0 3 T.f_is_tree T.d_is_tree ["thing"] sp_is_tree := ok_is_tree T
  refine T.F_check_tree.ok sc_check_tree (fun vs H Q E h => ?_) (fun cdv A outer s H vs Q E hr h => ?_)
  · obtain ⟨v, t, rfl, _⟩ := h
    rfl
  obtain ⟨v, t, rfl, ht, hz, q⟩ := h
  refine ⟨_, (pss_one (ps_if (pt_not (pt_val (pe_call G_is_tree (hr.mono (by omega)) (by rfl) T.m_is_tree T.F_is_tree.kp T.b_is_tree .nil pass0 (pa_cons (pv 0) pa_nil)))) (pss_one ps_never) pss_nil)), ?_⟩
  refine ⟨_, rfl, v, t, rfl, ht, hz, fun H' hs => ⟨_, rfl, iteF ?_⟩⟩
  exact q _ hs
theorem ok_parts_upward (T : Txt K mg) : FnOk P w K mg base CX0 5 T.f_parts_upward T.d_parts_upward ["tree"] sp_parts_upward := by
  have G_check_tree : FnOk P w K mg base CX0 4 T.f_check_tree T.d_check_tree ["thing"] sp_check_tree := ok_check_tree T
  refine T.F_parts_upward.ok sc_parts_upward (fun vs H Q E h => ?_) (fun cdv A outer s H vs Q E hr h => ?_)
  · obtain ⟨v, t, ok, rfl, _⟩ := h
    rfl
  obtain ⟨v, t, ok, rfl, ht, hz, q⟩ := h
  refine ⟨_, (pss_cons (ps_expr (pe_call G_check_tree (hr.mono (by omega)) (by rfl) T.m_check_tree T.F_check_tree.kp T.b_check_tree .nil pass0 (pa_cons (pv 0) pa_nil))) (pss_cons (ps_set (i := 1) sc_parts_upward.nd rfl (Or.inl rfl) (pe_lst pa_nil)) (pss_cons (ps_set (i := 2) sc_parts_upward.nd rfl (Or.inl rfl) (pe_lst (pa_cons (pv 0) pa_nil))) (pss_cons (ps_while PassesOwn.never (pt_truth (pv 2) (by intro _; rfl)) (pss_cons (ps_set (i := 3) sc_parts_upward.nd rfl (Or.inl rfl) (pe_bm0 PySem.F.plainAttrs_list PySem.F.slot_list_pop PySem.F.type_list_pop mt_pop (pv 2))) (pss_cons (ps_expr (pe_bm PySem.F.plainAttrs_list PySem.F.slot_list_append PySem.F.type_list_append mt_append (pv 1) (pa_cons (pv 3) pa_nil))) (pss_one (ps_expr (pe_bm PySem.F.plainAttrs_list PySem.F.slot_list_extend PySem.F.type_list_extend mt_extend (pv 2) (pa_cons (pe_ix ix_tup (pv 3) pe_int (fun _ _ => rfl)) pa_nil))))))) (pss_one (ps_ret (pe_revL (pv 1)))))))), ?_⟩
  refine ⟨_, rfl, v, t, rfl, ht.weak fun _ _ => trivial, hz, fun H1 s1 => ?_⟩
  have ht1 := ((TrAt.there t v ht).same s1).weak (ok' := fun b => ok b ∧ H b ≠ none) fun b ⟨k, o, e⟩ => ⟨k, by rw [e]; simp⟩
  refine ⟨(by show 0 ≤ sizeLine; decide), fun a ha => ?_⟩
  refine ⟨_, rfl, (by show 1 ≤ sizeLine; decide), fun p hp => ?_⟩
  have nap : a ≠ p := fun e => by rw [e, upd_same] at hp; cases hp
  have hp1 : H1 p = none := by rw [upd_ne (fun e => nap e.symm)] at hp; exact hp
  have ha0 : H a = none := s1.free ha
  have hp0 : H p = none := s1.free hp1
  have oka : ∀ b, (ok b ∧ H b ≠ none) → b ≠ a := fun b h e => h.2 (by rw [e]; exact ha0)
  have okp : ∀ b, (ok b ∧ H b ≠ none) → b ≠ p := fun b h e => h.2 (by rw [e]; exact hp0)
  refine ⟨fun m σ H' => ∃ y as tas ws ts, σ = [some v, some (.ref a), some (.ref p), y] ∧ H' a = some (.lst as) ∧ H' p = some (.lst ws) ∧ TrsAt (fun b => ok b ∧ H b ≠ none) H' as tas ∧ TrsAt (fun b => ok b ∧ H b ≠ none) H' ws ts ∧
      tas ++ (posts ts).reverse = t.post.reverse ∧ sizes ts = m ∧ Same H H',
    ⟨t.size, none, [], [], [v], [t], rfl, by rw [upd_ne nap]; exact upd_same, upd_same, .nil, .cons ((ht1.keep (upd_keep oka)).keep (upd_keep okp)) .nil, by simp only [posts, List.append_nil, List.nil_append], by simp only [sizes]; omega, same_add (same_add s1 ha0) hp0⟩, ?_⟩
  rintro m σ H' ⟨y, as, tas, ws, ts, rfl, hA, hw, hta, hts, hpo, hm, hs⟩
  have hlen : tas.length + sizes ts = t.size := by
    have := congrArg List.length hpo
    rw [List.length_append, List.length_reverse, List.length_reverse, posts_len, post_len] at this
    exact this
  by_cases he : ws = []
  · subst he
    cases hts
    refine ⟨_, rfl, false, .inl ⟨_, SqL.of hw, rfl⟩, iteF ?_⟩
    refine ⟨_, rfl, a, as, rfl, SqL.of hA, fun r hr' => ?_⟩
    have hr0 : H r = none := hs.free hr'
    refine q r as.reverse _ (same_add hs hr0) hr0 upd_same ?_
    have e : tas.reverse = t.post := by
      simp only [posts, List.reverse_nil, List.append_nil] at hpo
      rw [hpo, List.reverse_reverse]
    rw [← e]
    exact hta.rev.keep (upd_keep fun b h e => h.2 (by rw [e]; exact hr0))
  · refine ⟨_, rfl, true, .inl ⟨_, SqL.of hw, by cases ws with | nil => exact absurd rfl he | cons a b => rfl⟩, iteT ?_⟩
    obtain ⟨ws', x, rfl⟩ := concat_of he
    obtain ⟨ts', tl, rfl, h1, h2⟩ := TrsAt.split hts
    cases h2 with
    | cons hx hn =>
      cases hn
      rename_i tx
      obtain ⟨c, ks⟩ := tx
      rw [sizes_append] at hm hlen
      simp only [sizes, Tr.size] at hm hlen
      refine ⟨fun σ2 H2 => ∃ y as tas ws ts, σ2 = [some v, some (.ref a), some (.ref p), y] ∧ H2 a = some (.lst as) ∧ H2 p = some (.lst ws) ∧ TrsAt (fun b => ok b ∧ H b ≠ none) H2 as tas ∧ TrsAt (fun b => ok b ∧ H b ≠ none) H2 ws ts ∧
        tas ++ (posts ts).reverse = t.post.reverse ∧ sizes ts < m ∧ Same H H2, fun σ2 H2 ⟨y, as, tas, ws, ts, e1, e2, e3, e4, e5, e6, e7, e8⟩ => ⟨sizes ts, e7, y, as, tas, ws, ts, e1, e2, e3, e4, e5, e6, rfl, e8⟩, ?_⟩
      refine ⟨_, rfl, .inl ⟨rfl, _, SqL.of hw⟩, _, _, x, rfl, rfl, hw, by simp, ?_⟩
      have kp : ∀ b u, (ok b ∧ H b ≠ none) → H' b = some u → (upd H' p (.lst (ws' ++ [x]).dropLast)) b = some u := upd_keep okp
      have hA2 : (upd H' p (.lst (ws' ++ [x]).dropLast)) a = some (.lst as) := by rw [upd_ne nap]; exact hA
      have la := hta.len
      refine ⟨_, rfl, .inl ⟨rfl, _, SqL.of hA2⟩, _, rfl, a, as, x, rfl, rfl, hA2, Nat.lt_of_le_of_lt (show as.length ≤ 1000000 by omega) (by decide), ?_⟩
      have hx3 := (hx.keep kp).keep (upd_keep (o := .lst (as ++ [x])) oka)
      have hp3 : (upd (upd H' p (.lst (ws' ++ [x]).dropLast)) a (.lst (as ++ [x]))) p = some (.lst ws') := by
        rw [upd_ne (fun e => nap e.symm), upd_same, List.dropLast_concat]
      have hx3' := hx3
      cases hx3 with
      | node g1 g2 k1 k2 c1 c2 r =>
        have ll := r.len
        have l2 := h1.len
        have l3 := len_sizes ts'
        have l4 := len_sizes ks
        refine ⟨_, rfl, .inl ⟨rfl, _, SqL.of hp3⟩, _, rfl, _, _, 1, _, rfl, rfl, SqT.of g1, atI_nat (j := 1) rfl, p, _, ws', _, rfl, rfl, hp3, g2, ?_, ?_⟩
        · exact Nat.le_trans (show ws'.length + _ ≤ 1000000 by omega) (by decide)
        · refine ⟨some _, as ++ [_], tas ++ [Tr.node c ks], _, ts' ++ ks, rfl, by rw [upd_ne nap]; exact upd_same, upd_same, ?_, ?_, ?_, ?_, ?_⟩
          · exact (((hta.keep kp).keep (upd_keep oka)).append (.cons hx3' .nil)).keep (upd_keep okp)
          · exact (((h1.keep kp).keep (upd_keep oka)).append r).keep (upd_keep okp)
          · rw [← hpo, posts_append, posts_append]
            simp only [posts, Tr.post, List.reverse_append, List.append_assoc, List.append_nil, List.reverse_cons, List.reverse_nil, List.nil_append, List.singleton_append, List.cons_append]
          · rw [sizes_append]
            omega
          · exact same_add (same_add (same_add hs hp0) ha0) hp0
end


def Pool (H : Hp) (p : Addr) (n : Nat) : Prop := ∃ x f s : Int, H p = some (.lst [.int x, .int f, .int s]) ∧ 0 ≤ s ∧ s ≤ (n : Int)
theorem Pool.mono {H : Hp} {p : Addr} {n m : Nat} (h : Pool H p n) (l : n ≤ m) : Pool H p m := let ⟨x, f, s, a, b, c⟩ := h; ⟨x, f, s, a, b, by omega⟩
theorem Pool.keep {H H' : Hp} {p : Addr} {n : Nat} (h : Pool H p n) (e : Same H H') : Pool H' p n := let ⟨x, f, s, a, b, c⟩ := h; ⟨x, f, s, e _ _ a, b, c⟩
theorem Pool.ne {H : Hp} {p q : Addr} {n : Nat} (h : Pool H p n) (e : H q = none) : p ≠ q := let ⟨_, _, _, a, _⟩ := h; ne_of_none a e
theorem Pool.some {H : Hp} {p : Addr} {n : Nat} (h : Pool H p n) : H p ≠ none := let ⟨_, _, _, a, _⟩ := h; by rw [a]; simp
def sp__law_pool (K : PySem.W.Frag) : Sp := fun vs H Q _ => ∃ (a : Addr) (ns : List Int) (k : Int), vs = [.ref a, .int k] ∧ SqL K H a (ns.map V.int) ∧ ns.length ≤ 63 ∧ 0 ≤ k ∧ k ≤ 63 ∧
  ∀ p H', H p = none → Chg p H H' → Pool H' p 3000 → Q (.ref p) H'
def sp__law_take : Sp := fun vs H Q _ => ∃ (p : Addr) (m : Int) (n : Nat), vs = [.ref p, .int m] ∧ Pool H p n ∧ n < 1000000 ∧ 0 < m ∧ m < 2 ^ 60 ∧
  ∀ r H', 0 ≤ r → r < m → Chg p H H' → Pool H' p (n + 1) → Q (.int r) H'
section
variable {P : Program} {w : World} {K : PySem.W.Frag} {mg : Str → Option Value} {base : Heap}
theorem ok__law_pool (T : Txt K mg) : FnOk P w K mg base CX0 1 T.f__law_pool T.d__law_pool ["script", "k"] (sp__law_pool K) := by
  refine T.F__law_pool.ok sc__law_pool (fun vs H Q E h => ?_) (fun cdv A outer s H vs Q E hr h => ?_)
  · obtain ⟨a, ns, k, rfl, _⟩ := h
    rfl
  obtain ⟨a, ns, k, rfl, hS, h63, h0, h1, q⟩ := h
  refine ⟨_, (pss_cons (ps_set (i := 2) sc__law_pool.nd rfl (Or.inl rfl) pe_int) (pss_cons (ps_if (pt_cmpR op_lt (pv 1) (pe_callB call_len_seq (by rfl) T.z_len PySem.boot_len (pa_cons (pv 0) pa_nil)) (nomark _)) (pss_one (ps_set (i := 2) sc__law_pool.nd rfl (Or.inl rfl) (pe_ix ix_list (pv 0) (pv 1) (fun _ _ => rfl)))) pss_nil) (pss_cons (ps_if (pt_cmpR op_ge (pv 2) (pe_op op_pow pe_int pe_int) (nomark _)) (pss_one (ps_ret (pe_lst (pa_cons (pe_op op_sub (pv 2) (pe_op op_pow pe_int pe_int)) (pa_cons pe_int (pa_cons pe_int pa_nil)))))) pss_nil) (pss_one (ps_ret (pe_lst (pa_cons (pv 2) (pa_cons pe_int (pa_cons (pe_op op_mul pe_int (pv 1)) pa_nil))))))))), ?_⟩
  have fin : ∀ p, H p = none → ∀ x f s : Int, 0 ≤ s → s ≤ 3000 → Q (.ref p) (upd H p (.lst [.int x, .int f, .int s])) := fun p hp x f s hs0 hs1 =>
    q p _ hp Chg.upd ⟨x, f, s, upd_same, hs0, by omega⟩
  refine ⟨_, rfl, _, rfl, a, _, rfl, .inl hS, _, _, rfl, rfl, _, rfl, ?_⟩
  refine ite2 (fun c => ?_) (fun c => ?_)
  · have hk : k.toNat < ns.length := by
      have c' : k < (((ns.map V.int).length : Nat) : Int) := of_decide_eq_true c
      rw [List.length_map] at c'
      omega
    refine ⟨_, rfl, _, rfl, a, _, _, _, rfl, rfl, hS, at_of (j := k.toNat) (v := V.int ns[k.toNat]) (by omega) (by rw [List.getElem?_map, List.getElem?_eq_getElem hk]; rfl), ?_⟩
    refine ⟨_, rfl, 10, 18, rfl, rfl, ⟨by decide, by decide, by decide⟩, _, _, rfl, rfl, _, rfl, ?_⟩
    refine ite2 (fun c2 => ?_) (fun c2 => ?_)
    · refine ⟨_, rfl, 10, 18, rfl, rfl, ⟨by decide, by decide, by decide⟩, _, _, rfl, rfl, (by show 3 ≤ sizeLine; decide), fun p hp => ?_⟩
      exact fin p hp _ _ _ (by decide) (by decide)
    · refine ⟨_, rfl, _, rfl, _, _, rfl, rfl, .inl ⟨by decide, by decide⟩, (by show 3 ≤ sizeLine; decide), fun p hp => ?_⟩
      exact fin p hp _ _ _ (by omega) (by omega)
  · refine ⟨_, rfl, 10, 18, rfl, rfl, ⟨by decide, by decide, by decide⟩, _, _, rfl, rfl, _, rfl, ?_⟩
    refine ite2 (fun c2 => ?_) (fun c2 => ?_)
    · exact absurd (of_decide_eq_true c2) (by decide)
    · refine ⟨_, rfl, _, rfl, _, _, rfl, rfl, .inl ⟨by decide, by decide⟩, (by show 3 ≤ sizeLine; decide), fun p hp => ?_⟩
      exact fin p hp _ _ _ (by omega) (by omega)
theorem ok__law_take (T : Txt K mg) : FnOk P w K mg base CX0 1 T.f__law_take T.d__law_take ["pool", "many"] sp__law_take := by
  refine T.F__law_take.ok sc__law_take (fun vs H Q E h => ?_) (fun cdv A outer s H vs Q E hr h => ?_)
  · obtain ⟨p, m, n, rfl, _⟩ := h
    rfl
  obtain ⟨p, m, n, rfl, ⟨x, f, t, hp, ht0, ht1⟩, hn, hm0, hm1, q⟩ := h
  refine ⟨_, (pss_cons (ps_if (pt_cmpR op_eq (pe_ix ix_list (pv 0) pe_int (fun _ _ => rfl)) pe_int (nomark _)) (pss_cons (ps_set (i := 2) sc__law_take.nd rfl (Or.inl rfl) (pe_op op_mod (pe_ix ix_list (pv 0) pe_int (fun _ _ => rfl)) (pv 1))) (pss_cons (ps_asg (pe_op op_fdivW (pe_ix ix_list (pv 0) pe_int (fun _ _ => rfl)) (pv 1)) (pg_sub (pv 0) pe_int set_list)) (pss_one (ps_ret (pv 2))))) pss_nil) (pss_cons (ps_asg (pe_op op_add (pe_ix ix_list (pv 0) pe_int (fun _ _ => rfl)) pe_int) (pg_sub (pv 0) pe_int set_list)) (pss_cons (ps_set (i := 3) sc__law_take.nd rfl (Or.inl rfl) (pe_ix ix_list (pv 0) pe_int (fun _ _ => rfl))) (pss_cons (ps_set (i := 4) sc__law_take.nd rfl (Or.inl rfl) (pe_op op_mul (pe_op op_add (pe_op op_mod (pe_ix ix_list (pv 0) pe_int (fun _ _ => rfl)) pe_int) pe_int) (pe_op op_add (pe_op op_mul pe_int (pv 3)) pe_int))) (pss_cons (ps_set (i := 4) sc__law_take.nd rfl (Or.inl rfl) (pe_op op_add (pv 4) (pe_op op_mul (pe_op op_mul pe_int (pv 3)) (pv 3)))) (pss_cons (ps_set (i := 4) sc__law_take.nd rfl (Or.inl rfl) (pe_op op_mod (pe_op op_mul (pv 4) (pv 4)) pe_int)) (pss_one (ps_ret (pe_op op_mod (pe_op op_fdivW (pe_op op_mod (pe_op op_mul (pv 4) (pe_op op_add (pv 4) pe_int)) pe_int) pe_int) (pv 1)))))))))), ?_⟩
  have i0 : atI [V.int x, V.int f, V.int t] 0 = some (.int x) := atI_nat (j := 0) rfl
  have i1 : atI [V.int x, V.int f, V.int t] 1 = some (.int f) := atI_nat (j := 1) rfl
  have i2 : atI [V.int x, V.int f, V.int t] 2 = some (.int t) := atI_nat (j := 2) rfl
  refine ⟨_, rfl, p, _, 1, _, rfl, rfl, SqL.of hp, i1, rfl, _, rfl, ?_⟩
  refine ite2 (fun c => ?_) (fun c => ?_)
  · -- the digits
    refine ⟨_, rfl, p, _, 0, _, rfl, rfl, SqL.of hp, i0, _, rfl, x, m, rfl, rfl, hm0, ?_⟩
    refine ⟨_, rfl, p, _, 0, _, rfl, rfl, SqL.of hp, i0, _, rfl, x, m, rfl, rfl, divW hm0 hm1, ?_⟩
    refine ⟨_, rfl, p, _, 0, 0, rfl, rfl, hp, rfl, ?_⟩
    refine ⟨_, rfl, q _ _ (Int.emod_nonneg _ (by omega)) (Int.emod_lt_of_pos _ hm0) Chg.upd ⟨_, _, _, upd_same, ht0, by omega⟩⟩
  · -- mixed
    refine ⟨_, rfl, p, _, 2, _, rfl, rfl, SqL.of hp, i2, t, 1, rfl, rfl, ?_⟩
    refine ⟨_, rfl, p, _, 2, 2, rfl, rfl, hp, rfl, ?_⟩
    have hp' : (upd H p (.lst [V.int x, V.int f, V.int (t + 1)])) p = some (.lst [V.int x, V.int f, V.int (t + 1)]) := upd_same
    have j0 : atI [V.int x, V.int f, V.int (t + 1)] 0 = some (.int x) := atI_nat (j := 0) rfl
    have j2 : atI [V.int x, V.int f, V.int (t + 1)] 2 = some (.int (t + 1)) := atI_nat (j := 2) rfl
    refine ⟨_, rfl, p, _, 2, _, rfl, rfl, SqL.of hp', j2, ?_⟩
    have a0 : 0 ≤ x % 9999999557 := Int.emod_nonneg _ (by decide)
    have a1 : x % 9999999557 < 9999999557 := Int.emod_lt_of_pos _ (by decide)
    refine ⟨_, rfl, p, _, 0, _, rfl, rfl, SqL.of hp', j0, x, 9999999557, rfl, rfl, (by show (0 : Int) < 9999999557; decide), _, 1013, rfl, rfl, _, rfl, 41, t + 1, rfl, rfl, .inl ⟨by decide, by decide⟩, _, 71, rfl, rfl, _, _, rfl, rfl, .inl ⟨by omega, by omega⟩, ?_⟩
    have b1 := nn_mul (a := x % 9999999557 + 1013) (A := 10000000570) (b := 41 * (t + 1) + 71) (B := 41000112) (by omega) (by omega) (by omega) (by omega)
    obtain ⟨M, hM⟩ : ∃ M, (x % 9999999557 + 1013) * (41 * (t + 1) + 71) = M := ⟨_, rfl⟩
    rw [hM] at b1
    have b2 := nn_mul (a := 3571 * (t + 1)) (A := 3571000000) (b := t + 1) (B := 1000000) (by omega) (by omega) (by omega) (by omega)
    refine ⟨_, rfl, _, rfl, 3571, t + 1, rfl, rfl, .inl ⟨by decide, by decide⟩, _, rfl, _, t + 1, rfl, rfl, .inl ⟨by omega, by omega⟩, M, _, congrArg V.int hM, rfl, ?_⟩
    obtain ⟨M2, hM2⟩ : ∃ M2, M + 3571 * (t + 1) * (t + 1) = M2 := ⟨_, rfl⟩
    refine ⟨_, rfl, _, rfl, M2, M2, congrArg V.int hM2, congrArg V.int hM2, .inl ⟨by omega, by omega⟩, _, 99999999587, rfl, rfl, (by show (0 : Int) < 99999999587; decide), ?_⟩
    have d0 : 0 ≤ M2 * M2 % 99999999587 := Int.emod_nonneg _ (by decide)
    have d1 : M2 * M2 % 99999999587 < 99999999587 := Int.emod_lt_of_pos _ (by decide)
    obtain ⟨M3, hM3⟩ : ∃ M3, M2 * M2 % 99999999587 = M3 := ⟨_, rfl⟩
    rw [hM3] at d0 d1
    refine ⟨_, rfl, _, rfl, M3, 53, congrArg V.int hM3, rfl, M3, M3 + 53, congrArg V.int hM3, rfl, .inl ⟨by omega, by omega⟩, _, 99999999881, rfl, rfl, (by show (0 : Int) < 99999999881; decide), _, 103, rfl, rfl, divW (by decide) (by decide), _, rfl, _, m, rfl, rfl, hm0, ?_⟩
    exact q _ _ (Int.emod_nonneg _ (by omega)) (Int.emod_lt_of_pos _ hm0) Chg.upd ⟨_, _, _, upd_same, by omega, by omega⟩
end


section
variable {ok : Addr → Prop} {H : Hp} {p : Addr} {x : Int} {zs : List V}
mutual
theorem TrAt.offL (hp : H p = some (.lst (.int x :: zs))) : ∀ (t : Tr) (v : V), TrAt ok H v t → TrAt (fun b => ok b ∧ b ≠ p) H v t
  | .node c ks, v, h => by
    cases h with
    | node h1 h2 k1 k2 c1 c2 r =>
      refine .node h1 h2 ⟨k1, ne_of h1 hp (by intro z; cases z)⟩ ⟨k2, fun e => ?_⟩ c1 c2 (TrsAt.offL hp ks _ r)
      subst e
      rw [h2] at hp
      cases hp
      cases r with
      | cons a _ => cases a
theorem TrsAt.offL (hp : H p = some (.lst (.int x :: zs))) : ∀ (ts : List Tr) (vs : List V), TrsAt ok H vs ts → TrsAt (fun b => ok b ∧ b ≠ p) H vs ts
  | [], _, h => by cases h; exact .nil
  | t :: r, _, h => by
    cases h with
    | cons a b => exact .cons (TrAt.offL hp t _ a) (TrsAt.offL hp r _ b)
end
end
theorem Pool.off {ok : Addr → Prop} {H : Hp} {p : Addr} {n : Nat} {v : V} {t : Tr} (hp : Pool H p n) (h : TrAt ok H v t) : TrAt (fun b => ok b ∧ b ≠ p) H v t := let ⟨_, _, _, hx, _⟩ := hp; TrAt.offL hx t v h
theorem Pool.offs {ok : Addr → Prop} {H : Hp} {p : Addr} {n : Nat} {vs : List V} {ts : List Tr} (hp : Pool H p n) (h : TrsAt ok H vs ts) : TrsAt (fun b => ok b ∧ b ≠ p) H vs ts := let ⟨_, _, _, hx, _⟩ := hp; TrsAt.offL hx ts vs h
theorem TrAt.fr {ok : Addr → Prop} {H H' : Hp} {p : Addr} {v : V} {t : Tr} (h : TrAt (fun b => ok b ∧ b ≠ p) H v t) (f : Fr p H H') : TrAt (fun b => ok b ∧ b ≠ p) H' v t := h.keep fun b o k e => f b o k.2 e
theorem TrsAt.fr {ok : Addr → Prop} {H H' : Hp} {p : Addr} {vs : List V} {ts : List Tr} (h : TrsAt (fun b => ok b ∧ b ≠ p) H vs ts) (f : Fr p H H') : TrsAt (fun b => ok b ∧ b ≠ p) H' vs ts := h.keep fun b o k e => f b o k.2 e
theorem Pool.new {H : Hp} {p q : Addr} {n : Nat} {o : HO} (hp : Pool H p n) (h : H q = none) : Pool (upd H q o) p n := hp.keep (same_new h)
theorem Pool.ne' {H : Hp} {p q : Addr} {n : Nat} (hp : Pool H p n) (h : H q = none) : q ≠ p := fun e => (hp.ne h) e.symm
theorem Pool.upd {H : Hp} {p q : Addr} {n : Nat} {o : HO} (hp : Pool H p n) (h : q ≠ p) : Pool (upd H q o) p n := by
  obtain ⟨x, f, s, a, b, c⟩ := hp
  exact ⟨x, f, s, by rw [upd_ne (fun e => h e.symm)]; exact a, b, c⟩
theorem erase_perm {α : Type} : ∀ (l : List α) (i : Nat) (h : i < l.length), l.Perm (l[i] :: l.eraseIdx i)
  | a :: r, 0, _ => .refl _
  | a :: r, i + 1, h => by
    have ih := erase_perm r i (by simpa using h)
    exact (ih.cons a).trans (.swap _ _ _)
def sp__law_mixed_up (K : PySem.W.Frag) : Sp := fun vs H Q _ => ∃ (p l : Addr) (n : Nat) (xs : List V), vs = [.ref p, .ref l] ∧ Pool H p n ∧ n + xs.length < 1000000 ∧ SqL K H l xs ∧
  (∀ H', Fr p H H' → ∀ v ∈ xs, DatOk K H' v) ∧ ∀ r ws H', xs.Perm ws → H r = none → Fr p H H' → H' r = some (.lst ws) → Pool H' p (n + xs.length) → Q (.ref r) H'
section
variable {P : Program} {w : World} {K : PySem.W.Frag} {mg : Str → Option Value} {base : Heap}
theorem ok__law_mixed_up (T : Txt K mg) : FnOk P w K mg base CX0 2 T.f__law_mixed_up T.d__law_mixed_up ["pool", "things"] (sp__law_mixed_up K) := by
  have G__law_take : FnOk P w K mg base CX0 1 T.f__law_take T.d__law_take ["pool", "many"] sp__law_take := ok__law_take T
  refine T.F__law_mixed_up.ok sc__law_mixed_up (fun vs H Q E h => ?_) (fun cdv A outer s H vs Q E hr h => ?_)
  · obtain ⟨p, l, n, xs, rfl, _⟩ := h
    rfl
  obtain ⟨p, l, n, xs, rfl, hp, hn, hl, hd, q⟩ := h
  refine ⟨_, (pss_cons (ps_set (i := 2) sc__law_mixed_up.nd rfl (Or.inl rfl) (pe_callTy call_list_of (by rfl) T.z_list (by decide +kernel) (pa_cons (pv 1) pa_nil))) (pss_cons (ps_set (i := 3) sc__law_mixed_up.nd rfl (Or.inl rfl) (pe_lst pa_nil)) (pss_cons (ps_while PassesOwn.never (pt_cmpR (op_neD hr.units) (pv 2) (pe_lst pa_nil) (nomark _)) (pss_one (ps_expr (pe_bm PySem.F.plainAttrs_list PySem.F.slot_list_append PySem.F.type_list_append mt_append (pv 3) (pa_cons (pe_bm PySem.F.plainAttrs_list PySem.F.slot_list_pop PySem.F.type_list_pop mt_popAt (pv 2) (pa_cons (pe_call G__law_take (hr.mono (by omega)) (by rfl) T.m__law_take T.F__law_take.kp T.b__law_take .nil pass0 (pa_cons (pv 0) (pa_cons (pe_callB call_len_seq (by rfl) T.z_len PySem.boot_len (pa_cons (pv 2) pa_nil)) pa_nil))) pa_nil)) pa_nil))))) (pss_one (ps_ret (pv 3)))))), ?_⟩
  refine ⟨_, rfl, l, xs, rfl, .inl hl, fun a ha => ?_⟩
  refine ⟨(by show 0 ≤ sizeLine; decide), fun f hf => ?_⟩
  have naf : a ≠ f := fun e => by rw [e, upd_same] at hf; cases hf
  have hf0 : H f = none := by rw [upd_ne (fun e => naf e.symm)] at hf; exact hf
  have nap : a ≠ p := hp.ne' ha
  have nfp : f ≠ p := hp.ne' hf0
  refine ⟨fun m σ H' => ∃ us ys, σ = [some (.ref p), some (.ref l), some (.ref a), some (.ref f)] ∧ H' a = some (.lst us) ∧ H' f = some (.lst ys) ∧ xs.Perm (us ++ ys) ∧ m = us.length ∧ Pool H' p (n + ys.length) ∧ Fr p H H',
    ⟨xs.length, xs, [], rfl, by rw [upd_ne naf]; exact upd_same, upd_same, by rw [List.append_nil], rfl, (hp.new ha).new hf, ((Fr.refl p H).new ha).new hf0⟩, ?_⟩
  rintro m σ H' ⟨us, ys, rfl, hA, hF, hP, rfl, pp, fr⟩
  have hlen : us.length + ys.length = xs.length := by
    have := hP.length_eq
    rw [List.length_append] at this
    omega
  refine ⟨_, rfl, (by show 0 ≤ sizeLine; decide), fun e he => ?_⟩
  have he0 : H e = none := fr.free pp.some he
  have fr2 : Fr p H (upd H' e (.lst [])) := fr.new he0
  obtain ⟨ds, hds, hsh, hdl⟩ := DatOk.all (K := K) (H := upd H' e (.lst [])) (vs := us) fun v hv => hd _ fr2 v (hP.mem_iff.mpr (List.mem_append_left _ hv))
  have hA2 : (upd H' e (.lst [])) a = some (.lst us) := by rw [upd_ne (ne_of_none hA he)]; exact hA
  have hF2 : (upd H' e (.lst [])) f = some (.lst ys) := by rw [upd_ne (ne_of_none hF he)]; exact hF
  refine ⟨_, _, .lst (SqL.of hA2) hds, dp_nil upd_same, hsh, shaped_nil, _, rfl, ?_⟩
  rw [eqv_nil, hdl]
  by_cases hu : us.length = 0
  · rw [decide_eq_true hu]
    refine iteF ?_
    have : us = [] := List.length_eq_zero_iff.mp hu
    subst this
    refine ⟨_, rfl, q f ys _ (by simpa using hP) hf0 fr2 hF2 ?_⟩
    have e1 : ys.length = xs.length := by simpa using hlen
    rw [← e1]
    exact pp.new he
  · rw [decide_eq_false hu]
    refine iteT ?_
    refine ⟨fun σ2 H2 => ∃ us2 ys, σ2 = [some (.ref p), some (.ref l), some (.ref a), some (.ref f)] ∧ H2 a = some (.lst us2) ∧ H2 f = some (.lst ys) ∧ xs.Perm (us2 ++ ys) ∧ us2.length < us.length ∧ Pool H2 p (n + ys.length) ∧ Fr p H H2,
      fun σ2 H2 ⟨us2, ys, e1, e2, e3, e4, e5, e6, e7⟩ => ⟨us2.length, e5, us2, ys, e1, e2, e3, e4, rfl, e6, e7⟩, ?_⟩
    refine ⟨_, rfl, .inl ⟨rfl, _, SqL.of hF2⟩, _, rfl, .inl ⟨rfl, _, SqL.of hA2⟩, _, rfl, _, rfl, a, us, rfl, .inl (SqL.of hA2), ?_⟩
    refine ⟨p, _, n + ys.length, rfl, pp.new he, by omega, by omega, by omega, fun r H2 r0 r1 c2 p2 => ?_⟩
    obtain ⟨k, rfl⟩ : ∃ k : Nat, r = (k : Int) := ⟨r.toNat, by omega⟩
    have hk : k < us.length := by omega
    have hA3 := c2.at hA2 nap
    have hF3 := c2.at hF2 nfp
    refine ⟨a, us, k, k, us[k], rfl, rfl, hA3, by omega, by omega, PySem.seqIndex_of (by omega) (by omega) |>.trans (by simp), List.getElem?_eq_getElem hk, ?_⟩
    have hF4 : (upd H2 a (.lst (us.eraseIdx k))) f = some (.lst ys) := by rw [upd_ne (fun e => naf e.symm)]; exact hF3
    refine ⟨f, ys, us[k], rfl, rfl, hF4, Nat.lt_of_le_of_lt (show ys.length ≤ 1000000 by omega) (by decide), ?_⟩
    refine ⟨us.eraseIdx k, ys ++ [us[k]], rfl, by rw [upd_ne naf]; exact upd_same, upd_same, ?_, ?_, ?_, ?_⟩
    · refine hP.trans ?_
      have pe : us.Perm (us[k] :: us.eraseIdx k) := erase_perm us k hk
      refine (pe.append_right ys).trans ?_
      rw [← List.append_assoc, List.cons_append]
      exact (List.perm_append_singleton _ _).symm
    · rw [List.length_eraseIdx_of_lt hk]
      omega
    · rw [List.length_append, List.length_singleton, ← Nat.add_assoc]
      exact (p2.upd nap).upd nfp
    · intro b o hb e
      have nb1 : b ≠ f := ne_of_none e hf0
      have nb2 : b ≠ a := ne_of_none e ha
      rw [upd_ne nb1, upd_ne nb2]
      exact c2.at (fr2 b o hb e) hb
end

def Lets (L : Str) : Prop := 1 ≤ L.length ∧ L.length ≤ 26 ∧ ∀ c ∈ L.cps.toList, 97 ≤ c ∧ c ≤ 122
def sp__law_shuffled (d : Nat) : Sp := fun vs H Q _ => ∃ (p : Addr) (n : Nat) (v : V) (t : Tr), vs = [.ref p, v] ∧ Pool H p n ∧ n + t.size < 1000000 ∧ TrAt (fun _ => True) H v t ∧ t.depth ≤ d ∧ t.depth ≤ 32 ∧
  ∀ r u H', Sh t u → Fr p H H' → TrAt (fun b => H b = none) H' r u → Pool H' p (n + (t.size - 1)) → Q r H'
def sp__law_copy (d : Nat) : Sp := fun vs H Q _ => ∃ (v : V) (t : Tr), vs = [v] ∧ TrAt (fun _ => True) H v t ∧ t.depth ≤ d ∧ t.size ≤ 1000000 ∧
  ∀ r H', Same H H' → TrAt (fun b => H b = none) H' r t → Q r H'
def sp__law_letters : Sp := fun vs H Q _ => ∃ (p : Addr) (n : Nat), vs = [.ref p] ∧ Pool H p n ∧ n < 1000000 ∧ ∀ L H', Lets L → Fr p H H' → Pool H' p (n + 1) → Q (.str L) H'
theorem none_of {sp : Sp} {P : Program} {w : World} {K : PySem.W.Frag} {mg : Str → Option Value} {base : Heap} {f : Addr} {fd : FuncData} {ps : List Str} {k : Nat} (no : ∀ vs H Q E, ¬ sp vs H Q E) : FnOk P w K mg base CX0 k f fd ps sp :=
  ⟨fun vs H Q E h => absurd h (no vs H Q E), fun A outer s H args us vs Q E _ _ _ _ h => absurd h (no vs H Q E)⟩
theorem depth_pos : ∀ t : Tr, 1 ≤ t.depth
  | .node c ks => by simp only [Tr.depth]; omega
section
variable {P : Program} {w : World} {K : PySem.W.Frag} {mg : Str → Option Value} {base : Heap}
theorem ok__law_copy (T : Txt K mg) : ∀ d : Nat, FnOk P w K mg base CX0 d T.f__law_copy T.d__law_copy ["tree"] (sp__law_copy d)
  | 0 => none_of fun vs H Q E ⟨v, t, _, _, h, _⟩ => by have := depth_pos t; omega
  | d + 1 => by
    have G__law_copy : FnOk P w K mg base CX0 d T.f__law_copy T.d__law_copy ["tree"] (sp__law_copy d) := ok__law_copy T d
    refine T.F__law_copy.ok sc__law_copy (fun vs H Q E h => ?_) (fun cdv A outer s H vs Q E hr h => ?_)
    · obtain ⟨v, t, rfl, _⟩ := h
      rfl
    obtain ⟨v, t, rfl, ht, hd, hz, q⟩ := h
    refine ⟨_, (pss_one (ps_ret (pe_tup (pa_cons (pe_ix ix_tup (pv 0) pe_int (fun _ _ => rfl)) (pa_cons (pe_lc (own := [("child", 1)]) (g := gName 1) (tt := tYes) rfl sc__law_copy.nd (pi_list (pe_ix ix_tup (pv 0) pe_int (fun _ _ => rfl))) (blkOk_by (own := [("child", 1)]) (N := ["tree", "child"]) (sc := (defScope s__law_copy)) (by decide +kernel)) (fun _ _ _ _ _ => (pg_name (i := 1) sc__law_copy.nd rfl (Or.inl rfl))) (fun _ _ _ _ _ => pts_nil) (fun _ _ _ _ _ => (pe_call G__law_copy (hr.mono (by omega)) (by rfl) T.m__law_copy T.F__law_copy.kp T.b__law_copy .nil pass0 (pa_cons (pv 1) pa_nil)))) pa_nil))))), ?_⟩
    obtain ⟨c, ks⟩ := t
    simp only [Tr.depth] at hd
    simp only [Tr.size] at hz
    have lz := len_sizes ks
    cases ht with
    | node h1 h2 k1 k2 c1 c2 r =>
      rename_i a l xs
      have lr := r.len
      refine ⟨_, rfl, _, _, 0, _, rfl, rfl, SqT.of h1, atI_nat (j := 0) rfl, ?_⟩
      refine ⟨_, rfl, _, _, 1, _, rfl, rfl, SqT.of h1, atI_nat (j := 1) rfl, _, rfl, ⟨_, SqL.of h2⟩, fun D hD => ?_⟩
      refine lc_list (xs := xs) (fun i H2 => ∃ acc, H2 D = some (.lst acc) ∧ TrsAt (fun b => H b = none ∧ b ≠ D) H2 acc (ks.take i) ∧ Same H H2) ⟨[], upd_same, .nil, same_new hD⟩ (fun i H2 _ ⟨_, _, _, s⟩ => SqL.of (s _ _ h2)) ?_ ?_
      · rintro i x H2 hx ⟨acc, g1, g2, g3⟩
        obtain ⟨t1, ht1, hx2⟩ := r.getV hx
        have dt := depths_mem (List.mem_of_getElem? ht1)
        have st := sizes_mem (List.mem_of_getElem? ht1)
        have la := g2.len
        rw [List.length_take] at la
        refine ⟨rfl, _, rfl, x, t1, rfl, hx2.same g3, by omega, by omega, fun y H3 s3 hy => ?_⟩
        refine ⟨acc, s3 _ _ g1, Nat.lt_of_le_of_lt (show acc.length ≤ 1000000 by omega) (by decide), acc ++ [y], upd_same, ?_, same_add (g3.trans s3) hD⟩
        rw [take_succ_of ht1]
        have hy2 : TrAt (fun b => H b = none ∧ b ≠ D) H3 y t1 := hy.weak fun b hb => ⟨g3.free hb, fun e => by rw [e, g1] at hb; cases hb⟩
        exact ((g2.same s3).append (.cons hy2 .nil)).keep (upd_keep fun b h => h.2)
      · rintro H2 ⟨acc, g1, g2, g3⟩
        rw [lr, List.take_length] at g2
        refine ⟨(by show 2 ≤ sizeLine; decide), fun e he => ?_⟩
        have he0 := g3.free he
        have nDe : D ≠ e := ne_of_none g1 he
        refine q _ _ (same_add g3 he0) (.node upd_same (by rw [upd_ne nDe]; exact g1) he0 hD c1 c2 ?_)
        exact (g2.same (same_new he)).weak fun b h => h.1
theorem ok__law_shuffled (T : Txt K mg) : ∀ d : Nat, FnOk P w K mg base CX0 (d + 2) T.f__law_shuffled T.d__law_shuffled ["pool", "tree"] (sp__law_shuffled d)
  | 0 => none_of fun vs H Q E ⟨p, n, v, t, _, _, _, _, h, _⟩ => by have := depth_pos t; omega
  | d + 1 => by
    have G__law_shuffled : FnOk P w K mg base CX0 (d + 2) T.f__law_shuffled T.d__law_shuffled ["pool", "tree"] (sp__law_shuffled d) := ok__law_shuffled T d
    have G__law_mixed_up : FnOk P w K mg base CX0 2 T.f__law_mixed_up T.d__law_mixed_up ["pool", "things"] (sp__law_mixed_up K) := ok__law_mixed_up T
    refine T.F__law_shuffled.ok sc__law_shuffled (fun vs H Q E h => ?_) (fun cdv A outer s H vs Q E hr h => ?_)
    · obtain ⟨p, n, v, t, rfl, _⟩ := h
      rfl
    obtain ⟨p, n, v, t, rfl, hp, hn, ht, hd, hd2, q⟩ := h
    refine ⟨_, (pss_one (ps_ret (pe_tup (pa_cons (pe_ix ix_tup (pv 1) pe_int (fun _ _ => rfl)) (pa_cons (pe_lc (own := [("child", 2)]) (g := gName 2) (tt := tYes) rfl sc__law_shuffled.nd (pi_list (pe_call G__law_mixed_up (hr.mono (by omega)) (by rfl) T.m__law_mixed_up T.F__law_mixed_up.kp T.b__law_mixed_up .nil pass0 (pa_cons (pv 0) (pa_cons (pe_ix ix_tup (pv 1) pe_int (fun _ _ => rfl)) pa_nil)))) (blkOk_by (own := [("child", 2)]) (N := ["pool", "tree", "child"]) (sc := (defScope s__law_shuffled)) (by decide +kernel)) (fun _ _ _ _ _ => (pg_name (i := 2) sc__law_shuffled.nd rfl (Or.inl rfl))) (fun _ _ _ _ _ => pts_nil) (fun _ _ _ _ _ => (pe_call G__law_shuffled (hr.mono (by omega)) (by rfl) T.m__law_shuffled T.F__law_shuffled.kp T.b__law_shuffled .nil pass0 (pa_cons (pv 0) (pa_cons (pv 2) pa_nil))))) pa_nil))))), ?_⟩
    obtain ⟨c, ks⟩ := t
    simp only [Tr.depth] at hd hd2
    simp only [Tr.size] at hn q
    have lz := len_sizes ks
    cases hp.off ht with
    | node h1 h2 k1 k2 c1 c2 r =>
      rename_i a l xs
      have lr := r.len
      refine ⟨_, rfl, _, _, 0, _, rfl, rfl, SqT.of h1, atI_nat (j := 0) rfl, ?_⟩
      refine ⟨_, rfl, _, rfl, _, _, 1, _, rfl, rfl, SqT.of h1, atI_nat (j := 1) rfl, p, l, n, xs, rfl, hp, by omega, SqL.of h2, ?_, fun m ws H1 pw m0 f1 hm p1 => ?_⟩
      · intro H' f v hv
        obtain ⟨i, hi⟩ := List.getElem?_of_mem hv
        obtain ⟨t1, ht1, hx⟩ := (r.fr f).getV hi
        have dt := depths_mem (List.mem_of_getElem? ht1)
        exact datOk_tr hx (by omega)
      obtain ⟨us, pu, hus⟩ := (r.fr f1).perm pw
      have lu := hus.len
      have zu := sizes_perm pu
      have du := depths_perm pu
      have nu := pu.length_eq
      refine ⟨m, rfl, ⟨_, SqL.of hm⟩, fun D hD => ?_⟩
      have hD0 : H D = none := f1.free p1.some hD
      have hmD : m ≠ D := ne_of_none hm hD
      have nmp : m ≠ p := hp.ne' m0
      have nDp : D ≠ p := p1.ne' hD
      have husD := hus.off hD
      refine lc_list (xs := ws) (fun i H2 => ∃ acc vs2, H2 D = some (.lst acc) ∧ TrsAt (fun b => H b = none ∧ b ≠ D) H2 acc vs2 ∧ Shs (us.take i) vs2 ∧ H2 m = some (.lst ws) ∧ Pool H2 p (n + xs.length + (sizes (us.take i) - i)) ∧ Fr p H1 H2 ∧ i ≤ us.length)
        ⟨[], [], upd_same, .nil, .nil, by rw [upd_ne hmD]; exact hm, p1.new hD, (Fr.refl p H1).new hD, Nat.zero_le _⟩ (fun i H2 _ ⟨_, _, _, _, _, s, _⟩ => SqL.of s) ?_ ?_
      · rintro i x H2 hx ⟨acc, vs2, g1, g2, g3, g4, g5, g6, g7⟩
        obtain ⟨t1, ht1, hx2⟩ := hus.getV hx
        have dt := depths_mem (List.mem_of_getElem? ht1)
        have st := sizes_mem (List.mem_of_getElem? ht1)
        have tk := congrArg sizes (List.take_append_drop (i + 1) us)
        rw [sizes_append] at tk
        have e1 := take_succ_of ht1
        have li : i < us.length := (List.getElem?_eq_some_iff.mp ht1).1
        have lt := len_sizes (us.take i)
        rw [List.length_take] at lt
        have ld := len_sizes (us.drop (i + 1))
        rw [List.length_drop] at ld
        have pz := size_pos t1
        have la := g2.len
        have lb := Shs.len g3
        rw [List.length_take] at lb
        have e2 : sizes (us.take (i + 1)) = sizes (us.take i) + t1.size := by
          rw [e1, sizes_append]
          simp only [sizes]
          omega
        refine ⟨rfl, _, rfl, _, rfl, p, _, x, t1, rfl, g5, by omega, (hx2.fr g6).weak fun _ _ => trivial, by omega, by omega, fun y u H3 hsh f3 hy p3 => ?_⟩
        have g1' := f3 _ _ nDp g1
        refine ⟨acc, g1', Nat.lt_of_le_of_lt (show acc.length ≤ 1000000 by omega) (by decide), acc ++ [y], vs2 ++ [u], upd_same, ?_, ?_, ?_, ?_, ?_, by omega⟩
        · have hy2 : TrAt (fun b => H b = none ∧ b ≠ D) H3 y u := hy.weak fun b hb => ⟨f1.free p1.some (g6.free g5.some hb), fun e => by rw [e, g1] at hb; cases hb⟩
          refine ((?_ : TrsAt (fun b => H b = none ∧ b ≠ D) H3 acc vs2).append (.cons hy2 .nil)).keep (upd_keep fun b h => h.2)
          exact g2.keep fun b o k e => f3 b o (hp.ne' k.1) e
        · rw [e1]
          exact g3.append (.cons hsh .nil)
        · rw [upd_ne hmD]
          exact f3 _ _ nmp g4
        · refine (p3.upd nDp).mono ?_
          omega
        · exact (g6.trans f3).new hD
      · rintro H2 ⟨acc, vs2, g1, g2, g3, g4, g5, g6, g7⟩
        rw [lu, List.take_length] at g3 g5
        refine ⟨(by show 2 ≤ sizeLine; decide), fun e he => ?_⟩
        have he0 := f1.free p1.some (g6.free g5.some he)
        have nDe : D ≠ e := ne_of_none g1 he
        refine q _ (.node c vs2) _ (.node pu g3) ((f1.trans g6).new he0) (.node upd_same (by rw [upd_ne nDe]; exact g1) he0 hD0 c1 c2 ?_) ((g5.new he).mono ?_)
        · exact (g2.same (same_new he)).weak fun b h => h.1
        · omega
end


def rowOf (par : Nat → Nat) (k i : Nat) : List Nat := (List.range k).filter fun j => decide (1 ≤ j ∧ par j = i)
def setF {α : Type} (f : Nat → α) (k : Nat) (v : α) : Nat → α := fun j => if j = k then v else f j
theorem setF_same {α : Type} {f : Nat → α} {k : Nat} {v : α} : setF f k v k = v := if_pos rfl
theorem setF_ne {α : Type} {f : Nat → α} {k j : Nat} {v : α} (h : j ≠ k) : setF f k v j = f j := if_neg h
theorem rng_set {α β : Type} (G : α → β) (f : Nat → α) (k : Nat) (v : α) : ((List.range (k + 1)).map fun j => G (setF f k v j)) = ((List.range k).map fun j => G (f j)) ++ [G v] := by
  rw [List.range_succ, List.map_append]
  refine congr (congrArg _ (List.map_congr_left fun j hj => ?_)) ?_
  · rw [setF_ne (Nat.ne_of_lt (List.mem_range.mp hj))]
  · show [G (setF f k v k)] = [G v]
    rw [setF_same]
theorem rng_get {α : Type} (F : Nat → α) {k j : Nat} (h : j < k) : ((List.range k).map F)[j]? = some (F j) := by
  rw [List.getElem?_map, List.getElem?_range h]
  rfl
theorem row_succ (par : Nat → Nat) (k h i : Nat) (hk : 1 ≤ k) : rowOf (setF par k h) (k + 1) i = rowOf par k i ++ (if i = h then [k] else []) := by
  unfold rowOf
  rw [List.range_succ, List.filter_append]
  refine congr (congrArg _ (List.filter_congr fun j hj => ?_)) ?_
  · rw [setF_ne (Nat.ne_of_lt (List.mem_range.mp hj))]
  · rw [List.filter_cons, List.filter_nil, setF_same]
    by_cases e : i = h
    · subst e
      rw [if_pos rfl, if_pos (by simpa using hk)]
    · rw [if_neg e, if_neg (by simp; intro _ z; exact e z.symm)]
theorem row_out (par : Nat → Nat) (k i : Nat) (h : ∀ j, 1 ≤ j → j < k → par j < j) (hi : k ≤ i) : rowOf par k i = [] := by
  unfold rowOf
  rw [List.filter_eq_nil_iff]
  intro j hj e
  have e' := of_decide_eq_true e
  have hj' := List.mem_range.mp hj
  have := h j e'.1 hj'
  omega
theorem row_mem {par : Nat → Nat} {k i j : Nat} (h : j ∈ rowOf par k i) : 1 ≤ j ∧ par j = i ∧ j < k := by
  unfold rowOf at h
  have a := List.mem_filter.mp h
  have b := of_decide_eq_true a.2
  exact ⟨b.1, b.2, List.mem_range.mp a.1⟩
theorem row_len (par : Nat → Nat) (k i : Nat) : (rowOf par k i).length ≤ k := by
  have := List.length_filter_le (fun j => decide (1 ≤ j ∧ par j = i)) (List.range k)
  rw [List.length_range] at this
  exact this
def tot (par f : Nat → Nat) (s : Nat) : Nat → Nat
  | 0 => 0
  | m + 1 => tot par f s m + if s ≤ m ∧ (m = 0 ∨ par m < s) then f m else 0
def rowSum (par f : Nat → Nat) (i : Nat) : Nat → Nat
  | 0 => 0
  | m + 1 => rowSum par f i m + if 1 ≤ m ∧ par m = i then f m else 0
theorem rowSum_eq (par f : Nat → Nat) (i : Nat) : ∀ m, ((rowOf par m i).map f).sum = rowSum par f i m
  | 0 => rfl
  | m + 1 => by
    have ih := rowSum_eq par f i m
    unfold rowOf at ih ⊢
    rw [List.range_succ, List.filter_append, List.map_append, List.sum_append, ih, List.filter_cons, List.filter_nil]
    by_cases e : 1 ≤ m ∧ par m = i
    · rw [if_pos (decide_eq_true e)]
      simp only [rowSum, if_pos e, List.map_cons, List.map_nil, List.sum_cons, List.sum_nil, Nat.add_zero]
    · rw [if_neg (by simpa using e)]
      simp only [rowSum, if_neg e, List.map_nil, List.sum_nil]
theorem tot_step (par f : Nat → Nat) (s g : Nat) : ∀ m, (∀ j, 1 ≤ j → j < m → par j < j) → tot par (setF f s g) s m + rowSum par f s m = tot par f (s + 1) m + if s < m then g else 0
  | 0, _ => by simp [tot, rowSum]
  | m + 1, h => by
    have ih := tot_step par f s g m fun j a b => h j a (by omega)
    have hm := h m
    simp only [tot, rowSum]
    by_cases e : m = s
    · subst e
      rw [setF_same, if_pos (show m ≤ m ∧ (m = 0 ∨ par m < m) by omega), if_neg (show ¬ (1 ≤ m ∧ par m = m) by omega), if_neg (show ¬ (m + 1 ≤ m ∧ (m = 0 ∨ par m < m + 1)) by omega), if_pos (show m < m + 1 by omega)]
      rw [if_neg (show ¬ m < m by omega)] at ih
      omega
    · rw [setF_ne e]
      split <;> split <;> split <;> split <;> (split at ih) <;> omega
theorem tot_top (par f : Nat → Nat) : ∀ m, tot par f 0 (m + 1) = f 0
  | 0 => by simp [tot]
  | m + 1 => by
    have ih := tot_top par f m
    rw [tot, ih, if_neg (by omega)]
    rfl
theorem tot_none (par f : Nat → Nat) (s : Nat) : ∀ m, m ≤ s → tot par f s m = 0
  | 0, _ => rfl
  | m + 1, h => by
    rw [tot, tot_none par f s m (by omega), if_neg (by omega)]
theorem perm_map {α β : Type} (f : α → β) {l ws : List β} (p : l.Perm ws) : ∀ {xs : List α}, l = xs.map f → ∃ us, xs.Perm us ∧ ws = us.map f := by
  induction p with
  | nil =>
    intro xs e
    exact ⟨xs, .refl _, e⟩
  | cons x _ ih =>
    intro xs e
    cases xs with
    | nil => cases e
    | cons a r =>
      rw [List.map_cons] at e
      injection e with e1 e2
      obtain ⟨us, h1, h2⟩ := ih e2
      exact ⟨a :: us, h1.cons a, by rw [h2, e1, List.map_cons]⟩
  | swap x y l =>
    intro xs e
    match xs, e with
    | a :: b :: r, e =>
      simp only [List.map_cons, List.cons.injEq] at e
      exact ⟨b :: a :: r, .swap _ _ _, by simp only [List.map_cons, e.1, e.2.1, e.2.2]⟩
  | trans _ _ ih1 ih2 =>
    intro xs e
    obtain ⟨us, h1, h2⟩ := ih1 e
    obtain ⟨ws, h3, h4⟩ := ih2 h2
    exact ⟨ws, h1.trans h3, h4⟩
theorem trs_map {ok : Addr → Prop} {H : Hp} (tv : Nat → V) (tt : Nat → Tr) : ∀ {us : List Nat}, (∀ c ∈ us, TrAt ok H (tv c) (tt c)) → TrsAt ok H (us.map tv) (us.map tt)
  | [], _ => .nil
  | c :: r, h => .cons (h c List.mem_cons_self) (trs_map tv tt fun d hd => h d (List.mem_cons_of_mem _ hd))
theorem sizes_map (tt : Nat → Tr) : ∀ us : List Nat, sizes (us.map tt) = (us.map fun c => (tt c).size).sum
  | [] => rfl
  | c :: r => by simp only [List.map_cons, sizes, List.sum_cons, sizes_map tt r]
theorem depths_map (tt : Nat → Tr) (b : Nat) : ∀ us : List Nat, (∀ c ∈ us, (tt c).depth ≤ b) → depths (us.map tt) ≤ b
  | [], _ => Nat.zero_le _
  | c :: r, h => by
    have h1 := h c List.mem_cons_self
    have h2 := depths_map tt b r fun d hd => h d (List.mem_cons_of_mem _ hd)
    simp only [List.map_cons, depths]
    omega
theorem letss_map {p : Nat → Prop} (tt : Nat → Tr) : ∀ us : List Nat, (∀ c ∈ us, (tt c).lets p) → letss p (us.map tt)
  | [], _ => trivial
  | c :: r, h => by
    simp only [List.map_cons, letss]
    exact ⟨h c List.mem_cons_self, letss_map tt r fun d hd => h d (List.mem_cons_of_mem _ hd)⟩
theorem sum_perm {a b : List Nat} (p : a.Perm b) : a.sum = b.sum := by
  induction p with
  | nil => rfl
  | cons x _ ih => simp only [List.sum_cons, ih]
  | swap x y l => simp only [List.sum_cons]; omega
  | trans _ _ h1 h2 => exact h1.trans h2
theorem rep_rng {α : Type} (x : α) : ∀ k : Nat, (List.replicate k [x]).flatten = (List.range k).map fun _ => x
  | 0 => rfl
  | k + 1 => by
    rw [List.replicate_succ', List.flatten_append, rep_rng x k, List.range_succ, List.map_append]
    rfl
theorem ixN_nat {n k : Nat} (h : k < n) : ixN n (k : Int) = some k := by
  unfold ixN
  rw [if_pos (by omega), if_pos (by omega)]
  simp
theorem set_rng {α : Type} {F F' : Nat → α} {n k : Nat} {v : α} (h : ∀ j, j < n → j ≠ k → F j = F' j) (hk : F' k = v) : ((List.range n).map F).set k v = (List.range n).map F' := by
  refine List.ext_getElem? fun j => ?_
  rw [List.getElem?_set]
  by_cases hj : j < n
  · by_cases e : k = j
    · subst e
      rw [if_pos rfl, if_pos (by rw [List.length_map, List.length_range]; exact hj), rng_get _ hj, hk]
    · rw [if_neg e, rng_get _ hj, rng_get _ hj, h j hj (fun z => e z.symm)]
  · have o1 : ((List.range n).map F)[j]? = none := List.getElem?_eq_none_iff.mpr (by rw [List.length_map, List.length_range]; omega)
    have o2 : ((List.range n).map F')[j]? = none := List.getElem?_eq_none_iff.mpr (by rw [List.length_map, List.length_range]; omega)
    rw [o1, o2]
    split
    · rw [if_neg (by rw [List.length_map, List.length_range]; omega)]
    · rfl
theorem setF_size (tt : Nat → Tr) (k : Nat) (u : Tr) : (fun j => (setF tt k u j).size) = setF (fun j => (tt j).size) k u.size := by
  funext j
  unfold setF
  split <;> rfl
structure Rows (H0 H' : Hp) (p ro de : Addr) (n k : Nat) (par dep : Nat → Nat) (ad : Nat → Addr) : Prop where
  fr : Fr p H0 H'
  pool : Pool H' p n
  ro_ : H' ro = some (.lst ((List.range k).map fun j => V.ref (ad j)))
  de_ : H' de = some (.lst ((List.range k).map fun j => V.int (dep j : Nat)))
  row : ∀ j, j < k → H' (ad j) = some (.lst ((rowOf par k j).map fun i : Nat => V.int (i : Nat)))
  new : H0 ro = none ∧ H0 de = none ∧ ro ≠ de
  off : ∀ j, j < k → H0 (ad j) = none ∧ ad j ≠ ro ∧ ad j ≠ de
  inj : ∀ i j, i < k → j < k → ad i = ad j → i = j
  par_ : ∀ j, 1 ≤ j → j < k → par j < j ∧ dep j = dep (par j) + 1
  dep_ : ∀ j, j < k → 1 ≤ dep j ∧ dep j ≤ 30
  dep0 : dep 0 = 1
theorem Rows.go {H0 H' H2 : Hp} {p ro de : Addr} {n n2 k : Nat} {par dep : Nat → Nat} {ad : Nat → Addr} (R : Rows H0 H' p ro de n k par dep ad) (hp : H0 p ≠ none) (f : Fr p H' H2) (p2 : Pool H2 p n2) : Rows H0 H2 p ro de n2 k par dep ad := by
  have np : ∀ b, H0 b = none → b ≠ p := fun b h e => hp (by rw [← e]; exact h)
  exact ⟨R.fr.trans f, p2, f _ _ (np _ R.new.1) R.ro_, f _ _ (np _ R.new.2.1) R.de_, fun j hj => f _ _ (np _ (R.off j hj).1) (R.row j hj), R.new, R.off, R.inj, R.par_, R.dep_, R.dep0⟩
theorem Rows.step {H0 H' : Hp} {p ro de b : Addr} {n k h : Nat} {par dep : Nat → Nat} {ad : Nat → Addr} (R : Rows H0 H' p ro de n k par dep ad) (hp : H0 p ≠ none) (hk : 1 ≤ k) (hh : h < k) (hd : dep h ≤ 29)
    (hb : (upd H' (ad h) (.lst (((rowOf par k h).map fun i : Nat => V.int (i : Nat)) ++ [V.int (k : Nat)]))) b = none) :
    Rows H0 (upd (upd (upd (upd H' (ad h) (.lst (((rowOf par k h).map fun i : Nat => V.int (i : Nat)) ++ [V.int (k : Nat)]))) b (.lst [])) ro (.lst (((List.range k).map fun j => V.ref (ad j)) ++ [V.ref b]))) de (.lst (((List.range k).map fun j => V.int (dep j : Nat)) ++ [V.int ((dep h + 1 : Nat) : Int)])))
      p ro de n (k + 1) (setF par k h) (setF dep k (dep h + 1)) (setF ad k b) := by
  have np : ∀ b, H0 b = none → b ≠ p := fun b h e => hp (by rw [← e]; exact h)
  obtain ⟨n1, n2, n3⟩ := R.new
  have nah := R.off h hh
  have nb1 : b ≠ ad h := fun e => by rw [e, upd_same] at hb; cases hb
  have hb' : H' b = none := by rw [upd_ne nb1] at hb; exact hb
  have hb0 : H0 b = none := R.fr.free R.pool.some hb'
  have nbr : b ≠ ro := fun e => by rw [e, R.ro_] at hb'; cases hb'
  have nbd : b ≠ de := fun e => by rw [e, R.de_] at hb'; cases hb'
  have nba : ∀ j, j < k → b ≠ ad j := fun j hj e => by rw [e, R.row j hj] at hb'; cases hb'
  refine ⟨?_, ?_, ?_, ?_, fun j hj => ?_, R.new, fun j hj => ?_, fun i j hi hj e => ?_, fun j h1 hj => ?_, fun j hj => ?_, ?_⟩
  · intro c o hc e
    rw [upd_ne (ne_of_none e n2), upd_ne (ne_of_none e n1), upd_ne (ne_of_none e hb0), upd_ne (ne_of_none e nah.1)]
    exact R.fr c o hc e
  · exact (((R.pool.upd (np _ nah.1)).upd (np _ hb0)).upd (np _ n1)).upd (np _ n2)
  · rw [upd_ne n3, upd_same, rng_set V.ref]
  · rw [upd_same, rng_set (fun d : Nat => V.int (d : Nat))]
  · by_cases e : j = k
    · subst e
      rw [setF_same, upd_ne nbd, upd_ne nbr, upd_same, row_succ _ _ _ _ hk, if_neg (by omega), row_out par j j (fun i a c => (R.par_ i a c).1) (Nat.le_refl _)]
      rfl
    · have hj' : j < k := by omega
      have o := R.off j hj'
      rw [setF_ne e, upd_ne o.2.2, upd_ne o.2.1, upd_ne (fun z => nba j hj' z.symm), row_succ _ _ _ _ hk]
      by_cases ej : j = h
      · subst ej
        rw [upd_same, if_pos rfl, List.map_append]
        rfl
      · rw [upd_ne (fun z => ej (R.inj j h hj' hh z)), if_neg ej, List.append_nil]
        exact R.row j hj'
  · by_cases e : j = k
    · subst e
      rw [setF_same]
      exact ⟨hb0, nbr, nbd⟩
    · rw [setF_ne e]
      exact R.off j (by omega)
  · by_cases e1 : i = k
    · by_cases e2 : j = k
      · omega
      · rw [e1, setF_same, setF_ne e2] at e
        exact absurd e (nba j (by omega))
    · by_cases e2 : j = k
      · rw [e2, setF_same, setF_ne e1] at e
        exact absurd e.symm (nba i (by omega))
      · rw [setF_ne e1, setF_ne e2] at e
        exact R.inj i j (by omega) (by omega) e
  · by_cases e : j = k
    · subst e
      rw [setF_same, setF_same, setF_ne (by omega)]
      exact ⟨hh, rfl⟩
    · have q := R.par_ j h1 (by omega)
      rw [setF_ne e, setF_ne e, setF_ne (by omega)]
      exact q
  · by_cases e : j = k
    · subst e
      rw [setF_same]
      omega
    · rw [setF_ne e]
      exact R.dep_ j (by omega)
  · rw [setF_ne (by omega)]
    exact R.dep0
def sp__law_grown : Sp := fun vs H Q _ => ∃ (p : Addr) (n : Nat) (m : Nat) (L : Str), vs = [.ref p, .int m, .str L] ∧ Pool H p n ∧ n + 20000 < 1000000 ∧ 1 ≤ m ∧ m ≤ 100 ∧ Lets L ∧
  ∀ r t H', t.size ≤ m → t.depth ≤ 30 → t.lets (fun c => c ∈ L.cps.toList) → Fr p H H' → TrAt (fun b => H b = none) H' r t → Pool H' p (n + 20000) → Q r H'
section
variable {P : Program} {w : World} {K : PySem.W.Frag} {mg : Str → Option Value} {base : Heap}
theorem ok__law_grown (T : Txt K mg) : FnOk P w K mg base CX0 3 T.f__law_grown T.d__law_grown ["pool", "most", "letters"] sp__law_grown := by
  have G__law_take : FnOk P w K mg base CX0 1 T.f__law_take T.d__law_take ["pool", "many"] sp__law_take := ok__law_take T
  have G__law_mixed_up : FnOk P w K mg base CX0 2 T.f__law_mixed_up T.d__law_mixed_up ["pool", "things"] (sp__law_mixed_up K) := ok__law_mixed_up T
  refine T.F__law_grown.ok sc__law_grown (fun vs H Q E h => ?_) (fun cdv A outer s H vs Q E hr h => ?_)
  · obtain ⟨p, n, m, L, rfl, _⟩ := h
    rfl
  obtain ⟨p, n, m, L, rfl, hp, hn, hm0, hm1, hL, q⟩ := h
  refine ⟨_, (pss_cons (ps_set (i := 3) sc__law_grown.nd rfl (Or.inl rfl) (pe_op op_add pe_int (pe_ix ix_list (pe_lst (pa_cons (pe_call G__law_take (hr.mono (by omega)) (by rfl) T.m__law_take T.F__law_take.kp T.b__law_take .nil pass0 (pa_cons (pv 0) (pa_cons (pe_callB (call_min2 rfl) (by rfl) T.z_min (by decide +kernel) (pa_cons (pv 1) (pa_cons pe_int pa_nil))) pa_nil))) (pa_cons (pe_call G__law_take (hr.mono (by omega)) (by rfl) T.m__law_take T.F__law_take.kp T.b__law_take .nil pass0 (pa_cons (pv 0) (pa_cons (pv 1) pa_nil))) pa_nil))) (pe_call G__law_take (hr.mono (by omega)) (by rfl) T.m__law_take T.F__law_take.kp T.b__law_take .nil pass0 (pa_cons (pv 0) (pa_cons pe_int pa_nil))) (fun _ _ => rfl)))) (pss_cons (ps_set (i := 4) sc__law_grown.nd rfl (Or.inl rfl) (pe_call G__law_take (hr.mono (by omega)) (by rfl) T.m__law_take T.F__law_take.kp T.b__law_take .nil pass0 (pa_cons (pv 0) (pa_cons pe_int pa_nil)))) (pss_cons (ps_set (i := 5) sc__law_grown.nd rfl (Or.inl rfl) (pe_lst (pa_cons pe_int pa_nil))) (pss_cons (ps_set (i := 6) sc__law_grown.nd rfl (Or.inl rfl) (pe_lst (pa_cons (pe_lst pa_nil) pa_nil))) (pss_cons (ps_for PassesOwn.never rfl (pi_range2 (by rfl) T.z_range (pa_cons pe_int (pa_cons (pv 3) pa_nil))) (pg_name (i := 7) sc__law_grown.nd rfl (Or.inl rfl)) (pss_cons (ps_set (i := 8) sc__law_grown.nd rfl (Or.inl rfl) (pe_ix ix_list (pe_lst (pa_cons (pe_call G__law_take (hr.mono (by omega)) (by rfl) T.m__law_take T.F__law_take.kp T.b__law_take .nil pass0 (pa_cons (pv 0) (pa_cons (pv 7) pa_nil))) (pa_cons (pe_op op_sub (pv 7) pe_int) (pa_cons (pe_call G__law_take (hr.mono (by omega)) (by rfl) T.m__law_take T.F__law_take.kp T.b__law_take .nil pass0 (pa_cons (pv 0) (pa_cons (pe_callB (call_min2 rfl) (by rfl) T.z_min (by decide +kernel) (pa_cons (pv 7) (pa_cons pe_int pa_nil))) pa_nil))) pa_nil)))) (pv 4) (fun _ _ => rfl))) (C8.pss_cut (ps_if (pt_cmpR op_gt (pe_ix ix_list (pv 5) (pv 8) (fun _ _ => rfl)) pe_int (nomark _)) (pss_one (ps_set (i := 8) sc__law_grown.nd rfl (Or.inl rfl) pe_int)) pss_nil) (pss_cons (ps_expr (pe_bm PySem.F.plainAttrs_list PySem.F.slot_list_append PySem.F.type_list_append mt_append (pe_ix ix_list (pv 6) (pv 8) (fun _ _ => rfl)) (pa_cons (pv 7) pa_nil))) (pss_cons (ps_expr (pe_bm PySem.F.plainAttrs_list PySem.F.slot_list_append PySem.F.type_list_append mt_append (pv 6) (pa_cons (pe_lst pa_nil) pa_nil))) (pss_one (ps_expr (pe_bm PySem.F.plainAttrs_list PySem.F.slot_list_append PySem.F.type_list_append mt_append (pv 5) (pa_cons (pe_op op_add (pe_ix ix_list (pv 5) (pv 8) (fun _ _ => rfl)) pe_int) pa_nil))))))))) (pss_cons (ps_set (i := 9) sc__law_grown.nd rfl (Or.inr rfl) (pe_op op_rep (pe_lst (pa_cons pe_non pa_nil)) (pv 3))) (pss_cons (ps_for PassesOwn.never rfl (pi_range3 (by rfl) T.z_range (pa_cons (pe_op op_sub (pv 3) pe_int) (pa_cons (pe_un un_neg pe_int) (pa_cons (pe_un un_neg pe_int) pa_nil)))) (pg_name (i := 7) sc__law_grown.nd rfl (Or.inl rfl)) (pss_cons (ps_setLc (i := 10) (own := [("child", 11)]) (g := gName 11) (te := tOp (rIxL K) (tVar 9) (tVar 11)) (tt := tYes) rfl sc__law_grown.nd rfl rfl (sw_true rfl rfl rfl (by decide +kernel)) (pi_list (pe_call G__law_mixed_up (hr.mono (by omega)) (by rfl) T.m__law_mixed_up T.F__law_mixed_up.kp T.b__law_mixed_up .nil pass0 (pa_cons (pv 0) (pa_cons (pe_ix ix_list (pv 6) (pv 7) (fun _ _ => rfl)) pa_nil)))) (blkOk_by (own := [("child", 11)]) (N := ["pool", "most", "letters", "many", "way", "depths", "rows", "k", "head", "trees", "children", "child"]) (sc := (defScope s__law_grown)) (by decide +kernel)) (fun _ _ _ _ _ => (pg_name (i := 11) sc__law_grown.nd rfl (Or.inl rfl))) (fun _ _ _ _ _ => pts_nil) (fun _ _ _ _ _ => (pe_ix ix_list (pv 9) (pv 11) (fun _ _ => rfl)))) (pss_one (ps_asg (pe_tup (pa_cons (pe_ix ix_str (pv 2) (pe_call G__law_take (hr.mono (by omega)) (by rfl) T.m__law_take T.F__law_take.kp T.b__law_take .nil pass0 (pa_cons (pv 0) (pa_cons (pe_callB call_len_str (by rfl) T.z_len PySem.boot_len (pa_cons (pv 2) pa_nil)) pa_nil))) (fun _ _ => rfl)) (pa_cons (pv 10) pa_nil))) (pg_sub (pv 9) (pv 7) set_list))))) (pss_one (ps_ret (pe_ix ix_list (pv 9) pe_int (fun _ _ => rfl))))))))))), ?_⟩
  refine ⟨_, rfl, _, rfl, m, 7, rfl, p, _, n, rfl, hp, by omega, ?_, ?_, fun r1 H1 a0 a1 c1 p1 => ?_⟩
  · split <;> omega
  · split <;> omega
  refine ⟨_, rfl, _, rfl, p, m, n + 1, rfl, p1, by omega, by omega, by omega, fun r2 H2 b0 b1 c2 p2 => ?_⟩
  refine ⟨(by show 2 ≤ sizeLine; decide), fun l1 hl1 => ?_⟩
  refine ⟨_, rfl, p, 2, n + 2, rfl, p2.new hl1, by omega, by decide, by decide, fun r3 H3 d0 d1 c3 p3 => ?_⟩
  have nl1 : l1 ≠ p := p2.ne' hl1
  have hl3 := c3.at (upd_same (H := H2) (a := l1) (o := .lst [.int r1, .int r2])) nl1
  obtain ⟨many, hmany, hmv⟩ : ∃ many : Nat, (1 ≤ many ∧ many ≤ m) ∧ ∃ z : Int, atI [V.int r1, V.int r2] r3 = some (.int z) ∧ 1 + z = (many : Int) := by
    have a1' : r1 < m := by
      have := a1
      split at this <;> omega
    by_cases e : r3 = 0
    · subst e
      exact ⟨(1 + r1).toNat, by omega, r1, atI_nat (j := 0) rfl, by omega⟩
    · have e1 : r3 = 1 := by omega
      subst e1
      exact ⟨(1 + r2).toNat, by omega, r2, atI_nat (j := 1) rfl, by omega⟩
  obtain ⟨z, hz, hzm⟩ := hmv
  refine ⟨l1, _, r3, _, rfl, rfl, SqL.of hl3, hz, 1, z, rfl, rfl, ?_⟩
  have f3 : Fr p H H3 := (((Fr.chg c1).trans (Fr.chg c2)).new (by
    have := (c1.trans c2) l1 nl1
    rw [hl1] at this
    exact this.symm)).trans (Fr.chg c3)
  refine ⟨_, rfl, p, 3, n + 3, rfl, p3, by omega, by decide, by decide, fun way H4 w0 w1 c4 p4 => ?_⟩
  refine ⟨(by show 1 ≤ sizeLine; decide), fun de hde => ?_⟩
  refine ⟨(by show 0 ≤ sizeLine; decide), fun a0_ ha0 => ⟨(by show 1 ≤ sizeLine; decide), fun ro hro => ?_⟩⟩
  have n0 : H4 de = none := hde
  have na0 : a0_ ≠ de := fun e => by rw [e, upd_same] at ha0; cases ha0
  have ha0' : H4 a0_ = none := by rw [upd_ne na0] at ha0; exact ha0
  have nro1 : ro ≠ a0_ := fun e => by rw [e, upd_same] at hro; cases hro
  have hro1 := hro
  rw [upd_ne nro1] at hro1
  have nro2 : ro ≠ de := fun e => by rw [e, upd_same] at hro1; cases hro1
  rw [upd_ne nro2] at hro1
  have f4 : Fr p H H4 := f3.trans (Fr.chg c4)
  have e0 : ∀ {b}, H4 b = none → H b = none := fun h => f4.free p4.some h
  have hps : H p ≠ none := hp.some
  have np : ∀ b, H b = none → b ≠ p := fun b h e => hps (by rw [← e]; exact h)
  have R0 : Rows H (upd (upd (upd H4 de (.lst [V.int 1])) a0_ (.lst [])) ro (.lst [V.ref a0_])) p ro de (n + 4) 1 (fun _ => 0) (fun _ => 1) (fun _ => a0_) := by
    refine ⟨((f4.new (e0 hde)).new (e0 ha0')).new (e0 hro1), ?_, upd_same, by rw [upd_ne (fun e => nro2 e.symm), upd_ne (fun e => na0 e.symm)]; exact upd_same, fun j hj => ?_, ⟨e0 hro1, e0 hde, nro2⟩, fun j hj => ⟨e0 ha0', fun e => nro1 e.symm, na0⟩, fun i j hi hj _ => by omega, fun j h1 h2 => by omega, fun j hj => ⟨Nat.le_refl _, by decide⟩, rfl⟩
    · exact ((p4.upd (np _ (e0 hde))).upd (np _ (e0 ha0'))).upd (np _ (e0 hro1))
    · rw [upd_ne (fun e => nro1 e.symm)]
      exact upd_same
  refine ⟨_, rfl, 1, many, congrArg (fun x => [V.int 1, V.int x]) hzm, ⟨by decide, by decide, by omega, by omega⟩, for_range (lo := 1) (n := ((many : Int) - 1).toNat)
    (fun i σ H' => ∃ par dep ad y7 y8 y9 y10 y11, σ = [some (.ref p), some (.int m), some (.str L), some (.int many), some (.int way), some (.ref de), some (.ref ro), y7, y8, y9, y10, y11] ∧ Rows H H' p ro de (n + 4 + 2 * i) (1 + i) par dep ad)
    ⟨_, _, _, none, none, none, none, none, by rw [← hzm]; rfl, R0⟩ ?_ ?_⟩
  · rintro i σ H5 hi ⟨par, dep, ad, y7, y8, y9, y10, y11, rfl, R⟩
    have hk : 1 + i < many := by omega
    rw [show (1 : Int) + (i : Int) = ((1 + i : Nat) : Int) by omega]
    refine ⟨_, rfl, _, rfl, p, _, _, rfl, R.pool, by omega, by omega, by omega, fun s1 H6 a0 a1 c6 p6 => ?_⟩
    refine ⟨_, rfl, _, 1, rfl, rfl, _, rfl, _, rfl, _, 3, rfl, p, _, _, rfl, p6, by omega, ?_, ?_, fun s2 H7 b0 b1 c7 p7 => ?_⟩
    · split <;> omega
    · split <;> omega
    refine ⟨(by show 3 ≤ sizeLine; decide), fun e he => ?_⟩
    obtain ⟨hd, hdk, hdv⟩ : ∃ hd : Nat, hd < 1 + i ∧ atI [V.int s1, V.int (((1 + i : Nat) : Int) - 1), V.int s2] way = some (.int (hd : Nat)) := by
      have b1' : s2 < ((1 + i : Nat) : Int) := by
        have := b1
        split at this <;> omega
      obtain rfl | rfl | rfl : way = 0 ∨ way = 1 ∨ way = 2 := by omega
      · exact ⟨s1.toNat, by omega, at_of (j := 0) rfl (congrArg (fun z => some (V.int z)) (show s1 = ((s1.toNat : Nat) : Int) by omega))⟩
      · exact ⟨i, by omega, at_of (j := 1) rfl (congrArg (fun z => some (V.int z)) (show ((1 + i : Nat) : Int) - 1 = (i : Int) by omega))⟩
      · exact ⟨s2.toNat, by omega, at_of (j := 2) rfl (congrArg (fun z => some (V.int z)) (show s2 = ((s2.toNat : Nat) : Int) by omega))⟩
    have R7 : Rows H (upd H7 e (.lst [V.int s1, V.int (((1 + i : Nat) : Int) - 1), V.int s2])) p ro de (n + 4 + 2 * i + 2) (1 + i) par dep ad :=
      R.go hps ((Fr.chg (c6.trans c7)).new (by
        have := (c6.trans c7) e (p7.ne' he)
        rw [he] at this
        exact this.symm)) (p7.new he)
    refine ⟨_, rfl, e, _, way, _, rfl, rfl, SqL.of upd_same, hdv, ?_⟩
    generalize (upd H7 e (.lst [V.int s1, V.int (((1 + i : Nat) : Int) - 1), V.int s2])) = H8 at R7
    refine ⟨fun σ' H' => ∃ hd : Nat, hd < 1 + i ∧ dep hd ≤ 29 ∧ H' = H8 ∧ σ' = [some (.ref p), some (.int m), some (.str L), some (.int many), some (.int way), some (.ref de), some (.ref ro), some (.int ((1 + i : Nat) : Int)), some (.int (hd : Nat)), y9, y10, y11], ?_, ?_⟩
    · refine ⟨_, rfl, _, rfl, de, _, hd, _, rfl, rfl, SqL.of R7.de_, at_of (j := hd) rfl (rng_get _ hdk), _, 29, rfl, rfl, _, rfl, ?_⟩
      refine ite2 (fun c => ?_) (fun c => ?_)
      · exact ⟨0, by omega, by rw [R7.dep0]; decide, rfl, rfl⟩
      · have c' : ¬ (29 : Int) < (dep hd : Nat) := of_decide_eq_false (Bool.eq_false_iff.mpr c)
        exact ⟨hd, hdk, by omega, rfl, rfl⟩
    · rintro σ' H' ⟨hd, hdk, hd29, rfl, rfl⟩
      have rl := row_len par (1 + i) hd
      refine ⟨_, rfl, _, rfl, ro, _, hd, _, rfl, rfl, SqL.of R7.ro_, at_of (j := hd) rfl (rng_get _ hdk), .inl ⟨rfl, _, SqL.of (R7.row hd hdk)⟩, _, rfl, ad hd, _, _, rfl, rfl, R7.row hd hdk, ?_, ?_⟩
      · rw [List.length_map]
        exact small1000 (by omega)
      have o := R7.off hd hdk
      have hro9 : (upd H' (ad hd) (.lst (((rowOf par (1 + i) hd).map fun i : Nat => V.int (i : Nat)) ++ [V.int ((1 + i : Nat) : Int)]))) ro = some (.lst ((List.range (1 + i)).map fun j => V.ref (ad j))) := by
        rw [upd_ne (fun z => o.2.1 z.symm)]
        exact R7.ro_
      refine ⟨_, rfl, .inl ⟨rfl, _, SqL.of hro9⟩, (by show 0 ≤ sizeLine; decide), fun b hb => ?_⟩
      have nrb : ro ≠ b := ne_of_none hro9 hb
      refine ⟨ro, _, .ref b, rfl, rfl, by rw [upd_ne nrb]; exact hro9, by rw [List.length_map, List.length_range]; exact small1000 (by omega), ?_⟩
      have hde9 : (upd H' (ad hd) (.lst (((rowOf par (1 + i) hd).map fun i : Nat => V.int (i : Nat)) ++ [V.int ((1 + i : Nat) : Int)]))) de = some (.lst ((List.range (1 + i)).map fun j => V.int (dep j : Nat))) := by
        rw [upd_ne (fun z => o.2.2 z.symm)]
        exact R7.de_
      have hde10 : ∀ o1 o2, (upd (upd (upd H' (ad hd) (.lst (((rowOf par (1 + i) hd).map fun i : Nat => V.int (i : Nat)) ++ [V.int ((1 + i : Nat) : Int)]))) b o1) ro o2) de = some (.lst ((List.range (1 + i)).map fun j => V.int (dep j : Nat))) := fun o1 o2 => by
        rw [upd_ne (fun z => R7.new.2.2 z.symm), upd_ne (ne_of_none hde9 hb)]
        exact hde9
      refine ⟨_, rfl, .inl ⟨rfl, _, SqL.of (hde10 _ _)⟩, _, rfl, _, rfl, de, _, hd, _, rfl, rfl, SqL.of (hde10 _ _), at_of (j := hd) rfl (rng_get _ hdk), _, 1, rfl, rfl, de, _, _, rfl, rfl, hde10 _ _, by rw [List.length_map, List.length_range]; exact small1000 (by omega), ?_⟩
      have R8 := R7.step hps (by omega) hdk hd29 hb
      exact ⟨_, _, _, _, _, _, _, _, rfl, R8⟩
  · rintro σ H5 ⟨par, dep, ad, y7, y8, y9, y10, y11, rfl, R⟩
    have ek : 1 + ((many : Int) - 1).toNat = many := by omega
    rw [ek] at R
    refine ⟨(by show 1 ≤ sizeLine; decide), fun t0 ht0 => ⟨_, rfl, t0, many, [.non], rfl, rfl, upd_same, by omega, by omega, Nat.le_trans (show 1 * (many : Int).toNat ≤ 1000 by omega) (by decide), fun tr htr => ?_⟩⟩
    have nt : tr ≠ t0 := fun e => by rw [e, upd_same] at htr; cases htr
    have htr5 : H5 tr = none := by rw [upd_ne nt] at htr; exact htr
    have htr0 : H tr = none := R.fr.free R.pool.some htr5
    have ntp : tr ≠ p := np _ htr0
    refine ⟨_, rfl, _, 1, rfl, rfl, _, rfl, _, rfl, (many : Int) - 1, -1, -1, many, rfl, ?_, for_rangeC (lo := (many : Int) - 1) (c := -1) (n := many)
      (fun i σ H' => ∃ tv tt y7 y8 y10 y11, σ = [some (.ref p), some (.int m), some (.str L), some (.int many), some (.int way), some (.ref de), some (.ref ro), y7, y8, some (.ref tr), y10, y11] ∧
        H' tr = some (.lst ((List.range many).map fun j => if many - i ≤ j then tv j else .non)) ∧ (∀ j, many - i ≤ j → j < many → TrAt (fun b => H b = none ∧ b ≠ tr) H' (tv j) (tt j) ∧ (tt j).depth + dep j ≤ 31 ∧ (tt j).lets (fun c => c ∈ L.cps.toList)) ∧
        tot par (fun j => (tt j).size) (many - i) many = i ∧ Fr p H5 H' ∧ Pool H' p (n + 300 + 101 * i))
      ⟨fun _ => .non, fun _ => .node 97 [], _, _, _, _, rfl, ?_, fun j h1 h2 => by omega, tot_none _ _ _ _ (by omega), ((Fr.refl p H5).new (by exact ht0)).new htr5, ((R.pool.new ht0).new htr).mono (by omega)⟩ ?_ ?_⟩
    · have e := RgC.neg (i := (many : Int) - 1) (j := -1) (by omega) (by omega) (by omega) (by omega)
      rw [show ((many : Int) - 1 - -1).toNat = many by omega] at e
      exact e
    · rw [upd_same, show (many : Int).toNat = many by omega, rep_rng]
      refine congrArg (fun z => some (HO.lst z)) (List.map_congr_left fun j hj => ?_)
      rw [if_neg (by have := List.mem_range.mp hj; omega)]
    · rintro i σ H6 hi ⟨tv, tt, y7, y8, y10, y11, rfl, hT, hTr, hTot, f6, p6⟩
      obtain ⟨k, hk⟩ : ∃ k : Nat, k + 1 + i = many := ⟨many - 1 - i, by omega⟩
      rw [show (many : Int) - 1 + (i : Int) * -1 = (k : Int) by omega]
      have R6 := R.go hps f6 p6
      have hkm : k < many := by omega
      have rl := row_len par many k
      refine ⟨_, rfl, _, rfl, _, rfl, ro, _, k, _, rfl, rfl, SqL.of R6.ro_, at_of (j := k) rfl (rng_get _ hkm), p, ad k, _, _, rfl, p6, by rw [List.length_map]; omega, SqL.of (R6.row k hkm), ?_, fun mm ws H7 pw m0 f7 hm p7 => ?_⟩
      · intro H' f v hv
        obtain ⟨c, _, rfl⟩ := List.mem_map.mp hv
        exact datOk_int _
      obtain ⟨us, pu, rfl⟩ := perm_map _ pw rfl
      have lu : us.length = (rowOf par many k).length := pu.length_eq.symm
      have mem : ∀ c ∈ us, 1 ≤ c ∧ par c = k ∧ c < many ∧ k < c := fun c hc => by
        have a := row_mem (pu.mem_iff.mpr hc)
        have b := (R.par_ c a.1 a.2.2).1
        omega
      refine ⟨mm, rfl, ⟨_, SqL.of hm⟩, fun D hD => ?_⟩
      have hD6 : H6 D = none := f7.free p7.some hD
      have hD0 : H D = none := R6.fr.free p6.some hD6
      have nDt : D ≠ tr := fun e => by rw [e, hT] at hD6; cases hD6
      have hT7 := f7 _ _ ntp hT
      have nmD : mm ≠ D := ne_of_none hm hD
      refine lc_list (xs := us.map fun i : Nat => V.int (i : Nat)) (fun j H8 => H8 = upd H7 D (.lst ((us.take j).map tv))) rfl (fun j H8 _ e => by rw [e]; exact SqL.of (by rw [upd_ne nmD]; exact hm)) ?_ ?_
      · rintro j x H8 hx rfl
        rw [List.getElem?_map] at hx
        cases hc : us[j]? with
        | none => rw [hc] at hx; cases hx
        | some c =>
          rw [hc] at hx
          cases hx
          have hcm := mem c (List.mem_of_getElem? hc)
          have hg : ((List.range many).map fun j => if many - i ≤ j then tv j else .non)[c]? = some (tv c) := by
            rw [rng_get _ hcm.2.2.1, if_pos (by omega)]
          refine ⟨rfl, _, rfl, _, rfl, tr, _, c, tv c, rfl, rfl, SqL.of (by rw [upd_ne (fun z => nDt z.symm)]; exact hT7), at_of (j := c) rfl hg, _, upd_same, ?_, ?_⟩
          · rw [List.length_map, List.length_take]
            exact small1000 (by omega)
          · rw [upd_upd, take_succ_of hc, List.map_append]
            rfl
      · rintro H8 rfl
        rw [List.length_map, List.take_length]
        have hT8 : (upd H7 D (.lst (us.map tv))) tr = some (.lst ((List.range many).map fun j => if many - i ≤ j then tv j else .non)) := by
          rw [upd_ne (fun z => nDt z.symm)]
          exact hT7
        have hLs : L.cps.toList.length = L.length := by
          show L.cps.toList.length = L.cps.size
          exact Array.length_toList
        have p8 : Pool (upd H7 D (.lst (us.map tv))) p _ := p7.new hD
        refine ⟨_, rfl, _, rfl, _, rfl, L, rfl, Nat.le_trans hL.2.1 (by decide), p, _, _, rfl, p8, by rw [List.length_map]; omega, by have := hL.1; omega, by have := hL.2.1; omega, fun r H9 r0 r1 c9 p9 => ?_⟩
        obtain ⟨rn, rfl⟩ : ∃ rn : Nat, r = (rn : Int) := ⟨r.toNat, by omega⟩
        have hrn : rn < L.cps.toList.length := by rw [hLs]; omega
        obtain ⟨c, hc⟩ : ∃ c, L.cps.toList[rn]? = some c := ⟨_, List.getElem?_eq_getElem hrn⟩
        have cL := hL.2.2 c (List.mem_of_getElem? hc)
        refine ⟨L, rn, c, rfl, rfl, Nat.le_trans hL.2.1 (by decide), atI_nat hc, _, rfl, (by show 2 ≤ sizeLine; decide), fun g hg => ?_⟩
        have hT9 := c9.at hT8 ntp
        have ngt : g ≠ tr := fun e => by rw [e, hT9] at hg; cases hg
        have f9 : Fr p H6 H9 := (f7.new hD6).trans (Fr.chg c9)
        have hg6 : H6 g = none := f9.free p9.some hg
        have hg0 : H g = none := R6.fr.free p6.some hg6
        have hD9 : H9 D = some (.lst (us.map tv)) := c9.at upd_same (np _ hD0)
        have nDg : D ≠ g := ne_of_none hD9 hg
        refine ⟨_, rfl, _, rfl, tr, _, k, k, rfl, rfl, by rw [upd_ne (fun z => ngt z.symm)]; exact hT9, ixN_nat (by rw [List.length_map, List.length_range]; exact hkm), ?_⟩
        have keep : ∀ v t, TrAt (fun b => H b = none ∧ b ≠ tr) H6 v t → ∀ o, TrAt (fun b => H b = none ∧ b ≠ tr) (upd (upd H9 g (.tup [.str (ch c), .ref D])) tr o) v t := fun v t h o =>
          ((h.keep fun b o k e => f9 b o (np b k.1) e).same (same_new hg)).keep (upd_keep fun b k => k.2)
        refine ⟨setF tv k (.ref g), setF tt k (.node c (us.map tt)), _, _, _, _, rfl, ?_, ?_, ?_, ?_, ?_⟩
        · rw [upd_same]
          refine congrArg (fun z => some (HO.lst z)) (set_rng (fun j hj ne => ?_) ?_)
          · rw [setF_ne ne]
            by_cases e : many - i ≤ j
            · rw [if_pos e, if_pos (by omega)]
            · rw [if_neg e, if_neg (by omega)]
          · rw [if_pos (by omega), setF_same]
        · intro j h1 h2
          by_cases e : j = k
          · subst e
            rw [setF_same, setF_same]
            refine ⟨.node (by rw [upd_ne ngt]; exact upd_same) (by rw [upd_ne nDt, upd_ne nDg]; exact hD9) ⟨hg0, ngt⟩ ⟨hD0, nDt⟩ cL.1 cL.2 (trs_map tv tt fun d hd => keep _ _ (hTr d (by have := mem d hd; omega) (mem d hd).2.2.1).1 _), ?_, ?_⟩
            · have := depths_map tt (30 - dep j) us fun d hd => by
                have a := mem d hd
                have b := (hTr d (by omega) a.2.2.1).2.1
                have e := (R.par_ d a.1 a.2.2.1).2
                rw [a.2.1] at e
                omega
              have b := R.dep_ j hkm
              simp only [Tr.depth]
              omega
            · simp only [Tr.lets]
              exact ⟨List.mem_of_getElem? hc, letss_map tt us fun d hd => (hTr d (by have := mem d hd; omega) (mem d hd).2.2.1).2.2⟩
          · rw [setF_ne e, setF_ne e]
            have a := hTr j (by omega) h2
            exact ⟨keep _ _ a.1 _, a.2⟩
        · have st := tot_step par (fun j => (tt j).size) k (1 + sizes (us.map tt)) many fun j a b => (R.par_ j a b).1
          rw [← rowSum_eq, if_pos hkm, sum_perm (pu.map fun j => (tt j).size)] at st
          rw [setF_size, show many - (i + 1) = k by omega]
          rw [show many - i = k + 1 by omega] at hTot
          simp only [Tr.size]
          rw [sizes_map] at st ⊢
          omega
        · intro b o hb e
          rw [upd_ne (ne_of_none e htr5)]
          exact same_new hg _ _ (f9 b o hb (f6 b o hb e))
        · refine ((p9.new hg).upd ntp).mono ?_
          rw [List.length_map]
          omega
    · rintro σ H6 ⟨tv, tt, y7, y8, y10, y11, rfl, hT, hTr, hTot, f6, p6⟩
      have h0 := hTr 0 (by omega) (by omega)
      rw [show many - many = 0 by omega] at hTot
      obtain ⟨m', rfl⟩ : ∃ m', many = m' + 1 := ⟨many - 1, by omega⟩
      rw [tot_top] at hTot
      have hd0 := R.dep0
      refine ⟨_, rfl, tr, _, 0, tv 0, rfl, rfl, SqL.of hT, at_of (j := 0) rfl (by rw [rng_get _ (by omega), if_pos (by omega)]), ?_⟩
      refine q _ (tt 0) _ (by omega) (by omega) h0.2.2 (R.fr.trans f6) (h0.1.weak fun b k => k.1) (p6.mono (by omega))
end

section
variable {P : Program} {w : World} {K : PySem.W.Frag} {mg : Str → Option Value} {base : Heap}
theorem ok__law_letters (T : Txt K mg) : FnOk P w K mg base CX0 2 T.f__law_letters T.d__law_letters ["pool"] sp__law_letters := by
  have G__law_take : FnOk P w K mg base CX0 1 T.f__law_take T.d__law_take ["pool", "many"] sp__law_take := ok__law_take T
  refine T.F__law_letters.ok sc__law_letters (fun vs H Q E h => ?_) (fun cdv A outer s H vs Q E hr h => ?_)
  · obtain ⟨p, n, rfl, _⟩ := h
    rfl
  obtain ⟨p, n, rfl, hp, hn, q⟩ := h
  refine ⟨_, (pss_one (ps_ret (pe_ix ix_list (pe_lst (pa_cons pe_str (pa_cons pe_str (pa_cons pe_str (pa_cons pe_str (pa_cons pe_str pa_nil)))))) (pe_call G__law_take (hr.mono (by omega)) (by rfl) T.m__law_take T.F__law_take.kp T.b__law_take .nil pass0 (pa_cons (pv 0) (pa_cons pe_int pa_nil))) (fun _ _ => rfl)))), ?_⟩
  refine ⟨(by show 5 ≤ sizeLine; decide), fun l hl => ?_⟩
  refine ⟨_, rfl, p, 5, n, rfl, hp.new hl, hn, by decide, by decide, fun r H2 r0 r1 c2 p2 => ?_⟩
  have hl2 := c2.at upd_same (hp.ne' hl)
  have f2 : Fr p H H2 := ((Fr.refl p H).new hl).trans (Fr.chg c2)
  have fin : ∀ L, Lets L → Q (.str L) H2 := fun L h => q L H2 h f2 p2
  obtain rfl | rfl | rfl | rfl | rfl : r = 0 ∨ r = 1 ∨ r = 2 ∨ r = 3 ∨ r = 4 := by omega
  · exact ⟨l, _, 0, _, rfl, rfl, SqL.of hl2, at_of (j := 0) rfl rfl, fin _ ⟨by decide +kernel, by decide +kernel, by decide +kernel⟩⟩
  · exact ⟨l, _, 1, _, rfl, rfl, SqL.of hl2, at_of (j := 1) rfl rfl, fin _ ⟨by decide +kernel, by decide +kernel, by decide +kernel⟩⟩
  · exact ⟨l, _, 2, _, rfl, rfl, SqL.of hl2, at_of (j := 2) rfl rfl, fin _ ⟨by decide +kernel, by decide +kernel, by decide +kernel⟩⟩
  · exact ⟨l, _, 3, _, rfl, rfl, SqL.of hl2, at_of (j := 3) rfl rfl, fin _ ⟨by decide +kernel, by decide +kernel, by decide +kernel⟩⟩
  · exact ⟨l, _, 4, _, rfl, rfl, SqL.of hl2, at_of (j := 4) rfl rfl, fin _ ⟨by decide +kernel, by decide +kernel, by decide +kernel⟩⟩
end


theorem TrAt.go {H H1 H2 : Hp} {p : Addr} {v : V} {t : Tr} (x : TrAt (fun b => H b = none) H1 v t) (hp : H p ≠ none) (f : Fr p H1 H2) : TrAt (fun b => H b = none) H2 v t :=
  x.keep fun b o k e => f b o (fun z => hp (by rw [← z]; exact k)) e
theorem TrsAt.go {H H1 H2 : Hp} {p : Addr} {vs : List V} {ts : List Tr} (x : TrsAt (fun b => H b = none) H1 vs ts) (hp : H p ≠ none) (f : Fr p H1 H2) : TrsAt (fun b => H b = none) H2 vs ts :=
  x.keep fun b o k e => f b o (fun z => hp (by rw [← z]; exact k)) e
theorem TrAt.base {H H1 H2 : Hp} {p : Addr} {v : V} {t : Tr} (x : TrAt (fun b => H1 b = none) H2 v t) (f : Fr p H H1) (hp : H1 p ≠ none) : TrAt (fun b => H b = none) H2 v t := x.weak fun _ h => f.free hp h
theorem letss_of {p : Nat → Prop} : ∀ {ts : List Tr}, (∀ t ∈ ts, t.lets p) → letss p ts
  | [], _ => trivial
  | t :: r, h => by
    simp only [letss]
    exact ⟨h t List.mem_cons_self, letss_of fun u hu => h u (List.mem_cons_of_mem _ hu)⟩
def sp__law_tree : Sp := fun vs H Q _ => ∃ (p : Addr) (n : Nat) (m : Nat) (L : Str), vs = [.ref p, .int m, .str L] ∧ Pool H p n ∧ n + 50000 < 1000000 ∧ 6 ≤ m ∧ m ≤ 100 ∧ Lets L ∧
  ∀ r t H', t.size ≤ m → t.depth ≤ 31 → t.lets (fun c => c ∈ L.cps.toList) → Fr p H H' → TrAt (fun b => H b = none) H' r t → Pool H' p (n + 50000) → Q r H'
section
variable {P : Program} {w : World} {K : PySem.W.Frag} {mg : Str → Option Value} {base : Heap}
theorem ok__law_tree (T : Txt K mg) : FnOk P w K mg base CX0 40 T.f__law_tree T.d__law_tree ["pool", "most", "letters"] sp__law_tree := by
  have G__law_take : FnOk P w K mg base CX0 1 T.f__law_take T.d__law_take ["pool", "many"] sp__law_take := ok__law_take T
  have G__law_grown : FnOk P w K mg base CX0 3 T.f__law_grown T.d__law_grown ["pool", "most", "letters"] sp__law_grown := ok__law_grown T
  have G__law_mixed_up : FnOk P w K mg base CX0 2 T.f__law_mixed_up T.d__law_mixed_up ["pool", "things"] (sp__law_mixed_up K) := ok__law_mixed_up T
  have G__law_shuffled : FnOk P w K mg base CX0 (32 + 2) T.f__law_shuffled T.d__law_shuffled ["pool", "tree"] (sp__law_shuffled 32) := ok__law_shuffled T 32
  refine T.F__law_tree.ok sc__law_tree (fun vs H Q E h => ?_) (fun cdv A outer s H vs Q E hr h => ?_)
  · obtain ⟨p, n, m, L, rfl, _⟩ := h
    rfl
  obtain ⟨p, n, m, L, rfl, hp, hn, hm0, hm1, hL, q⟩ := h
  refine ⟨_, (pss_cons (ps_if (pt_cmpR op_eq (pe_call G__law_take (hr.mono (by omega)) (by rfl) T.m__law_take T.F__law_take.kp T.b__law_take .nil pass0 (pa_cons (pv 0) (pa_cons pe_int pa_nil))) pe_int (nomark _)) (pss_one (ps_ret (pe_call G__law_grown (hr.mono (by omega)) (by rfl) T.m__law_grown T.F__law_grown.kp T.b__law_grown .nil pass0 (pa_cons (pv 0) (pa_cons (pv 1) (pa_cons (pv 2) pa_nil)))))) pss_nil) (pss_cons (ps_set (i := 3) sc__law_tree.nd rfl (Or.inl rfl) (pe_call G__law_grown (hr.mono (by omega)) (by rfl) T.m__law_grown T.F__law_grown.kp T.b__law_grown .nil pass0 (pa_cons (pv 0) (pa_cons (pe_op op_fdivW (pv 1) pe_int) (pa_cons (pv 2) pa_nil))))) (pss_cons (ps_set (i := 4) sc__law_tree.nd rfl (Or.inl rfl) (pe_call G__law_grown (hr.mono (by omega)) (by rfl) T.m__law_grown T.F__law_grown.kp T.b__law_grown .nil pass0 (pa_cons (pv 0) (pa_cons (pe_op op_sub (pe_op op_fdivW (pv 1) pe_int) pe_int) (pa_cons (pv 2) pa_nil))))) (pss_cons (ps_set (i := 5) sc__law_tree.nd rfl (Or.inl rfl) (pe_lst (pa_cons (pe_lst (pa_cons (pv 3) (pa_cons (pe_call G__law_shuffled (hr.mono (by omega)) (by rfl) T.m__law_shuffled T.F__law_shuffled.kp T.b__law_shuffled .nil pass0 (pa_cons (pv 0) (pa_cons (pv 3) pa_nil))) pa_nil))) (pa_cons (pe_lst (pa_cons (pv 3) (pa_cons (pv 4) (pa_cons (pe_call G__law_shuffled (hr.mono (by omega)) (by rfl) T.m__law_shuffled T.F__law_shuffled.kp T.b__law_shuffled .nil pass0 (pa_cons (pv 0) (pa_cons (pv 3) pa_nil))) pa_nil)))) (pa_cons (pe_lst (pa_cons (pv 4) (pa_cons (pv 3) (pa_cons (pv 3) pa_nil)))) pa_nil))))) (pss_one (ps_ret (pe_tup (pa_cons (pe_ix ix_str (pv 2) (pe_call G__law_take (hr.mono (by omega)) (by rfl) T.m__law_take T.F__law_take.kp T.b__law_take .nil pass0 (pa_cons (pv 0) (pa_cons (pe_callB call_len_str (by rfl) T.z_len PySem.boot_len (pa_cons (pv 2) pa_nil)) pa_nil))) (fun _ _ => rfl)) (pa_cons (pe_call G__law_mixed_up (hr.mono (by omega)) (by rfl) T.m__law_mixed_up T.F__law_mixed_up.kp T.b__law_mixed_up .nil pass0 (pa_cons (pv 0) (pa_cons (pe_ix ix_list (pv 5) (pe_call G__law_take (hr.mono (by omega)) (by rfl) T.m__law_take T.F__law_take.kp T.b__law_take .nil pass0 (pa_cons (pv 0) (pa_cons pe_int pa_nil))) (fun _ _ => rfl)) pa_nil))) pa_nil))))))))), ?_⟩
  have hps : H p ≠ none := hp.some
  have np : ∀ b, H b = none → b ≠ p := fun b h e => hps (by rw [← e]; exact h)
  refine ⟨_, rfl, p, 2, n, rfl, hp, by omega, by decide, by decide, fun r0 H1 a0 a1 c1 p1 => ⟨rfl, _, rfl, ?_⟩⟩
  have f1 : Fr p H H1 := Fr.chg c1
  refine ite2 (fun _ => ?_) (fun _ => ?_)
  · refine ⟨_, rfl, _, rfl, _, rfl, p, n + 1, m, L, rfl, p1, by omega, by omega, hm1, hL, fun r t H' z1 z2 z3 f T1 p2 => ?_⟩
    exact q r t H' z1 (by omega) z3 (f1.trans f) (T1.base f1 p1.some) (p2.mono (by omega))
  · refine ⟨_, rfl, _, rfl, m, 3, rfl, rfl, divW (by decide) (by decide), _, rfl, p, n + 1, m / 3, L, congrArg (fun z => [V.ref p, V.int z, V.str L]) (show (m : Int) / 3 = ((m / 3 : Nat) : Int) by omega), p1, by omega, by omega, by omega, hL, fun one t1 H2 z1 d1 l1 f2 T1 p2 => ?_⟩
    refine ⟨_, rfl, _, rfl, m, 3, rfl, rfl, divW (by decide) (by decide), (m : Int) / 3, 1, rfl, rfl, _, rfl, p, _, m / 3 - 1, L, congrArg (fun z => [V.ref p, V.int z, V.str L]) (show (m : Int) / 3 - 1 = ((m / 3 - 1 : Nat) : Int) by omega), p2, by omega, by omega, by omega, hL, fun other t2 H3 z2 d2 l2 f3 T2 p3 => ?_⟩
    have T1a := T1.base f1 p1.some
    have T2a := T2.base (f1.trans f2) p2.some
    have T1b := T1a.go hps f3
    refine ⟨_, rfl, _, rfl, _, rfl, p, _, one, t1, rfl, p3, by omega, T1b.weak fun _ _ => trivial, by omega, by omega, fun s1 u1 H4 sh1 f4 S1 p4 => ⟨(by show 2 ≤ sizeLine; decide), fun ra hra => ?_⟩⟩
    have S1a := S1.base ((f1.trans f2).trans f3) p3.some
    have p5 := p4.new (o := .lst [one, s1]) hra
    have f5 : Fr p H4 (upd H4 ra (.lst [one, s1])) := (Fr.refl p H4).new hra
    have F5 := (((f1.trans f2).trans f3).trans f4).trans f5
    have T1c := T1b.go hps (f4.trans f5)
    have e1 := sh1.size
    have e2 := sh1.depth
    refine ⟨_, rfl, _, rfl, _, rfl, _, rfl, p, _, one, t1, rfl, p5, by omega, T1c.weak fun _ _ => trivial, by omega, by omega, fun s2 u2 H6 sh2 f6 S2 p6 => ⟨(by show 3 ≤ sizeLine; decide), fun rb hrb => ?_⟩⟩
    have S2a := S2.base F5 p5.some
    have e3 := sh2.size
    have e4 := sh2.depth
    have p7 := p6.new (o := .lst [one, other, s2]) hrb
    have f7 : Fr p H6 (upd H6 rb (.lst [one, other, s2])) := (Fr.refl p H6).new hrb
    refine ⟨_, rfl, _, rfl, _, rfl, (by show 3 ≤ sizeLine; decide), fun rc hrc => ⟨(by show 3 ≤ sizeLine; decide), fun rr hrr => ?_⟩⟩
    have nab : H (ra) = none := (((f1.trans f2).trans f3).trans f4).free p4.some hra
    have nbb : H rb = none := (F5.trans f6).free p6.some hrb
    have p8 := (p7.new (o := .lst [other, one, one]) hrc).new (o := .lst [.ref ra, .ref rb, .ref rc]) hrr
    have f8 : Fr p (upd H6 rb (.lst [one, other, s2])) _ := ((Fr.refl p _).new (o := .lst [other, one, one]) hrc).trans ((Fr.refl p _).new (o := .lst [.ref ra, .ref rb, .ref rc]) hrr)
    have ncb : H rc = none := ((F5.trans f6).trans f7).free p7.some hrc
    have nrb : H rr = none := ((F5.trans f6).trans f7).free p7.some (by
      by_cases e : rr = rc
      · rw [e, upd_same] at hrr; cases hrr
      · rw [upd_ne e] at hrr; exact hrr)
    have nrc : rr ≠ rc := fun e => by rw [e, upd_same] at hrr; cases hrr
    have hLs : L.cps.toList.length = L.length := by
      show L.cps.toList.length = L.cps.size
      exact Array.length_toList
    refine ⟨_, rfl, _, rfl, _, rfl, L, rfl, Nat.le_trans hL.2.1 (by decide), p, _, _, rfl, p8, by omega, by have := hL.1; omega, by have := hL.2.1; omega, fun r H9 r0 r1 c9 p9 => ?_⟩
    obtain ⟨rn, rfl⟩ : ∃ rn : Nat, r = (rn : Int) := ⟨r.toNat, by omega⟩
    have hrn : rn < L.cps.toList.length := by rw [hLs]; omega
    obtain ⟨c, hc⟩ : ∃ c, L.cps.toList[rn]? = some c := ⟨_, List.getElem?_eq_getElem hrn⟩
    have cL := hL.2.2 c (List.mem_of_getElem? hc)
    refine ⟨L, rn, c, rfl, rfl, Nat.le_trans hL.2.1 (by decide), atI_nat hc, _, rfl, _, rfl, _, rfl, p, 3, _, rfl, p9, by omega, by decide, by decide, fun r' H10 b0 b1 c10 p10 => ?_⟩
    have f10 : Fr p (upd H6 rb (.lst [one, other, s2])) H10 := (f8.trans (Fr.chg c9)).trans (Fr.chg c10)
    have F10 := ((F5.trans f6).trans f7).trans f10
    have T1e := T1c.go hps ((f6.trans f7).trans f10)
    have T2e := T2a.go hps ((((f4.trans f5).trans f6).trans f7).trans f10)
    have S1e := S1a.go hps (((f5.trans f6).trans f7).trans f10)
    have S2e := S2a.go hps (f7.trans f10)
    have hrr10 : H10 rr = some (.lst [.ref ra, .ref rb, .ref rc]) := c10.at (c9.at upd_same (np _ nrb)) (np _ nrb)
    have hra10 : H10 ra = some (.lst [one, s1]) := ((f6.trans f7).trans f10) _ _ (np _ nab) upd_same
    have hrb10 : H10 rb = some (.lst [one, other, s2]) := f10 _ _ (np _ nbb) upd_same
    have hrc10 : H10 rc = some (.lst [other, one, one]) := c10.at (c9.at (by rw [upd_ne (fun e => nrc e.symm)]; exact upd_same) (np _ ncb)) (np _ ncb)
    have done : ∀ (x : Addr) (xs : List V) (ts : List Tr), H10 x = some (.lst xs) → TrsAt (fun b => H b = none) H10 xs ts → 1 + sizes ts ≤ m → depths ts ≤ 30 → letss (fun c => c ∈ L.cps.toList) ts → ts.length ≤ 3 →
        sp__law_mixed_up K [.ref p, .ref x] H10 (fun y H' => 2 ≤ sizeLine ∧ ∀ e, H' e = none → Q (.ref e) (upd H' e (.tup [.str (ch c), y]))) E0 := by
      intro x xs ts hx hts hz hdp hlt hln
      have hlen := hts.len
      refine ⟨p, x, _, xs, rfl, p10, by omega, SqL.of hx, fun H' f v hv => ?_, fun r ws H' pw r0 f11 hr' p11 => ⟨by decide, fun e he => ?_⟩⟩
      · obtain ⟨i, hi⟩ := List.getElem?_of_mem hv
        obtain ⟨t1, ht1, hx⟩ := (hts.go hps f).getV hi
        have dt := depths_mem (List.mem_of_getElem? ht1)
        exact datOk_tr hx (by omega)
      · obtain ⟨us, pu, hus⟩ := (hts.go hps f11).perm pw
        have zu := sizes_perm pu
        have du := depths_perm pu
        have nr0 : H r = none := F10.free p10.some r0
        have ne0 : H e = none := (F10.trans f11).free p11.some he
        refine q _ (.node c us) _ (by simp only [Tr.size]; omega) (by simp only [Tr.depth]; omega) ?_ ((F10.trans f11).new ne0) (.node upd_same (by rw [upd_ne (ne_of_none hr' he)]; exact hr') ne0 nr0 cL.1 cL.2 (hus.same (same_new he))) ((p11.new he).mono (by omega))
        simp only [Tr.lets]
        exact ⟨List.mem_of_getElem? hc, letss_perm pu hlt⟩
    obtain rfl | rfl | rfl : r' = 0 ∨ r' = 1 ∨ r' = 2 := by omega
    · refine ⟨rr, _, 0, .ref ra, rfl, rfl, SqL.of hrr10, at_of (j := 0) rfl rfl, done ra _ [t1, u1] hra10 (.cons T1e (.cons S1e .nil)) ?_ ?_ ?_ (by simp)⟩
      · simp only [sizes]; omega
      · simp only [depths]; omega
      · simp only [letss]; exact ⟨l1, sh1.lets l1, trivial⟩
    · refine ⟨rr, _, 1, .ref rb, rfl, rfl, SqL.of hrr10, at_of (j := 1) rfl rfl, done rb _ [t1, t2, u2] hrb10 (.cons T1e (.cons T2e (.cons S2e .nil))) ?_ ?_ ?_ (by simp)⟩
      · simp only [sizes]; omega
      · simp only [depths]; omega
      · simp only [letss]; exact ⟨l1, l2, sh2.lets l1, trivial⟩
    · refine ⟨rr, _, 2, .ref rc, rfl, rfl, SqL.of hrr10, at_of (j := 2) rfl rfl, done rc _ [t2, t1, t1] hrc10 (.cons T2e (.cons T1e (.cons T1e .nil))) ?_ ?_ ?_ (by simp)⟩
      · simp only [sizes]; omega
      · simp only [depths]; omega
      · simp only [letss]; exact ⟨l2, l1, l1, trivial⟩
end

def brk : List Nat → List Nat
  | [] => []
  | x :: l => 40 :: ((x :: l) ++ [41])
mutual
def Tr.wr : Tr → List Nat
  | .node c ks => c :: brk (wrs ks)
def wrs : List Tr → List Nat
  | [] => []
  | t :: r => t.wr ++ wrs r
end
def leW (a b : Tr) : Bool := decide (a.wr ≤ b.wr)
mutual
def Tr.told : Tr → Tr
  | .node c ks => .node c ((tolds ks).mergeSort leW)
def tolds : List Tr → List Tr
  | [] => []
  | t :: r => t.told :: tolds r
end
theorem tolds_map : ∀ ts : List Tr, tolds ts = ts.map Tr.told
  | [] => rfl
  | t :: r => by simp only [tolds, List.map_cons, tolds_map r]
theorem tolds_len (ts : List Tr) : (tolds ts).length = ts.length := by rw [tolds_map, List.length_map]
theorem wrs_append : ∀ a b : List Tr, wrs (a ++ b) = wrs a ++ wrs b
  | [], b => rfl
  | t :: r, b => by simp only [List.cons_append, wrs, wrs_append r b, List.append_assoc]
theorem leW_trans (a b c : Tr) (h : leW a b = true) (g : leW b c = true) : leW a c = true :=
  decide_eq_true (List.le_trans (of_decide_eq_true h) (of_decide_eq_true g))
theorem leW_total (a b : Tr) : (leW a b || leW b a) = true := by
  rcases List.le_total a.wr b.wr with h | h
  · simp [leW, h]
  · simp [leW, h]
abbrev Ltr (c : Nat) : Prop := 97 ≤ c ∧ c ≤ 122
theorem wr_ne (t : Tr) : t.wr ≠ [] := by
  cases t
  simp [Tr.wr]
theorem wr_head {t : Tr} (h : t.lets Ltr) : ∃ c l, t.wr = c :: l ∧ 97 ≤ c := by
  cases t with
  | node c ks =>
    simp only [Tr.lets] at h
    exact ⟨c, _, rfl, h.1.1⟩
theorem wrs_ne {t : Tr} {r : List Tr} : ∃ x l, wrs (t :: r) = x :: l := by
  cases t
  simp [wrs, Tr.wr]
theorem brk_wrs (t : Tr) (r : List Tr) : brk (wrs (t :: r)) = 40 :: (wrs (t :: r) ++ [41]) := by
  obtain ⟨x, l, e⟩ := wrs_ne (t := t) (r := r)
  rw [e]
  rfl
def nb (u : List Nat) : Prop := u.head? ≠ some 40
mutual
theorem wr_inj : ∀ (a b : Tr) (u v : List Nat), a.lets Ltr → b.lets Ltr → a.wr ++ u = b.wr ++ v → nb u → nb v → a = b ∧ u = v
  | .node c ks, .node d js, u, v, ha, hb, h, hu, hv => by
    simp only [Tr.lets] at ha hb
    simp only [Tr.wr, List.cons_append, List.cons.injEq] at h
    obtain ⟨rfl, h⟩ := h
    cases ks with
    | nil =>
      cases js with
      | nil => exact ⟨rfl, h⟩
      | cons j js =>
        obtain ⟨x, l, e⟩ := wrs_ne (t := j) (r := js)
        rw [e] at h
        simp only [wrs, brk, List.nil_append, List.cons_append] at h
        rw [h] at hu
        exact absurd rfl hu
    | cons k ks =>
      rw [brk_wrs k ks] at h
      cases js with
      | nil =>
        simp only [wrs, brk, List.nil_append, List.cons_append] at h
        rw [← h] at hv
        exact absurd rfl hv
      | cons j js =>
        rw [brk_wrs j js] at h
        simp only [List.cons_append, List.append_assoc, List.cons.injEq, true_and, List.singleton_append] at h
        obtain ⟨e1, e2⟩ := wrs_inj (k :: ks) (j :: js) u v ha.2 hb.2 h
        exact ⟨by rw [e1], e2⟩
theorem wrs_inj : ∀ (ks js : List Tr) (u v : List Nat), letss Ltr ks → letss Ltr js → wrs ks ++ 41 :: u = wrs js ++ 41 :: v → ks = js ∧ u = v
  | [], [], u, v, _, _, h => ⟨rfl, by simpa [wrs] using h⟩
  | [], j :: js, u, v, _, hb, h => by
    simp only [letss] at hb
    obtain ⟨c, l, e, hc⟩ := wr_head hb.1
    simp only [wrs, e, List.nil_append, List.cons_append, List.cons.injEq] at h
    omega
  | k :: ks, [], u, v, ha, _, h => by
    simp only [letss] at ha
    obtain ⟨c, l, e, hc⟩ := wr_head ha.1
    simp only [wrs, e, List.nil_append, List.cons_append, List.cons.injEq] at h
    omega
  | k :: ks, j :: js, u, v, ha, hb, h => by
    simp only [letss] at ha hb
    simp only [wrs, List.append_assoc] at h
    have nbk : ∀ (l : List Tr) (w : List Nat), letss Ltr l → nb (wrs l ++ 41 :: w) := by
      intro l w hl
      cases l with
      | nil => simp [nb, wrs]
      | cons a b =>
        simp only [letss] at hl
        obtain ⟨c, m, e, hc⟩ := wr_head hl.1
        simp only [nb, wrs, e, List.cons_append, List.head?_cons]
        intro h
        cases h
        omega
    have := wr_inj k j _ _ ha.1 hb.1 h (nbk _ _ ha.2) (nbk _ _ hb.2)
    obtain ⟨rfl, h2⟩ := this
    obtain ⟨rfl, h3⟩ := wrs_inj ks js u v ha.2 hb.2 h2
    exact ⟨rfl, h3⟩
end
theorem wr_eq {a b : Tr} (ha : a.lets Ltr) (hb : b.lets Ltr) (h : a.wr = b.wr) : a = b :=
  (wr_inj a b [] [] ha hb (by rw [h]) (by simp [nb]) (by simp [nb])).1
mutual
theorem told_lets {p : Nat → Prop} : ∀ t : Tr, t.lets p → t.told.lets p
  | .node c ks, h => by
    simp only [Tr.lets, Tr.told] at h ⊢
    exact ⟨h.1, letss_perm (List.mergeSort_perm _ _).symm (tolds_lets ks h.2)⟩
theorem tolds_lets {p : Nat → Prop} : ∀ ts : List Tr, letss p ts → letss p (tolds ts)
  | [], _ => trivial
  | t :: r, h => by
    simp only [letss, tolds] at h ⊢
    exact ⟨told_lets t h.1, tolds_lets r h.2⟩
end
theorem sorted_is {a b : List Tr} (ha : letss Ltr b) (hp : a.Perm b) (hs : a.Pairwise fun x y => leW x y = true) : a = b.mergeSort leW := by
  refine List.Perm.eq_of_pairwise (le := fun x y => leW x y = true) ?_ hs (List.pairwise_mergeSort leW_trans leW_total _) (hp.trans (List.mergeSort_perm _ _).symm)
  intro x y hx hy h g
  have hx2 := letss_mem ha (hp.mem_iff.mp hx)
  have hy2 := letss_mem ha ((List.mergeSort_perm _ _).mem_iff.mp hy)
  exact wr_eq hx2 hy2 (List.le_antisymm (of_decide_eq_true h) (of_decide_eq_true g))
theorem sort_perm {a b : List Tr} (ha : letss Ltr b) (hp : a.Perm b) : a.mergeSort leW = b.mergeSort leW :=
  sorted_is ha ((List.mergeSort_perm _ _).trans hp) (List.pairwise_mergeSort leW_trans leW_total _)
theorem tolds_perm {a b : List Tr} (h : a.Perm b) : (tolds a).Perm (tolds b) := by
  rw [tolds_map, tolds_map]
  exact h.map _
mutual
theorem Sh.told : ∀ {t u : Tr}, Sh t u → t.lets Ltr → t.told = u.told
  | _, _, .node (ks := ks) (us := us) (ls := ls) p h, hl => by
    simp only [Tr.lets] at hl
    simp only [Tr.told]
    have e := Shs.told h (letss_perm p hl.2)
    rw [sort_perm (tolds_lets _ (letss_perm p hl.2)) (tolds_perm p), e]
theorem Shs.told : ∀ {ts us : List Tr}, Shs ts us → My.letss Ltr ts → tolds ts = tolds us
  | _, _, .nil, _ => rfl
  | _, _, .cons a b, hl => by
    simp only [My.letss] at hl
    simp only [tolds, Sh.told a hl.1, Shs.told b hl.2]
end
theorem sizes_sort (ts : List Tr) : sizes (ts.mergeSort leW) = sizes ts := sizes_perm (List.mergeSort_perm _ _)
theorem depths_sort (ts : List Tr) : depths (ts.mergeSort leW) = depths ts := depths_perm (List.mergeSort_perm _ _)
mutual
theorem told_size : ∀ t : Tr, t.told.size = t.size
  | .node c ks => by simp only [Tr.told, Tr.size, sizes_sort, tolds_sizes ks]
theorem tolds_sizes : ∀ ts : List Tr, sizes (tolds ts) = sizes ts
  | [] => rfl
  | t :: r => by simp only [tolds, sizes, told_size t, tolds_sizes r]
end
mutual
theorem told_depth : ∀ t : Tr, t.told.depth = t.depth
  | .node c ks => by simp only [Tr.told, Tr.depth, depths_sort, tolds_depths ks]
theorem tolds_depths : ∀ ts : List Tr, depths (tolds ts) = depths ts
  | [] => rfl
  | t :: r => by simp only [tolds, depths, told_depth t, tolds_depths r]
end
mutual
theorem wr_len : ∀ t : Tr, t.wr.length ≤ 3 * t.size
  | .node c ks => by
    have := wrs_len ks
    have e : (brk (wrs ks)).length ≤ (wrs ks).length + 2 := by
      cases wrs ks with
      | nil => simp [brk]
      | cons x l => simp [brk]
    simp only [Tr.wr, Tr.size, List.length_cons]
    omega
theorem wrs_len : ∀ ts : List Tr, (wrs ts).length ≤ 3 * sizes ts
  | [] => by simp [wrs]
  | t :: r => by
    have a := wr_len t
    have b := wrs_len r
    simp only [wrs, sizes, List.length_append]
    omega
end
def steps : List Tr → List Tr → Option (List Tr)
  | s, [] => some s
  | s, .node c ks :: r => if ks.length ≤ s.length then steps (s.take (s.length - ks.length) ++ [.node c ((s.drop (s.length - ks.length)).mergeSort leW)]) r else none
mutual
theorem steps_post : ∀ (t : Tr) (s r : List Tr), steps s (t.post ++ r) = steps (s ++ [t.told]) r
  | .node c ks, s, r => by
    have e := steps_posts ks s (.node c ks :: r)
    simp only [Tr.post, List.append_assoc, List.singleton_append]
    rw [e]
    have l := tolds_len ks
    simp only [steps, List.length_append, l, Nat.add_sub_cancel, Nat.le_add_left, if_true, Tr.told]
    rw [List.take_left, List.drop_left]
theorem steps_posts : ∀ (ts : List Tr) (s r : List Tr), steps s (posts ts ++ r) = steps (s ++ tolds ts) r
  | [], s, r => by simp only [posts, tolds, List.nil_append, List.append_nil]
  | t :: ts, s, r => by
    simp only [posts, tolds, List.append_assoc]
    rw [steps_post t s (posts ts ++ r), steps_posts ts (s ++ [t.told]) r]
    simp only [List.append_assoc, List.singleton_append]
end
theorem steps_all (t : Tr) : steps [] t.post = some [t.told] := by
  have := steps_post t [] []
  rw [List.append_nil] at this
  rw [this]
  rfl
mutual
theorem told_told : ∀ t : Tr, t.lets Ltr → t.told.told = t.told
  | .node c ks, h => by
    simp only [Tr.lets] at h
    simp only [Tr.told]
    have e : tolds ((tolds ks).mergeSort leW) = (tolds ks).mergeSort leW := by
      rw [tolds_map]
      have : ∀ x ∈ (tolds ks).mergeSort leW, x.told = x := fun x hx => tolds_fix ks h.2 x ((List.mergeSort_perm _ _).mem_iff.mp hx)
      exact (List.map_congr_left this).trans (List.map_id' _)
    rw [e, sort_perm (tolds_lets ks h.2) (List.mergeSort_perm _ _)]
theorem tolds_fix : ∀ ts : List Tr, letss Ltr ts → ∀ x ∈ tolds ts, x.told = x
  | [], _, x, hx => by simp [tolds] at hx
  | t :: r, h, x, hx => by
    simp only [letss] at h
    simp only [tolds, List.mem_cons] at hx
    rcases hx with rfl | hx
    · exact told_told t h.1
    · exact tolds_fix r h.2 x hx
end

mutual
inductive TrO (ok : Addr → Prop) (H : Hp) : V → Tr → List Addr → Prop
  | node {a l : Addr} {vs : List V} {c : Nat} {ks : List Tr} {as : List Addr} : H a = some (.tup [.str (ch c), .ref l]) → H l = some (.lst vs) → ok a → ok l → 97 ≤ c → c ≤ 122 → TrsO ok H vs ks as → TrO ok H (.ref a) (.node c ks) (l :: as)
inductive TrsO (ok : Addr → Prop) (H : Hp) : List V → List Tr → List Addr → Prop
  | nil : TrsO ok H [] [] []
  | cons {v : V} {vs : List V} {t : Tr} {ts : List Tr} {as bs : List Addr} : TrO ok H v t as → TrsO ok H vs ts bs → TrsO ok H (v :: vs) (t :: ts) (as ++ bs)
end
section
variable {ok ok' : Addr → Prop} {H H' : Hp}
mutual
theorem TrO.imp (hk : ∀ b, ok b → ok' b) (h : ∀ b o, ok b → H b = some o → H' b = some o) : ∀ (t : Tr) (v : V) (as : List Addr), TrO ok H v t as → TrO ok' H' v t as
  | .node c ks, v, as, x => by
    cases x with
    | node h1 h2 k1 k2 c1 c2 r => exact .node (h _ _ k1 h1) (h _ _ k2 h2) (hk _ k1) (hk _ k2) c1 c2 (TrsO.imp hk h ks _ _ r)
theorem TrsO.imp (hk : ∀ b, ok b → ok' b) (h : ∀ b o, ok b → H b = some o → H' b = some o) : ∀ (ts : List Tr) (vs : List V) (as : List Addr), TrsO ok H vs ts as → TrsO ok' H' vs ts as
  | [], vs, as, x => by cases x; exact .nil
  | t :: r, vs, as, x => by
    cases x with
    | cons a b => exact .cons (TrO.imp hk h t _ _ a) (TrsO.imp hk h r _ _ b)
end
theorem TrO.keep {v : V} {t : Tr} {as : List Addr} (x : TrO ok H v t as) (h : ∀ b o, ok b → H b = some o → H' b = some o) : TrO ok H' v t as := TrO.imp (fun _ k => k) h t v as x
theorem TrO.same {v : V} {t : Tr} {as : List Addr} (x : TrO ok H v t as) (s : Same H H') : TrO ok H' v t as := x.keep fun b o _ h => s b o h
theorem TrO.weak {v : V} {t : Tr} {as : List Addr} (x : TrO ok H v t as) (h : ∀ b, ok b → ok' b) : TrO ok' H v t as := TrO.imp h (fun _ _ _ e => e) t v as x
theorem TrsO.keep {vs : List V} {ts : List Tr} {as : List Addr} (x : TrsO ok H vs ts as) (h : ∀ b o, ok b → H b = some o → H' b = some o) : TrsO ok H' vs ts as := TrsO.imp (fun _ k => k) h ts vs as x
theorem TrsO.same {vs : List V} {ts : List Tr} {as : List Addr} (x : TrsO ok H vs ts as) (s : Same H H') : TrsO ok H' vs ts as := x.keep fun b o _ h => s b o h
theorem TrsO.weak {vs : List V} {ts : List Tr} {as : List Addr} (x : TrsO ok H vs ts as) (h : ∀ b, ok b → ok' b) : TrsO ok' H vs ts as := TrsO.imp h (fun _ _ _ e => e) ts vs as x
mutual
theorem TrO.at : ∀ (t : Tr) (v : V) (as : List Addr), TrO ok H v t as → TrAt ok H v t
  | .node c ks, v, as, x => by
    cases x with
    | node h1 h2 k1 k2 c1 c2 r => exact .node h1 h2 k1 k2 c1 c2 (TrsO.at ks _ _ r)
theorem TrsO.at : ∀ (ts : List Tr) (vs : List V) (as : List Addr), TrsO ok H vs ts as → TrsAt ok H vs ts
  | [], vs, as, x => by cases x; exact .nil
  | t :: r, vs, as, x => by
    cases x with
    | cons a b => exact .cons (TrO.at t _ _ a) (TrsO.at r _ _ b)
end
mutual
theorem TrO.lst : ∀ (t : Tr) (v : V) (as : List Addr), TrO ok H v t as → ∀ b ∈ as, ok b ∧ ∃ xs, H b = some (.lst xs)
  | .node c ks, v, as, x => by
    cases x with
    | node h1 h2 k1 k2 c1 c2 r =>
      intro b hb
      rcases List.mem_cons.mp hb with e | hb
      · subst e; exact ⟨k2, _, h2⟩
      · exact TrsO.lst ks _ _ r b hb
theorem TrsO.lst : ∀ (ts : List Tr) (vs : List V) (as : List Addr), TrsO ok H vs ts as → ∀ b ∈ as, ok b ∧ ∃ xs, H b = some (.lst xs)
  | [], vs, as, x => by cases x; intro b hb; cases hb
  | t :: r, vs, as, x => by
    cases x with
    | cons x1 x2 =>
      intro b hb
      rcases List.mem_append.mp hb with hb | hb
      · exact TrO.lst t _ _ x1 b hb
      · exact TrsO.lst r _ _ x2 b hb
end
mutual
theorem TrO.there : ∀ (t : Tr) (v : V) (as : List Addr), TrO ok H v t as → TrO (fun b => ok b ∧ ∃ o, H b = some o) H v t as
  | .node c ks, v, as, x => by
    cases x with
    | node h1 h2 k1 k2 c1 c2 r => exact .node h1 h2 ⟨k1, _, h1⟩ ⟨k2, _, h2⟩ c1 c2 (TrsO.there ks _ _ r)
theorem TrsO.there : ∀ (ts : List Tr) (vs : List V) (as : List Addr), TrsO ok H vs ts as → TrsO (fun b => ok b ∧ ∃ o, H b = some o) H vs ts as
  | [], vs, as, x => by cases x; exact .nil
  | t :: r, vs, as, x => by
    cases x with
    | cons a b => exact .cons (TrO.there t _ _ a) (TrsO.there r _ _ b)
end
theorem TrO.off {v : V} {t : Tr} {as : List Addr} {w : Addr} (x : TrO ok H v t as) (h : H w = none) : TrO (fun b => ok b ∧ b ≠ w) H v t as :=
  (TrO.there t v as x).weak fun b ⟨k, o, e⟩ => ⟨k, ne_of_none e h⟩
theorem TrsO.off {vs : List V} {ts : List Tr} {as : List Addr} {w : Addr} (x : TrsO ok H vs ts as) (h : H w = none) : TrsO (fun b => ok b ∧ b ≠ w) H vs ts as :=
  (TrsO.there ts vs as x).weak fun b ⟨k, o, e⟩ => ⟨k, ne_of_none e h⟩
theorem TrsO.of : ∀ bs : List (V × Tr × List Addr), (∀ b ∈ bs, TrO ok H b.1 b.2.1 b.2.2) → TrsO ok H (bs.map (·.1)) (bs.map (·.2.1)) (bs.map (·.2.2)).flatten
  | [], _ => .nil
  | b :: r, h => by
    simp only [List.map_cons, List.flatten_cons]
    exact .cons (h b (by simp)) (TrsO.of r fun x hx => h x (by simp [hx]))
theorem TrsO.split1 : ∀ {vs : List V} {ts : List Tr} {as : List Addr}, TrsO ok H vs ts as → ∃ bs : List (V × Tr × List Addr), vs = bs.map (·.1) ∧ ts = bs.map (·.2.1) ∧ as = (bs.map (·.2.2)).flatten ∧ ∀ b ∈ bs, TrO ok H b.1 b.2.1 b.2.2
  | _, _, _, .nil => ⟨[], rfl, rfl, rfl, fun _ h => by cases h⟩
  | _, _, _, .cons (v := v) (t := t) (as := as) a b => by
    obtain ⟨bs, rfl, rfl, rfl, h⟩ := TrsO.split1 b
    refine ⟨(v, t, as) :: bs, rfl, rfl, rfl, fun x hx => ?_⟩
    rcases List.mem_cons.mp hx with e | hx
    · subst e; exact a
    · exact h x hx
theorem TrsO.snoc {vs : List V} {ts : List Tr} {as bs : List Addr} {v : V} {t : Tr} (x : TrsO ok H vs ts as) (y : TrO ok H v t bs) : TrsO ok H (vs ++ [v]) (ts ++ [t]) (as ++ bs) := by
  obtain ⟨cs, rfl, rfl, rfl, h⟩ := x.split1
  have := TrsO.of (ok := ok) (H := H) (cs ++ [(v, t, bs)]) (by
    intro b hb
    rcases List.mem_append.mp hb with hb | hb
    · exact h b hb
    · simp only [List.mem_singleton] at hb
      subst hb
      exact y)
  simpa using this
theorem TrsO.len {vs : List V} {ts : List Tr} {as : List Addr} (x : TrsO ok H vs ts as) : vs.length = ts.length := (TrsO.at ts vs as x).len
end
def ws (t : Tr) : Str := ⟨t.wr.toArray⟩
def RowO1 (ok : Addr → Prop) (H : Hp) (b : V × Tr × List Addr) : Prop := ∃ p x, b.1 = .ref p ∧ H p = some (.tup [.str (ws b.2.1), x]) ∧ ok p ∧ TrO ok H x b.2.1 b.2.2
theorem RowO1.imp {ok ok' : Addr → Prop} {H H' : Hp} {b : V × Tr × List Addr} (x : RowO1 ok H b) (hk : ∀ b, ok b → ok' b) (h : ∀ b o, ok b → H b = some o → H' b = some o) : RowO1 ok' H' b := by
  obtain ⟨p, x, e, h1, h2, h3⟩ := x
  exact ⟨p, x, e, h _ _ h2 h1, hk _ h2, TrO.imp hk h _ _ _ h3⟩
theorem RowO1.same {ok : Addr → Prop} {H H' : Hp} {b : V × Tr × List Addr} (x : RowO1 ok H b) (s : Same H H') : RowO1 ok H' b := x.imp (fun _ k => k) fun b o _ h => s b o h
theorem nodup_snoc {α : Type} {as bs : List α} (ha : as.Nodup) (hb : bs.Nodup) (h : ∀ x ∈ as, x ∉ bs) : (as ++ bs).Nodup := by
  rw [List.nodup_append]
  exact ⟨ha, hb, fun a h1 b h2 e => h a h1 (e ▸ h2)⟩

open LamX NdefX in
structure CalX (P : Program) (w : World) (K : PySem.W.Frag) (mg : Str → Option Value) (base : Heap) (k : Nat) (f : Addr) (G : Hp → Prop) (np : Nat) (sp : Sp) : Prop where
  len : ∀ vs H Q E, sp vs H Q E → vs.length = np
  at_ : ∀ (s : Shared) (H : Hp), HOk P w H s.heap → K.In s.heap → G H → PySem.W.FnAt f s.heap
  run : ∀ (A : Around) (outer : List Env) (s : Shared) (H : Hp) (us : List Value) (vs : List V) (Q : VK) (E : XK), Room k A → Env0 P w K mg base A outer s H → G H → Vals vs us → sp vs H Q E → codeAny (model P w) A (.call (.ref f) ⟨us, []⟩) (CR CX0 outer P w H s Q E) s
def tCalX (i : Nat) (f : Addr) (G : Hp → Prop) (sp : Sp) (t : TA) : TE := fun σ H Q => σ[i]? = some (some (.ref f)) ∧ G H ∧ t σ H fun vs H1 => G H1 ∧ sp vs H1 Q C8.E0
theorem pe_calX {X : Cx} {k i np : Nat} {f : Addr} {G : Hp → Prop} {sp : Sp} {x : Str} {p pos : Pos} {e : PySem.Expr} {es : List PySem.Expr} {t : TA}
    (C : CalX X.prog X.w X.K X.mg X.base k f G np sp) (hr : Room k X.A) (hN : X.N[i]? = some x) (hv : Vis X.env.scope x) (ha : PA X (e :: es) t)
    (hdb : (x == ("__debug__" : Str)) = false := by decide) (hcd : (x == ("__classdict__" : Str)) = false := by decide)
    (he : starEach (e :: es) X.env = (false, eval e X.env) :: starEach es X.env := by rfl) (hpl : (backTo pos (starEach es X.env)).any (·.1) = false := by rfl) : PE X (.Call (.Name x p) (e :: es) [] pos) (tCalX i f G sp t) := by
  refine ⟨fun pins s σ H Q I h => ?_⟩
  obtain ⟨hs, hg, ht⟩ := h
  refine wpAny_Call_Name_kw (thn ((pe_var (pos := p) hN hv hdb hcd).run pins s σ H (fun v H1 => v = .ref f ∧ H1 = H) I ⟨.ref f, hs, rfl, rfl⟩) fun u s1 ⟨v, H1, I1, r1, q1⟩ => ?_)
  obtain ⟨ev, eH⟩ := q1
  subst ev
  rw [eH] at I1
  obtain rfl : u = Value.ref f := r1
  refine PySem.W.callWith_F (first := []) (C.at_ s1 H I1.hok I1.kIn hg) (thn (ha.run pos pins s1 σ H _ I1 ht) fun us s2 ⟨vs, H2, I2, r, h1, q⟩ => ⟨C.at_ s2 H2 I2.hok I2.kIn h1, ?_⟩) he hpl
  show wpAny _ _ (call (.ref f) us) _ _ _
  refine wpAny_call (codeAny_mono (C.run X.A X.stack s2 H2 us vs Q C8.E0 hr I2.env0 h1 r q) fun r s' hq => ?_)
  cases r with
  | error e => exact (show False from hq).elim
  | ok fl =>
    cases fl with
    | ret u => exact I2.after hq
    | next => exact False.elim hq
    | brk => exact False.elim hq
    | cont => exact False.elim hq
theorem calX_of {P : Program} {w : World} {K : PySem.W.Frag} {mg : Str → Option Value} {base : Heap} {k : Nat} {x q : Str} {st : Stmt} {f : Addr} {fd : FuncData} {ps : List Str} {sp : Sp} (F : FnOk P w K mg base CX0 k f fd ps sp) (U : Fun K x q st f fd) (hb : Binds K fd ps []) {G : Hp → Prop} : CalX P w K mg base k f G ps.length sp := by
  refine ⟨F.len, fun s H _ hk _ => ?_, fun A outer s H us vs Q E hr e0 _ r h => ?_⟩
  · obtain ⟨oc, od, kV, doc, pm, an, cdv, ct, osl, rfl, lk, hcd⟩ := U.ex
    exact ⟨_, _, _, _, hk _ _ lk⟩
  · have KX : K.In s.heap := e0.mod.kin.keeps fun b o e => (e0.bs b o e).1
    have hl : us.length = ps.length := by rw [← r.length]; exact F.len _ _ _ _ h
    have hb' := hb s us KX (by rw [List.append_nil]; exact hl)
    rw [List.append_nil] at hb'
    exact F.run A outer s H ⟨us, []⟩ us vs Q E hr e0 hb' r h
structure LF where
  qual : Str
  params : Arguments
  body : PySem.Expr
  scope : PySem.Scope
  cl : List (Str × Addr)
  c : Addr
abbrev LF.nf (F : LF) : NdefX.NF := ⟨"<lambda>", F.qual, F.params, [], F.scope, F.cl, F.c⟩
def LamO (f : Addr) (F : LF) : HO := .ext fun h => ∃ pm ctv, h.get? f = some (PySem.W.kla_obj "<lambda>" F.qual F.params F.body F.scope F.cl pm F.c ctv)
theorem lamO_ok {P : Program} {w : World} {H : Hp} {h : Heap} {F : LF} {pm ctv : Value} :
    ObjOk P w H (h.push (PySem.W.kla_obj "<lambda>" F.qual F.params F.body F.scope F.cl pm F.c ctv)) h.objs.size (LamO h.objs.size F) := by
  have e : (h.push (PySem.W.kla_obj "<lambda>" F.qual F.params F.body F.scope F.cl pm F.c ctv)).get? h.objs.size = some (PySem.W.kla_obj "<lambda>" F.qual F.params F.body F.scope F.cl pm F.c ctv) := Heap.get?_push_size _ rfl
  exact ⟨⟨pm, ctv, e⟩, ⟨_, e⟩, fun h1 h2 ⟨a1, a2, e1⟩ k => ⟨a1, a2, k _ e1⟩⟩
theorem calX_lam {P : Program} {w : World} {K : PySem.W.Frag} {mg : Str → Option Value} {base : Heap} {k : Nat} {N ps : List Str} {f : Addr} {F : LF} {sp : Sp} (S : NdefX.NScope N ps [] F.scope) (hcl : F.cl = [])
    (hb : ∀ (pm ctv : Value) (us : List Value), us.length = ps.length → bindArgs (PySem.W.kla_fn "<lambda>" F.qual F.params F.body F.scope F.cl pm (.ref F.c) ctv) ⟨us, []⟩ = pure (ps.zip us)) (len : ∀ vs H Q E, sp vs H Q E → vs.length = ps.length)
    (hbody : ∀ (A : Around) (outer : List Env) (s : Shared) (H : Hp) (vs : List V) (Q : VK) (E : XK), Room k (A.deeper (NdefX.envF F.nf f s.heap.objs.size)) → sp vs H Q E →
      ∃ t, PE (NdefX.ncx CX0 P w K mg base N F.nf f A outer s H E) F.body t ∧ t (NdefX.startF N vs []) H Q) :
    CalX P w K mg base (k + 1) f (fun H => H f = some (LamO f F) ∧ H F.c = some (LamX.CodeO F.c F.qual)) ps.length sp := by
  refine ⟨len, fun s H hok _ hg => ?_, fun A outer s H us vs Q E hr e0 hg r hsp => ?_⟩
  · obtain ⟨⟨pm, ctv, e⟩, _, _⟩ := hok _ _ hg.1
    exact ⟨_, _, _, _, e⟩
  obtain ⟨⟨pm, ctv, ho⟩, _, _⟩ := e0.hok _ _ hg.1
  have hl := len _ _ _ _ hsp
  have lim : s.heap.NoLimit := e0.mod.nolimit.keeps fun b o e => (e0.bs b o e).1
  refine PySem.W.kla_callFunE hr.depth ho rfl S.co S.gen rfl (NdefX.codeO_at e0.hok hg.2) ?_
  rw [hb pm ctv us (by rw [← r.length]; exact hl)]
  refine wpAny_pure (wpAny_newFunctionEnv S.nocell (fun ⟨n, _⟩ hy => S.par n (List.of_mem_zip hy).1) (fun h₁ hns hsb => ⟨lim.fresh _ hsb, ?_⟩) S.kind)
  show codeAny _ _ (.expr F.body (NdefX.envF F.nf f s.heap.objs.size)) _ _
  have kp : ∀ b o, s.heap.get? b = some o → h₁.get? b = some o := fun b o e => hsb.extBut b o (Nat.ne_of_lt (Heap.lt_size e)) (Heap.get?_push_of_some _ e)
  obtain ⟨t, ht, hq⟩ := hbody A outer s H vs Q E (hr.deeper _) hsp
  have C : NdefX.CellsAt F.nf.cl [] [] s.heap H := by
    have e : F.nf.cl = [] := hcl
    rw [e]
    exact ⟨rfl, (fun y c e => by cases e), (fun x y c e => by cases e), (fun i y e => by simp at e)⟩
  have I : Inv (NdefX.ncx CX0 P w K mg base N F.nf f A outer s H E) [] (NdefX.startF N vs []) H { s with heap := h₁, toks := s.toks + (ps.zip us).length } := NdefX.inv_startN S hr.hd e0 hl r C hns kp
  refine PySem.W.kla_codeExpr (wpAny_mono (ht.run [] _ _ H Q I hq) (fun v s' hq => ?_) fun e s' hq => hq)
  obtain ⟨w', H', J', rv, q⟩ := hq
  exact ⟨w', H', J'.os, J'.bare, J'.base, J'.hok, rv, q⟩
theorem pe_lamX {X : Cx} {c P : Addr} {params : Arguments} {body : PySem.Expr} {scope : PySem.Scope} {pos : Pos} (tb : LamX.TabB X.base X.mg c P) (hc : X.env.code = .ref c) (hd : defaultsOf params X.env = ([], []))
    (hfree : ∀ y ∈ scope.names, y.2 = .free → ∃ c, X.env.cells.lookup y.1 = some c) : PE X (.Lambda params body scope pos) (fun σ H Q => LamX.TabS H P (X.env.qual ++ "<lambda>") ∧ ∀ (f c : Addr) (H1 : Hp), Fr P H H1 → (∀ b, H1 b = none → H b = none) → LamX.TabS H1 P (X.env.qual ++ "<lambda>") → H f = none →
      H1 f = some (LamO f ⟨X.env.qual ++ "<lambda>", params, body, scope, cloFrom X.env.cells scope.names [], c⟩) → H1 c = some (LamX.CodeO c (X.env.qual ++ "<lambda>")) → Q (.ref f) H1) := by
  refine ⟨fun pins s σ H Q I h => ?_⟩
  obtain ⟨ht, q⟩ := h
  have hclo : closureFor scope X.env = pure (cloFrom X.env.cells scope.names []) := closure_ok hfree
  have ht' := ht
  obtain ⟨ps, hP, hT, hA⟩ := ht'
  have oP : s.heap.get? P = some (PySem.W.tabObj ps) := I.hok _ _ hP
  refine PySem.W.kla_eval hd ?_
  cases hcd : codeAmong pos ps.toList with
  | some cv =>
    obtain ⟨c', rfl, hc'⟩ := hA _ _ hcd
    refine PySem.W.kla_makeFunctionHit hclo I.ok.glob (I.mod.glob.keeps I.bk) hc (tb.code.keeps I.bk) oP hT hcd (tb.bm.keeps I.bk) (fun ctv h' tk hk hs => ?_)
    have I1 := I.kept (t' := tk) hk
    have hz : s.heap.objs.size ≤ h'.objs.size := hs
    have hn : H h'.objs.size = none := I.hok.fresh hz
    refine ⟨.ref h'.objs.size, upd H h'.objs.size (LamO h'.objs.size ⟨X.env.qual ++ "<lambda>", params, body, scope, cloFrom X.env.cells scope.names [], c'⟩), ?_, rfl, q _ c' _ (fun b o _ hb => ?_) (fun b e => NdefX.upd_none e) (ht.ext fun b o hb => ?_) hn upd_same ?_⟩
    · exact I1.laid (h' := h'.push _) (t' := tk) (fun b u hb => Heap.get?_push_of_some _ hb) (Nat.le_refl _) (lamO_ok (F := ⟨X.env.qual ++ "<lambda>", params, body, scope, cloFrom X.env.cells scope.names [], c'⟩))
    · rw [upd_ne (ne_of_none hb hn)]; exact hb
    · rw [upd_ne (ne_of_none hb hn)]; exact hb
    · rw [upd_ne (ne_of_none hc' hn)]; exact hc'
  | none =>
    refine PySem.W.kla_makeFunction hclo I.ok.glob (I.mod.glob.keeps I.bk) hc (tb.code.keeps I.bk) oP hT hcd tb.gP (tb.bm.keeps I.bk) (fun c' ctv h' tk he hl hu hrec hP' => ?_)
    obtain ⟨c2, o2, vs2, t2, ec, e1, e2, e3⟩ := hrec
    cases ec
    have I2 := LamX.inv_table (t' := tk) (c := c') (q := X.env.qual ++ "<lambda>") I hP he (more := #[rawInt ↑pos.line, rawInt ↑pos.col, .ref c']) hP' hl ⟨_, _, _, e1, e2, e3⟩
    have hn : (upd (upd H P (.tbl (ps ++ #[rawInt ↑pos.line, rawInt ↑pos.col, .ref c']))) c' (LamX.CodeO c' (X.env.qual ++ "<lambda>"))) h'.objs.size = none := I2.hok.fresh (Nat.le_refl _)
    have hcn : H c' = none := I.hok.fresh hl
    have hPc : P ≠ c' := fun e => by rw [e] at hP; rw [hcn] at hP; cases hP
    refine ⟨.ref h'.objs.size, _, I2.laid (h' := h'.push _) (o := LamO h'.objs.size ⟨X.env.qual ++ "<lambda>", params, body, scope, cloFrom X.env.cells scope.names [], c'⟩) (t' := tk) (fun b u hb => Heap.get?_push_of_some _ hb) (Nat.le_refl _) (lamO_ok (F := ⟨X.env.qual ++ "<lambda>", params, body, scope, cloFrom X.env.cells scope.names [], c'⟩)), rfl, q _ c' _ ?_ (fun b e => NdefX.upd_none (NdefX.upd_none (NdefX.upd_none e))) ?_ (NdefX.upd_none (NdefX.upd_none hn)) upd_same ?_⟩
    · intro b o hbP hb
      have h1 : (upd (upd H P (.tbl (ps ++ #[rawInt ↑pos.line, rawInt ↑pos.col, .ref c']))) c' (LamX.CodeO c' (X.env.qual ++ "<lambda>"))) b = some o := by
        rw [upd_ne (ne_of_none hb hcn), upd_ne hbP]; exact hb
      rw [upd_ne (ne_of_none h1 hn)]; exact h1
    · refine LamX.TabS.ext (H := upd (upd H P (.tbl (ps ++ #[rawInt ↑pos.line, rawInt ↑pos.col, .ref c']))) c' (LamX.CodeO c' (X.env.qual ++ "<lambda>"))) ?_ (fun b o hb => by rw [upd_ne (ne_of_none hb hn)]; exact hb)
      refine ⟨_, by rw [upd_ne hPc]; exact upd_same, ?_, ?_⟩
      · simpa using TriplesOk_snoc _ _ _ _ hT
      · intro pos2 cv hcv
        rw [Array.toList_append] at hcv
        rcases LamX.among_app _ hT hcv with h | h
        · obtain ⟨c3, e3, h3⟩ := hA _ _ h
          refine ⟨c3, e3, ?_⟩
          rw [upd_ne (ne_of_none h3 hcn), upd_ne (fun e => by rw [e, hP] at h3; cases h3)]
          exact h3
        · exact ⟨c', h, upd_same⟩
    · have h1 : (upd (upd H P (.tbl (ps ++ #[rawInt ↑pos.line, rawInt ↑pos.col, .ref c']))) c' (LamX.CodeO c' (X.env.qual ++ "<lambda>"))) c' = some (LamX.CodeO c' (X.env.qual ++ "<lambda>")) := upd_same
      rw [upd_ne (ne_of_none h1 hn)]; exact h1
theorem nofree_by {scope : PySem.Scope} {cells : List (Str × Addr)} (h : (scope.names.all fun y => !decide (y.2 = .free)) = true) : ∀ y ∈ scope.names, y.2 = .free → ∃ c, cells.lookup y.1 = some c := fun y hy e => by
  have := List.all_eq_true.mp h y hy
  simp only [e, decide_true, Bool.not_true] at this
  cases this
theorem CalX.imp {P : Program} {w : World} {K : PySem.W.Frag} {mg : Str → Option Value} {base : Heap} {k j : Nat} {f : Addr} {G G' : Hp → Prop} {np : Nat} {sp sp' : Sp} (C : CalX P w K mg base k f G np sp) (hk : k ≤ j) (hG : ∀ H, G' H → G H) (hs : ∀ vs H Q E, sp' vs H Q E → sp vs H Q E) : CalX P w K mg base j f G' np sp' :=
  ⟨fun vs H Q E q => C.len vs H Q E (hs _ _ _ _ q), fun s H a b g => C.at_ s H a b (hG H g), fun A outer s H us vs Q E hr e0 g r q => C.run A outer s H us vs Q E (hr.mono hk) e0 (hG H g) r (hs _ _ _ _ q)⟩
inductive Runs : List Tr → List Tr → List Tr → Prop
  | nil {us : List Tr} : Runs us [] us
  | cons {us ks r z : List Tr} {c : Nat} : Runs (us ++ [.node c ks]) r z → Runs (us ++ ks) (.node c ks :: r) z
mutual
theorem runs_post : ∀ (t : Tr) (us r z : List Tr), Runs (us ++ [t]) r z → Runs us (t.post ++ r) z
  | .node c ks, us, r, z, h => by
    simp only [Tr.post, List.append_assoc, List.singleton_append]
    exact runs_posts ks us _ z (.cons h)
theorem runs_posts : ∀ (ts us r z : List Tr), Runs (us ++ ts) r z → Runs us (posts ts ++ r) z
  | [], us, r, z, h => by simpa [posts] using h
  | t :: ts, us, r, z, h => by
    simp only [posts, List.append_assoc]
    refine runs_post t us _ z (runs_posts ts (us ++ [t]) r z ?_)
    rw [List.append_assoc]
    exact h
end
theorem runs_all (t : Tr) : Runs [] t.post [t] := by
  have := runs_post t [] [] [t] .nil
  rwa [List.append_nil] at this
abbrev ItP := (Addr → Prop) → Hp → V → Tr → List Addr → Prop
structure ItOk (It : ItP) : Prop where
  imp : ∀ {ok ok' : Addr → Prop} {H H' : Hp} {v : V} {t : Tr} {as : List Addr}, (∀ b, ok b → ok' b) → (∀ b o, ok b → H b = some o → H' b = some o) → It ok H v t as → It ok' H' v t as
  lst : ∀ {ok : Addr → Prop} {H : Hp} {v : V} {t : Tr} {as : List Addr}, It ok H v t as → ∀ b ∈ as, ok b ∧ ∃ xs, H b = some (.lst xs)
abbrev lstsI (bs : List (V × Tr × List Addr)) : List Addr := (bs.map fun b => b.2.2).flatten
def sp_made (It : ItP) (Pt : Addr) (q : Str) : Sp := fun vs H Q _ => ∃ (c : Nat) (bl : Addr) (bs : List (V × Tr × List Addr)) (ok : Addr → Prop), vs = [.str (ch c), .ref bl] ∧ 97 ≤ c ∧ c ≤ 122 ∧ H bl = some (.lst (bs.map (·.1))) ∧ ok bl ∧
  (∀ b ∈ bs, It ok H b.1 b.2.1 b.2.2) ∧ (bl :: lstsI bs).Nodup ∧ sizes (bs.map (·.2.1)) ≤ 1000000 ∧ (∀ b, ok b → b ≠ Pt) ∧ LamX.TabS H Pt q ∧
  ∀ v as H', Fr Pt H H' → LamX.TabS H' Pt q → It (fun b => ok b ∨ H b = none) H' v (.node c (bs.map (·.2.1))) as → as.Nodup → (∀ a ∈ as, a ∈ bl :: lstsI bs ∨ H a = none) → Q v H'
def sp_built_upward (P : Program) (w : World) (K : PySem.W.Frag) (mg : Str → Option Value) (base : Heap) (k : Nat) (Pt : Addr) (q : Str) : Sp := fun vs H Q _ => ∃ (v : V) (t : Tr) (f : Addr) (It : ItP), vs = [v, .ref f] ∧ TrAt (fun _ => True) H v t ∧ t.size ≤ 1000000 ∧ ItOk It ∧ LamX.TabS H Pt q ∧
  CalX P w K mg base k f (fun H' => Fr Pt H H') 2 (sp_made It Pt q) ∧ ∀ r as H', Fr Pt H H' → LamX.TabS H' Pt q → It (fun b => H b = none) H' r t as → as.Nodup → Q r H'


theorem cut_fromU (xs : List V) (k : Nat) (h : k ≤ xs.length) : cutV xs (some (k : Int)) none = xs.drop k := by
  have e : HT.sIx xs.length 0 (some (k : Int)) = k := by
    show (if (k : Int) < 0 then ((k : Int) + (xs.length : Int)).toNat else min ((k : Int).toNat) xs.length) = k
    rw [if_neg (by omega)]
    omega
  have e2 : HT.sIx xs.length xs.length none = xs.length := rfl
  unfold cutV
  rw [e, e2]
  exact List.take_of_length_le (by rw [List.length_drop]; omega)
theorem TabS.fr1 {H H' : Hp} {P p : Addr} {q : Str} {xs : List V} (h : LamX.TabS H P q) (hp : H p = some (.lst xs)) (f : Fr p H H') : LamX.TabS H' P q := by
  obtain ⟨ps, h1, h2, h3⟩ := h
  refine ⟨ps, f _ _ (fun e => by rw [e, hp] at h1; cases h1) h1, h2, fun pos cv hc => ?_⟩
  obtain ⟨c, e, h4⟩ := h3 pos cv hc
  exact ⟨c, e, f _ _ (fun e => by rw [e, hp] at h4; cases h4) h4⟩
mutual
theorem TrAt.kind1 {ok : Addr → Prop} {H : Hp} : ∀ (t : Tr) (v : V), TrAt ok H v t → TrAt (fun b => ok b ∧ ∀ ps, H b ≠ some (.tbl ps)) H v t
  | .node c ks, v, x => by
    cases x with
    | node h1 h2 k1 k2 c1 c2 r => exact .node h1 h2 ⟨k1, fun ps e => by rw [h1] at e; cases e⟩ ⟨k2, fun ps e => by rw [h2] at e; cases e⟩ c1 c2 (TrsAt.kind1 ks _ r)
theorem TrsAt.kind1 {ok : Addr → Prop} {H : Hp} : ∀ (ts : List Tr) (vs : List V), TrsAt ok H vs ts → TrsAt (fun b => ok b ∧ ∀ ps, H b ≠ some (.tbl ps)) H vs ts
  | [], vs, x => by cases x; exact .nil
  | t :: r, vs, x => by
    cases x with
    | cons a b => exact .cons (TrAt.kind1 t _ a) (TrsAt.kind1 r _ b)
end
section
variable {P : Program} {w : World} {K : PySem.W.Frag} {mg : Str → Option Value} {base : Heap}
theorem ok_built_upward (T : Txt K mg) (k : Nat) (hk : 5 ≤ k) (Pt : Addr) (qn : Str) : FnOk P w K mg base CX0 (k + 1) T.f_built_upward T.d_built_upward ["tree", "made"] (sp_built_upward P w K mg base k Pt qn) := by
  have G_parts_upward : FnOk P w K mg base CX0 5 T.f_parts_upward T.d_parts_upward ["tree"] sp_parts_upward := ok_parts_upward T
  refine T.F_built_upward.ok sc_built_upward (fun vs H Q E h => ?_) (fun cdv A outer s H vs Q E hr h => ?_)
  · obtain ⟨v, t, f, It, rfl, _⟩ := h
    rfl
  obtain ⟨v, t, f, It, rfl, ht, hz, hIt, hT, C, q⟩ := h
  have C_made := C
  refine ⟨_, (pss_cons (ps_set (i := 2) sc_built_upward.nd rfl (Or.inl rfl) (pe_lst pa_nil)) (pss_cons (ps_for PassesOwn.never rfl (pi_list (pe_call G_parts_upward (hr.mono (by omega)) (by rfl) T.m_parts_upward T.F_parts_upward.kp T.b_parts_upward .nil pass0 (pa_cons (pv 0) pa_nil))) (pg_tup rfl (pgs_cons (pg_name (i := 3) sc_built_upward.nd rfl (Or.inl rfl)) (pgs_cons (pg_name (i := 4) sc_built_upward.nd rfl (Or.inl rfl)) pgs_nil))) (pss_cons (ps_set (i := 5) sc_built_upward.nd rfl (Or.inl rfl) (pe_op op_sub (pe_callB call_len_seq (by rfl) T.z_len PySem.boot_len (pa_cons (pv 2) pa_nil)) (pe_callB call_len_seq (by rfl) T.z_len PySem.boot_len (pa_cons (pv 4) pa_nil)))) (pss_cons (ps_set (i := 6) sc_built_upward.nd rfl (Or.inl rfl) (pe_slice sl_list (pv 2) (po_some (pv 5)) po_none)) (pss_cons (ps_delFrom (pv 2) (pv 5)) (pss_one (ps_expr (pe_bm PySem.F.plainAttrs_list PySem.F.slot_list_append PySem.F.type_list_append mt_append (pv 2) (pa_cons (pe_calX (i := 1) C_made (hr.mono (by omega)) rfl (.inl (by rfl)) (pa_cons (pv 3) (pa_cons (pv 6) pa_nil))) pa_nil)))))))) (pss_one (ps_ret (pe_ix ix_list (pv 2) pe_int (fun _ _ => rfl)))))), ?_⟩
  obtain ⟨ps0, hP0, _, _⟩ := id hT
  refine ⟨(by show 0 ≤ sizeLine; decide), fun wl hwl => ?_⟩
  have nPw : Pt ≠ wl := ne_of_none hP0 hwl
  have ht1 := (ht.off hwl).same (same_new (o := .lst []) hwl)
  refine ⟨_, rfl, v, t, _, rfl, ht1, hz, fun r wsv H1 s1 hr0 hr1 hparts => ?_⟩
  have hw1 : H1 wl = some (.lst []) := s1 _ _ upd_same
  have nrw : r ≠ wl := fun e => by rw [e, upd_same] at hr0; cases hr0
  have sH1 : Same H H1 := (same_new hwl).trans s1
  have hr00 : H r = none := by rw [upd_ne nrw] at hr0; exact hr0
  have nPr : Pt ≠ r := ne_of_none hP0 hr00
  have hp2 : TrsAt (fun b => b ≠ wl ∧ b ≠ r ∧ b ≠ Pt) H1 wsv t.post := by
    exact (TrsAt.kind1 _ _ hparts).weak fun b ⟨⟨k, h⟩, n⟩ => ⟨k.2, fun e => h (by rw [e]; exact hr0), fun e => n ps0 (by rw [e]; exact sH1 _ _ hP0)⟩
  refine ⟨r, rfl, ⟨_, SqL.of hr1⟩, for_list (xs := wsv) (fun i σ H2 => ∃ (y3 y4 y5 y6 : Option V) (bs : List (V × Tr × List Addr)), σ = [some v, some (.ref f), some (.ref wl), y3, y4, y5, y6] ∧ H2 wl = some (.lst (bs.map (·.1))) ∧
      (∀ b ∈ bs, It (fun b => H b = none ∧ b ≠ wl) H2 b.1 b.2.1 b.2.2) ∧ (lstsI bs).Nodup ∧ Runs (bs.map (·.2.1)) (t.post.drop i) [t] ∧ sizes (bs.map (·.2.1)) ≤ i ∧ Fr Pt H H2 ∧ LamX.TabS H2 Pt qn ∧ H2 r = some (.lst wsv) ∧ TrsAt (fun b => b ≠ wl ∧ b ≠ r ∧ b ≠ Pt) H2 wsv t.post)
    ⟨none, none, none, none, [], rfl, hw1, (fun _ h => by cases h), List.nodup_nil, (by rw [List.drop_zero]; exact runs_all t), (Nat.le_refl _), Fr.same sH1, hT.ext sH1, hr1, hp2⟩ (fun i σ H2 _ ⟨_, _, _, _, _, _, _, _, _, _, _, _, _, h, _⟩ => SqL.of h) ?_ ?_⟩
  · rintro i x σ H2 hx ⟨y3, y4, y5, y6, bs, rfl, hw2, hb, hnd, hst, hsz, hf, hT2, hr2, hpp⟩
    obtain ⟨t1, ht1', hx2⟩ := hpp.getV hx
    have hdrop : t.post.drop i = t1 :: t.post.drop (i + 1) := by
      obtain ⟨hlt, e⟩ := List.getElem?_eq_some_iff.mp ht1'
      rw [← e]
      exact List.drop_eq_getElem_cons hlt
    have hi : i < t.size := by
      have := (List.getElem?_eq_some_iff.mp ht1').1
      rw [post_len] at this
      exact this
    rw [hdrop] at hst
    generalize hus : bs.map (·.2.1) = us0 at hst
    cases hst with
    | cons hst =>
    rename_i us ks c
    obtain ⟨b1, b2, rfl, e1, e2⟩ := List.map_eq_append_iff.mp hus
    subst e1
    subst e2
    rw [List.map_append, sizes_append] at hsz
    have lz := len_sizes (b2.map (·.2.1))
    have lz1 := len_sizes (b1.map (·.2.1))
    rw [List.length_map] at lz lz1
    cases hx2 with
    | node g1 g2 o1 o2 c1 c2 rr =>
      rename_i ax lx vx
      have lr := rr.len
      rw [List.length_map] at lr
      refine ⟨_, _, rfl, SqT.of g1, rfl, ?_⟩
      refine ⟨_, _, rfl, _, _, rfl, rfl, _, rfl, wl, _, rfl, .inl (SqL.of hw2), _, rfl, lx, _, rfl, .inl (SqL.of g2), _, _, rfl, rfl, ?_⟩
      rw [List.length_map, lr, List.length_append]
      have ek : (((b1.length + b2.length : Nat) : Int) - (b2.length : Int)) = (b1.length : Int) := by omega
      show gName 5 (.int (((b1.length + b2.length : Nat) : Int) - (b2.length : Int))) _ _ _
      rw [ek]
      refine ⟨_, rfl, _, rfl, _, rfl, wl, _, rfl, SqL.of hw2, fun p hp => ?_⟩
      rw [cut_fromU _ _ (by rw [List.length_map, List.length_append]; omega)]
      have hcut : ((b1 ++ b2).map (·.1)).drop b1.length = b2.map (·.1) := by
        rw [List.map_append, List.drop_left' (List.length_map _)]
      have htk : ((b1 ++ b2).map (·.1)).take b1.length = b1.map (·.1) := by
        rw [List.map_append, List.take_left' (List.length_map _)]
      rw [hcut]
      have nPp : Pt ≠ p := by
        intro e
        obtain ⟨_, e2, _⟩ := hT2
        rw [← e, e2] at hp
        cases hp
      have npw : p ≠ wl := fun e => by rw [e, hw2] at hp; cases hp
      have hp0 : H p = none := by
        cases e : H p with
        | none => rfl
        | some o => rw [hf p o nPp.symm e] at hp; cases hp
      have okP : ∀ b, (H b = none ∧ b ≠ wl) → b ≠ Pt := fun b h e => by rw [e, hP0] at h; cases h.1
      refine ⟨_, rfl, _, rfl, wl, _, b1.length, rfl, rfl, (by rw [upd_ne npw.symm]; exact hw2), (by rw [List.length_map, List.length_append]; omega), ?_⟩
      rw [htk]
      generalize hH5 : upd (upd H2 p (.lst (b2.map (·.1)))) wl (.lst (b1.map (·.1))) = H5
      have hw5 : H5 wl = some (.lst (b1.map (·.1))) := by rw [← hH5]; exact upd_same
      have hp5 : H5 p = some (.lst (b2.map (·.1))) := by rw [← hH5, upd_ne npw]; exact upd_same
      have k25 : ∀ b o, b ≠ wl → H2 b = some o → H5 b = some o := fun b o n e => by rw [← hH5, upd_ne n, upd_ne (ne_of_none e hp)]; exact e
      have T5 : LamX.TabS H5 Pt qn := TabS.fr1 hT2 hw2 fun b o n e => k25 b o n e
      have F5 : Fr Pt H H5 := fun b o n e => k25 _ _ (ne_of_none e hwl) (hf b o n e)
      refine ⟨_, rfl, .inl ⟨rfl, _, SqL.of hw5⟩, rfl, F5, _, rfl, _, rfl, F5, c, p, b2, (fun b => H b = none ∧ b ≠ wl), rfl, c1, c2, hp5, ⟨hp0, npw⟩, ?_, ?_, by omega, okP, T5, fun v' as H6 f6 T6 it6 nd6 ha6 => ?_⟩
      · exact fun b hb5 => hIt.imp (fun _ h => h) (fun b o h e => k25 b o h.2 e) (hb b (List.mem_append_right _ hb5))
      · have e0 : lstsI (b1 ++ b2) = lstsI b1 ++ lstsI b2 := by simp [lstsI]
        rw [e0] at hnd
        rw [List.nodup_cons]
        refine ⟨fun hm => ?_, (List.nodup_append.mp hnd).2.1⟩
        obtain ⟨as, ha, hl2⟩ := List.mem_flatten.mp hm
        obtain ⟨b, hb8, rfl⟩ := List.mem_map.mp ha
        obtain ⟨_, xs, e5⟩ := hIt.lst (hb b (List.mem_append_right _ hb8)) p hl2
        rw [hp] at e5
        cases e5
      have hw6 := f6 _ _ nPw.symm hw5
      refine ⟨wl, _, v', rfl, rfl, hw6, Nat.lt_of_le_of_lt (show (b1.map (·.1)).length ≤ 1000000 by rw [List.length_map]; omega) (by decide), ?_⟩
      have k27 : ∀ b o, b ≠ Pt → b ≠ wl → H2 b = some o → (upd H6 wl (.lst (b1.map (·.1) ++ [v']))) b = some o := fun b o n1 n2 e => by
        rw [upd_ne n2]
        exact f6 _ _ n1 (k25 _ _ n2 e)
      obtain ⟨ps5, hP5, _, _⟩ := id T5
      have free5 : ∀ b, H5 b = none → H b = none ∧ b ≠ wl := fun b h => by
        refine ⟨?_, fun e => by rw [e, hw5] at h; cases h⟩
        cases e : H b with
        | none => rfl
        | some o =>
          have n1 : b ≠ Pt := fun e2 => by rw [e2, hP5] at h; cases h
          rw [F5 _ _ n1 e] at h
          cases h
      refine ⟨_, _, _, _, b1 ++ [(v', .node c (b2.map (·.2.1)), as)], rfl, ?_, ?_, ?_, ?_, ?_, ?_, ?_, k27 _ _ nPr.symm nrw hr2, ?_⟩
      · rw [upd_same, List.map_append]
        rfl
      · intro b hb7
        rcases List.mem_append.mp hb7 with h | h
        · exact hIt.imp (fun _ h => h) (fun b o h e => k27 b o (okP b h) h.2 e) (hb b (List.mem_append_left _ h))
        · simp only [List.mem_singleton] at h
          subst h
          refine hIt.imp (fun b h => h.elim id (free5 b)) (fun b o h e => ?_) it6
          rw [upd_ne (h.elim (fun h => h.2) fun h => (free5 b h).2)]
          exact e
      · have e0 : lstsI (b1 ++ b2) = lstsI b1 ++ lstsI b2 := by simp [lstsI]
        have e1 : lstsI (b1 ++ [(v', Tr.node c (b2.map (·.2.1)), as)]) = lstsI b1 ++ as := by simp [lstsI]
        rw [e0] at hnd
        rw [e1]
        refine nodup_snoc (List.nodup_append.mp hnd).1 nd6 fun a h1 h2 => ?_
        obtain ⟨as1, hm1, hl1⟩ := List.mem_flatten.mp h1
        obtain ⟨b, hb8, rfl⟩ := List.mem_map.mp hm1
        obtain ⟨o1, xs, e5⟩ := hIt.lst (hb b (List.mem_append_left _ hb8)) a hl1
        rcases ha6 a h2 with h | h
        · rcases List.mem_cons.mp h with h | h
          · rw [h, hp] at e5; cases e5
          · exact (List.nodup_append.mp hnd).2.2 a h1 a h rfl
        · rw [k25 _ _ o1.2 e5] at h
          cases h
      · rw [List.map_append]
        exact hst
      · rw [List.map_append, sizes_append]
        simp only [List.map_cons, List.map_nil, sizes, Tr.size]
        omega
      · intro b o n e
        exact k27 b o n (ne_of_none e hwl) (hf b o n e)
      · exact TabS.fr1 T6 hw6 fun b o n e => by rw [upd_ne n]; exact e
      · exact hpp.keep fun b o h e => k27 b o h.2.2 h.1 e
  · rintro σ H2 ⟨y3, y4, y5, y6, bs, rfl, hw2, hb, hnd, hst, hsz, hf, hT2, hr2, hpp⟩
    rw [hpp.len, List.drop_length] at hst
    generalize hus : bs.map (·.2.1) = us0 at hst
    cases hst
    obtain ⟨b, rfl⟩ : ∃ b, bs = [b] := by
      have := congrArg List.length hus
      rw [List.length_map] at this
      exact List.length_eq_one_iff.mp this
    simp only [List.map_cons, List.map_nil, List.cons.injEq, and_true] at hus
    refine ⟨_, rfl, wl, _, 0, b.1, rfl, rfl, SqL.of hw2, atI_nat (j := 0) rfl, ?_⟩
    have hb1 := hb b (by simp)
    refine q b.1 b.2.2 H2 hf hT2 ?_ (by simpa [lstsI] using hnd)
    rw [← hus]
    exact hIt.imp (fun b h => h.1) (fun _ _ _ h => h) hb1
end


theorem join_go (g : Str) (hg : g.cps = #[]) : ∀ (ts : List Tr) (a : Array Nat), (ts.map ws).foldl (fun acc p => acc ++ g.cps ++ p.cps) a = a ++ (wrs ts).toArray
  | [], a => by simp [wrs]
  | t :: r, a => by
    rw [List.map_cons, List.foldl_cons, join_go g hg r, hg]
    simp [wrs, ws]
theorem join_ws (ts : List Tr) : Txt.join (Str.ofString "") (ts.map ws) = ⟨(wrs ts).toArray⟩ := by
  show Builtin.Str.glued _ _ = _
  unfold Builtin.Str.glued
  cases ts with
  | nil => rfl
  | cons t r =>
    have e : (Str.ofString "").cps = #[] := by decide +kernel
    have := join_go (Str.ofString "") e r t.wr.toArray
    simp only [List.map_cons, List.headD_cons, List.drop_succ_cons, List.drop_zero, wrs]
    rw [show (ws t).cps = t.wr.toArray from rfl, this]
    simp
theorem ws_len (ts : List Tr) : ((ts.map ws).map (·.length)).sum = (wrs ts).length := by
  induction ts with
  | nil => rfl
  | cons t r ih => simp only [List.map_cons, List.sum_cons, ih, wrs, List.length_append]; simp [ws, Str.length]
theorem cut_from (xs : List V) (k : Nat) (h : k ≤ xs.length) : cutV xs (some (k : Int)) none = xs.drop k := by
  have e : HT.sIx xs.length 0 (some (k : Int)) = k := by
    show (if (k : Int) < 0 then ((k : Int) + (xs.length : Int)).toNat else min ((k : Int).toNat) xs.length) = k
    rw [if_neg (by omega)]
    omega
  have e2 : HT.sIx xs.length xs.length none = xs.length := rfl
  unfold cutV
  rw [e, e2]
  exact List.take_of_length_le (by rw [List.length_drop]; omega)
def leB (a b : V × Tr × List Addr) : Bool := leW a.2.1 b.2.1
theorem leB_str (l : List (V × Tr × List Addr)) : ((l.map fun b => (b.1, ws b.2.1)).mergeSort leS).map Prod.fst = (l.mergeSort leB).map (·.1) := by
  rw [← PySem.W.sort_maps (r := leB) (s := leS) (fun b : V × Tr × List Addr => (b.1, ws b.2.1)) (fun a _ b _ => rfl), List.map_map]
  rfl
theorem leB_tr (l : List (V × Tr × List Addr)) : (l.mergeSort leB).map (·.2.1) = (l.map (·.2.1)).mergeSort leW :=
  PySem.W.sort_maps (r := leB) (s := leW) (fun b : V × Tr × List Addr => b.2.1) (fun a _ b _ => rfl)
mutual
theorem TrAt.ltr {ok : Addr → Prop} {H : Hp} : ∀ (t : Tr) (v : V), TrAt ok H v t → t.lets Ltr
  | .node c ks, v, x => by
    cases x with
    | node h1 h2 k1 k2 c1 c2 r =>
      simp only [Tr.lets]
      exact ⟨⟨c1, c2⟩, TrsAt.ltr ks _ r⟩
theorem TrsAt.ltr {ok : Addr → Prop} {H : Hp} : ∀ (ts : List Tr) (vs : List V), TrsAt ok H vs ts → letss Ltr ts
  | [], vs, x => trivial
  | t :: r, vs, x => by
    cases x with
    | cons a b =>
      simp only [letss]
      exact ⟨TrAt.ltr t _ a, TrsAt.ltr r _ b⟩
end
abbrev lsts (bs : List (V × Tr × List Addr)) : List Addr := (bs.map fun b => b.2.2).flatten
mutual
theorem TrAt.kind {ok : Addr → Prop} {H : Hp} : ∀ (t : Tr) (v : V), TrAt ok H v t → TrAt (fun b => ok b ∧ ∀ ps, H b ≠ some (.tbl ps)) H v t
  | .node c ks, v, x => by
    cases x with
    | node h1 h2 k1 k2 c1 c2 r => exact .node h1 h2 ⟨k1, fun ps e => by rw [h1] at e; cases e⟩ ⟨k2, fun ps e => by rw [h2] at e; cases e⟩ c1 c2 (TrsAt.kind ks _ r)
theorem TrsAt.kind {ok : Addr → Prop} {H : Hp} : ∀ (ts : List Tr) (vs : List V), TrsAt ok H vs ts → TrsAt (fun b => ok b ∧ ∀ ps, H b ≠ some (.tbl ps)) H vs ts
  | [], vs, x => by cases x; exact .nil
  | t :: r, vs, x => by
    cases x with
    | cons a b => exact .cons (TrAt.kind t _ a) (TrsAt.kind r _ b)
end
theorem TabS.fr {H H' : Hp} {P p : Addr} {q : Str} {xs : List V} (h : LamX.TabS H P q) (hp : H p = some (.lst xs)) (f : Fr p H H') : LamX.TabS H' P q := by
  obtain ⟨ps, h1, h2, h3⟩ := h
  refine ⟨ps, f _ _ (fun e => by rw [e, hp] at h1; cases h1) h1, h2, fun pos cv hc => ?_⟩
  obtain ⟨c, e, h4⟩ := h3 pos cv hc
  exact ⟨c, e, f _ _ (fun e => by rw [e, hp] at h4; cases h4) h4⟩

def ItR : ItP := fun ok H v t as => RowO1 ok H (v, t.told, as)
theorem itOk_ItR : ItOk ItR := ⟨fun hk h x => RowO1.imp x hk h, fun ⟨_, _, _, _, _, h⟩ => TrO.lst _ _ _ h⟩
def sp_written_part : Sp := fun vs H Q _ => ∃ (c : Nat) (l : Addr) (ts : List Tr), vs = [.str (ch c), .ref l] ∧ H l = some (.lst (ts.map fun t => V.str (ws t))) ∧ sizes ts ≤ 1000000 ∧ Q (.str (ws (.node c ts))) H
section
variable {P : Program} {w : World} {K : PySem.W.Frag} {mg : Str → Option Value} {base : Heap}
theorem ok_written_part (T : Txt K mg) : FnOk P w K mg base CX0 1 T.f_written_part T.d_written_part ["letter", "texts"] sp_written_part := by
  refine T.F_written_part.ok sc_written_part (fun vs H Q E h => ?_) (fun cdv A outer s H vs Q E hr h => ?_)
  · obtain ⟨c, l, ts, rfl, _⟩ := h
    rfl
  obtain ⟨c, l, ts, rfl, hl, hz, q⟩ := h
  refine ⟨_, (pss_cons (ps_if (pt_not (pt_truth (pv 1) (by intro _; rfl))) (pss_one (ps_ret (pv 0))) pss_nil) (pss_cons (ps_set (i := 2) sc_written_part.nd rfl (Or.inl rfl) (pe_join pe_str (pv 1))) (pss_one (ps_ret (pe_joined (.cons (pe_fmt (pv 0)) (.cons pe_str (.cons (pe_fmt (pv 2)) (.cons pe_str .nil))))))))), ?_⟩
  cases ts with
  | nil =>
    refine ⟨_, rfl, false, .inl ⟨_, SqL.of hl, rfl⟩, iteT ?_⟩
    exact ⟨_, rfl, q⟩
  | cons t0 r =>
    refine ⟨_, rfl, true, .inl ⟨_, SqL.of hl, rfl⟩, iteF ?_⟩
    generalize hts : t0 :: r = ts at *
    have e0 : (ts.map fun t => V.str (ws t)) = (ts.map ws).map V.str := by simp
    rw [e0] at hl
    refine ⟨⟨_, rfl⟩, _, rfl, _, l, _, rfl, rfl, .inl (SqL.of hl), ?_, ?_⟩
    · rw [ws_len]
      have := wrs_len ts
      have e : (Str.ofString "").length = 0 := by decide +kernel
      rw [e, Nat.mul_zero]
      omega
    rw [join_ws]
    have lw := wrs_len ts
    generalize hW : (⟨(wrs ts).toArray⟩ : Str) = W
    have lW : W.length ≤ 3000000 := by
      rw [← hW]
      show (wrs ts).toArray.size ≤ _
      rw [List.size_toArray]
      omega
    have l1 : (ch c).length = 1 := rfl
    have l2 : (Str.ofString "(").length = 1 := by decide +kernel
    have l3 : (Str.ofString ")").length = 1 := by decide +kernel
    have la : ∀ a b : Str, (a ++ b).length = a.length + b.length := fun a b => by
      show (a.cps ++ b.cps).size = _
      rw [Array.size_append]
      rfl
    have l0 : Str.empty.length = 0 := rfl
    have big : ∀ n : Nat, n ≤ 3000010 → n ≤ sizeLine := fun n h => Nat.le_trans h (by decide)
    refine ⟨_, rfl, .inl ⟨_, rfl, big _ (by omega), _, rfl, big _ (by rw [la]; omega), ?_⟩⟩
    refine ⟨_, rfl, big _ (by rw [la, la]; omega), ?_⟩
    refine ⟨_, rfl, .inl ⟨_, rfl, big _ (by omega), _, rfl, big _ (by rw [la, la, la]; omega), ?_⟩⟩
    refine ⟨_, rfl, big _ (by rw [la, la, la, la]; omega), ?_⟩
    have e : ws (.node c ts) = Str.empty ++ ch c ++ Str.ofString "(" ++ W ++ Str.ofString ")" := by
      have e1 : (Str.ofString "(").cps = #[40] := by decide +kernel
      have e2 : (Str.ofString ")").cps = #[41] := by decide +kernel
      rw [← hW, ← hts]
      show (⟨(c :: brk (wrs _)).toArray⟩ : Str) = (⟨((((#[] ++ #[c]) ++ (Str.ofString "(").cps) ++ (wrs _).toArray) ++ (Str.ofString ")").cps)⟩ : Str)
      rw [e1, e2, brk_wrs]
      simp
    rw [e] at q
    exact q
theorem told_sizes : ∀ (ts : List Tr), sizes (ts.map Tr.told) = sizes ts
  | [] => rfl
  | t :: r => by simp only [List.map_cons, sizes, told_size, told_sizes r]
theorem ok__joined (T : Txt K mg) (B : Tbs T base) : FnOk P w K mg base CX0 2 T.f__joined T.d__joined ["letter", "below"] (sp_made ItR T.P__joined q__joined) := by
  have G_written_part : FnOk P w K mg base CX0 1 T.f_written_part T.d_written_part ["letter", "texts"] sp_written_part := ok_written_part T
  refine okC T.F__joined T.h__joined sc__joined (fun vs H Q E h => ?_) (fun A outer s H vs Q E hr h => ?_)
  · obtain ⟨c, bl, bs, ok, rfl, _⟩ := h
    rfl
  obtain ⟨c, bl, bs0, ok, rfl, c1, c2, hbl, okb, hb0, hnd, hsz0, hok, hT, q⟩ := h
  refine ⟨_, (pss_cons (ps_set (i := 2) sc__joined.nd rfl (Or.inl rfl) (pe_callBK (cr_sortRow hr) (by rfl) T.z_sorted (by decide +kernel) (pa_cons (pv 1) pa_nil) (pk_cons (pe_lamRow B.tb__joined rfl (by rfl) (rowL_mk (x := "row") (by decide +kernel) rfl rfl rfl rfl (fun _ _ _ _ _ _ _ _ _ _ _ _ _ => rfl))) pk_nil))) (pss_one (ps_ret (pe_tup (pa_cons (pe_call G_written_part (hr.mono (by omega)) (by rfl) T.m_written_part T.F_written_part.kp T.b_written_part .nil pass0 (pa_cons (pv 0) (pa_cons (pe_lc (own := [("row", 3)]) (g := gName 3) (te := tOp (rIxT K) (tVar 3) (tC (.int 0))) (tt := tYes) rfl sc__joined.nd (pi_list (pv 2)) (blkOk_by (own := [("row", 3)]) (N := ["letter", "below", "rows", "row"]) (sc := (defScope s__joined)) (by decide +kernel)) (fun _ _ _ _ _ => (pg_name (i := 3) sc__joined.nd rfl (Or.inl rfl))) (fun _ _ _ _ _ => pts_nil) (fun _ _ _ _ _ => (pe_ix ix_tup (pv 3) pe_int (fun _ _ => rfl)))) pa_nil))) (pa_cons (pe_tup (pa_cons (pv 0) (pa_cons (pe_lc (own := [("row", 3)]) (g := gName 3) (te := tOp (rIxT K) (tVar 3) (tC (.int 1))) (tt := tYes) rfl sc__joined.nd (pi_list (pv 2)) (blkOk_by (own := [("row", 3)]) (N := ["letter", "below", "rows", "row"]) (sc := (defScope s__joined)) (by decide +kernel)) (fun _ _ _ _ _ => (pg_name (i := 3) sc__joined.nd rfl (Or.inl rfl))) (fun _ _ _ _ _ => pts_nil) (fun _ _ _ _ _ => (pe_ix ix_tup (pv 3) pe_int (fun _ _ => rfl)))) pa_nil))) pa_nil)))))), ?_⟩
  obtain ⟨ps0, hP0, _, _⟩ := id hT
  generalize hbs : bs0.map (fun b => (b.1, b.2.1.told, b.2.2)) = bs at *
  have e1 : bs0.map (·.1) = bs.map (·.1) := by rw [← hbs, List.map_map]; rfl
  have e2 : (bs0.map (·.2.1)).map Tr.told = bs.map (·.2.1) := by rw [← hbs, List.map_map, List.map_map]; rfl
  have e3 : lstsI bs0 = lsts bs := by rw [← hbs]; simp only [lstsI, lsts, List.map_map]; rfl
  have hb : ∀ b ∈ bs, RowO1 ok H b := by
    intro b h
    rw [← hbs] at h
    obtain ⟨b0, hb1, rfl⟩ := List.mem_map.mp h
    exact hb0 b0 hb1
  have hsz : sizes (bs.map (·.2.1)) ≤ 1000000 := by rw [← e2, told_sizes]; exact hsz0
  rw [e1] at hbl
  rw [e3] at hnd
  have lz := len_sizes (bs.map (·.2.1))
  rw [List.length_map] at lz
  refine ⟨_, rfl, hT, fun f cc H3 f3 hT3' hF hC => ?_⟩
  have hb3 : ∀ b ∈ bs, RowO1 ok H3 b := fun b h => (hb b h).imp (fun _ h => h) fun b o h e => f3 b o (hok b h) e
  have hbl3 := f3 _ _ (hok _ okb) hbl
  refine ⟨bl, f, cc, _, bs.map fun b => (b.1, ws b.2.1), rfl, rfl, hF, hC, ?_, ?_, ?_, fun rs hrs => ?_⟩
  · rw [hbl3, List.map_map]
    rfl
  · intro b hb4
    obtain ⟨b2, hb5, rfl⟩ := List.mem_map.mp hb4
    obtain ⟨p2, x2, e1, e2, _⟩ := hb3 b2 hb5
    exact ⟨p2, _, e1, e2⟩
  · rw [List.length_map]
    exact Nat.le_trans (show _ ≤ 1000000 by omega) (by decide)
  rw [leB_str]
  generalize hcs : bs.mergeSort leB = cs
  have hperm : cs.Perm bs := by rw [← hcs]; exact List.mergeSort_perm _ _
  have hctr : cs.map (·.2.1) = (bs.map (·.2.1)).mergeSort leW := by rw [← hcs, leB_tr]
  have hrs0 : H rs = none := by
    cases e : H rs with
    | none => rfl
    | some o =>
      have n1 : rs ≠ T.P__joined := fun e2 => by
        obtain ⟨_, e3, _⟩ := hT3'
        rw [e2, e3] at hrs
        cases hrs
      rw [f3 _ _ n1 e] at hrs
      cases hrs
  have lcs := hperm.length_eq
  have szc : sizes (cs.map (·.2.1)) = sizes (bs.map (·.2.1)) := sizes_perm (hperm.map _)
  have s34 : Same H3 (upd H3 rs (.lst (cs.map (·.1)))) := same_new hrs
  have hb4 : ∀ b ∈ cs, RowO1 ok (upd H3 rs (.lst (cs.map (·.1)))) b := fun b h => (hb3 b (hperm.mem_iff.mp h)).same s34
  have hR : (upd H3 rs (.lst (cs.map (·.1)))) rs = some (.lst (cs.map (·.1))) := upd_same
  have T4 := hT3'.ext s34
  have F4 : Fr T.P__joined H (upd H3 rs (.lst (cs.map (·.1)))) := fun b o n e => s34 _ _ (f3 b o n e)
  generalize hH4 : upd H3 rs (.lst (cs.map (·.1))) = H4 at *
  refine ⟨_, rfl, _, rfl, rs, rfl, ⟨_, SqL.of hR⟩, fun D hD => ?_⟩
  refine lc_list (xs := cs.map (·.1)) (fun i H5 => H5 D = some (.lst ((cs.take i).map fun b => .str (ws b.2.1))) ∧ Same H4 H5) ⟨upd_same, same_new hD⟩ (fun i H5 _ ⟨_, s⟩ => SqL.of (s _ _ hR)) ?_ ?_
  · rintro i x H5 hx ⟨g1, g2⟩
    rw [List.getElem?_map] at hx
    cases hc : cs[i]? with
    | none => rw [hc] at hx; cases hx
    | some b =>
      rw [hc] at hx
      cases hx
      obtain ⟨p, y, e, h1, h2, h3⟩ := hb4 b (List.mem_of_getElem? hc)
      obtain ⟨bv, bt, bl⟩ := b
      cases e
      refine ⟨rfl, _, rfl, p, _, 0, _, rfl, rfl, SqT.of (g2 _ _ h1), atI_nat (j := 0) rfl, _, g1, ?_, ?_, same_add g2 hD⟩
      · rw [List.length_map, List.length_take]
        exact Nat.lt_of_le_of_lt (show _ ≤ 1000000 by omega) (by decide)
      · rw [upd_same, take_succ_of hc, List.map_append]
        rfl
  rintro H5 ⟨g1, g2⟩
  rw [List.length_map, List.take_length] at g1
  have e0 : (cs.map fun b => V.str (ws b.2.1)) = (cs.map (·.2.1)).map fun t => V.str (ws t) := by simp
  rw [e0] at g1
  refine ⟨c, D, cs.map (·.2.1), rfl, g1, by omega, ?_⟩
  refine ⟨_, rfl, _, rfl, rs, rfl, ⟨_, SqL.of (g2 _ _ hR)⟩, fun D2 hD2 => ?_⟩
  have free4 : ∀ b, H4 b = none → H b = none := fun b h => by
    cases e : H b with
    | none => rfl
    | some o =>
      by_cases n1 : b = T.P__joined
      · obtain ⟨_, e3, _⟩ := T4
        rw [n1, e3] at h
        cases h
      · rw [F4 _ _ n1 e] at h
        cases h
  have hD20 : H D2 = none := free4 _ (g2.free hD2)
  have hD24 : H4 D2 = none := g2.free hD2
  refine lc_list (xs := cs.map (·.1)) (fun i H6 => ∃ ys, H6 D2 = some (.lst ys) ∧ TrsO (fun b => ok b ∧ b ≠ D2) H6 ys ((cs.take i).map (·.2.1)) ((cs.take i).map (·.2.2)).flatten ∧ Same H5 H6) ⟨[], upd_same, .nil, same_new hD2⟩ (fun i H6 _ ⟨_, _, _, s⟩ => SqL.of (s _ _ (g2 _ _ hR))) ?_ ?_
  · rintro i x H6 hx ⟨ys, k1, k2, k3⟩
    rw [List.getElem?_map] at hx
    cases hc : cs[i]? with
    | none => rw [hc] at hx; cases hx
    | some b =>
      rw [hc] at hx
      cases hx
      obtain ⟨p, y, e, h1, h2, h3⟩ := hb4 b (List.mem_of_getElem? hc)
      obtain ⟨bv, bt, bl⟩ := b
      cases e
      have hy := ((h3.off hD24).same (g2.trans k3))
      have kl := k2.len
      rw [List.length_map, List.length_take] at kl
      refine ⟨rfl, _, rfl, p, _, 1, _, rfl, rfl, SqT.of (k3 _ _ (g2 _ _ h1)), atI_nat (j := 1) rfl, ys, k1, ?_, ys ++ [y], upd_same, ?_, same_add k3 hD2⟩
      · exact Nat.lt_of_le_of_lt (show _ ≤ 1000000 by omega) (by decide)
      · rw [take_succ_of hc, List.map_append, List.map_append, List.flatten_append]
        have ky := k2.snoc hy
        simp only [List.map_cons, List.map_nil, List.flatten_cons, List.flatten_nil, List.append_nil]
        exact ky.keep (upd_keep fun b h => h.2)
  rintro H6 ⟨ys, k1, k2, k3⟩
  rw [List.length_map, List.take_length] at k2
  have s46 : Same H4 H6 := g2.trans k3
  refine ⟨(by show 2 ≤ sizeLine; decide), fun a ha => ⟨(by show 2 ≤ sizeLine; decide), fun p hp => ?_⟩⟩
  have nap : a ≠ p := fun e => by rw [← e, upd_same] at hp; cases hp
  have hp1 : H6 p = none := NdefX.upd_none hp
  have s68 : Same H6 (upd (upd H6 a (.tup [.str (ch c), .ref D2])) p (.tup [.str (ws (.node c (cs.map (·.2.1)))), .ref a])) := (same_new ha).trans (same_new hp)
  have s48 := s46.trans s68
  have nDa : D2 ≠ a := ne_of_none k1 ha
  have nDp : D2 ≠ p := ne_of_none k1 hp1
  have e3' : ((cs.map (·.2.2)).flatten).Perm (lsts bs) := (hperm.map _).flatten
  have etold : (Tr.node c (bs0.map (·.2.1))).told = .node c (cs.map (·.2.1)) := by
    rw [hctr, ← e2]
    simp only [Tr.told, tolds_map]
  have ndb := (List.nodup_cons.mp hnd)
  refine q (.ref p) (D2 :: (cs.map (·.2.2)).flatten) _ (fun b o n e => s48 _ _ (F4 b o n e)) (T4.ext s48) ?_ ?_ ?_
  · show RowO1 _ _ (V.ref p, (Tr.node c (bs0.map (·.2.1))).told, _)
    rw [etold]
    refine ⟨p, .ref a, rfl, upd_same, .inr (free4 _ (s46.free hp1)), ?_⟩
    refine .node (by rw [upd_ne nap]; exact upd_same) (by rw [upd_ne nDp, upd_ne nDa]; exact k1) (.inr (free4 _ (s46.free ha))) (.inr hD20) c1 c2 ?_
    exact (k2.same s68).weak fun b h => .inl h.1
  · rw [List.nodup_cons]
    refine ⟨fun hm => ?_, (e3'.nodup_iff).mpr ndb.2⟩
    exact (TrsO.lst _ _ _ k2 D2 hm).1.2 rfl
  · intro b hb8
    rcases List.mem_cons.mp hb8 with h | h
    · exact .inr (h ▸ hD20)
    · refine .inl (List.mem_cons_of_mem _ ?_)
      rw [e3]
      exact e3'.mem_iff.mp h
def sp__written_and_told (Pt : Addr) (q : Str) : Sp := fun vs H Q _ => ∃ (v : V) (t : Tr), vs = [v] ∧ TrAt (fun _ => True) H v t ∧ t.size ≤ 1000000 ∧ LamX.TabS H Pt q ∧
  ∀ v' as H', Fr Pt H H' → LamX.TabS H' Pt q → as.Nodup → RowO1 (fun b => H b = none) H' (v', t.told, as) → Q v' H'
theorem ok__written_and_told (T : Txt K mg) (B : Tbs T base) : FnOk P w K mg base CX0 8 T.f__written_and_told T.d__written_and_told ["tree"] (sp__written_and_told T.P__joined q__joined) := by
  have G_built_upward : FnOk P w K mg base CX0 7 T.f_built_upward T.d_built_upward ["tree", "made"] (sp_built_upward P w K mg base 6 T.P__joined q__joined) := ok_built_upward T 6 (by decide) _ _
  refine T.F__written_and_told.ok sc__written_and_told (fun vs H Q E h => ?_) (fun cdv A outer s H vs Q E hr h => ?_)
  · obtain ⟨v, t, rfl, _⟩ := h
    rfl
  obtain ⟨v, t, rfl, ht, hz, hT, q⟩ := h
  refine ⟨_, (pss_one (ps_ret (pe_call G_built_upward (hr.mono (by omega)) (by rfl) T.m_built_upward T.F_built_upward.kp T.b_built_upward .nil pass0 (pa_cons (pv 0) (pa_cons (pe_glob (v := .ref T.f__joined) rfl T.m__joined rfl) pa_nil))))), ?_⟩
  refine ⟨_, rfl, v, t, T.f__joined, ItR, rfl, ht, hz, itOk_ItR, hT, ?_, fun r as H' f T' x nd => q r as H' f T' nd x⟩
  exact (calX_of (ok__joined T B) T.F__joined T.b__joined (G := fun H' => Fr T.P__joined H H')).imp (by decide) (fun _ h => h) (fun _ _ _ _ h => h)
end
def sp_told_form (Pt : Addr) (q : Str) : Sp := fun vs H Q _ => ∃ (v : V) (t : Tr), vs = [v] ∧ TrAt (fun _ => True) H v t ∧ t.size ≤ 1000000 ∧ LamX.TabS H Pt q ∧
  ∀ x as H', Fr Pt H H' → LamX.TabS H' Pt q → as.Nodup → TrO (fun b => H b = none) H' x t.told as → Q x H'
def sp_written_tree (Pt : Addr) (q : Str) : Sp := fun vs H Q _ => ∃ (v : V) (t : Tr), vs = [v] ∧ TrAt (fun _ => True) H v t ∧ t.size ≤ 1000000 ∧ LamX.TabS H Pt q ∧
  ∀ H', Fr Pt H H' → LamX.TabS H' Pt q → Q (.str (ws t.told)) H'
section
variable {P : Program} {w : World} {K : PySem.W.Frag} {mg : Str → Option Value} {base : Heap}
end


mutual
theorem wr_small : ∀ (t : Tr), t.lets Ltr → ∀ x ∈ t.wr, x ≤ 122
  | .node c ks, h => by
    simp only [Tr.lets] at h
    intro x hx
    simp only [Tr.wr, List.mem_cons] at hx
    rcases hx with rfl | hx
    · exact h.1.2
    · cases ks with
      | nil => simp [wrs, brk] at hx
      | cons k r =>
        rw [brk_wrs] at hx
        simp only [List.mem_cons, List.mem_append, List.not_mem_nil, or_false] at hx
        rcases hx with rfl | hx | rfl
        · decide
        · exact wrs_small (k :: r) h.2 x hx
        · decide
theorem wrs_small : ∀ (ts : List Tr), letss Ltr ts → ∀ x ∈ wrs ts, x ≤ 122
  | [], _, x, hx => by simp [wrs] at hx
  | t :: r, h, x, hx => by
    simp only [letss] at h
    simp only [wrs, List.mem_append] at hx
    rcases hx with hx | hx
    · exact wr_small t h.1 x hx
    · exact wrs_small r h.2 x hx
end
theorem strOk_ws {t : Tr} (h : t.lets Ltr) : PyData.strOk (ws t) = true := by
  unfold PyData.strOk ws
  rw [Array.all_eq_true']
  intro x hx
  have := wr_small t h x (by simpa using hx)
  exact decide_eq_true (by omega)
section
variable {P : Program} {w : World} {K : PySem.W.Frag} {mg : Str → Option Value} {base : Heap}
def RowF (ok : Addr → Prop) (H : Hp) (b : V × Tr) : Prop := ∃ p x, b.1 = .ref p ∧ H p = some (.lst [.str (ws b.2), x]) ∧ ok p ∧ TrAt ok H x b.2
def sp__law_form (d : Nat) : Sp := fun vs H Q _ => ∃ (v : V) (t : Tr), vs = [v] ∧ TrAt (fun _ => True) H v t ∧ t.depth ≤ d ∧ t.depth ≤ 31 ∧ t.size ≤ 100000 ∧
  ∀ r H', Same H H' → RowF (fun b => H b = none) H' (r, t.told) → Q r H'
theorem map_erase {α β : Type} (f : α → β) : ∀ (l : List α) (k : Nat), (l.map f).eraseIdx k = (l.eraseIdx k).map f
  | [], k => rfl
  | a :: r, 0 => rfl
  | a :: r, k + 1 => by
    simp only [List.map_cons, List.eraseIdx_cons_succ, map_erase f r k]
theorem RowF.imp {ok ok' : Addr → Prop} {H H' : Hp} {b : V × Tr} (x : RowF ok H b) (hk : ∀ b, ok b → ok' b) (h : ∀ b o, ok b → H b = some o → H' b = some o) : RowF ok' H' b := by
  obtain ⟨p, x, e, h1, h2, h3⟩ := x
  exact ⟨p, x, e, h _ _ h2 h1, hk _ h2, TrAt.imp hk h _ _ h3⟩
theorem RowF.there {ok : Addr → Prop} {H : Hp} {b : V × Tr} (x : RowF ok H b) : RowF (fun b => ok b ∧ ∃ o, H b = some o) H b := by
  obtain ⟨p, x, e, h1, h2, h3⟩ := x
  exact ⟨p, x, e, h1, ⟨h2, _, h1⟩, TrAt.there _ _ h3⟩
theorem datOk_row {ok : Addr → Prop} {H : Hp} {b : V × Tr} (x : RowF ok H b) (h : b.2.depth ≤ 30) : DatOk K H b.1 := by
  obtain ⟨p, x, e, h1, h2, h3⟩ := x
  rw [e]
  have hl := TrAt.ltr _ _ h3
  have dd := dat_depth b.2
  refine ⟨.list [.str (ws b.2), b.2.dat], .lst (SqL.of h1) (.cons (.str _) (.cons (TrAt.dp _ _ h3) .nil)), ?_, ?_⟩
  · simp only [PyData.canLay0, PyData.canLayAll0, strOk_ws hl, TrAt.lay _ _ h3, Bool.and_self]
  · simp only [PyData.depth, PyData.depthAll]
    omega
theorem ok__law_form (T : Txt K mg) : ∀ d : Nat, FnOk P w K mg base CX0 d T.f__law_form T.d__law_form ["tree"] (sp__law_form d)
  | 0 => none_of fun vs H Q E ⟨v, t, _, _, h, _⟩ => by have := depth_pos t; omega
  | d + 1 => by
    have G__law_form : FnOk P w K mg base CX0 d T.f__law_form T.d__law_form ["tree"] (sp__law_form d) := ok__law_form T d
    refine T.F__law_form.ok sc__law_form (fun vs H Q E h => ?_) (fun cdv A outer s H vs Q E hr h => ?_)
    · obtain ⟨v, t, rfl, _⟩ := h
      rfl
    obtain ⟨v, t, rfl, ht, hd, hd2, hz, q⟩ := h
    refine ⟨_, (pss_cons (ps_setLc (i := 1) (own := [("child", 6)]) (g := gName 6) (tt := tYes) rfl sc__law_form.nd rfl rfl (sw_true rfl rfl rfl (by decide +kernel)) (pi_list (pe_ix ix_tup (pv 0) pe_int (fun _ _ => rfl))) (blkOk_by (own := [("child", 6)]) (N := ["tree", "left", "found", "least", "k", "written", "child", "one"]) (sc := (defScope s__law_form)) (by decide +kernel)) (fun _ _ _ _ _ => (pg_name (i := 6) sc__law_form.nd rfl (Or.inl rfl))) (fun _ _ _ _ _ => pts_nil) (fun _ _ _ _ _ => (pe_call G__law_form (hr.mono (by omega)) (by rfl) T.m__law_form T.F__law_form.kp T.b__law_form .nil pass0 (pa_cons (pv 6) pa_nil)))) (pss_cons (ps_set (i := 2) sc__law_form.nd rfl (Or.inl rfl) (pe_lst pa_nil)) (pss_cons (ps_while PassesOwn.never (pt_cmpR (op_neD hr.units) (pv 1) (pe_lst pa_nil) (nomark _)) (pss_cons (ps_set (i := 3) sc__law_form.nd rfl (Or.inl rfl) pe_int) (pss_cons (ps_for PassesOwn.never rfl (pi_range1 (by rfl) T.z_range (pa_cons (pe_callB call_len_seq (by rfl) T.z_len PySem.boot_len (pa_cons (pv 1) pa_nil)) pa_nil)) (pg_name (i := 4) sc__law_form.nd rfl (Or.inl rfl)) (pss_one (ps_if (pt_cmpR op_lt_str (pe_ix ix_list (pe_ix ix_list (pv 1) (pv 4) (fun _ _ => rfl)) pe_int (fun _ _ => rfl)) (pe_ix ix_list (pe_ix ix_list (pv 1) (pv 3) (fun _ _ => rfl)) pe_int (fun _ _ => rfl)) (nomark _)) (pss_one (ps_set (i := 3) sc__law_form.nd rfl (Or.inl rfl) (pv 4))) pss_nil))) (pss_one (ps_expr (pe_bm PySem.F.plainAttrs_list PySem.F.slot_list_append PySem.F.type_list_append mt_append (pv 2) (pa_cons (pe_bm PySem.F.plainAttrs_list PySem.F.slot_list_pop PySem.F.type_list_pop mt_popAt (pv 1) (pa_cons (pv 3) pa_nil)) pa_nil))))))) (pss_cons (ps_set (i := 5) sc__law_form.nd rfl (Or.inl rfl) (pe_ix ix_tup (pv 0) pe_int (fun _ _ => rfl))) (C8.pss_cut (ps_if (pt_cmpR (op_neD hr.units) (pv 2) (pe_lst pa_nil) (nomark _)) (pss_one (ps_set (i := 5) sc__law_form.nd rfl (Or.inl rfl) (pe_op op_add_str (pe_op op_add_str (pe_op op_add_str (pv 5) pe_str) (pe_join pe_str (pe_lc (own := [("one", 7)]) (g := gName 7) (te := tOp (rIxL K) (tVar 7) (tC (.int 0))) (tt := tYes) rfl sc__law_form.nd (pi_list (pv 2)) (blkOk_by (own := [("one", 7)]) (N := ["tree", "left", "found", "least", "k", "written", "child", "one"]) (sc := (defScope s__law_form)) (by decide +kernel)) (fun _ _ _ _ _ => (pg_name (i := 7) sc__law_form.nd rfl (Or.inl rfl))) (fun _ _ _ _ _ => pts_nil) (fun _ _ _ _ _ => (pe_ix ix_list (pv 7) pe_int (fun _ _ => rfl)))))) pe_str))) pss_nil) (pss_one (ps_ret (pe_lst (pa_cons (pv 5) (pa_cons (pe_tup (pa_cons (pe_ix ix_tup (pv 0) pe_int (fun _ _ => rfl)) (pa_cons (pe_lc (own := [("one", 7)]) (g := gName 7) (te := tOp (rIxL K) (tVar 7) (tC (.int 1))) (tt := tYes) rfl sc__law_form.nd (pi_list (pv 2)) (blkOk_by (own := [("one", 7)]) (N := ["tree", "left", "found", "least", "k", "written", "child", "one"]) (sc := (defScope s__law_form)) (by decide +kernel)) (fun _ _ _ _ _ => (pg_name (i := 7) sc__law_form.nd rfl (Or.inl rfl))) (fun _ _ _ _ _ => pts_nil) (fun _ _ _ _ _ => (pe_ix ix_list (pv 7) pe_int (fun _ _ => rfl)))) pa_nil))) pa_nil)))))))))), ?_⟩
    obtain ⟨c, ks⟩ := t
    simp only [Tr.depth] at hd hd2
    simp only [Tr.size] at hz
    have lz := len_sizes ks
    have hlt := TrAt.ltr _ _ ht
    simp only [Tr.lets] at hlt
    cases ht with
    | node h1 h2 k1 k2 c1 c2 r =>
      rename_i a l xs
      have lr := r.len
      refine ⟨_, rfl, _, _, 1, _, rfl, rfl, SqT.of h1, atI_nat (j := 1) rfl, _, rfl, ⟨_, SqL.of h2⟩, fun D hD => ?_⟩
      refine lc_list (xs := xs) (fun i H2 => ∃ acc : List (V × Tr), H2 D = some (.lst (acc.map (·.1))) ∧ (∀ b ∈ acc, RowF (fun b => H b = none ∧ b ≠ D) H2 b) ∧ acc.map (·.2) = tolds (ks.take i) ∧ Same H H2) ⟨[], upd_same, (fun _ h => by cases h), rfl, same_new hD⟩ (fun i H2 _ ⟨_, _, _, _, s⟩ => SqL.of (s _ _ h2)) ?_ ?_
      · rintro i x H2 hx ⟨acc, g1, g2, g3, g4⟩
        obtain ⟨t1, ht1, hx2⟩ := r.getV hx
        have dt := depths_mem (List.mem_of_getElem? ht1)
        have st := sizes_mem (List.mem_of_getElem? ht1)
        have la := congrArg List.length g3
        rw [List.length_map, tolds_len, List.length_take] at la
        refine ⟨rfl, _, rfl, x, t1, rfl, hx2.same g4, by omega, by omega, by omega, fun y H3 s3 hy => ?_⟩
        have g1' := s3 _ _ g1
        refine ⟨_, g1', ?_, acc ++ [(y, t1.told)], by rw [upd_same, List.map_append]; rfl, ?_, ?_, same_add (g4.trans s3) hD⟩
        · rw [List.length_map]
          exact Nat.lt_of_le_of_lt (show acc.length ≤ 1000000 by omega) (by decide)
        · intro b hb
          rcases List.mem_append.mp hb with hb | hb
          · exact (g2 b hb).imp (fun _ h => h) fun b o h e => by rw [upd_ne h.2]; exact s3 _ _ e
          · simp only [List.mem_singleton] at hb
            subst hb
            exact hy.imp (fun b h => ⟨g4.free h, fun e => by rw [e, g1] at h; cases h⟩) fun b o h e => by rw [upd_ne (fun e => by rw [e, g1] at h; cases h)]; exact e
        · rw [take_succ_of ht1, List.map_append, g3, tolds_map, tolds_map, List.map_append]
          rfl
      · rintro H2 ⟨ls0, g1, g2, g3, g4⟩
        rw [lr, List.take_length] at g3
        refine ⟨(by show 0 ≤ sizeLine; decide), fun F hF => ?_⟩
        have nDF : D ≠ F := ne_of_none g1 hF
        have hF0 := g4.free hF
        refine ⟨fun m σ H' => ∃ (ls fs : List (V × Tr)) (y3 y4 y5 y6 y7 : Option V), σ = [some (.ref a), some (.ref D), some (.ref F), y3, y4, y5, y6, y7] ∧ H' D = some (.lst (ls.map (·.1))) ∧ H' F = some (.lst (fs.map (·.1))) ∧ (∀ b ∈ fs ++ ls, RowF (fun b => H b = none ∧ b ≠ D ∧ b ≠ F) H' b) ∧
            ((fs ++ ls).map (·.2)).Perm (tolds ks) ∧ (fs.map (·.2)).Pairwise (fun x y => leW x y = true) ∧ (∀ x ∈ fs, ∀ y ∈ ls, leW x.2 y.2 = true) ∧ m = ls.length ∧ Same H H',
          ⟨ls0.length, ls0, [], none, none, none, none, none, rfl, by rw [upd_ne nDF]; exact g1, upd_same, ?_, by simp [g3], .nil, (fun _ h => by cases h), rfl, same_add g4 hF0⟩, ?_⟩
        · intro b hb
          rw [List.nil_append] at hb
          exact (g2 b hb).there.imp (fun b ⟨h, o, e⟩ => ⟨h.1, h.2, ne_of_none e hF⟩) fun b o ⟨_, o2, e2⟩ e => by rw [upd_ne (ne_of_none e hF)]; exact e
        rintro m σ H' ⟨ls, fs, y3, y4, y5, y6, y7, rfl, hL, hFs, hrow, hperm, hpair, hle, rfl, hs⟩
        refine ⟨_, rfl, (by show 0 ≤ sizeLine; decide), fun e he => ?_⟩
        have he0 := hs.free he
        have hs2 : Same H (upd H' e (.lst [])) := same_add hs he0
        have keep2 : ∀ b o, H' b = some o → (upd H' e (.lst [])) b = some o := fun b o h => by rw [upd_ne (ne_of_none h he)]; exact h
        have hL2 := keep2 _ _ hL
        have hF2 := keep2 _ _ hFs
        have hrow2 : ∀ b ∈ fs ++ ls, RowF (fun b => H b = none ∧ b ≠ D ∧ b ≠ F) (upd H' e (.lst [])) b := fun b hb => (hrow b hb).imp (fun _ h => h) fun b o _ h => keep2 b o h
        have hall : ∀ b ∈ fs ++ ls, b.2 ∈ tolds ks := fun b hb => hperm.mem_iff.mp (List.mem_map_of_mem hb)
        have hdep : ∀ b ∈ fs ++ ls, b.2.depth ≤ 30 := fun b hb => by
          have := depths_mem (hall b hb)
          rw [tolds_depths] at this
          omega
        have hlen : fs.length + ls.length = ks.length := by
          have := hperm.length_eq
          rw [List.length_map, List.length_append, tolds_len] at this
          exact this
        obtain ⟨ds, hds, hsh, hdl⟩ := DatOk.all (K := K) (H := upd H' e (.lst [])) (vs := ls.map (·.1)) fun v hv => by
          obtain ⟨b, hb, rfl⟩ := List.mem_map.mp hv
          exact datOk_row (hrow2 b (List.mem_append_right _ hb)) (hdep b (List.mem_append_right _ hb))
        refine ⟨_, _, .lst (SqL.of hL2) hds, dp_nil upd_same, hsh, shaped_nil, _, rfl, ?_⟩
        rw [eqv_nil, hdl, List.length_map]
        by_cases hu : ls.length = 0
        · rw [decide_eq_true hu]
          refine iteF ?_
          have : ls = [] := List.length_eq_zero_iff.mp hu
          subst this
          rw [List.append_nil] at hperm
          have hsort : fs.map (·.2) = (tolds ks).mergeSort leW := sorted_is (tolds_lets _ hlt.2) hperm hpair
          have htold : (Tr.node c ks).told = .node c (fs.map (·.2)) := by simp only [Tr.told, hsort]
          have hszf : sizes (fs.map (·.2)) ≤ 100000 := by rw [hsort, sizes_sort, tolds_sizes]; omega
          rw [List.append_nil] at hrow2
          have hflen : fs.length ≤ 100000 := by rw [List.length_nil] at hlen; omega
          have big : ∀ n : Nat, n ≤ 1000000 → n ≤ sizeLine := fun n h => Nat.le_trans h (by decide)
          refine ⟨_, rfl, a, _, 0, _, rfl, rfl, SqT.of (hs2 _ _ h1), atI_nat (j := 0) rfl, ?_⟩
          refine ⟨fun σ2 H2 => ∃ y3 y4 y6 y7, σ2 = [some (.ref a), some (.ref D), some (.ref F), y3, y4, some (.str (ws (.node c (fs.map (·.2))))), y6, y7] ∧ H2 F = some (.lst (fs.map (·.1))) ∧ (∀ b ∈ fs, RowF (fun b => H b = none ∧ b ≠ D ∧ b ≠ F) H2 b) ∧ Same H H2, ?_, ?_⟩
          · refine ⟨_, rfl, (by show 0 ≤ sizeLine; decide), fun e2 he2 => ?_⟩
            have keep3 : ∀ b o, (upd H' e (.lst [])) b = some o → (upd (upd H' e (.lst [])) e2 (.lst [])) b = some o := fun b o h => by rw [upd_ne (ne_of_none h he2)]; exact h
            have hF3 := keep3 _ _ hF2
            have hs3 : Same H (upd (upd H' e (.lst [])) e2 (.lst [])) := same_add hs2 (hs2.free he2)
            have hrow3 : ∀ b ∈ fs, RowF (fun b => H b = none ∧ b ≠ D ∧ b ≠ F) (upd (upd H' e (.lst [])) e2 (.lst [])) b := fun b hb => (hrow2 b hb).imp (fun _ h => h) fun b o _ h => keep3 b o h
            obtain ⟨ds2, hds2, hsh2, hdl2⟩ := DatOk.all (K := K) (H := upd (upd H' e (.lst [])) e2 (.lst [])) (vs := fs.map (·.1)) fun v hv => by
              obtain ⟨b, hb, rfl⟩ := List.mem_map.mp hv
              exact datOk_row (hrow3 b hb) (hdep b (by rw [List.append_nil]; exact hb))
            refine ⟨_, _, .lst (SqL.of hF3) hds2, dp_nil upd_same, hsh2, shaped_nil, _, rfl, ?_⟩
            rw [eqv_nil, hdl2, List.length_map]
            by_cases hf0 : fs.length = 0
            · rw [decide_eq_true hf0]
              refine iteF ?_
              have : fs = [] := List.length_eq_zero_iff.mp hf0
              subst this
              exact ⟨_, _, _, _, rfl, hF3, hrow3, hs3⟩
            · rw [decide_eq_false hf0]
              refine iteT ?_
              generalize hHb : upd (upd H' e (.lst [])) e2 (.lst []) = Hb at *
              have l1 : (ch c).length = 1 := rfl
              have l2 : (Str.ofString "(").length = 1 := by decide +kernel
              have l3 : (Str.ofString ")").length = 1 := by decide +kernel
              have la : ∀ a b : Str, (a ++ b).length = a.length + b.length := fun a b => by
                show (a.cps ++ b.cps).size = _
                rw [Array.size_append]
                rfl
              refine ⟨_, rfl, _, _, rfl, rfl, big _ (by omega), ⟨_, rfl⟩, _, rfl, F, rfl, ⟨_, SqL.of hF3⟩, fun D2 hD2 => ?_⟩
              refine lc_list (xs := fs.map (·.1)) (fun i H2 => H2 D2 = some (.lst ((fs.take i).map fun b => .str (ws b.2))) ∧ Same Hb H2) ⟨upd_same, same_new hD2⟩ (fun i H2 _ ⟨_, s⟩ => SqL.of (s _ _ hF3)) ?_ ?_
              · rintro i x H2 hx ⟨g5, g6⟩
                rw [List.getElem?_map] at hx
                cases hc : fs[i]? with
                | none => rw [hc] at hx; cases hx
                | some b =>
                  rw [hc] at hx
                  cases hx
                  obtain ⟨p, y, ep, j1, j2, j3⟩ := hrow3 b (List.mem_of_getElem? hc)
                  obtain ⟨bv, bt⟩ := b
                  cases ep
                  refine ⟨rfl, _, rfl, p, _, 0, _, rfl, rfl, SqL.of (g6 _ _ j1), atI_nat (j := 0) rfl, _, g5, ?_, ?_, same_add g6 hD2⟩
                  · rw [List.length_map, List.length_take]
                    exact Nat.lt_of_le_of_lt (show _ ≤ 1000000 by omega) (by decide)
                  · rw [upd_same, take_succ_of hc, List.map_append]
                    rfl
              · rintro H2 ⟨g5, g6⟩
                rw [List.length_map, List.take_length] at g5
                have e0 : (fs.map fun b => V.str (ws b.2)) = ((fs.map (·.2)).map ws).map V.str := by simp
                rw [e0] at g5
                have lw := wrs_len (fs.map (·.2))
                refine ⟨_, D2, _, rfl, rfl, .inl (SqL.of g5), ?_, ?_⟩
                · rw [ws_len]
                  have e : (Str.ofString "").length = 0 := by decide +kernel
                  rw [e, Nat.mul_zero]
                  omega
                rw [join_ws]
                generalize hW : (⟨(wrs (fs.map (·.2))).toArray⟩ : Str) = W
                have lW : W.length ≤ 300000 := by
                  rw [← hW]
                  show (wrs (fs.map (·.2))).toArray.size ≤ _
                  rw [List.size_toArray]
                  omega
                refine ⟨_, _, rfl, rfl, big _ (by rw [la]; omega), _, _, rfl, rfl, big _ (by rw [la, la]; omega), ?_⟩
                refine ⟨y3, y4, y6, y7, ?_, g6 _ _ hF3, fun b hb => (hrow3 b hb).imp (fun _ h => h) fun b o _ h => g6 b o h, hs3.trans g6⟩
                refine congrArg (fun z => [some (V.ref a), some (V.ref D), some (V.ref F), y3, y4, some (V.str z), y6, y7]) ?_
                have e1 : (Str.ofString "(").cps = #[40] := by decide +kernel
                have e3 : (Str.ofString ")").cps = #[41] := by decide +kernel
                cases fs with
                | nil => exact absurd rfl hf0
                | cons b0 fs =>
                  rw [← hW, List.map_cons]
                  show (⟨((#[c] ++ (Str.ofString "(").cps) ++ (wrs _).toArray) ++ (Str.ofString ")").cps⟩ : Str) = ⟨(c :: brk (wrs _)).toArray⟩
                  rw [e1, e3, brk_wrs]
                  simp
          · rintro σ2 H2 ⟨y3, y4, y6, y7, rfl, hF3, hrow3, hs3⟩
            refine ⟨_, rfl, _, rfl, a, _, 0, _, rfl, rfl, SqT.of (hs3 _ _ h1), atI_nat (j := 0) rfl, _, rfl, F, rfl, ⟨_, SqL.of hF3⟩, fun D2 hD2 => ?_⟩
            have hD20 := hs3.free hD2
            refine lc_list (xs := fs.map (·.1)) (fun i H3 => ∃ ys, H3 D2 = some (.lst ys) ∧ TrsAt (fun b => H b = none ∧ b ≠ D2) H3 ys ((fs.take i).map (·.2)) ∧ Same H2 H3) ⟨[], upd_same, .nil, same_new hD2⟩ (fun i H3 _ ⟨_, _, _, s⟩ => SqL.of (s _ _ hF3)) ?_ ?_
            · rintro i x H3 hx ⟨ys, g5, g6, g7⟩
              rw [List.getElem?_map] at hx
              cases hc : fs[i]? with
              | none => rw [hc] at hx; cases hx
              | some b =>
                rw [hc] at hx
                cases hx
                obtain ⟨p, y, ep, j1, j2, j3⟩ := (hrow3 b (List.mem_of_getElem? hc)).there
                obtain ⟨bv, bt⟩ := b
                cases ep
                have ll := g6.len
                rw [List.length_map, List.length_take] at ll
                refine ⟨rfl, _, rfl, p, _, 1, _, rfl, rfl, SqL.of (g7 _ _ j1), atI_nat (j := 1) rfl, ys, g5, ?_, ys ++ [y], upd_same, ?_, same_add g7 hD2⟩
                · exact Nat.lt_of_le_of_lt (show _ ≤ 1000000 by omega) (by decide)
                · rw [take_succ_of hc, List.map_append]
                  have jj := (j3.same g7).weak (ok' := fun b => H b = none ∧ b ≠ D2) fun b ⟨h, o, eo⟩ => ⟨h.1, ne_of_none eo hD2⟩
                  exact (g6.append (.cons jj .nil)).keep (upd_keep fun b h => h.2)
            · rintro H3 ⟨ys, g5, g6, g7⟩
              rw [List.length_map, List.take_length] at g6
              have hs4 := hs3.trans g7
              refine ⟨(by show 2 ≤ sizeLine; decide), fun p hp => ⟨(by show 2 ≤ sizeLine; decide), fun rr hrr => ?_⟩⟩
              have npr : p ≠ rr := fun e => by rw [← e, upd_same] at hrr; cases hrr
              have hrr1 : H3 rr = none := by rw [upd_ne (fun e => npr e.symm)] at hrr; exact hrr
              refine q (.ref rr) _ (same_add (same_add hs4 (hs4.free hp)) (hs4.free hrr1)) ⟨rr, .ref p, rfl, by rw [upd_same, htold], hs4.free hrr1, ?_⟩
              rw [htold]
              refine .node (by rw [upd_ne npr]; exact upd_same) (by rw [upd_ne (ne_of_none g5 hrr1), upd_ne (ne_of_none g5 hp)]; exact g5) (hs4.free hp) hD20 c1 c2 ?_
              exact ((g6.same (same_new hp)).same (same_new hrr)).weak fun b h => h.1
        · rw [decide_eq_false hu]
          refine iteT ?_
          refine ⟨fun σ2 H2 => ∃ (ls2 fs : List (V × Tr)) (y3 y4 y5 y6 y7 : Option V), σ2 = [some (.ref a), some (.ref D), some (.ref F), y3, y4, y5, y6, y7] ∧ H2 D = some (.lst (ls2.map (·.1))) ∧ H2 F = some (.lst (fs.map (·.1))) ∧ (∀ b ∈ fs ++ ls2, RowF (fun b => H b = none ∧ b ≠ D ∧ b ≠ F) H2 b) ∧
            ((fs ++ ls2).map (·.2)).Perm (tolds ks) ∧ (fs.map (·.2)).Pairwise (fun x y => leW x y = true) ∧ (∀ x ∈ fs, ∀ y ∈ ls2, leW x.2 y.2 = true) ∧ ls2.length < ls.length ∧ Same H H2,
            fun σ2 H2 ⟨ls2, fs, y3, y4, y5, y6, y7, e1, e2, e3, e4, e5, e6, e7, e8, e9⟩ => ⟨ls2.length, e8, ls2, fs, y3, y4, y5, y6, y7, e1, e2, e3, e4, e5, e6, e7, rfl, e9⟩, ?_⟩
          refine ⟨_, rfl, D, _, rfl, .inl (SqL.of hL2), ls.length, by rw [List.length_map], by omega, by omega, for_range (lo := 0) (n := ((ls.length : Nat) : Int).toNat) (fun i σ H2 => ∃ (j : Nat) (y4 y5 y6 y7 : Option V), σ = [some (.ref a), some (.ref D), some (.ref F), some (.int (j : Int)), y4, y5, y6, y7] ∧ j < ls.length ∧ (∀ i2 b bj, i2 < i → ls[i2]? = some b → ls[j]? = some bj → leW bj.2 b.2 = true) ∧ H2 = upd H' e (.lst []))
            ⟨0, _, _, _, _, rfl, by omega, (fun i2 _ _ h => absurd h (Nat.not_lt_zero _)), rfl⟩ ?_ ?_⟩
          · rintro i σ H2 hi ⟨j, y4, y5, y6, y7, rfl, hj, hmin, rfl⟩
            have hi2 : i < ls.length := by omega
            obtain ⟨pi, xi, ei, g1i, _, _⟩ := hrow2 ls[i] (List.mem_append_right _ (List.getElem_mem hi2))
            obtain ⟨pj, xj, ej, g1j, _, _⟩ := hrow2 ls[j] (List.mem_append_right _ (List.getElem_mem hj))
            refine ⟨_, rfl, _, rfl, D, _, _, ls[i].1, rfl, rfl, SqL.of hL2, at_of (j := i) (by omega) (by rw [List.getElem?_map, List.getElem?_eq_getElem hi2]; rfl), pi, _, 0, _, ei, rfl, SqL.of g1i, atI_nat (j := 0) rfl, ?_⟩
            refine ⟨_, rfl, _, rfl, D, _, _, ls[j].1, rfl, rfl, SqL.of hL2, at_of (j := j) (by omega) (by rw [List.getElem?_map, List.getElem?_eq_getElem hj]; rfl), pj, _, 0, _, ej, rfl, SqL.of g1j, atI_nat (j := 0) rfl, ?_⟩
            refine ⟨_, _, rfl, rfl, _, rfl, ?_⟩
            refine ite2 (fun c => ?_) (fun c => ?_)
            · have c' : ls[i].2.wr < ls[j].2.wr := of_decide_eq_true c
              refine ⟨_, rfl, i, _, _, _, _, by rw [Int.zero_add]; rfl, hi2, ?_, rfl⟩
              intro i2 b bi h1 h2 h3
              rw [List.getElem?_eq_getElem hi2] at h3
              cases h3
              by_cases h4 : i2 = i
              · subst h4
                rw [List.getElem?_eq_getElem hi2] at h2
                cases h2
                exact decide_eq_true (List.le_refl _)
              · exact leW_trans _ _ _ (decide_eq_true (List.le_of_lt c')) (hmin i2 b ls[j] (by omega) h2 (List.getElem?_eq_getElem hj))
            · have c' : ¬ ls[i].2.wr < ls[j].2.wr := fun h => c (decide_eq_true h)
              refine ⟨j, _, _, _, _, rfl, hj, ?_, rfl⟩
              intro i2 b bi h1 h2 h3
              by_cases h4 : i2 = i
              · subst h4
                rw [List.getElem?_eq_getElem hi2] at h2
                rw [List.getElem?_eq_getElem hj] at h3
                cases h2
                cases h3
                exact decide_eq_true (List.not_lt.mp c')
              · exact hmin i2 b bi (by omega) h2 h3
          · rintro σ H2 ⟨j, y4, y5, y6, y7, rfl, hj, hmin, rfl⟩
            have hj2 : j < (ls.map (·.1)).length := by rw [List.length_map]; exact hj
            refine ⟨_, rfl, .inl ⟨rfl, _, SqL.of hF2⟩, _, rfl, .inl ⟨rfl, _, SqL.of hL2⟩, _, rfl, D, _, j, j, ls[j].1, rfl, rfl, hL2, by omega, by omega, PySem.seqIndex_of (by omega) (by omega) |>.trans (by simp), by rw [List.getElem?_map, List.getElem?_eq_getElem hj]; rfl, ?_⟩
            have hF3 : (upd (upd H' e (.lst [])) D (.lst ((ls.map (·.1)).eraseIdx j))) F = some (.lst (fs.map (·.1))) := by rw [upd_ne (fun e => nDF e.symm)]; exact hF2
            refine ⟨F, _, ls[j].1, rfl, rfl, hF3, ?_, ?_⟩
            · rw [List.length_map]
              exact Nat.lt_of_le_of_lt (show fs.length ≤ 1000000 by omega) (by decide)
            have pe : ls.Perm (ls[j] :: ls.eraseIdx j) := erase_perm ls j hj
            have pf : (fs ++ ls).Perm ((fs ++ [ls[j]]) ++ ls.eraseIdx j) := by
              rw [List.append_assoc, List.singleton_append]
              exact pe.append_left fs
            refine ⟨ls.eraseIdx j, fs ++ [ls[j]], _, _, _, _, _, rfl, ?_, ?_, ?_, ?_, ?_, ?_, ?_, ?_⟩
            · rw [upd_ne nDF, upd_same, map_erase]
            · rw [upd_same, List.map_append]
              rfl
            · intro b hb
              exact (hrow2 b (pf.mem_iff.mpr hb)).imp (fun _ h => h) fun b o h e => by rw [upd_ne h.2.2, upd_ne h.2.1]; exact e
            · exact (pf.map _).symm.trans hperm
            · rw [List.map_append, List.pairwise_append]
              refine ⟨hpair, by simp, fun x hx y hy => ?_⟩
              obtain ⟨b, hb, rfl⟩ := List.mem_map.mp hx
              simp only [List.map_cons, List.map_nil, List.mem_singleton] at hy
              subst hy
              exact hle b hb _ (List.getElem_mem hj)
            · intro x hx y hy
              have hy2 := pe.mem_iff.mpr (List.mem_cons_of_mem _ hy)
              rcases List.mem_append.mp hx with hx | hx
              · exact hle x hx y hy2
              · simp only [List.mem_singleton] at hx
                subst hx
                obtain ⟨i2, hi2⟩ := List.getElem?_of_mem hy2
                exact hmin i2 y _ (by have := (List.getElem?_eq_some_iff.mp hi2).1; omega) hi2 (List.getElem?_eq_getElem hj)
            · rw [List.length_eraseIdx_of_lt hj]
              omega
            · intro b o h
              have n1 : b ≠ D := ne_of_none h hD
              have n2 : b ≠ F := ne_of_none h hF0
              rw [upd_ne n2, upd_ne n1]
              exact hs2 b o h
end

theorem lc_zip {K : PySem.W.Frag} {a b : Addr} {xs ys : List V} {Bd : V → Hp → (Hp → Prop) → Prop} {Qd : Hp → Prop} {H0 : Hp} (hlen : xs.length = ys.length) (Pv : Nat → Hp → Prop) (h0 : Pv 0 H0) (hl : ∀ i H, i ≤ xs.length → Pv i H → SqL K H a xs ∧ SqL K H b ys)
    (hs : ∀ i x y T H, xs[i]? = some x → ys[i]? = some y → Pv i H → H T = none → Bd (.ref T) (upd H T (.tup [x, y])) (Pv (i + 1))) (hd : ∀ H, Pv xs.length H → Qd H) :
    ∃ W : Nat → Nat → Hp → Prop, (∃ m, W 0 m H0) ∧ ∀ i m H, W i m H → ((Itz K a b).stop i H ∧ Qd H) ∨ ((Itz K a b).go i H ∧ ∃ Nx : Hp → Prop, (∀ H', Nx H' → ∃ m', m' < m ∧ W (i + 1) m' H') ∧ ∀ x H', (Itz K a b).yld i H x H' → Bd x H' Nx) := by
  refine ⟨fun i m H => m = xs.length - i ∧ i ≤ xs.length ∧ Pv i H, ⟨xs.length, by simp, Nat.zero_le _, h0⟩, ?_⟩
  rintro i m H ⟨rfl, hi, p⟩
  obtain ⟨q1, q2⟩ := hl i H hi p
  by_cases hlt : i < xs.length
  · have hlt2 : i < ys.length := by omega
    refine .inr ⟨⟨xs, ys, xs[i], ys[i], q1, q2, by simp [hlt], by simp [hlt2]⟩, Pv (i + 1), fun H' p' => ⟨xs.length - (i + 1), by omega, rfl, hlt, p'⟩, fun x H' y => ?_⟩
    obtain ⟨T, x1, y1, rfl, hT, rfl, g1, g2⟩ := y
    exact hs i x1 y1 T H (g1 xs q1) (g2 ys q2) p hT
  · have e : i = xs.length := by omega
    subst e
    exact .inl ⟨⟨xs, ys, q1, q2, .inl (Nat.le_refl _)⟩, hd H p⟩

section
variable {P : Program} {w : World} {K : PySem.W.Frag} {mg : Str → Option Value} {base : Heap}
def sp__law_same (d : Nat) : Sp := fun vs H Q _ => ∃ (v u : V) (t : Tr), vs = [v, u] ∧ TrAt (fun _ => True) H v t ∧ TrAt (fun _ => True) H u t ∧ t.depth ≤ d ∧ t.size ≤ 100000 ∧ ∀ H', Same H H' → Q (.bl true) H'
theorem ok__law_same (T : Txt K mg) : ∀ d : Nat, FnOk P w K mg base CX0 d T.f__law_same T.d__law_same ["one", "other"] (sp__law_same d)
  | 0 => none_of fun vs H Q E ⟨v, u, t, _, _, _, h, _⟩ => by have := depth_pos t; omega
  | d + 1 => by
    have G__law_same : FnOk P w K mg base CX0 d T.f__law_same T.d__law_same ["one", "other"] (sp__law_same d) := ok__law_same T d
    refine T.F__law_same.ok sc__law_same (fun vs H Q E h => ?_) (fun cdv A outer s H vs Q E hr h => ?_)
    · obtain ⟨v, u, t, rfl, _⟩ := h
      rfl
    obtain ⟨v, u, t, rfl, ht, hu, hd, hz, q⟩ := h
    refine ⟨_, (pss_cons (ps_if (PW.pt (pw_or (pt_not (pt_val (pe_callB call_isi (by rfl) T.z_isinstance (by decide +kernel) (pa_cons (pv 0) (pa_cons (pe_bltn (v := .ty "tuple") (by rfl) T.z_tuple (by decide +kernel) rfl) pa_nil))))) (pw_or (pt_cmpR op_ne (pe_callB call_len_seq (by rfl) T.z_len PySem.boot_len (pa_cons (pv 0) pa_nil)) pe_int (nomark _)) (pw_or (pt_not (pt_val (pe_callB call_isi (by rfl) T.z_isinstance (by decide +kernel) (pa_cons (pe_ix ix_tup (pv 0) pe_int (fun _ _ => rfl)) (pa_cons (pe_bltn (v := .ty "str") (by rfl) T.z_str (by decide +kernel) rfl) pa_nil))))) (pw_or1 (pt_not (pt_val (pe_callB call_isi (by rfl) T.z_isinstance (by decide +kernel) (pa_cons (pe_ix ix_tup (pv 0) pe_int (fun _ _ => rfl)) (pa_cons (pe_bltn (v := .ty "list") (by rfl) T.z_list (by decide +kernel) rfl) pa_nil)))))))))) (pss_one (ps_ret pe_bl)) pss_nil) (pss_cons (ps_if (PW.pt (pw_or (pt_cmpR op_ne (pe_ix ix_tup (pv 0) pe_int (fun _ _ => rfl)) (pe_ix ix_tup (pv 1) pe_int (fun _ _ => rfl)) (nomark _)) (pw_or1 (pt_cmpR op_ne (pe_callB call_len_seq (by rfl) T.z_len PySem.boot_len (pa_cons (pe_ix ix_tup (pv 0) pe_int (fun _ _ => rfl)) pa_nil)) (pe_callB call_len_seq (by rfl) T.z_len PySem.boot_len (pa_cons (pe_ix ix_tup (pv 1) pe_int (fun _ _ => rfl)) pa_nil)) (nomark _))))) (pss_one (ps_ret pe_bl)) pss_nil) (pss_one (ps_ret (pe_cmpR (op_eqD hr.units) (pe_lc (own := [("a", 2), ("b", 3)]) (g := gTup K 2 (gCons (gName 2) (gCons (gName 3) gNil))) rfl sc__law_same.nd (pi_zip (by rfl) T.z_zip (pa_cons (pe_ix ix_tup (pv 0) pe_int (fun _ _ => rfl)) (pa_cons (pe_ix ix_tup (pv 1) pe_int (fun _ _ => rfl)) pa_nil))) (blkOk_by (own := [("a", 2), ("b", 3)]) (N := ["one", "other", "a", "b"]) (sc := (defScope s__law_same)) (by decide +kernel)) (fun _ _ _ _ _ => (pg_tup rfl (pgs_cons (pg_name (i := 2) sc__law_same.nd rfl (Or.inl rfl)) (pgs_cons (pg_name (i := 3) sc__law_same.nd rfl (Or.inl rfl)) pgs_nil)))) (fun _ _ _ _ _ => pts_one (pt_not (pt_val (pe_call G__law_same (hr.mono (by omega)) (by rfl) T.m__law_same T.F__law_same.kp T.b__law_same .nil pass0 (pa_cons (pv 2) (pa_cons (pv 3) pa_nil)))))) (fun _ _ _ _ _ => pe_int)) (pe_lst pa_nil) (nomark _)))))), ?_⟩
    obtain ⟨c, ks⟩ := t
    simp only [Tr.depth] at hd
    simp only [Tr.size] at hz
    have lz := len_sizes ks
    cases ht with
    | node h1 h2 k1 k2 c1 c2 r =>
    cases hu with
    | node h1' h2' k1' k2' c1' c2' r' =>
    rename_i a l xs a' l' xs'
    have lr := r.len
    have lr' := r'.len
    refine ⟨_, rfl, _, _, _, _, true, rfl, .ty "tuple", .base (.tup h1), kit_ty (by decide +kernel), _, rfl, iteF ?_⟩
    refine ⟨_, rfl, _, _, rfl, .inr (SqT.of h1), rfl, _, rfl, iteF ?_⟩
    refine ⟨_, rfl, _, _, 0, _, rfl, rfl, SqT.of h1, atI_nat (j := 0) rfl, _, _, _, _, true, rfl, .ty "str", .base (.str _), kit_ty (by decide +kernel), _, rfl, iteF ?_⟩
    refine ⟨_, rfl, _, _, 1, _, rfl, rfl, SqT.of h1, atI_nat (j := 1) rfl, _, _, _, _, true, rfl, .ty "list", .base (.lst h2), kit_ty (by decide +kernel), _, rfl, iteF ?_⟩
    refine ⟨_, rfl, _, _, 0, _, rfl, rfl, SqT.of h1, atI_nat (j := 0) rfl, _, rfl, _, _, 0, _, rfl, rfl, SqT.of h1', atI_nat (j := 0) rfl, rfl, _, rfl, ?_⟩
    rw [decide_eq_true rfl]
    refine iteF ?_
    refine ⟨_, rfl, _, _, 1, _, rfl, rfl, SqT.of h1, atI_nat (j := 1) rfl, l, _, rfl, .inl (SqL.of h2), _, rfl, _, _, 1, _, rfl, rfl, SqT.of h1', atI_nat (j := 1) rfl, l', _, rfl, .inl (SqL.of h2'), rfl, _, rfl, ?_⟩
    rw [lr, lr', decide_eq_true rfl]
    refine iteF ?_
    refine ⟨_, rfl, _, _, 1, _, rfl, rfl, SqT.of h1, atI_nat (j := 1) rfl, _, rfl, _, _, 1, _, rfl, rfl, SqT.of h1', atI_nat (j := 1) rfl, l, l', _, _, rfl, SqL.of h2, SqL.of h2', fun D hD => ?_⟩
    refine lc_zip (xs := xs) (ys := xs') (by rw [lr, lr']) (fun i H2 => H2 D = some (.lst []) ∧ Same H H2) ⟨upd_same, same_new hD⟩ (fun i H2 _ ⟨_, s⟩ => ⟨SqL.of (s _ _ h2), SqL.of (s _ _ h2')⟩) ?_ ?_
    · rintro i x y Tt H2 hx hy ⟨g1, g2⟩ hT
      obtain ⟨t1, e1, hx2⟩ := r.getV hx
      obtain ⟨t2, e2, hy2⟩ := r'.getV hy
      rw [e1] at e2
      cases e2
      have dt := depths_mem (List.mem_of_getElem? e1)
      have st := sizes_mem (List.mem_of_getElem? e1)
      have g3 : Same H (upd H2 Tt (.tup [x, y])) := same_add g2 (g2.free hT)
      refine ⟨_, _, rfl, SqT.of upd_same, rfl, _, _, rfl, _, _, rfl, rfl, rfl, _, rfl, _, rfl, x, y, t1, rfl, hx2.same g3, hy2.same g3, by omega, by omega, fun H3 s3 => ?_⟩
      exact ⟨_, rfl, iteF ⟨s3 _ _ (by rw [upd_ne (ne_of_none g1 hT)]; exact g1), g3.trans s3⟩⟩
    · rintro H2 ⟨g1, g2⟩
      refine ⟨(by show 0 ≤ sizeLine; decide), fun e he => ⟨_, _, dp_nil (by rw [upd_ne (ne_of_none g1 he)]; exact g1), dp_nil upd_same, shaped_nil, shaped_nil, ?_⟩⟩
      rw [eqv_nil]
      exact q _ (same_add g2 (g2.free he))
end
mutual
def Tr.mdat : Tr → Int → PyData
  | .node c ks, n => .tuple [.str (ch c), .list (mdats ks n ++ [.int (n + sizes ks)])]
def mdats : List Tr → Int → List PyData
  | [], _ => []
  | t :: r, n => t.mdat n :: mdats r (n + t.size)
end
mutual
inductive MAt (H : Hp) : V → Tr → Int → List Addr → Prop
  | node {a l : Addr} {vs : List V} {c : Nat} {ks : List Tr} {n : Int} {as : List Addr} : H a = some (.tup [.str (ch c), .ref l]) → H l = some (.lst (vs ++ [.int (n + sizes ks)])) → c ≤ 122 → MsAt H vs ks n as → MAt H (.ref a) (.node c ks) n (l :: as)
inductive MsAt (H : Hp) : List V → List Tr → Int → List Addr → Prop
  | nil {n : Int} : MsAt H [] [] n []
  | cons {v : V} {vs : List V} {t : Tr} {ts : List Tr} {n : Int} {as bs : List Addr} : MAt H v t n as → MsAt H vs ts (n + t.size) bs → MsAt H (v :: vs) (t :: ts) n (as ++ bs)
end
section
variable {H H' : Hp} {K : PySem.W.Frag}
mutual
theorem MAt.keep : ∀ (t : Tr) (v : V) (n : Int) (as : List Addr), MAt H v t n as → (∀ b o, (b ∈ as ∨ ∃ xs, o = .tup xs) → H b = some o → H' b = some o) → MAt H' v t n as
  | .node c ks, v, n, as, x, h => by
    cases x with
    | node h1 h2 c2 r => exact .node (h _ _ (.inr ⟨_, rfl⟩) h1) (h _ _ (.inl List.mem_cons_self) h2) c2 (MsAt.keep ks _ _ _ r fun b o hb e => h b o (hb.imp (List.mem_cons_of_mem _) id) e)
theorem MsAt.keep : ∀ (ts : List Tr) (vs : List V) (n : Int) (as : List Addr), MsAt H vs ts n as → (∀ b o, (b ∈ as ∨ ∃ xs, o = .tup xs) → H b = some o → H' b = some o) → MsAt H' vs ts n as
  | [], _, _, _, x, _ => by cases x; exact .nil
  | t :: r, _, _, _, x, h => by
    cases x with
    | cons a b => exact .cons (MAt.keep t _ _ _ a fun b o hb e => h b o (hb.imp (List.mem_append_left _) id) e) (MsAt.keep r _ _ _ b fun b o hb e => h b o (hb.imp (List.mem_append_right _) id) e)
end
theorem MsAt.snoc : ∀ {vs : List V} {ts : List Tr} {n : Int} {as bs : List Addr} {v : V} {t : Tr}, MsAt H vs ts n as → MAt H v t (n + sizes ts) bs → MsAt H (vs ++ [v]) (ts ++ [t]) n (as ++ bs)
  | _, _, n, _, bs, v, t, .nil, y => by
    have := MsAt.cons (n := n) (vs := []) (ts := []) (bs := []) (by simpa [sizes] using y) .nil
    simpa using this
  | _, _, n, _, bs, v, t, .cons (t := t1) (ts := ts1) a b, y => by
    rw [List.append_assoc]
    refine .cons a (MsAt.snoc b ?_)
    have e : n + (t1.size : Int) + (sizes ts1 : Int) = n + (sizes (t1 :: ts1) : Nat) := by simp only [sizes]; omega
    rw [e]
    exact y
mutual
theorem MAt.dp : ∀ (t : Tr) (v : V) (n : Int) (as : List Addr), MAt H v t n as → Dp K H v (t.mdat n)
  | .node c ks, v, n, _, x => by
    cases x with
    | node h1 h2 c2 r =>
      simp only [Tr.mdat]
      exact .tup (SqT.of h1) (.cons (.str _) (.cons (.lst (SqL.of h2) (MsAt.dp ks _ n _ r _)) .nil))
theorem MsAt.dp : ∀ (ts : List Tr) (vs : List V) (n : Int) (as : List Addr), MsAt H vs ts n as → ∀ m : Int, DpAll K H (vs ++ [.int m]) (mdats ts n ++ [.int m])
  | [], _, _, _, x, m => by cases x; exact .cons (.int m) .nil
  | t :: r, _, n, _, x, m => by
    cases x with
    | cons a b => exact .cons (MAt.dp t _ n _ a) (MsAt.dp r _ _ _ b m)
end
mutual
theorem MAt.lay : ∀ (t : Tr) (v : V) (n : Int) (as : List Addr), MAt H v t n as → (t.mdat n).canLay0 = true
  | .node c ks, v, n, _, x => by
    cases x with
    | node h1 h2 c2 r => simp only [Tr.mdat, PyData.canLay0, PyData.canLayAll0, strOk_ch c2, MsAt.lay ks _ n _ r _, Bool.and_self]
theorem MsAt.lay : ∀ (ts : List Tr) (vs : List V) (n : Int) (as : List Addr), MsAt H vs ts n as → ∀ m : Int, PyData.canLayAll0 (mdats ts n ++ [.int m]) = true
  | [], _, _, _, _, m => by simp only [mdats, List.nil_append, PyData.canLayAll0, PyData.canLay0, Bool.and_self]
  | t :: r, _, n, _, x, m => by
    cases x with
    | cons a b => simp only [mdats, List.cons_append, PyData.canLayAll0, MAt.lay t _ n _ a, MsAt.lay r _ _ _ b m, Bool.and_self]
end
end
mutual
theorem mdat_depth : ∀ (t : Tr) (n : Int), (t.mdat n).depth ≤ 2 * t.depth
  | .node c ks, n => by
    have := mdats_depth ks n (n + sizes ks)
    simp only [Tr.mdat, PyData.depth, PyData.depthAll, Tr.depth]
    omega
theorem mdats_depth : ∀ (ts : List Tr) (n m : Int), PyData.depthAll (mdats ts n ++ [.int m]) ≤ 2 * depths ts
  | [], n, m => by simp only [mdats, List.nil_append, PyData.depthAll, PyData.depth, depths]; omega
  | t :: r, n, m => by
    have a := mdat_depth t n
    have b := mdats_depth r (n + t.size) m
    simp only [mdats, List.cons_append, PyData.depthAll, depths]
    omega
end
theorem shaped_m {H : Hp} {v : V} {t : Tr} {n : Int} {as : List Addr} (x : MAt H v t n as) (h : t.depth ≤ 31) : SeqAt.shaped (t.mdat n) = true := by
  unfold SeqAt.shaped
  rw [Bool.and_eq_true]
  exact ⟨MAt.lay t v n as x, decide_eq_true (by have := mdat_depth t n; omega)⟩
section
variable {ok : Addr → Prop} {H : Hp} {S : List Addr}
mutual
theorem TrO.notin : ∀ (t : Tr) (v : V) (as : List Addr), TrO ok H v t as → (∀ b ∈ as, b ∉ S) → (∀ b ∈ S, ∃ xs, H b = some (.lst xs)) → TrO (fun b => ok b ∧ b ∉ S) H v t as
  | .node c ks, v, as, x, h, hS => by
    cases x with
    | node h1 h2 k1 k2 c1 c2 r =>
      exact .node h1 h2 ⟨k1, fun hm => by obtain ⟨xs, e⟩ := hS _ hm; rw [h1] at e; cases e⟩ ⟨k2, h _ List.mem_cons_self⟩ c1 c2 (TrsO.notin ks _ _ r (fun b hb => h b (List.mem_cons_of_mem _ hb)) hS)
theorem TrsO.notin : ∀ (ts : List Tr) (vs : List V) (as : List Addr), TrsO ok H vs ts as → (∀ b ∈ as, b ∉ S) → (∀ b ∈ S, ∃ xs, H b = some (.lst xs)) → TrsO (fun b => ok b ∧ b ∉ S) H vs ts as
  | [], _, _, x, _, _ => by cases x; exact .nil
  | t :: r, _, _, x, h, hS => by
    cases x with
    | cons a b => exact .cons (TrO.notin t _ _ a (fun b hb => h b (List.mem_append_left _ hb)) hS) (TrsO.notin r _ _ b (fun b hb => h b (List.mem_append_right _ hb)) hS)
end
end
section
variable {P : Program} {w : World} {K : PySem.W.Frag} {mg : Str → Option Value} {base : Heap}
def sp__law_marked (d : Nat) : Sp := fun vs H Q _ => ∃ (v : V) (m : Addr) (t : Tr) (n : Int) (as : List Addr) (ok : Addr → Prop), vs = [v, .ref m] ∧ TrO ok H v t as ∧ as.Nodup ∧ (∀ b, ok b → b ≠ m) ∧ H m = some (.lst [.int n]) ∧ t.depth ≤ d ∧ t.size ≤ 100000 ∧
  ∀ H', MAt H' v t n as → H' m = some (.lst [.int (n + t.size)]) → (∀ b o, b ∉ as → b ≠ m → H b = some o → H' b = some o) → Q .non H'
theorem ok__law_marked (T : Txt K mg) : ∀ d : Nat, FnOk P w K mg base CX0 d T.f__law_marked T.d__law_marked ["tree", "marks"] (sp__law_marked d)
  | 0 => none_of fun vs H Q E ⟨v, m, t, n, as, ok, _, _, _, _, _, h, _⟩ => by have := depth_pos t; omega
  | d + 1 => by
    have G__law_marked : FnOk P w K mg base CX0 d T.f__law_marked T.d__law_marked ["tree", "marks"] (sp__law_marked d) := ok__law_marked T d
    refine T.F__law_marked.ok sc__law_marked (fun vs H Q E h => ?_) (fun cdv A outer s H vs Q E hr h => ?_)
    · obtain ⟨v, m, t, n, as, ok, rfl, _⟩ := h
      rfl
    obtain ⟨v, m, t, n, as, ok, rfl, ht, hnd, hok, hm, hd, hz, q⟩ := h
    refine ⟨_, (pss_cons (ps_for PassesOwn.never rfl (pi_list (pe_callTy call_list_of (by rfl) T.z_list (by decide +kernel) (pa_cons (pe_ix ix_tup (pv 0) pe_int (fun _ _ => rfl)) pa_nil))) (pg_name (i := 2) sc__law_marked.nd rfl (Or.inl rfl)) (pss_one (ps_expr (pe_call G__law_marked (hr.mono (by omega)) (by rfl) T.m__law_marked T.F__law_marked.kp T.b__law_marked .nil pass0 (pa_cons (pv 2) (pa_cons (pv 1) pa_nil)))))) (pss_cons (ps_expr (pe_bm PySem.F.plainAttrs_list PySem.F.slot_list_append PySem.F.type_list_append mt_append (pe_ix ix_tup (pv 0) pe_int (fun _ _ => rfl)) (pa_cons (pe_ix ix_list (pv 1) pe_int (fun _ _ => rfl)) pa_nil))) (pss_one (ps_asg (pe_op op_add (pe_ix ix_list (pv 1) pe_int (fun _ _ => rfl)) pe_int) (pg_sub (pv 1) pe_int set_list))))), ?_⟩
    obtain ⟨c, ks⟩ := t
    simp only [Tr.depth] at hd
    simp only [Tr.size] at hz
    have lz := len_sizes ks
    cases ht with
    | node h1 h2 k1 k2 c1 c2 r =>
    rename_i a l xs as
    have lr := r.len
    rw [List.nodup_cons] at hnd
    have nlm : l ≠ m := hok l k2
    refine ⟨_, rfl, _, _, 1, _, rfl, rfl, SqT.of h1, atI_nat (j := 1) rfl, l, xs, rfl, .inl (SqL.of h2), fun L hL => ?_⟩
    obtain ⟨cs, rfl, rfl, rfl, hcs⟩ := r.split1
    have hz' : sizes (cs.map (·.2.1)) ≤ 100000 := by omega
    rw [List.length_map] at lz
    have hlst : ∀ b ∈ lsts cs, ok b ∧ ∃ xs, H b = some (.lst xs) := TrsO.lst _ _ _ r
    have nLl : l ≠ L := ne_of_none h2 hL
    have nLm : m ≠ L := ne_of_none hm hL
    have k0 : ∀ b o, H b = some o → (upd H L (.lst (cs.map (·.1)))) b = some o := fun b o h => by rw [upd_ne (ne_of_none h hL)]; exact h
    refine ⟨L, rfl, ⟨_, SqL.of upd_same⟩, for_list (xs := cs.map (·.1)) (fun i σ H2 => ∃ y2, σ = [some (.ref a), some (.ref m), y2] ∧ H2 m = some (.lst [.int (n + sizes ((cs.take i).map (·.2.1)))]) ∧ MsAt H2 ((cs.take i).map (·.1)) ((cs.take i).map (·.2.1)) n (lsts (cs.take i)) ∧
        (∀ b o, b ∉ lsts (cs.take i) → b ≠ m → H b = some o → H2 b = some o) ∧ H2 L = some (.lst (cs.map (·.1))))
      ⟨_, rfl, by rw [k0 _ _ hm]; simp [sizes], .nil, fun b o _ _ h => k0 b o h, upd_same⟩ (fun i σ H2 _ ⟨_, _, _, _, _, h⟩ => SqL.of h) ?_ ?_⟩
    · rintro i x σ H2 hx ⟨y2, rfl, g1, g2, g3, g4⟩
      rw [List.getElem?_map] at hx
      cases hc : cs[i]? with
      | none => rw [hc] at hx; cases hx
      | some b =>
        rw [hc] at hx
        cases hx
        obtain ⟨v1, t1, a1⟩ := b
        have hmem := List.mem_of_getElem? hc
        have hO := hcs _ hmem
        have dt : t1.depth ≤ _ := depths_mem (List.mem_map_of_mem (f := fun b : V × Tr × List Addr => b.2.1) hmem)
        have st : t1.size ≤ _ := sizes_mem (List.mem_map_of_mem (f := fun b : V × Tr × List Addr => b.2.1) hmem)
        have ecs : lsts cs = lsts (cs.take i) ++ (a1 ++ lsts (cs.drop (i + 1))) := by
          have e1 : cs = cs.take i ++ (v1, t1, a1) :: cs.drop (i + 1) := by
            obtain ⟨hlt, e⟩ := List.getElem?_eq_some_iff.mp hc
            rw [← e, ← List.drop_eq_getElem_cons hlt, List.take_append_drop]
          have e2 : lsts (cs.take i ++ (v1, t1, a1) :: cs.drop (i + 1)) = lsts (cs.take i) ++ (a1 ++ lsts (cs.drop (i + 1))) := by simp [lsts]
          rw [← e2, ← e1]
        have hnd2 := hnd.2
        rw [show (cs.map (·.2.2)).flatten = lsts cs from rfl, ecs, List.nodup_append] at hnd2
        obtain ⟨n1, n2, n3⟩ := hnd2
        rw [List.nodup_append] at n2
        have dis : ∀ b ∈ a1, b ∉ lsts (cs.take i) := fun b h1 h2 => n3 b h2 b (List.mem_append_left _ h1) rfl
        have sub1 : ∀ b ∈ lsts (cs.take i), b ∈ lsts cs := fun b h => by rw [ecs]; exact List.mem_append_left _ h
        have hO2 : TrO (fun b => ok b ∧ b ∉ lsts (cs.take i)) H2 v1 t1 a1 := (TrO.notin (S := lsts (cs.take i)) _ _ _ hO dis fun b h => (hlst b (sub1 b h)).2).keep fun b o h e => g3 b o h.2 (hok b h.1) e
        have hlen := congrArg List.length (show (cs.take i).map (·.1) = (cs.take i).map (·.1) from rfl)
        refine ⟨_, rfl, _, rfl, v1, m, t1, _, a1, _, rfl, hO2, n2.1, fun b h => hok b h.1, g1, by omega, by omega, fun H3 m1 m2 m3 => ?_⟩
        refine ⟨_, rfl, ?_, ?_, ?_, ?_⟩
        · rw [m2, take_succ_of hc, List.map_append, sizes_append]
          simp only [List.map_cons, List.map_nil, sizes]
          refine congrArg (fun z => some (HO.lst [V.int z])) ?_
          omega
        · rw [take_succ_of hc, List.map_append, List.map_append]
          have e2 : lsts (cs.take i ++ [(v1, t1, a1)]) = lsts (cs.take i) ++ a1 := by simp [lsts]
          rw [e2]
          refine (MsAt.keep _ _ _ _ g2 fun b o h e => ?_).snoc m1
          rcases h with h | ⟨xs, rfl⟩
          · exact m3 b o (fun h2 => dis b h2 h) (hok b (hlst b (sub1 b h)).1) e
          · refine m3 b _ (fun h2 => ?_) (fun e2 => by rw [e2, g1] at e; cases e) e
            obtain ⟨_, xs2, e3⟩ := TrO.lst _ _ _ hO2 b h2
            rw [e3] at e
            cases e
        · intro b o hb hbm e
          have e2 : lsts (cs.take (i + 1)) = lsts (cs.take i) ++ a1 := by rw [take_succ_of hc]; simp [lsts]
          rw [e2] at hb
          exact m3 b o (fun h => hb (List.mem_append_right _ h)) hbm (g3 b o (fun h => hb (List.mem_append_left _ h)) hbm e)
        · refine m3 L _ (fun h => ?_) (fun e => nLm e.symm) g4
          obtain ⟨_, xs2, e3⟩ := TrO.lst _ _ _ hO L h
          rw [hL] at e3
          cases e3
    · rintro σ H2 ⟨y2, rfl, g1, g2, g3, g4⟩
      rw [List.length_map, List.take_length] at g1 g2 g3
      have hl2 := g3 _ _ hnd.1 nlm h2
      have ha2 : H2 a = some (.tup [.str (ch c), .ref l]) := g3 _ _ (fun h => by obtain ⟨_, xs, e⟩ := hlst a h; rw [h1] at e; cases e) (hok a k1) h1
      refine ⟨_, rfl, _, _, 1, _, rfl, rfl, SqT.of ha2, atI_nat (j := 1) rfl, .inl ⟨rfl, _, SqL.of hl2⟩, _, rfl, m, _, 0, _, rfl, rfl, SqL.of g1, atI_nat (j := 0) rfl, l, _, _, rfl, rfl, hl2, ?_, ?_⟩
      · rw [List.length_map]
        exact Nat.lt_of_le_of_lt (show _ ≤ 1000000 by omega) (by decide)
      have hm3 : (upd H2 l (.lst (cs.map (·.1) ++ [.int (n + sizes (cs.map (·.2.1)))]))) m = some (.lst [.int (n + sizes (cs.map (·.2.1)))]) := by rw [upd_ne (fun e => nlm e.symm)]; exact g1
      refine ⟨_, rfl, m, _, 0, _, rfl, rfl, SqL.of hm3, atI_nat (j := 0) rfl, _, 1, rfl, rfl, ?_⟩
      refine ⟨_, rfl, m, _, 0, 0, rfl, rfl, hm3, rfl, ?_⟩
      refine q _ ?_ ?_ ?_
      · refine .node (by rw [upd_ne (hok a k1), upd_ne (fun e => by rw [e, hl2] at ha2; cases ha2)]; exact ha2) (by rw [upd_ne nlm]; exact upd_same) c2 ?_
        refine MsAt.keep _ _ _ _ g2 fun b o h e => ?_
        rcases h with h | ⟨xs, rfl⟩
        · rw [upd_ne (hok b (hlst b h).1), upd_ne (fun e2 => hnd.1 (by rw [← e2]; exact h))]
          exact e
        · rw [upd_ne (fun e2 => by rw [e2, g1] at e; cases e), upd_ne (fun e2 => by rw [e2, hl2] at e; cases e)]
          exact e
      · rw [upd_same]
        refine congrArg (fun z => some (HO.lst [V.int z])) ?_
        simp only [Tr.size]
        omega
      · intro b o hb hbm e
        rw [List.mem_cons, not_or] at hb
        rw [upd_ne hbm, upd_ne hb.1]
        exact g3 b o hb.2 hbm e
end

section
variable {P : Program} {w : World} {K : PySem.W.Frag} {mg : Str → Option Value} {base : Heap}
def sq__law_copy (d : Nat) : Sp := fun vs H Q _ => ∃ (v : V) (t : Tr), vs = [v] ∧ TrAt (fun _ => True) H v t ∧ t.depth ≤ d ∧ t.size ≤ 1000000 ∧
  ∀ r as H', Same H H' → TrO (fun b => H b = none) H' r t as → as.Nodup → Q r H'
theorem oq__law_copy (T : Txt K mg) : ∀ d : Nat, FnOk P w K mg base CX0 d T.f__law_copy T.d__law_copy ["tree"] (sq__law_copy d)
  | 0 => none_of fun vs H Q E ⟨v, t, _, _, h, _⟩ => by have := depth_pos t; omega
  | d + 1 => by
    have G__law_copy : FnOk P w K mg base CX0 d T.f__law_copy T.d__law_copy ["tree"] (sq__law_copy d) := oq__law_copy T d
    refine T.F__law_copy.ok sc__law_copy (fun vs H Q E h => ?_) (fun cdv A outer s H vs Q E hr h => ?_)
    · obtain ⟨v, t, rfl, _⟩ := h
      rfl
    obtain ⟨v, t, rfl, ht, hd, hz, q⟩ := h
    refine ⟨_, (pss_one (ps_ret (pe_tup (pa_cons (pe_ix ix_tup (pv 0) pe_int (fun _ _ => rfl)) (pa_cons (pe_lc (own := [("child", 1)]) (g := gName 1) (tt := tYes) rfl sc__law_copy.nd (pi_list (pe_ix ix_tup (pv 0) pe_int (fun _ _ => rfl))) (blkOk_by (own := [("child", 1)]) (N := ["tree", "child"]) (sc := (defScope s__law_copy)) (by decide +kernel)) (fun _ _ _ _ _ => (pg_name (i := 1) sc__law_copy.nd rfl (Or.inl rfl))) (fun _ _ _ _ _ => pts_nil) (fun _ _ _ _ _ => (pe_call G__law_copy (hr.mono (by omega)) (by rfl) T.m__law_copy T.F__law_copy.kp T.b__law_copy .nil pass0 (pa_cons (pv 1) pa_nil)))) pa_nil))))), ?_⟩
    obtain ⟨c, ks⟩ := t
    simp only [Tr.depth] at hd
    simp only [Tr.size] at hz
    have lz := len_sizes ks
    cases ht with
    | node h1 h2 k1 k2 c1 c2 r =>
      rename_i a l xs
      have lr := r.len
      refine ⟨_, rfl, _, _, 0, _, rfl, rfl, SqT.of h1, atI_nat (j := 0) rfl, ?_⟩
      refine ⟨_, rfl, _, _, 1, _, rfl, rfl, SqT.of h1, atI_nat (j := 1) rfl, _, rfl, ⟨_, SqL.of h2⟩, fun D hD => ?_⟩
      refine lc_list (xs := xs) (fun i H2 => ∃ acc as, H2 D = some (.lst acc) ∧ TrsO (fun b => H b = none ∧ b ≠ D) H2 acc (ks.take i) as ∧ as.Nodup ∧ Same H H2) ⟨[], [], upd_same, .nil, List.nodup_nil, same_new hD⟩ (fun i H2 _ ⟨_, _, _, _, _, s⟩ => SqL.of (s _ _ h2)) ?_ ?_
      · rintro i x H2 hx ⟨acc, as, g1, g2, gn, g3⟩
        obtain ⟨t1, ht1, hx2⟩ := r.getV hx
        have dt := depths_mem (List.mem_of_getElem? ht1)
        have st := sizes_mem (List.mem_of_getElem? ht1)
        have la := g2.len
        rw [List.length_take] at la
        refine ⟨rfl, _, rfl, x, t1, rfl, hx2.same g3, by omega, by omega, fun y as1 H3 s3 hy n1 => ?_⟩
        refine ⟨acc, s3 _ _ g1, Nat.lt_of_le_of_lt (show acc.length ≤ 1000000 by omega) (by decide), acc ++ [y], as ++ as1, upd_same, ?_, ?_, same_add (g3.trans s3) hD⟩
        · rw [take_succ_of ht1]
          have hy2 : TrO (fun b => H b = none ∧ b ≠ D) H3 y t1 as1 := hy.weak fun b hb => ⟨g3.free hb, fun e => by rw [e, g1] at hb; cases hb⟩
          exact ((g2.same s3).snoc hy2).keep (upd_keep fun b h => h.2)
        · refine nodup_snoc gn n1 fun b hb h1 => ?_
          obtain ⟨_, xs2, e⟩ := TrsO.lst _ _ _ g2 b hb
          have := (TrO.lst _ _ _ hy b h1).1
          rw [e] at this
          cases this
      · rintro H2 ⟨acc, as, g1, g2, gn, g3⟩
        rw [lr, List.take_length] at g2
        refine ⟨(by show 2 ≤ sizeLine; decide), fun e he => ?_⟩
        have he0 := g3.free he
        have nDe : D ≠ e := ne_of_none g1 he
        refine q _ (D :: as) _ (same_add g3 he0) (.node upd_same (by rw [upd_ne nDe]; exact g1) he0 hD c1 c2 ?_) ?_
        · exact (g2.same (same_new he)).weak fun b h => h.1
        · rw [List.nodup_cons]
          exact ⟨fun hm => (TrsO.lst _ _ _ g2 D hm).1.2 rfl, gn⟩
end


def hstep (acc : List (Tr × Nat)) (t : Tr) : List (Tr × Nat) :=
  match acc.getLast? with
  | some (u, n) => if u.wr = t.wr then acc.dropLast ++ [(u, n + 1)] else acc ++ [(t, 1)]
  | none => [(t, 1)]
def rle (ts : List Tr) : List (Tr × Nat) := ts.foldl hstep []
theorem rle_snoc (ts : List Tr) (t : Tr) : rle (ts ++ [t]) = hstep (rle ts) t := by
  unfold rle
  rw [List.foldl_append]
  rfl
def expand (acc : List (Tr × Nat)) : List Tr := (acc.map fun e => List.replicate e.2 e.1).flatten
theorem expand_append (a b : List (Tr × Nat)) : expand (a ++ b) = expand a ++ expand b := by simp [expand]
theorem hstep_expand {acc : List (Tr × Nat)} {t : Tr} (ha : ∀ e ∈ acc, e.1.lets Ltr) (ht : t.lets Ltr) : expand (hstep acc t) = expand acc ++ [t] := by
  unfold hstep
  cases h : acc.getLast? with
  | none =>
    have : acc = [] := List.getLast?_eq_none_iff.mp h
    subst this
    rfl
  | some e =>
    obtain ⟨u, n⟩ := e
    have hne : acc ≠ [] := fun e => by rw [e] at h; cases h
    have hl : acc.getLast hne = (u, n) := by
      rw [List.getLast?_eq_some_getLast hne] at h
      exact Option.some.inj h
    have hsp : acc = acc.dropLast ++ [(u, n)] := by rw [← hl]; exact (List.dropLast_concat_getLast hne).symm
    dsimp only
    by_cases hw : u.wr = t.wr
    · rw [if_pos hw]
      have hu := ha (u, n) (by rw [hsp]; simp)
      have : u = t := wr_eq hu ht hw
      subst this
      conv => rhs; rw [hsp]
      rw [expand_append, expand_append]
      simp [expand, List.replicate_succ']
    · rw [if_neg hw, expand_append]
      simp [expand]
theorem hstep_lets {acc : List (Tr × Nat)} {t : Tr} (ha : ∀ e ∈ acc, e.1.lets Ltr ∧ 1 ≤ e.2) (ht : t.lets Ltr) : ∀ e ∈ hstep acc t, e.1.lets Ltr ∧ 1 ≤ e.2 := by
  unfold hstep
  intro e he
  cases h : acc.getLast? with
  | none =>
    rw [h] at he
    simp only [List.mem_singleton] at he
    subst he
    exact ⟨ht, Nat.le_refl 1⟩
  | some x =>
    obtain ⟨u, n⟩ := x
    rw [h] at he
    dsimp only at he
    by_cases hw : u.wr = t.wr
    · rw [if_pos hw] at he
      rcases List.mem_append.mp he with he | he
      · exact ha e ((List.dropLast_sublist _).subset he)
      · simp only [List.mem_singleton] at he
        subst he
        exact ⟨(ha (u, n) (List.mem_of_getLast? h)).1, Nat.le_add_left 1 n⟩
    · rw [if_neg hw] at he
      rcases List.mem_append.mp he with he | he
      · exact ha e he
      · simp only [List.mem_singleton] at he
        subst he
        exact ⟨ht, Nat.le_refl 1⟩
theorem rle_go : ∀ (ts : List Tr) (acc : List (Tr × Nat)), (∀ e ∈ acc, e.1.lets Ltr ∧ 1 ≤ e.2) → letss Ltr ts → expand (ts.foldl hstep acc) = expand acc ++ ts ∧ ∀ e ∈ ts.foldl hstep acc, e.1.lets Ltr ∧ 1 ≤ e.2
  | [], acc, h, _ => ⟨by simp, h⟩
  | t :: r, acc, h, hl => by
    simp only [letss] at hl
    obtain ⟨h1, h2⟩ := rle_go r (hstep acc t) (hstep_lets h hl.1) hl.2
    rw [List.foldl_cons]
    refine ⟨?_, h2⟩
    rw [h1, hstep_expand (fun e he => (h e he).1) hl.1, List.append_assoc]
    rfl
theorem rle_all (ts : List Tr) (h : letss Ltr ts) : expand (rle ts) = ts ∧ ∀ e ∈ rle ts, e.1.lets Ltr ∧ 1 ≤ e.2 := by
  obtain ⟨h1, h2⟩ := rle_go ts [] (fun e h => by cases h) h
  exact ⟨by rw [show rle ts = ts.foldl hstep [] from rfl, h1]; rfl, h2⟩
structure HE where
  v : V
  t : Tr
  n : Nat
  as : List Addr
def HeAt (ok : Addr → Prop) (H : Hp) (e : HE) : Prop := ∃ p x, e.v = .ref p ∧ H p = some (.tup [x, .int e.n]) ∧ ok p ∧ TrO ok H x e.t e.as
def HeIn (H : Hp) (e : V × Tr × Nat) : Prop := ∃ p x, e.1 = .ref p ∧ H p = some (.tup [x, .int e.2.2]) ∧ TrAt (fun _ => True) H x e.2.1
section
variable {P : Program} {w : World} {K : PySem.W.Frag} {mg : Str → Option Value} {base : Heap}
theorem TabS.frO {H H' : Hp} {P P2 : Addr} {q : Str} {ps : Array Value} (h : LamX.TabS H P2 q) (n : P2 ≠ P) (hP : H P = some (.tbl ps)) (f : Fr P H H') : LamX.TabS H' P2 q := by
  obtain ⟨ps2, h1, h2, h3⟩ := h
  refine ⟨ps2, f _ _ n h1, h2, fun pos cv hc => ?_⟩
  obtain ⟨c, e, h4⟩ := h3 pos cv hc
  exact ⟨c, e, f _ _ (fun e => by rw [e, hP] at h4; cases h4) h4⟩
theorem TrAt.frT' {ok : Addr → Prop} {P : Addr} {H H' : Hp} {v : V} {t : Tr} {ps : Array Value} (x : TrAt ok H v t) (hP : H P = some (.tbl ps)) (f : Fr P H H') : TrAt ok H' v t :=
  ((TrAt.kind t v x).keep fun b o h e => f b o (fun e2 => h.2 ps (by rw [e2]; exact hP)) e).weak fun b h => h.1
theorem Fr.upd0 {p q : Addr} {H H' : Hp} {o : HO} (f : Fr p H H') (h : H q = none) : Fr p H (upd H' q o) := fun b u n e => by
  rw [upd_ne (ne_of_none e h)]
  exact f b u n e
def Fr2 (p r : Addr) (H H' : Hp) : Prop := ∀ b o, b ≠ p → b ≠ r → H b = some o → H' b = some o
def sp_heap_of (P1 : Addr) (q1 : Str) (P2 : Addr) (q2 : Str) : Sp := fun vs H Q _ => ∃ (v : V) (t : Tr), vs = [v] ∧ TrAt (fun _ => True) H v t ∧ t.size ≤ 1000000 ∧ LamX.TabS H P1 q1 ∧ LamX.TabS H P2 q2 ∧
  ∀ r (es : List HE) H', Fr2 P1 P2 H H' → LamX.TabS H' P1 q1 → LamX.TabS H' P2 q2 → H r = none → H' r = some (.lst (es.map (·.v))) → (∀ e ∈ es, HeAt (fun b => H b = none ∧ b ≠ r) H' e) → (es.map (·.as)).flatten.Nodup → es.map (fun e => (e.t, e.n)) = rle ((tolds t.kids).mergeSort leW) → Q (.ref r) H'
theorem ok_heap_of (T : Txt K mg) (B : Tbs T base) : FnOk P w K mg base CX0 9 T.f_heap_of T.d_heap_of ["tree"] (sp_heap_of T.P__joined q__joined T.P_heap_of q_heap_of) := by
  have G__written_and_told : FnOk P w K mg base CX0 8 T.f__written_and_told T.d__written_and_told ["tree"] (sp__written_and_told T.P__joined q__joined) := ok__written_and_told T B
  have G_check_tree : FnOk P w K mg base CX0 4 T.f_check_tree T.d_check_tree ["thing"] sp_check_tree := ok_check_tree T
  refine okC T.F_heap_of T.h_heap_of sc_heap_of (fun vs H Q E h => ?_) (fun A outer s H vs Q E hr h => ?_)
  · obtain ⟨v, t, rfl, _⟩ := h
    rfl
  obtain ⟨v, t, rfl, ht, hz, hT1, hT2, q⟩ := h
  refine ⟨_, (pss_cons (ps_expr (pe_call G_check_tree (hr.mono (by omega)) (by rfl) T.m_check_tree T.F_check_tree.kp T.b_check_tree .nil pass0 (pa_cons (pv 0) pa_nil))) (pss_cons (ps_set (i := 1) sc_heap_of.nd rfl (Or.inl rfl) (pe_callBK (cr_sortRow hr) (by rfl) T.z_sorted (by decide +kernel) (pa_cons (pe_lc (own := [("child", 2)]) (g := gName 2) (tt := tYes) rfl sc_heap_of.nd (pi_list (pe_ix ix_tup (pv 0) pe_int (fun _ _ => rfl))) (blkOk_by (own := [("child", 2)]) (N := ["tree", "rows", "child", "heap", "last", "written"]) (sc := (defScope s_heap_of)) (by decide +kernel)) (fun _ _ _ _ _ => (pg_name (i := 2) sc_heap_of.nd rfl (Or.inl rfl))) (fun _ _ _ _ _ => pts_nil) (fun _ _ _ _ _ => (pe_call G__written_and_told (hr.mono (by omega)) (by rfl) T.m__written_and_told T.F__written_and_told.kp T.b__written_and_told .nil pass0 (pa_cons (pv 2) pa_nil)))) pa_nil) (pk_cons (pe_lamRow B.tb_heap_of rfl (by rfl) (rowL_mk (x := "row") (by decide +kernel) rfl rfl rfl rfl (fun _ _ _ _ _ _ _ _ _ _ _ _ _ => rfl))) pk_nil))) (pss_cons (ps_set (i := 3) sc_heap_of.nd rfl (Or.inl rfl) (pe_lst pa_nil)) (pss_cons (ps_set (i := 4) sc_heap_of.nd rfl (Or.inl rfl) pe_non) (pss_cons (ps_for PassesOwn.never rfl (pi_list (pv 1)) (pg_tup rfl (pgs_cons (pg_name (i := 5) sc_heap_of.nd rfl (Or.inl rfl)) (pgs_cons (pg_name (i := 2) sc_heap_of.nd rfl (Or.inl rfl)) pgs_nil))) (pss_cons (ps_if (pt_cmpR op_eq (pv 5) (pv 4) (nomark _)) (pss_one (ps_asg (pe_tup (pa_cons (pe_ix ix_tup (pe_ix ix_list (pv 3) (pe_un un_neg pe_int) (fun _ _ => rfl)) pe_int (fun _ _ => rfl)) (pa_cons (pe_op op_add (pe_ix ix_tup (pe_ix ix_list (pv 3) (pe_un un_neg pe_int) (fun _ _ => rfl)) pe_int (fun _ _ => rfl)) pe_int) pa_nil))) (pg_sub (pv 3) (pe_un un_neg pe_int) set_list))) (pss_one (ps_expr (pe_bm PySem.F.plainAttrs_list PySem.F.slot_list_append PySem.F.type_list_append mt_append (pv 3) (pa_cons (pe_tup (pa_cons (pv 2) (pa_cons pe_int pa_nil))) pa_nil))))) (pss_one (ps_set (i := 4) sc_heap_of.nd rfl (Or.inl rfl) (pv 5))))) (pss_one (ps_ret (pv 3)))))))), ?_⟩
  obtain ⟨c, ks⟩ := t
  simp only [Tr.size] at hz
  have lz := len_sizes ks
  obtain ⟨pa0, hA0, _, _⟩ := id hT1
  obtain ⟨pb0, hB0, _, _⟩ := id hT2
  generalize hP1 : T.P__joined = P1 at *
  generalize hP2 : T.P_heap_of = P2 at *
  have nPP : P2 ≠ P1 := fun e => T.n__joined_heap_of (by rw [hP1, hP2, e])
  refine ⟨_, rfl, v, _, rfl, ht, by simp only [Tr.size]; omega, fun H1 s1 => ?_⟩
  have hA1 := s1 _ _ hA0
  have hB1 := s1 _ _ hB0
  cases ht with
  | node h1 h2 k1 k2 c1 c2 rr =>
  rename_i a l xs
  have lr := rr.len
  refine ⟨_, rfl, _, _, 1, _, rfl, rfl, SqT.of (s1 _ _ h1), atI_nat (j := 1) rfl, _, rfl, ⟨_, SqL.of (s1 _ _ h2)⟩, fun D hD => ?_⟩
  have hl1 := s1 _ _ h2
  have nlP : l ≠ P1 := fun e => by rw [e, hA0] at h2; cases h2
  refine lc_list (xs := xs) (fun i H2 => ∃ bs : List (V × Tr × List Addr), H2 D = some (.lst (bs.map (·.1))) ∧ (∀ b ∈ bs, RowO1 (fun b => H1 b = none ∧ b ≠ D) H2 b) ∧ (lsts bs).Nodup ∧ bs.map (·.2.1) = tolds (ks.take i) ∧ Fr P1 H1 H2 ∧ LamX.TabS H2 P1 q__joined ∧ LamX.TabS H2 P2 q_heap_of)
    ⟨[], upd_same, (fun _ h => by cases h), List.nodup_nil, rfl, Fr.same (same_new hD), (hT1.ext s1).ext (same_new hD), (hT2.ext s1).ext (same_new hD)⟩ (fun i H2 _ ⟨_, _, _, _, _, f, _⟩ => SqL.of (f _ _ nlP hl1)) ?_ ?_
  · rintro i x H2 hx ⟨bs, g1, g2, g3, g4, g5, g6, g7⟩
    obtain ⟨t1, ht1, hx2⟩ := rr.getV hx
    have st := sizes_mem (List.mem_of_getElem? ht1)
    have la := congrArg List.length g4
    rw [List.length_map, tolds_len, List.length_take] at la
    obtain ⟨pa2, hA2, _, _⟩ := id g6
    refine ⟨rfl, _, rfl, x, t1, rfl, (hx2.same s1).frT' hA1 g5, by omega, g6, fun v' as H3 f3 T3 nd row => ?_⟩
    have nDP : D ≠ P1 := fun e => by rw [e, hA2] at g1; cases g1
    have g1' := f3 _ _ nDP g1
    have lst3 : ∀ b ∈ as, H2 b = none := fun b hb => by
      obtain ⟨p, x, _, _, _, e⟩ := row
      exact (TrO.lst _ _ _ e b hb).1
    refine ⟨_, g1', ?_, bs ++ [(v', t1.told, as)], by rw [upd_same, List.map_append]; rfl, ?_, ?_, ?_, ?_, ?_, ?_⟩
    · rw [List.length_map]
      exact Nat.lt_of_le_of_lt (show bs.length ≤ 1000000 by omega) (by decide)
    · intro b hb
      rcases List.mem_append.mp hb with hb | hb
      · exact (g2 b hb).imp (fun _ h => h) fun b o h e => by rw [upd_ne h.2]; exact f3 _ _ (fun e2 => by rw [e2, hA1] at h; cases h.1) e
      · simp only [List.mem_singleton] at hb
        subst hb
        exact row.imp (fun b h => ⟨g5.free (by rw [hA2]; simp) h, fun e => by rw [e, g1] at h; cases h⟩) fun b o h e => by rw [upd_ne (fun e => by rw [e, g1] at h; cases h)]; exact e
    · have e2 : lsts (bs ++ [(v', t1.told, as)]) = lsts bs ++ as := by simp [lsts]
      rw [e2]
      refine nodup_snoc g3 nd fun b hb h => ?_
      obtain ⟨as2, ha, hl2⟩ := List.mem_flatten.mp hb
      obtain ⟨b2, hb2, rfl⟩ := List.mem_map.mp ha
      obtain ⟨p2, x2, _, _, _, e4⟩ := g2 b2 hb2
      obtain ⟨_, xs2, e5⟩ := TrO.lst _ _ _ e4 b hl2
      rw [lst3 b h] at e5
      cases e5
    · rw [take_succ_of ht1, List.map_append, g4, tolds_map, tolds_map, List.map_append]
      rfl
    · exact (g5.trans f3).upd0 hD
    · exact TabS.fr T3 g1' fun b o n e => by rw [upd_ne n]; exact e
    · exact TabS.fr (TabS.frO g7 nPP hA2 f3) g1' fun b o n e => by rw [upd_ne n]; exact e
  rintro H2 ⟨bs, g1, g2, g3, g4, g5, g6, g7⟩
  rw [lr, List.take_length] at g4
  have hblen : bs.length = ks.length := by
    have la := congrArg List.length g4
    rw [List.length_map, tolds_len] at la
    exact la
  obtain ⟨pa2, hA2, _, _⟩ := id g6
  obtain ⟨pb2, hB2, _, _⟩ := id g7
  refine ⟨g7, fun f cc H3 f3 hT3 hF hC => ?_⟩
  have hD3 := f3 D _ (fun e => by rw [e, hB2] at g1; cases g1) g1
  have okB : ∀ b, (H1 b = none ∧ b ≠ D) → b ≠ P2 := fun b h e => by rw [e, hB1] at h; cases h.1
  have hb3 : ∀ b ∈ bs, RowO1 (fun b => H1 b = none ∧ b ≠ D) H3 b := fun b h => (g2 b h).imp (fun _ h => h) fun b o h e => f3 b o (okB b h) e
  refine ⟨D, f, cc, _, bs.map fun b => (b.1, ws b.2.1), rfl, rfl, hF, hC, ?_, ?_, ?_, fun rs hrs => ?_⟩
  · rw [hD3, List.map_map]
    rfl
  · intro b hb4
    obtain ⟨b2, hb5, rfl⟩ := List.mem_map.mp hb4
    obtain ⟨p2, x2, e1, e2, _⟩ := hb3 b2 hb5
    exact ⟨p2, _, e1, e2⟩
  · rw [List.length_map]
    exact Nat.le_trans (show _ ≤ 1000000 by omega) (by decide)
  rw [leB_str]
  generalize hcs : bs.mergeSort leB = cs
  have hperm : cs.Perm bs := by rw [← hcs]; exact List.mergeSort_perm _ _
  have hctr : cs.map (·.2.1) = (tolds ks).mergeSort leW := by rw [← hcs, leB_tr, g4]
  have hcn : (lsts cs).Nodup := ((hperm.map _).flatten.nodup_iff).mpr g3
  have hD4 : ∀ b o, H3 b = some o → (upd H3 rs (.lst (cs.map (·.1)))) b = some o := fun b o h => by rw [upd_ne (ne_of_none h hrs)]; exact h
  have hcb : ∀ b ∈ cs, RowO1 (fun b => H1 b = none ∧ b ≠ D) (upd H3 rs (.lst (cs.map (·.1)))) b := fun b h => (hb3 b (hperm.mem_iff.mp h)).same hD4
  have f14 : ∀ b o, b ≠ P1 → b ≠ P2 → H1 b = some o → (upd H3 rs (.lst (cs.map (·.1)))) b = some o := fun b o n1 n2 e => hD4 _ _ (f3 _ _ n2 (g5 _ _ n1 e))
  have T14 : LamX.TabS (upd H3 rs (.lst (cs.map (·.1)))) P1 q__joined := (TabS.frO g6 nPP.symm hB2 f3).ext hD4
  have T24 : LamX.TabS (upd H3 rs (.lst (cs.map (·.1)))) P2 q_heap_of := LamX.TabS.ext hT3 hD4
  have hr4 : (upd H3 rs (.lst (cs.map (·.1)))) rs = some (.lst (cs.map (·.1))) := upd_same
  generalize hH4 : upd H3 rs (.lst (cs.map (·.1))) = H4 at *
  refine ⟨(by show 0 ≤ sizeLine; decide), fun hp hhp => ?_⟩
  obtain ⟨pa4, hA4, _, _⟩ := id T14
  obtain ⟨pb4, hB4, _, _⟩ := id T24
  have nhA : hp ≠ P1 := fun e => by rw [e, hA4] at hhp; cases hhp
  have nhB : hp ≠ P2 := fun e => by rw [e, hB4] at hhp; cases hhp
  have hhp1 : H1 hp = none := by
    cases e : H1 hp with
    | none => rfl
    | some o => rw [f14 _ _ nhA nhB e] at hhp; cases hhp
  have hhp0 : H hp = none := s1.free hhp1
  have nrh : rs ≠ hp := ne_of_none hr4 hhp
  have k45 : ∀ b o, H4 b = some o → (upd H4 hp (.lst [])) b = some o := fun b o h => by rw [upd_ne (ne_of_none h hhp)]; exact h
  refine ⟨_, rfl, rs, rfl, ⟨_, SqL.of (k45 _ _ hr4)⟩, for_list (xs := cs.map (·.1)) (fun i σ H5 => ∃ (y2 y5 : Option V) (es : List HE) (lv : V), σ = [some (.ref a), some (.ref rs), y2, some (.ref hp), some lv, y5] ∧ H5 hp = some (.lst (es.map (·.v))) ∧ (∀ e ∈ es, HeAt (fun b => H b = none ∧ b ≠ hp) H5 e) ∧
      (es.map (·.as)).flatten.Nodup ∧ es.map (fun e => (e.t, e.n)) = rle ((cs.map (·.2.1)).take i) ∧ (es = [] ∧ lv = .non ∨ ∃ es0 e, es = es0 ++ [e] ∧ lv = .str (ws e.t)) ∧ (∀ x ∈ (es.map (·.as)).flatten, x ∈ lsts (cs.take i)) ∧ es.length ≤ i ∧ (∀ b o, b ≠ hp → H4 b = some o → H5 b = some o))
    ⟨none, none, [], .non, rfl, upd_same, (fun _ h => by cases h), List.nodup_nil, rfl, .inl ⟨rfl, rfl⟩, (fun _ h => by cases h), Nat.le_refl _, fun b o _ h => k45 b o h⟩ (fun i σ H5 _ ⟨_, _, _, _, _, _, _, _, _, _, _, _, k⟩ => SqL.of (k _ _ nrh hr4)) ?_ ?_⟩
  · rintro i x σ H5 hx ⟨y2, y5, es, lv, rfl, e1, e2, e3, e4, e5, e6, e7, k5⟩
    rw [List.getElem?_map] at hx
    cases hc : cs[i]? with
    | none => rw [hc] at hx; cases hx
    | some b =>
    rw [hc] at hx
    cases hx
    have hmem := List.mem_of_getElem? hc
    have hilt : i < ks.length := by
      have := (List.getElem?_eq_some_iff.mp hc).1
      rw [hperm.length_eq] at this
      omega
    have hrow : RowO1 (fun b => H b = none ∧ b ≠ hp) H5 b := by
      obtain ⟨p, x, q1, q2, q3, q4⟩ := hcb b hmem
      have np : ∀ b o, H4 b = some o → b ≠ hp := fun b o h => ne_of_none h hhp
      exact ⟨p, x, q1, k5 _ _ (np _ _ q2) q2, ⟨s1.free q3.1, np _ _ q2⟩, TrO.imp (fun b ⟨h, o, e⟩ => ⟨s1.free h.1, np _ _ e⟩) (fun b o ⟨_, o2, e2⟩ e => k5 _ _ (np _ _ e2) e) _ _ _ (TrO.there _ _ _ q4)⟩
    obtain ⟨bv, bt, bas⟩ := b
    obtain ⟨p, x, rfl, q2, q3, q4⟩ := hrow
    dsimp only at q2 q4
    have hbnd : bas.Nodup := by
      have := (List.pairwise_flatten.mp hcn).1 bas (List.mem_map.mpr ⟨_, hmem, rfl⟩)
      exact this
    have hsub1 : ∀ z ∈ lsts (cs.take i), z ∈ lsts (cs.take (i + 1)) := fun z hz => by
      rw [take_succ_of hc]
      simp only [lsts, List.map_append, List.flatten_append]
      exact List.mem_append_left _ hz
    have hdis : ∀ z ∈ bas, z ∉ lsts (cs.take i) := by
      intro z h1 h2
      have ecs : cs = cs.take i ++ (V.ref p, bt, bas) :: cs.drop (i + 1) := by
        obtain ⟨hlt, e⟩ := List.getElem?_eq_some_iff.mp hc
        rw [← e, ← List.drop_eq_getElem_cons hlt, List.take_append_drop]
      rw [ecs] at hcn
      have e2 : lsts (cs.take i ++ (V.ref p, bt, bas) :: cs.drop (i + 1)) = lsts (cs.take i) ++ (bas ++ lsts (cs.drop (i + 1))) := by simp [lsts]
      rw [e2, List.nodup_append] at hcn
      exact hcn.2.2 z h2 z (List.mem_append_left _ h1) rfl
    have hrle : rle ((cs.map (·.2.1)).take (i + 1)) = hstep (rle ((cs.map (·.2.1)).take i)) bt := by
      rw [take_succ_of (x := bt) (by rw [List.getElem?_map, hc]; rfl), rle_snoc]
    refine ⟨_, _, rfl, SqT.of q2, rfl, _, _, rfl, _, _, rfl, rfl, ?_⟩
    have addNew : ∀ tp, H5 tp = none → (es = [] ∨ ∃ es0 e, es = es0 ++ [e] ∧ ¬ e.t.wr = bt.wr) →
        ∃ (y2' y5' : Option V) (es' : List HE) (lv' : V), [some (.ref a), some (.ref rs), some x, some (.ref hp), some (.str (ws bt)), some (.str (ws bt))] = [some (.ref a), some (.ref rs), y2', some (.ref hp), some lv', y5'] ∧
          (upd (upd H5 tp (.tup [x, .int 1])) hp (.lst (es.map (·.v) ++ [.ref tp]))) hp = some (.lst (es'.map (·.v))) ∧ (∀ e ∈ es', HeAt (fun b => H b = none ∧ b ≠ hp) (upd (upd H5 tp (.tup [x, .int 1])) hp (.lst (es.map (·.v) ++ [.ref tp]))) e) ∧
          (es'.map (·.as)).flatten.Nodup ∧ es'.map (fun e => (e.t, e.n)) = rle ((cs.map (·.2.1)).take (i + 1)) ∧ (es' = [] ∧ lv' = .non ∨ ∃ es0 e, es' = es0 ++ [e] ∧ lv' = .str (ws e.t)) ∧ (∀ x ∈ (es'.map (·.as)).flatten, x ∈ lsts (cs.take (i + 1))) ∧ es'.length ≤ i + 1 ∧
          (∀ b o, b ≠ hp → H4 b = some o → (upd (upd H5 tp (.tup [x, .int 1])) hp (.lst (es.map (·.v) ++ [.ref tp]))) b = some o) := by
      intro tp htp hcase
      have ntp : tp ≠ hp := fun e => by rw [e, e1] at htp; cases htp
      have kk : ∀ b o, b ≠ hp → H5 b = some o → (upd (upd H5 tp (.tup [x, .int 1])) hp (.lst (es.map (·.v) ++ [.ref tp]))) b = some o := fun b o n e => by rw [upd_ne n, upd_ne (ne_of_none e htp)]; exact e
      have tp0 : H tp = none := by
        cases e : H tp with
        | none => rfl
        | some o =>
          have n1 : tp ≠ P1 := fun e2 => by rw [e2, k5 _ _ nhA.symm hA4] at htp; cases htp
          have n2 : tp ≠ P2 := fun e2 => by rw [e2, k5 _ _ nhB.symm hB4] at htp; cases htp
          rw [k5 _ _ ntp (f14 _ _ n1 n2 (s1 _ _ e))] at htp
          cases htp
      refine ⟨_, _, es ++ [⟨.ref tp, bt, 1, bas⟩], _, rfl, by rw [upd_same, List.map_append]; rfl, ?_, ?_, ?_, .inr ⟨es, _, rfl, rfl⟩, ?_, ?_, fun b o n e => kk b o n (k5 b o n e)⟩
      · intro e he
        rcases List.mem_append.mp he with he | he
        · obtain ⟨p2, x2, r1, r2, r3, r4⟩ := e2 e he
          exact ⟨p2, x2, r1, kk _ _ r3.2 r2, r3, r4.keep fun b o h e => kk b o h.2 e⟩
        · simp only [List.mem_singleton] at he
          subst he
          exact ⟨tp, x, rfl, by rw [upd_ne ntp]; exact upd_same, ⟨tp0, ntp⟩, q4.keep fun b o h e => kk b o h.2 e⟩
      · have e8 : ((es ++ [(⟨.ref tp, bt, 1, bas⟩ : HE)]).map (·.as)).flatten = (es.map (·.as)).flatten ++ bas := by simp
        rw [e8]
        exact nodup_snoc e3 hbnd fun z h1 h2 => hdis z h2 (e6 z h1)
      · rw [hrle, ← e4, List.map_append]
        unfold hstep
        rcases hcase with rfl | ⟨es0, e, rfl, hne⟩
        · rfl
        · simp only [List.map_append, List.map_cons, List.map_nil, List.getLast?_append, List.getLast?_singleton, Option.or_some, Option.some_or]
          rw [if_neg hne]
      · intro z hz
        have e8 : ((es ++ [(⟨.ref tp, bt, 1, bas⟩ : HE)]).map (·.as)).flatten = (es.map (·.as)).flatten ++ bas := by simp
        rw [e8] at hz
        rw [take_succ_of hc]
        simp only [lsts, List.map_append, List.flatten_append, List.map_cons, List.map_nil, List.flatten_cons, List.flatten_nil, List.append_nil]
        rcases List.mem_append.mp hz with hz | hz
        · exact List.mem_append_left _ (e6 z hz)
        · exact List.mem_append_right _ hz
      · rw [List.length_append, List.length_singleton]
        omega
    have hlt : es.length < sizeLine := Nat.lt_of_le_of_lt (show _ ≤ 1000000 by omega) (by decide)
    rcases e5 with ⟨rfl, rfl⟩ | ⟨es0, e, rfl, rfl⟩
    · refine ⟨_, rfl, _, rfl, rfl, _, rfl, ?_⟩
      rw [decide_eq_false (by simp)]
      refine iteF ?_
      refine ⟨_, rfl, .inl ⟨rfl, _, SqL.of e1⟩, _, rfl, (by show 2 ≤ sizeLine; decide), fun tp htp => ⟨hp, _, .ref tp, rfl, rfl, by rw [upd_ne (ne_of_none e1 htp)]; exact e1, by rw [List.length_map]; exact hlt, ?_⟩⟩
      exact ⟨_, rfl, addNew tp htp (.inl rfl)⟩
    · refine ⟨_, rfl, _, rfl, rfl, _, rfl, ?_⟩
      by_cases hw : e.t.wr = bt.wr
      · rw [decide_eq_true (show V.str (ws bt) = V.str (ws e.t) by simp only [ws, hw])]
        refine iteT ?_
        obtain ⟨pe, xe, ev, r2, r3, r4⟩ := e2 e (by simp)
        have hn1 : ∀ n : Nat, ixN (n + 1) (-1) = some n := fun n => by
          unfold ixN
          simp
          omega
        have elen : ((es0 ++ [e]).map (·.v)).length = es0.length + 1 := by simp
        have hat : atI ((es0 ++ [e]).map (·.v)) (-1) = some (V.ref pe) := by
          unfold atI
          rw [elen, hn1, List.map_append]
          simp [ev]
        refine ⟨_, rfl, 1, rfl, hp, _, -1, _, rfl, rfl, SqL.of e1, hat, pe, _, 0, _, rfl, rfl, SqT.of r2, atI_nat (j := 0) rfl, ?_⟩
        refine ⟨_, rfl, 1, rfl, hp, _, -1, _, rfl, rfl, SqL.of e1, hat, pe, _, 1, _, rfl, rfl, SqT.of r2, atI_nat (j := 1) rfl, _, 1, rfl, rfl, (by show 2 ≤ sizeLine; decide), fun tp htp => ?_⟩
        have ntp : tp ≠ hp := fun e => by rw [e, e1] at htp; cases htp
        refine ⟨_, rfl, 1, rfl, hp, _, -1, es0.length, rfl, rfl, by rw [upd_ne ntp.symm]; exact e1, by rw [elen]; exact hn1 _, ?_⟩
        have hset : ((es0 ++ [e]).map (·.v)).set es0.length (V.ref tp) = es0.map (·.v) ++ [V.ref tp] := by
          rw [List.map_append, List.set_append_right _ _ (by rw [List.length_map]; exact Nat.le_refl _), List.length_map, Nat.sub_self]
          rfl
        rw [hset]
        have kk : ∀ b o, b ≠ hp → H5 b = some o → (upd (upd H5 tp (.tup [xe, .int (e.n + 1)])) hp (.lst (es0.map (·.v) ++ [.ref tp]))) b = some o := fun b o n e => by rw [upd_ne n, upd_ne (ne_of_none e htp)]; exact e
        have tp0 : H tp = none := by
          cases e : H tp with
          | none => rfl
          | some o =>
            have n1 : tp ≠ P1 := fun e2 => by rw [e2, k5 _ _ nhA.symm hA4] at htp; cases htp
            have n2 : tp ≠ P2 := fun e2 => by rw [e2, k5 _ _ nhB.symm hB4] at htp; cases htp
            rw [k5 _ _ ntp (f14 _ _ n1 n2 (s1 _ _ e))] at htp
            cases htp
        have easeq : ((es0 ++ [(⟨.ref tp, e.t, e.n + 1, e.as⟩ : HE)]).map (·.as)).flatten = ((es0 ++ [e]).map (·.as)).flatten := by simp
        refine ⟨_, rfl, _, _, es0 ++ [⟨.ref tp, e.t, e.n + 1, e.as⟩], _, rfl, by rw [upd_same, List.map_append]; rfl, ?_, ?_, ?_, .inr ⟨es0, _, rfl, by simp only [ws, hw]⟩, ?_, ?_, fun b o n e => kk b o n (k5 b o n e)⟩
        · intro e' he
          rcases List.mem_append.mp he with he | he
          · obtain ⟨p2, x2, r1', r2', r3', r4'⟩ := e2 e' (List.mem_append_left _ he)
            exact ⟨p2, x2, r1', kk _ _ r3'.2 r2', r3', r4'.keep fun b o h e => kk b o h.2 e⟩
          · simp only [List.mem_singleton] at he
            subst he
            refine ⟨tp, xe, rfl, ?_, ⟨tp0, ntp⟩, r4.keep fun b o h e => kk b o h.2 e⟩
            rw [upd_ne ntp, upd_same]
            rfl
        · rw [easeq]
          exact e3
        · rw [hrle, ← e4, List.map_append, List.map_append]
          unfold hstep
          simp only [List.map_append, List.map_cons, List.map_nil, List.getLast?_append, List.getLast?_singleton, Option.or_some, Option.some_or]
          rw [if_pos hw, List.dropLast_concat]
        · intro z hz
          rw [easeq] at hz
          exact hsub1 z (e6 z hz)
        · rw [List.length_append, List.length_singleton] at e7 ⊢
          omega
      · rw [decide_eq_false (show ¬ V.str (ws bt) = V.str (ws e.t) from fun h => hw (by simp only [ws, V.str.injEq, Str.mk.injEq] at h; simpa using h.symm))]
        refine iteF ?_
        refine ⟨_, rfl, .inl ⟨rfl, _, SqL.of e1⟩, _, rfl, (by show 2 ≤ sizeLine; decide), fun tp htp => ⟨hp, _, .ref tp, rfl, rfl, by rw [upd_ne (ne_of_none e1 htp)]; exact e1, by rw [List.length_map]; exact hlt, ?_⟩⟩
        exact ⟨_, rfl, addNew tp htp (.inr ⟨es0, e, rfl, hw⟩)⟩
  · rintro σ H5 ⟨y2, y5, es, lv, rfl, e1, e2, e3, e4, e5, e6, e7, k5⟩
    refine ⟨_, rfl, q hp es H5 (fun b o n1 n2 e => ?_) (T14.ext fun b o e => k5 b o (ne_of_none e hhp) e) (T24.ext fun b o e => k5 b o (ne_of_none e hhp) e) hhp0 e1 e2 e3 ?_⟩
    · exact k5 b o (ne_of_none (s1 _ _ e) hhp1) (f14 b o n1 n2 (s1 _ _ e))
    · rw [e4, List.length_map, List.take_of_length_le (by rw [List.length_map]; exact Nat.le_refl _), hctr]
      rfl
end



def sp__law_parts (d : Nat) : Sp := fun vs H Q _ => ∃ (v : V) (t : Tr), vs = [v] ∧ TrAt (fun _ => True) H v t ∧ t.depth ≤ d ∧ t.size ≤ 1000 ∧ ∀ H', Same H H' → Q (.int t.size) H'
section
variable {P : Program} {w : World} {K : PySem.W.Frag} {mg : Str → Option Value} {base : Heap}
theorem sizes_sum : ∀ ts : List Tr, ((ts.map fun t => (t.size : Int)).sum) = (sizes ts : Int)
  | [] => rfl
  | t :: r => by
    rw [List.map_cons, List.sum_cons, sizes_sum r]
    simp only [sizes]
    omega
theorem ok__law_parts (T : Txt K mg) : ∀ d : Nat, FnOk P w K mg base CX0 d T.f__law_parts T.d__law_parts ["tree"] (sp__law_parts d)
  | 0 => none_of fun vs H Q E ⟨v, t, _, _, h, _⟩ => by have := depth_pos t; omega
  | d + 1 => by
    have G__law_parts : FnOk P w K mg base CX0 d T.f__law_parts T.d__law_parts ["tree"] (sp__law_parts d) := ok__law_parts T d
    refine T.F__law_parts.ok sc__law_parts (fun vs H Q E h => ?_) (fun cdv A outer s H vs Q E hr h => ?_)
    · obtain ⟨v, t, rfl, _⟩ := h
      rfl
    obtain ⟨v, t, rfl, ht, hd, hz, q⟩ := h
    refine ⟨_, (pss_one (ps_ret (pe_op op_add pe_int (pe_callB (cr_sum rfl) (by rfl) T.z_sum (by decide +kernel) (pa_cons (pe_lc (own := [("child", 1)]) (g := gName 1) (tt := tYes) rfl sc__law_parts.nd (pi_list (pe_ix ix_tup (pv 0) pe_int (fun _ _ => rfl))) (blkOk_by (own := [("child", 1)]) (N := ["tree", "child"]) (sc := (defScope s__law_parts)) (by decide +kernel)) (fun _ _ _ _ _ => (pg_name (i := 1) sc__law_parts.nd rfl (Or.inl rfl))) (fun _ _ _ _ _ => pts_nil) (fun _ _ _ _ _ => (pe_call G__law_parts (hr.mono (by omega)) (by rfl) T.m__law_parts T.F__law_parts.kp T.b__law_parts .nil pass0 (pa_cons (pv 1) pa_nil)))) pa_nil))))), ?_⟩
    obtain ⟨c, ks⟩ := t
    simp only [Tr.depth] at hd
    simp only [Tr.size] at hz
    have lz := len_sizes ks
    cases ht with
    | node h1 h2 k1 k2 c1 c2 r =>
      rename_i a l xs
      have lr := r.len
      refine ⟨_, rfl, _, _, 1, _, rfl, rfl, SqT.of h1, atI_nat (j := 1) rfl, _, rfl, ⟨_, SqL.of h2⟩, fun D hD => ?_⟩
      refine lc_list (xs := xs) (fun i H2 => H2 D = some (.lst (((ks.take i).map fun t => (t.size : Int)).map V.int)) ∧ Same H H2) ⟨upd_same, same_new hD⟩ (fun i H2 _ ⟨_, s⟩ => SqL.of (s _ _ h2)) ?_ ?_
      · rintro i x H2 hx ⟨g1, g2⟩
        obtain ⟨t1, ht1, hx2⟩ := r.getV hx
        have dt := depths_mem (List.mem_of_getElem? ht1)
        have st := sizes_mem (List.mem_of_getElem? ht1)
        refine ⟨rfl, _, rfl, x, t1, rfl, hx2.same g2, by omega, by omega, fun H3 s3 => ⟨_, s3 _ _ g1, ?_, ?_, same_add (g2.trans s3) hD⟩⟩
        · rw [List.length_map, List.length_map, List.length_take]
          exact Nat.lt_of_le_of_lt (show _ ≤ 1000000 by omega) (by decide)
        · rw [upd_same, take_succ_of ht1, List.map_append, List.map_append]
          rfl
      · rintro H2 ⟨g1, g2⟩
        rw [lr, List.take_length] at g1
        refine ⟨D, _, rfl, SqL.of g1, 1, _, rfl, rfl, ?_⟩
        rw [sizes_sum]
        have e : (1 : Int) + (sizes ks : Int) = ((Tr.node c ks).size : Nat) := by simp only [Tr.size]; omega
        show Q (.int (1 + (sizes ks : Int))) H2
        rw [e]
        exact q _ g2
def sp__law_wider : Sp := fun vs H Q _ => ∃ (p : Addr) (n : Nat) (v : V) (t : Tr), vs = [.ref p, v] ∧ Pool H p n ∧ n ≤ 100000 ∧ TrAt (fun _ => True) H v t ∧ t.depth ≤ 31 ∧ t.size ≤ 60 ∧
  ∀ r u H', u.depth ≤ 31 → u.size ≤ 60 → Fr p H H' → TrAt (fun _ => True) H' r u → Pool H' p 200000 → Q r H'
theorem ok__law_wider (T : Txt K mg) : FnOk P w K mg base CX0 34 T.f__law_wider T.d__law_wider ["pool", "tree"] sp__law_wider := by
  have G__law_parts : FnOk P w K mg base CX0 31 T.f__law_parts T.d__law_parts ["tree"] (sp__law_parts 31) := ok__law_parts T 31
  have G__law_take : FnOk P w K mg base CX0 1 T.f__law_take T.d__law_take ["pool", "many"] sp__law_take := ok__law_take T
  have G__law_shuffled : FnOk P w K mg base CX0 33 T.f__law_shuffled T.d__law_shuffled ["pool", "tree"] (sp__law_shuffled 31) := ok__law_shuffled T 31
  refine T.F__law_wider.ok sc__law_wider (fun vs H Q E h => ?_) (fun cdv A outer s H vs Q E hr h => ?_)
  · obtain ⟨p, n, v, t, rfl, _⟩ := h
    rfl
  obtain ⟨p, n, v, t, rfl, hp, hn, ht, hd, hz, q⟩ := h
  refine ⟨_, (pss_cons (ps_set (i := 2) sc__law_wider.nd rfl (Or.inl rfl) (pe_callTy call_list_of (by rfl) T.z_list (by decide +kernel) (pa_cons (pe_ix ix_tup (pv 1) pe_int (fun _ _ => rfl)) pa_nil))) (pss_cons (ps_set (i := 3) sc__law_wider.nd rfl (Or.inl rfl) (pe_op op_sub pe_int (pe_call G__law_parts (hr.mono (by omega)) (by rfl) T.m__law_parts T.F__law_parts.kp T.b__law_parts .nil pass0 (pa_cons (pv 1) pa_nil)))) (C8.pss_cut (ps_if (pt_cmpR (op_neD hr.units) (pv 2) (pe_lst pa_nil) (nomark _)) (pss_cons (ps_set (i := 4) sc__law_wider.nd rfl (Or.inl rfl) (pe_ix ix_list (pv 2) (pe_call G__law_take (hr.mono (by omega)) (by rfl) T.m__law_take T.F__law_take.kp T.b__law_take .nil pass0 (pa_cons (pv 0) (pa_cons (pe_callB call_len_seq (by rfl) T.z_len PySem.boot_len (pa_cons (pv 2) pa_nil)) pa_nil))) (fun _ _ => rfl))) (pss_one (ps_for PassesOwn.never rfl (pi_range1 (by rfl) T.z_range (pa_cons (pe_callB (call_min2 rfl) (by rfl) T.z_min (by decide +kernel) (pa_cons (pe_call G__law_take (hr.mono (by omega)) (by rfl) T.m__law_take T.F__law_take.kp T.b__law_take .nil pass0 (pa_cons (pv 0) (pa_cons pe_int pa_nil))) (pa_cons (pe_op op_fdivW (pv 3) (pe_call G__law_parts (hr.mono (by omega)) (by rfl) T.m__law_parts T.F__law_parts.kp T.b__law_parts .nil pass0 (pa_cons (pv 4) pa_nil))) pa_nil))) pa_nil)) (pg_name (i := 5) sc__law_wider.nd rfl (Or.inl rfl)) (pss_one (ps_expr (pe_bm PySem.F.plainAttrs_list PySem.F.slot_list_insert PySem.F.type_list_insert mt_insert (pv 2) (pa_cons (pe_call G__law_take (hr.mono (by omega)) (by rfl) T.m__law_take T.F__law_take.kp T.b__law_take .nil pass0 (pa_cons (pv 0) (pa_cons (pe_op op_add (pe_callB call_len_seq (by rfl) T.z_len PySem.boot_len (pa_cons (pv 2) pa_nil)) pe_int) pa_nil))) (pa_cons (pe_call G__law_shuffled (hr.mono (by omega)) (by rfl) T.m__law_shuffled T.F__law_shuffled.kp T.b__law_shuffled .nil pass0 (pa_cons (pv 0) (pa_cons (pv 4) pa_nil))) pa_nil)))))))) pss_nil) (pss_one (ps_ret (pe_tup (pa_cons (pe_ix ix_tup (pv 1) pe_int (fun _ _ => rfl)) (pa_cons (pv 2) pa_nil)))))))), ?_⟩
  obtain ⟨c, ks⟩ := t
  cases hp.off ht with
  | node h1 h2 k1 k2 c1 c2 r =>
  rename_i a l xs
  have lr := r.len
  have hz2 := hz
  simp only [Tr.size] at hz2
  have lz := len_sizes ks
  simp only [Tr.depth] at hd
  refine ⟨_, rfl, _, _, 1, _, rfl, rfl, SqT.of h1, atI_nat (j := 1) rfl, l, xs, rfl, .inl (SqL.of h2), fun L hL => ?_⟩
  have s0 := same_new hL (o := .lst xs)
  refine ⟨_, rfl, _, _, rfl, ht.same s0, by simp only [Tr.depth]; omega, by omega, fun H1 s1 => ⟨_, _, rfl, rfl, ?_⟩⟩
  have hL1 := s1 _ _ (upd_same (H := H) (a := L) (o := .lst xs))
  have nLp : L ≠ p := hp.ne' hL
  have s01 := s0.trans s1
  have R1 : TrsAt (fun b => b ≠ L ∧ b ≠ p) H1 xs ks := ((r.off hL).weak fun b h => ⟨h.2, h.1.2⟩).same s01
  have p1 := hp.keep s01
  refine ⟨fun σ2 H2 => ∃ (vs : List V) (ts : List Tr) (y3 y4 y5 : Option V), σ2 = [some (.ref p), some (.ref a), some (.ref L), y3, y4, y5] ∧ H2 L = some (.lst vs) ∧ TrsAt (fun b => b ≠ L ∧ b ≠ p) H2 vs ts ∧ sizes ts ≤ 59 ∧ depths ts ≤ 30 ∧ Fr p H H2 ∧ Pool H2 p 200000, ?_, ?_⟩
  · refine ⟨_, rfl, (by show 0 ≤ sizeLine; decide), fun e he => ?_⟩
    have sE := same_new he (o := .lst [])
    have hdl : (dats ks).length = ks.length := by
      clear R1 r lr hz hz2 lz hd ht
      induction ks with
      | nil => rfl
      | cons t r ih => simp only [dats, List.length_cons, ih]
    refine ⟨_, _, .lst (SqL.of (sE _ _ hL1)) (TrsAt.dp _ _ (R1.same sE)), dp_nil upd_same, shaped_trs (R1.same sE) (by omega), shaped_nil, _, rfl, ?_⟩
    rw [eqv_nil, hdl]
    have sHE := s01.trans sE
    by_cases hu : ks.length = 0
    · rw [decide_eq_true hu]
      refine iteF ?_
      exact ⟨xs, ks, _, _, _, rfl, sE _ _ hL1, R1.same sE, by omega, by omega, Fr.same sHE, (p1.keep sE).mono (by omega)⟩
    · rw [decide_eq_false hu]
      refine iteT ?_
      have pE := p1.keep sE
      have RE := R1.same sE
      have hLE := sE _ _ hL1
      generalize hHE : upd H1 e (.lst []) = HE0 at *
      refine ⟨_, rfl, _, rfl, _, rfl, L, xs, rfl, .inl (SqL.of hLE), p, (xs.length : Int), n, rfl, pE, by omega, by omega, by omega, fun rj H3 rj0 rj1 c3 p3 => ?_⟩
      obtain ⟨j, rfl⟩ : ∃ j : Nat, rj = (j : Int) := ⟨rj.toNat, by omega⟩
      have hj : j < xs.length := by omega
      obtain ⟨o1, ho1, hov⟩ := RE.getV (List.getElem?_eq_getElem hj)
      have so := sizes_mem (List.mem_of_getElem? ho1)
      have do1 := depths_mem (List.mem_of_getElem? ho1)
      have spo := size_pos o1
      have k3 : ∀ b o, b ≠ p → HE0 b = some o → H3 b = some o := fun b o nb h => c3.at h nb
      have hL3 := k3 _ _ nLp hLE
      refine ⟨L, xs, j, xs[j], rfl, rfl, SqL.of hL3, at_of (j := j) rfl (List.getElem?_eq_getElem hj), ?_⟩
      have R3 : TrsAt (fun b => b ≠ L ∧ b ≠ p) H3 xs ks := RE.keep fun b o h e => k3 b o h.2 e
      have O3 : TrAt (fun b => b ≠ L ∧ b ≠ p) H3 xs[j] o1 := hov.keep fun b o h e => k3 b o h.2 e
      have F3 : Fr p H H3 := (Fr.same sHE).trans (Fr.chg c3)
      refine ⟨_, rfl, p, 12, n + 1, rfl, p3, by omega, by decide, by decide, fun r12 H4 r120 r121 c4 p4 => ?_⟩
      have k4 : ∀ b o, b ≠ p → H3 b = some o → H4 b = some o := fun b o nb h => c4.at h nb
      have O4 := O3.keep fun b o h e => k4 b o h.2 e
      refine ⟨_, rfl, _, rfl, xs[j], o1, rfl, O4.weak fun _ _ => trivial, by omega, by omega, fun H5 s5 => ?_⟩
      have hdv : ((60 : Int) - ((Tr.node c ks).size : Int)) / (o1.size : Int) * (o1.size : Int) ≤ (60 : Int) - ((Tr.node c ks).size : Int) := Int.ediv_mul_le _ (by omega)
      have hdv0 : 0 ≤ ((60 : Int) - ((Tr.node c ks).size : Int)) / (o1.size : Int) := Int.ediv_nonneg (by omega) (by omega)
      generalize hqd : ((60 : Int) - ((Tr.node c ks).size : Int)) / (o1.size : Int) = qd at hdv hdv0
      refine ⟨(60 : Int) - ((Tr.node c ks).size : Int), (o1.size : Int), rfl, rfl, divW (by omega) (by omega), r12, qd, congrArg (fun z => [V.int r12, V.int z]) hqd, ?_⟩
      obtain ⟨m, hm, hm0, hm1, hm2⟩ : ∃ m : Int, (if qd < r12 then qd else r12) = m ∧ 0 ≤ m ∧ m ≤ qd ∧ m ≤ 11 := ⟨_, rfl, by split <;> omega, by split <;> omega, by split <;> omega⟩
      have hms : m * (o1.size : Int) ≤ (60 : Int) - ((Tr.node c ks).size : Int) := Int.le_trans (Int.mul_le_mul_of_nonneg_right hm1 (by omega)) hdv
      refine ⟨m, congrArg (fun z => [V.int z]) hm, by omega, by omega, for_range (lo := 0) (n := m.toNat) (fun i σ H6 => ∃ (vs : List V) (ts : List Tr) (y5 : Option V), σ = [some (.ref p), some (.ref a), some (.ref L), some (.int ((60 : Int) - ((Tr.node c ks).size : Int))), some xs[j], y5] ∧ H6 L = some (.lst vs) ∧ TrsAt (fun b => b ≠ L ∧ b ≠ p) H6 vs ts ∧ sizes ts = sizes ks + i * o1.size ∧ depths ts ≤ 30 ∧ TrAt (fun b => b ≠ L ∧ b ≠ p) H6 xs[j] o1 ∧ Fr p H H6 ∧ Pool H6 p (n + 2 + 100 * i))
        ⟨xs, ks, _, rfl, s5 _ _ (k4 _ _ nLp hL3), (R3.keep fun b o h e => k4 b o h.2 e).same s5, by omega, by omega, O4.same s5, (F3.trans (Fr.chg c4)).trans (Fr.same s5), (p4.keep s5).mono (by omega)⟩ ?_ ?_⟩
      · rintro i σ H6 hi ⟨vs, ts, y5, rfl, w1, w2, w3, w4, w5, w6, w7⟩
        have hi12 : i < 12 := by omega
        have hisz : ((i : Int) + 1) * (o1.size : Int) ≤ (60 : Int) - ((Tr.node c ks).size : Int) := Int.le_trans (Int.mul_le_mul_of_nonneg_right (by omega) (by omega)) hms
        have hisz2 : (i + 1) * o1.size + (Tr.node c ks).size ≤ 60 := by
          have e1 : (((i + 1) * o1.size : Nat) : Int) = ((i : Int) + 1) * (o1.size : Int) := by rw [Int.natCast_mul]; rfl
          omega
        rw [Nat.succ_mul] at hisz2
        have hvl := w2.len
        have hvs := len_sizes ts
        simp only [Tr.size] at hisz2
        refine ⟨_, rfl, .inl ⟨rfl, _, SqL.of w1⟩, _, rfl, _, rfl, L, vs, rfl, .inl (SqL.of w1), _, 1, rfl, rfl, p, (vs.length : Int) + 1, _, rfl, w7, by omega, by omega, by omega, fun rk H7 rk0 rk1 c7 p7 => ?_⟩
        have k7 : ∀ b o, b ≠ p → H6 b = some o → H7 b = some o := fun b o nb h => c7.at h nb
        have O7 := w5.keep fun b o h e => k7 b o h.2 e
        refine ⟨_, rfl, _, rfl, p, _, xs[j], o1, rfl, p7, by omega, O7.weak fun _ _ => trivial, by omega, by omega, fun su u H8 hSh f8 T8 p8 => ?_⟩
        have hL8 := f8 _ _ nLp (k7 _ _ nLp w1)
        have T8b : TrAt (fun b => b ≠ L ∧ b ≠ p) H8 su u := T8.weak fun b h => ⟨(fun e => by rw [e, k7 _ _ nLp w1] at h; cases h), fun e => p7.some (by rw [← e]; exact h)⟩
        have W8 : TrsAt (fun b => b ≠ L ∧ b ≠ p) H8 vs ts := w2.keep fun b o h e => f8 b o h.2 (k7 b o h.2 e)
        refine ⟨L, vs, rk, su, rfl, rfl, hL8, Nat.lt_of_le_of_lt (show _ ≤ 1000000 by omega) (by decide), by omega, by omega, ?_⟩
        have hsp : vs = vs.take rk.toNat ++ vs.drop rk.toNat := (List.take_append_drop _ _).symm
        rw [hsp] at W8
        obtain ⟨ta, tb, hts, Wa, Wb⟩ := TrsAt.split W8
        have W9 : TrsAt (fun b => b ≠ L ∧ b ≠ p) H8 (vs.take rk.toNat ++ [su] ++ vs.drop rk.toNat) (ta ++ [u] ++ tb) := (Wa.append (.cons T8b .nil)).append Wb
        refine ⟨_, _, _, rfl, upd_same, W9.keep (upd_keep fun b h => h.1), ?_, ?_, (O7.keep fun b o h e => f8 b o h.2 e).keep (upd_keep fun b h => h.1), ?_, ?_⟩
        · rw [sizes_append, sizes_append]
          rw [hts, sizes_append] at w3
          simp only [sizes]
          rw [← hSh.size, Nat.succ_mul]
          omega
        · rw [depths_append, depths_append]
          rw [hts, depths_append] at w4
          simp only [depths]
          rw [← hSh.depth]
          omega
        · intro b o nb e
          rw [upd_ne (ne_of_none e hL)]
          exact f8 _ _ nb (k7 _ _ nb (w6 _ _ nb e))
        · exact (p8.upd nLp).mono (by omega)
      · rintro σ H6 ⟨vs, ts, y5, rfl, w1, w2, w3, w4, w5, w6, w7⟩
        refine ⟨vs, ts, _, _, _, rfl, w1, w2, ?_, w4, w6, w7.mono (by omega)⟩
        have e1 : ((m.toNat * o1.size : Nat) : Int) = m * (o1.size : Int) := by rw [Int.natCast_mul, Int.toNat_of_nonneg hm0]
        simp only [Tr.size] at hms
        omega
  · rintro σ2 H2 ⟨vs, ts, y3, y4, y5, rfl, w1, w2, w3, w4, w5, w6⟩
    have ha2 := w5 _ _ (fun e => by obtain ⟨_, _, _, e2, _⟩ := hp; rw [e, e2] at h1; cases h1) h1
    refine ⟨_, rfl, _, _, 0, _, rfl, rfl, SqT.of ha2, atI_nat (j := 0) rfl, _, rfl, (by show 2 ≤ sizeLine; decide), fun tp htp => ?_⟩
    have stp := same_new htp (o := .tup [.str (ch c), .ref L])
    refine q _ (.node c ts) _ (by simp only [Tr.depth]; omega) (by simp only [Tr.size]; omega) (w5.trans (Fr.same stp)) ?_ (w6.keep stp)
    exact .node upd_same (stp _ _ w1) trivial trivial c1 c2 ((w2.same stp).weak fun _ _ => trivial)
end

def sp__law_is_heap : Sp := fun vs H Q _ => ∃ (a b : Addr) (es fs : List (V × Tr × Nat)), vs = [.ref a, .ref b] ∧ H a = some (.lst (es.map (·.1))) ∧ H b = some (.lst (fs.map (·.1))) ∧ es.map (·.2) = fs.map (·.2) ∧ (∀ e ∈ es, HeIn H e ∧ e.2.1.depth ≤ 31 ∧ e.2.1.size ≤ 1000) ∧ (∀ e ∈ fs, HeIn H e) ∧ ∀ H', Same H H' → Q (.bl true) H'
section
variable {P : Program} {w : World} {K : PySem.W.Frag} {mg : Str → Option Value} {base : Heap}
theorem ok__law_is_heap (T : Txt K mg) : FnOk P w K mg base CX0 32 T.f__law_is_heap T.d__law_is_heap ["found", "due"] sp__law_is_heap := by
  have G__law_same : FnOk P w K mg base CX0 31 T.f__law_same T.d__law_same ["one", "other"] (sp__law_same 31) := ok__law_same T 31
  refine T.F__law_is_heap.ok sc__law_is_heap (fun vs H Q E h => ?_) (fun cdv A outer s H vs Q E hr h => ?_)
  · obtain ⟨a, b, es, fs, rfl, _⟩ := h
    rfl
  obtain ⟨a, b, es, fs, rfl, ha, hb, hes, he, hf, q⟩ := h
  refine ⟨_, (pss_cons (ps_if (PW.pt (pw_or (pt_not (pt_val (pe_callB call_isi (by rfl) T.z_isinstance (by decide +kernel) (pa_cons (pv 0) (pa_cons (pe_bltn (v := .ty "list") (by rfl) T.z_list (by decide +kernel) rfl) pa_nil))))) (pw_or1 (pt_cmpR op_ne (pe_callB call_len_seq (by rfl) T.z_len PySem.boot_len (pa_cons (pv 0) pa_nil)) (pe_callB call_len_seq (by rfl) T.z_len PySem.boot_len (pa_cons (pv 1) pa_nil)) (nomark _))))) (pss_one (ps_ret pe_bl)) pss_nil) (pss_cons (ps_for PassesOwn.never rfl (pi_zip (by rfl) T.z_zip (pa_cons (pv 0) (pa_cons (pv 1) pa_nil))) (pg_tup rfl (pgs_cons (pg_name (i := 2) sc__law_is_heap.nd rfl (Or.inl rfl)) (pgs_cons (pg_name (i := 3) sc__law_is_heap.nd rfl (Or.inl rfl)) pgs_nil))) (pss_cons (ps_if (PW.pt (pw_or (pt_not (pt_val (pe_callB call_isi (by rfl) T.z_isinstance (by decide +kernel) (pa_cons (pv 2) (pa_cons (pe_bltn (v := .ty "tuple") (by rfl) T.z_tuple (by decide +kernel) rfl) pa_nil))))) (pw_or (pt_cmpR op_ne (pe_callB call_len_seq (by rfl) T.z_len PySem.boot_len (pa_cons (pv 2) pa_nil)) pe_int (nomark _)) (pw_or1 (pt_not (pt_val (pe_call G__law_same (hr.mono (by omega)) (by rfl) T.m__law_same T.F__law_same.kp T.b__law_same .nil pass0 (pa_cons (pe_ix ix_tup (pv 2) pe_int (fun _ _ => rfl)) (pa_cons (pe_ix ix_tup (pv 3) pe_int (fun _ _ => rfl)) pa_nil))))))))) (pss_one (ps_ret pe_bl)) pss_nil) (pss_one (ps_if (PW.pt (pw_or (pt_not (pt_val (pe_callB call_isi (by rfl) T.z_isinstance (by decide +kernel) (pa_cons (pe_ix ix_tup (pv 2) pe_int (fun _ _ => rfl)) (pa_cons (pe_bltn (v := .ty "int") (by rfl) T.z_int (by decide +kernel) rfl) pa_nil))))) (pw_or (pt_val (pe_callB call_isi (by rfl) T.z_isinstance (by decide +kernel) (pa_cons (pe_ix ix_tup (pv 2) pe_int (fun _ _ => rfl)) (pa_cons (pe_bltn (v := .ty "bool") (by rfl) T.z_bool (by decide +kernel) rfl) pa_nil)))) (pw_or1 (pt_cmpR op_ne (pe_ix ix_tup (pv 2) pe_int (fun _ _ => rfl)) (pe_ix ix_tup (pv 3) pe_int (fun _ _ => rfl)) (nomark _)))))) (pss_one (ps_ret pe_bl)) pss_nil)))) (pss_one (ps_ret pe_bl)))), ?_⟩
  have hlen : es.length = fs.length := by
    have := congrArg List.length hes
    rwa [List.length_map, List.length_map] at this
  refine ⟨_, rfl, _, _, _, _, true, rfl, .ty "list", .base (.lst ha), kit_ty (by decide +kernel), _, rfl, iteF ?_⟩
  refine ⟨_, rfl, a, _, rfl, .inl (SqL.of ha), _, rfl, b, _, rfl, .inl (SqL.of hb), rfl, _, rfl, ?_⟩
  rw [List.length_map, List.length_map, hlen, decide_eq_true rfl]
  refine iteF ?_
  refine ⟨_, rfl, _, rfl, a, b, _, _, rfl, SqL.of ha, SqL.of hb, RZ.for_zipL (xs := es.map (·.1)) (ys := fs.map (·.1)) (by rw [List.length_map, List.length_map, hlen]) (fun i σ H2 => ∃ y2 y3, σ = [some (.ref a), some (.ref b), y2, y3] ∧ Same H H2) ⟨_, _, rfl, Same.refl _⟩ (fun i σ H2 ⟨_, _, _, s⟩ => ⟨SqL.of (s _ _ ha), SqL.of (s _ _ hb)⟩) ?_ ?_⟩
  · rintro i x y Tt σ H2 hx hy ⟨y2, y3, rfl, g2⟩ hT
    rw [List.getElem?_map] at hx hy
    cases hc : es[i]? with
    | none => rw [hc] at hx; cases hx
    | some e =>
    cases hc2 : fs[i]? with
    | none => rw [hc2] at hy; cases hy
    | some e' =>
    rw [hc] at hx
    rw [hc2] at hy
    cases hx
    cases hy
    have heq : e.2 = e'.2 := by
      have h1 := congrArg (·[i]?) hes
      simp only [List.getElem?_map, hc, hc2, Option.map_some, Option.some.injEq] at h1
      exact h1
    obtain ⟨⟨p1, x1, r1, r2, r3⟩, hd1, hz1⟩ := he e (List.mem_of_getElem? hc)
    obtain ⟨p2, x2, u1, u2, u3⟩ := hf e' (List.mem_of_getElem? hc2)
    rw [← heq] at u2 u3
    obtain ⟨v1, t1, n1⟩ := e
    obtain ⟨v2, t2, n2⟩ := e'
    dsimp only at r1 r2 r3 u1 u2 u3 hd1 hz1
    subst r1 u1
    have g3 : Same H (upd H2 Tt (.tup [.ref p1, .ref p2])) := same_add g2 (g2.free hT)
    refine ⟨_, _, rfl, SqT.of upd_same, rfl, _, _, rfl, _, _, rfl, rfl, ?_⟩
    refine ⟨_, rfl, _, _, _, _, true, rfl, .ty "tuple", .base (.tup (g3 _ _ r2)), kit_ty (by decide +kernel), _, rfl, iteF ?_⟩
    refine ⟨_, rfl, _, _, rfl, .inr (SqT.of (g3 _ _ r2)), rfl, _, rfl, iteF ?_⟩
    refine ⟨_, rfl, _, _, 0, _, rfl, rfl, SqT.of (g3 _ _ r2), atI_nat (j := 0) rfl, _, rfl, _, _, 0, _, rfl, rfl, SqT.of (g3 _ _ u2), atI_nat (j := 0) rfl, x1, x2, t1, rfl, r3.same g3, u3.same g3, hd1, by omega, fun H3 s3 => ⟨_, rfl, iteF ?_⟩⟩
    have g4 := g3.trans s3
    refine ⟨_, rfl, _, _, 1, _, rfl, rfl, SqT.of (g4 _ _ r2), atI_nat (j := 1) rfl, _, _, _, _, true, rfl, .ty "int", .base (.int _), kit_ty (by decide +kernel), _, rfl, iteF ?_⟩
    refine ⟨_, rfl, _, _, 1, _, rfl, rfl, SqT.of (g4 _ _ r2), atI_nat (j := 1) rfl, _, _, _, _, false, rfl, .ty "bool", .base (.int _), kit_ty (by decide +kernel), _, rfl, iteF ?_⟩
    refine ⟨_, rfl, _, _, 1, _, rfl, rfl, SqT.of (g4 _ _ r2), atI_nat (j := 1) rfl, _, rfl, _, _, 1, _, rfl, rfl, SqT.of (g4 _ _ u2), atI_nat (j := 1) rfl, rfl, _, rfl, ?_⟩
    rw [decide_eq_true rfl]
    exact iteF ⟨_, _, rfl, g4⟩
  · rintro σ H2 ⟨y2, y3, rfl, g2⟩
    exact q _ g2
end

theorem hstep_rep {t : Tr} : ∀ (n : Nat) (acc : List (Tr × Nat)) (m : Nat), (List.replicate n t).foldl hstep (acc ++ [(t, m)]) = acc ++ [(t, m + n)]
  | 0, acc, m => rfl
  | n + 1, acc, m => by
    rw [List.replicate_succ, List.foldl_cons]
    have e : hstep (acc ++ [(t, m)]) t = acc ++ [(t, m + 1)] := by
      unfold hstep
      simp only [List.getLast?_append, List.getLast?_singleton, Option.or_some, Option.some_or, if_true, List.dropLast_concat]
    rw [e, hstep_rep n acc (m + 1)]
    have : m + 1 + n = m + (n + 1) := by omega
    rw [this]
theorem rle_expand_go : ∀ (ds acc : List (Tr × Nat)), (∀ d ∈ ds, 1 ≤ d.2) → (acc ++ ds).Pairwise (fun a b => a.1.wr ≠ b.1.wr) → (expand ds).foldl hstep acc = acc ++ ds
  | [], acc, _, _ => by simp [expand]
  | (t, n) :: r, acc, h, hp => by
    have h1 : 1 ≤ n := h (t, n) List.mem_cons_self
    have e1 : expand ((t, n) :: r) = List.replicate n t ++ expand r := by simp [expand]
    rw [e1, List.foldl_append]
    obtain ⟨m, rfl⟩ : ∃ m, n = m + 1 := ⟨n - 1, by omega⟩
    have e2 : (List.replicate (m + 1) t).foldl hstep acc = acc ++ [(t, m + 1)] := by
      rw [List.replicate_succ, List.foldl_cons]
      have e3 : hstep acc t = acc ++ [(t, 1)] := by
        unfold hstep
        cases hl : acc.getLast? with
        | none =>
          have : acc = [] := List.getLast?_eq_none_iff.mp hl
          subst this
          rfl
        | some x =>
          obtain ⟨u, k⟩ := x
          have hm : (u, k) ∈ acc := List.mem_of_getLast? hl
          have hne : u.wr ≠ t.wr := (List.pairwise_append.mp hp).2.2 (u, k) hm (t, m + 1) List.mem_cons_self
          dsimp only
          rw [if_neg hne]
      rw [e3, hstep_rep, Nat.add_comm]
    rw [e2, rle_expand_go r (acc ++ [(t, m + 1)]) (fun d hd => h d (List.mem_cons_of_mem _ hd)) (by rw [List.append_assoc]; exact hp), List.append_assoc]
    rfl
theorem expand_sorted : ∀ ds : List (Tr × Nat), ds.Pairwise (fun a b => leW a.1 b.1 = true) → (expand ds).Pairwise (fun a b => leW a b = true)
  | [], _ => by simp [expand]
  | (t, n) :: r, h => by
    have e1 : expand ((t, n) :: r) = List.replicate n t ++ expand r := by simp [expand]
    rw [List.pairwise_cons] at h
    rw [e1, List.pairwise_append]
    refine ⟨?_, expand_sorted r h.2, fun a ha b hb => ?_⟩
    · rw [List.pairwise_replicate]
      exact .inr (decide_eq_true (List.le_refl _))
    · rw [List.mem_replicate] at ha
      simp only [expand, List.mem_flatten, List.mem_map] at hb
      obtain ⟨l, ⟨d, hd, rfl⟩, hb⟩ := hb
      rw [List.mem_replicate] at hb
      rw [ha.2, hb.2]
      exact h.1 d hd
theorem expand_perm {a b : List (Tr × Nat)} (h : a.Perm b) : (expand a).Perm (expand b) := (h.map _).flatten
theorem rle_is {ds : List (Tr × Nat)} {L : List Tr} (hL : letss Ltr L) (h1 : ∀ d ∈ ds, 1 ≤ d.2) (hn : ds.Pairwise (fun a b => a.1.wr ≠ b.1.wr)) (hs : ds.Pairwise (fun a b => leW a.1 b.1 = true)) (hp : (expand ds).Perm L) : ds = rle (L.mergeSort leW) := by
  rw [← sorted_is hL hp (expand_sorted ds hs)]
  exact (rle_expand_go ds [] h1 hn).symm
def dput : List (Tr × Nat) → Tr → List (Tr × Nat)
  | [], t => [(t, 1)]
  | (u, n) :: r, t => if u.wr = t.wr then (u, n + 1) :: r else (u, n) :: dput r t
theorem dput_expand {t : Tr} (ht : t.lets Ltr) : ∀ ds : List (Tr × Nat), (∀ d ∈ ds, d.1.lets Ltr) → (expand (dput ds t)).Perm (expand ds ++ [t])
  | [], _ => by simp [dput, expand]
  | (u, n) :: r, h => by
    have e1 : ∀ (n : Nat) (r : List (Tr × Nat)), expand ((u, n) :: r) = List.replicate n u ++ expand r := fun n r => by simp [expand]
    unfold dput
    by_cases hw : u.wr = t.wr
    · rw [if_pos hw]
      have : u = t := wr_eq (h (u, n) List.mem_cons_self) ht hw
      subst this
      rw [e1, e1, List.replicate_succ', List.append_assoc, List.append_assoc]
      exact List.Perm.append_left _ List.perm_append_comm
    · rw [if_neg hw, e1, e1, List.append_assoc]
      exact List.Perm.append_left _ (dput_expand ht r fun d hd => h d (List.mem_cons_of_mem _ hd))


abbrev Ent := Tr × V × Nat
def kF (xs : List Ent) : List (Key × V) := xs.map fun e => (Sum.inr (ws e.1), e.2.1)
def kN (xs : List Ent) : List (Key × V) := xs.map fun e => (Sum.inr (ws e.1), .int e.2.2)
def xput (xs : List Ent) (t : Tr) (f : V) : List Ent :=
  if xs.any (fun e => decide (e.1.wr = t.wr)) = true then xs.map (fun e => if e.1.wr = t.wr then (e.1, f, e.2.2 + 1) else e) else xs ++ [(t, f, 1)]
theorem ws_inj {a b : Tr} : ((Sum.inr (ws a) : Key) = Sum.inr (ws b)) ↔ a.wr = b.wr := by
  constructor
  · intro h
    have h1 : ws a = ws b := Sum.inr.inj h
    have := congrArg (fun s : Str => s.cps.toList) h1
    simpa [ws] using this
  · intro h
    simp only [ws, h]
theorem put_F (xs : List Ent) (t : Tr) (f : V) : putK (kF xs) (Sum.inr (ws t)) f = kF (xput xs t f) := by
  unfold putK kF xput
  have e1 : ((xs.map fun e => ((Sum.inr (ws e.1) : Key), e.2.1)).any fun kv => decide (kv.1 = Sum.inr (ws t))) = xs.any (fun e => decide (e.1.wr = t.wr)) := by
    rw [List.any_map]
    congr 1
    funext e
    simp only [Function.comp, ws_inj]
  rw [e1]
  split
  · rw [List.map_map, List.map_map]
    apply List.map_congr_left
    intro e _
    simp only [Function.comp, ws_inj]
    split <;> rfl
  · rw [List.map_append]
    rfl
theorem get_N (xs : List Ent) (t : Tr) : (xs.any (fun e => decide (e.1.wr = t.wr)) = false ∧ valV (kN xs) (Sum.inr (ws t)) = none) ∨ ∃ e ∈ xs, e.1.wr = t.wr ∧ valV (kN xs) (Sum.inr (ws t)) = some (.int e.2.2) := by
  unfold valV kN
  induction xs with
  | nil => exact .inl ⟨rfl, rfl⟩
  | cons e r ih =>
    simp only [List.map_cons, List.find?_cons, List.any_cons]
    by_cases h : e.1.wr = t.wr
    · have e1 : decide ((Sum.inr (ws e.1) : Key) = Sum.inr (ws t)) = true := decide_eq_true (ws_inj.mpr h)
      refine .inr ⟨e, List.mem_cons_self, h, ?_⟩
      rw [e1]
      rfl
    · have e1 : decide ((Sum.inr (ws e.1) : Key) = Sum.inr (ws t)) = false := decide_eq_false fun h2 => h (ws_inj.mp h2)
      rw [e1]
      rcases ih with ⟨i1, i2⟩ | ⟨e2, i1, i2, i3⟩
      · exact .inl ⟨by simp [h, i1], i2⟩
      · exact .inr ⟨e2, List.mem_cons_of_mem _ i1, i2, i3⟩
def xrec : List Ent → Tr → V → List Ent
  | [], t, f => [(t, f, 1)]
  | e :: r, t, f => if e.1.wr = t.wr then (e.1, f, e.2.2 + 1) :: r else e :: xrec r t f
theorem map_keep {t : Tr} {f : V} : ∀ {r : List Ent}, (∀ e ∈ r, e.1.wr ≠ t.wr) → (r.map fun e => if e.1.wr = t.wr then (e.1, f, e.2.2 + 1) else e) = r
  | [], _ => rfl
  | e :: r, h => by
    rw [List.map_cons, if_neg (h e List.mem_cons_self), map_keep fun x hx => h x (List.mem_cons_of_mem _ hx)]
theorem xput_rec {t : Tr} {f : V} : ∀ {xs : List Ent}, xs.Pairwise (fun a b => a.1.wr ≠ b.1.wr) → xput xs t f = xrec xs t f
  | [], _ => rfl
  | e :: r, h => by
    rw [List.pairwise_cons] at h
    have ih := xput_rec (t := t) (f := f) h.2
    unfold xput at ih ⊢
    unfold xrec
    by_cases hw : e.1.wr = t.wr
    · have e1 : ((e :: r).any fun e => decide (e.1.wr = t.wr)) = true := by simp [hw]
      rw [if_pos e1, if_pos hw, List.map_cons, if_pos hw, map_keep fun x hx => by rw [← hw]; exact fun h2 => h.1 x hx h2.symm]
    · have e1 : ((e :: r).any fun e => decide (e.1.wr = t.wr)) = (r.any fun e => decide (e.1.wr = t.wr)) := by simp [hw]
      rw [e1, if_neg hw, List.map_cons, if_neg hw, ← ih]
      split <;> rfl
def nOf : List Ent → Tr → Nat
  | [], _ => 0
  | e :: r, t => if e.1.wr = t.wr then e.2.2 else nOf r t
theorem getN (t : Tr) : ∀ xs : List Ent, (valV (kN xs) (Sum.inr (ws t))).getD (.int 0) = .int (nOf xs t)
  | [] => rfl
  | e :: r => by
    unfold nOf
    have ih := getN t r
    by_cases h : e.1.wr = t.wr
    · rw [if_pos h]
      unfold kN
      rw [List.map_cons, valV_pos (ws_inj.mpr h)]
      rfl
    · rw [if_neg h]
      unfold kN at ih ⊢
      rw [List.map_cons, valV_neg fun h2 => h (ws_inj.mp h2)]
      exact ih
theorem put_N (t : Tr) (f : V) : ∀ {xs : List Ent}, xs.Pairwise (fun a b => a.1.wr ≠ b.1.wr) → putK (kN xs) (Sum.inr (ws t)) (.int ((nOf xs t : Nat) + 1)) = kN (xrec xs t f)
  | [], _ => rfl
  | e :: r, h => by
    rw [List.pairwise_cons] at h
    have ih := put_N t f h.2
    unfold nOf xrec
    unfold putK kN at ih ⊢
    by_cases hw : e.1.wr = t.wr
    · have hk : ((Sum.inr (ws e.1) : Key) = Sum.inr (ws t)) := ws_inj.mpr hw
      rw [if_pos hw, if_pos hw, List.map_cons, if_pos (by rw [List.any_cons, decide_eq_true hk, Bool.true_or]), List.map_cons, if_pos hk, List.map_cons]
      congr 1
      conv => rhs; rw [← List.map_id (List.map (fun e : Ent => ((Sum.inr (ws e.1) : Key), V.int e.2.2)) r)]
      apply List.map_congr_left
      intro kv hkv
      obtain ⟨x, hx, rfl⟩ := List.mem_map.mp hkv
      rw [if_neg fun h2 => h.1 x hx (hw.trans (ws_inj.mp h2).symm)]
      rfl
    · have hk : ¬ ((Sum.inr (ws e.1) : Key) = Sum.inr (ws t)) := fun h2 => hw (ws_inj.mp h2)
      rw [if_neg hw, if_neg hw, List.map_cons, List.any_cons, decide_eq_false hk, Bool.false_or, List.map_cons (f := fun kv : Key × V => _), if_neg hk, List.map_cons (l := xrec r t f), ← ih]
      split <;> rfl
theorem xrec_mem {t : Tr} {f : V} : ∀ {xs : List Ent} {e : Ent}, e ∈ xrec xs t f → e ∈ xs ∨ (e.2.1 = f ∧ e.1.wr = t.wr ∧ 1 ≤ e.2.2 ∧ (e.1 = t ∨ ∃ e2 ∈ xs, e2.1 = e.1))
  | [], e, h => by
    simp only [xrec, List.mem_singleton] at h
    subst h
    exact .inr ⟨rfl, rfl, Nat.le_refl _, .inl rfl⟩
  | x :: r, e, h => by
    unfold xrec at h
    by_cases hw : x.1.wr = t.wr
    · rw [if_pos hw, List.mem_cons] at h
      rcases h with rfl | h
      · exact .inr ⟨rfl, hw, by simp, .inr ⟨x, List.mem_cons_self, rfl⟩⟩
      · exact .inl (List.mem_cons_of_mem _ h)
    · rw [if_neg hw, List.mem_cons] at h
      rcases h with rfl | h
      · exact .inl List.mem_cons_self
      · rcases xrec_mem h with h | ⟨h1, h2, h3, h4⟩
        · exact .inl (List.mem_cons_of_mem _ h)
        · refine .inr ⟨h1, h2, h3, h4.imp id fun ⟨e2, g1, g2⟩ => ⟨e2, List.mem_cons_of_mem _ g1, g2⟩⟩
theorem xrec_pair {t : Tr} {f : V} : ∀ {xs : List Ent}, xs.Pairwise (fun a b => a.1.wr ≠ b.1.wr) → (xrec xs t f).Pairwise (fun a b => a.1.wr ≠ b.1.wr)
  | [], _ => List.pairwise_singleton _ _
  | x :: r, h => by
    rw [List.pairwise_cons] at h
    unfold xrec
    by_cases hw : x.1.wr = t.wr
    · rw [if_pos hw, List.pairwise_cons]
      exact ⟨h.1, h.2⟩
    · rw [if_neg hw, List.pairwise_cons]
      refine ⟨fun e he => ?_, xrec_pair h.2⟩
      rcases xrec_mem he with he | ⟨_, h2, _⟩
      · exact h.1 e he
      · rw [h2]; exact hw
def prs (xs : List Ent) : List (Tr × Nat) := xs.map fun e => (e.1, e.2.2)
theorem xrec_prs {t : Tr} {f : V} : ∀ (xs : List Ent), prs (xrec xs t f) = dput (prs xs) t
  | [] => rfl
  | x :: r => by
    have ih := xrec_prs (t := t) (f := f) r
    unfold xrec
    simp only [prs, List.map_cons, dput] at ih ⊢
    split
    · rfl
    · rw [List.map_cons, ih]
theorem xrec_len {t : Tr} {f : V} : ∀ (xs : List Ent), (xrec xs t f).length ≤ xs.length + 1
  | [] => Nat.le_refl _
  | x :: r => by
    have ih := xrec_len (t := t) (f := f) r
    unfold xrec
    split <;> simp only [List.length_cons] <;> omega
theorem perm_mapE {α β : Type} {f : α → β} {ys l : List β} (h : ys.Perm l) : ∀ {xs : List α}, l = xs.map f → ∃ zs : List α, zs.Perm xs ∧ zs.map f = ys := by
  induction h with
  | nil =>
    intro xs e
    have : xs = [] := List.map_eq_nil_iff.mp e.symm
    subst this
    exact ⟨[], .nil, rfl⟩
  | cons a p ih =>
    intro xs e
    cases xs with
    | nil => cases e
    | cons x r =>
      rw [List.map_cons] at e
      injection e with e1 e2
      obtain ⟨zs, h1, h2⟩ := ih e2
      exact ⟨x :: zs, h1.cons x, by rw [List.map_cons, h2, ← e1]⟩
  | swap a b l =>
    intro xs e
    match xs, e with
    | [], e => cases e
    | [_], e => cases e
    | x :: y :: r, e =>
      simp only [List.map_cons] at e
      injection e with e1 e2
      injection e2 with e2 e3
      exact ⟨y :: x :: r, .swap x y r, by simp only [List.map_cons, e1, e2, e3]⟩
  | trans p1 p2 ih1 ih2 =>
    intro xs e
    obtain ⟨zs, h1, h2⟩ := ih2 e
    obtain ⟨us, g1, g2⟩ := ih1 h2.symm
    exact ⟨us, g1.trans h1, g2⟩
theorem val_F {e : Ent} : ∀ {xs : List Ent}, xs.Pairwise (fun a b => a.1.wr ≠ b.1.wr) → e ∈ xs → valV (kF xs) (Sum.inr (ws e.1)) = some e.2.1 ∧ valV (kN xs) (Sum.inr (ws e.1)) = some (.int e.2.2)
  | x :: r, h, he => by
    rw [List.pairwise_cons] at h
    unfold kF kN
    rw [List.mem_cons] at he
    rcases he with rfl | he
    · rw [List.map_cons, List.map_cons, valV_pos rfl, valV_pos rfl]
      exact ⟨rfl, rfl⟩
    · have hk : ¬ ((Sum.inr (ws x.1) : Key) = Sum.inr (ws e.1)) := fun h2 => h.1 e he (ws_inj.mp h2)
      rw [List.map_cons, List.map_cons, valV_neg hk, valV_neg hk]
      exact val_F h.2 he
theorem rising_go : ∀ (l : List Tr) (p : Tr), risingS (ws p) (l.map ws) = true → (p :: l).Pairwise (fun a b => leW a b = true)
  | [], p, _ => List.pairwise_singleton _ _
  | x :: r, p, h => by
    simp only [List.map_cons, risingS, Bool.and_eq_true, Bool.not_eq_true'] at h
    have ih := rising_go r x h.2
    have h1 : leW p x = true := by
      have h2 := h.1
      rw [ltCps_eq] at h2
      have h3 : ¬ x.wr < p.wr := by
        have := of_decide_eq_false h2
        simpa [ws] using this
      exact decide_eq_true (List.not_lt.mp h3)
    rw [List.pairwise_cons]
    refine ⟨fun y hy => ?_, ih⟩
    rw [List.mem_cons] at hy
    rcases hy with rfl | hy
    · exact h1
    · exact leW_trans p x y h1 ((List.pairwise_cons.mp ih).1 y hy)
theorem rising_all : ∀ (l : List Tr), sortedS (l.map ws) = true → l.Pairwise (fun a b => leW a b = true)
  | [], _ => .nil
  | x :: r, h => rising_go r x h
def HeN (D : Addr) (H : Hp) (e : V × Tr × Nat) : Prop := ∃ p x, e.1 = .ref p ∧ H p = some (.tup [x, .int e.2.2]) ∧ TrAt (fun b => b ≠ D) H x e.2.1 ∧ p ≠ D
theorem HeN.isIn {D : Addr} {H : Hp} {e : V × Tr × Nat} (x : HeN D H e) : HeIn H e := by
  obtain ⟨p, x, e1, e2, e3, _⟩ := x
  exact ⟨p, x, e1, e2, e3.weak fun _ _ => trivial⟩
theorem lets_mem {p : Nat → Prop} : ∀ {ts : List Tr} {t : Tr}, letss p ts → t ∈ ts → t.lets p
  | u :: r, t, h, hm => by
    simp only [letss] at h
    rcases List.mem_cons.mp hm with rfl | hm
    · exact h.1
    · exact lets_mem h.2 hm
def sp__law_due : Sp := fun vs H Q _ => ∃ (v : V) (t : Tr), vs = [v] ∧ TrAt (fun _ => True) H v t ∧ t.depth ≤ 31 ∧ t.size ≤ 60 ∧
  ∀ r (fs : List (V × Tr × Nat)) H', Same H H' → H' r = some (.lst (fs.map (·.1))) → (∀ e ∈ fs, HeIn H' e) → fs.map (·.2) = rle ((tolds t.kids).mergeSort leW) → Q (.ref r) H'
section
variable {P : Program} {w : World} {K : PySem.W.Frag} {mg : Str → Option Value} {base : Heap}
theorem ok__law_due (T : Txt K mg) : FnOk P w K mg base CX0 32 T.f__law_due T.d__law_due ["tree"] sp__law_due := by
  have G__law_form : FnOk P w K mg base CX0 31 T.f__law_form T.d__law_form ["tree"] (sp__law_form 31) := ok__law_form T 31
  refine T.F__law_due.ok sc__law_due (fun vs H Q E h => ?_) (fun cdv A outer s H vs Q E hr h => ?_)
  · obtain ⟨v, t, rfl, _⟩ := h
    rfl
  obtain ⟨v, t, rfl, ht, hd, hz, q⟩ := h
  refine ⟨_, (pss_cons (ps_set (i := 1) sc__law_due.nd rfl (Or.inr rfl) pe_dnewK) (pss_cons (ps_set (i := 2) sc__law_due.nd rfl (Or.inr rfl) pe_dnewK) (pss_cons (ps_for PassesOwn.never rfl (pi_list (pe_ix ix_tup (pv 0) pe_int (fun _ _ => rfl))) (pg_name (i := 3) sc__law_due.nd rfl (Or.inl rfl)) (pss_cons (ps_asg (pe_call G__law_form (hr.mono (by omega)) (by rfl) T.m__law_form T.F__law_form.kp T.b__law_form .nil pass0 (pa_cons (pv 3) pa_nil)) (pg_unl rfl (pgs_cons (pg_name (i := 4) sc__law_due.nd rfl (Or.inl rfl)) (pgs_cons (pg_name (i := 5) sc__law_due.nd rfl (Or.inl rfl)) pgs_nil)))) (pss_cons (ps_dput (hu_of hr) (pv 1) (pv 4) (pv 5) rfl) (pss_one (ps_dput (hu_of hr) (pv 2) (pv 4) (pe_op op_add (pe_dget2 (hu_of hr) (pv 2) (pv 4) pe_int ⟨rfl, rfl, rfl, rfl⟩) pe_int) rfl))))) (pss_one (ps_ret (pe_lc (own := [("written", 4)]) (g := gName 4) (tt := tYes) rfl sc__law_due.nd (pi_list (pe_callB (call_sortedD rfl) (by rfl) T.z_sorted (by decide +kernel) (pa_cons (pv 1) pa_nil))) (blkOk_by (own := [("written", 4)]) (N := ["tree", "forms", "numbers", "child", "written", "form"]) (sc := (defScope s__law_due)) (by decide +kernel)) (fun _ _ _ _ _ => (pg_name (i := 4) sc__law_due.nd rfl (Or.inl rfl))) (fun _ _ _ _ _ => pts_nil) (fun _ _ _ _ _ => (pe_tup (pa_cons (pe_dget (hu_of hr) (pv 1) (pv 4) (fun _ _ => rfl)) (pa_cons (pe_dget (hu_of hr) (pv 2) (pv 4) (fun _ _ => rfl)) pa_nil)))))))))), ?_⟩
  obtain ⟨c, ks⟩ := t
  simp only [Tr.depth] at hd
  simp only [Tr.size] at hz
  have lz := len_sizes ks
  have hlt := TrAt.ltr _ _ ht
  simp only [Tr.lets] at hlt
  cases ht with
  | node h1 h2 k1 k2 c1 c2 r =>
  rename_i a l xs
  have lr := r.len
  refine fun F hF => fun N hN => ?_
  have sF := same_new hF (o := .dK [])
  have sN := same_new hN (o := .dK [])
  have nFN : F ≠ N := ne_of_none upd_same hN
  have hN0 : H N = none := sF.free hN
  refine ⟨_, rfl, _, _, 1, _, rfl, rfl, SqT.of (sN _ _ (sF _ _ h1)), atI_nat (j := 1) rfl, _, rfl, ⟨_, SqL.of (sN _ _ (sF _ _ h2))⟩, for_list (xs := xs) (fun i σ H' => ∃ (es : List Ent) (y3 y4 y5 : Option V), σ = [some (.ref a), some (.ref F), some (.ref N), y3, y4, y5] ∧ H' F = some (.dK (kF es)) ∧ H' N = some (.dK (kN es)) ∧
      (∀ e ∈ es, TrAt (fun b => H b = none ∧ b ≠ F ∧ b ≠ N) H' e.2.1 e.1 ∧ e.1.lets Ltr ∧ 1 ≤ e.2.2) ∧ es.Pairwise (fun x y => x.1.wr ≠ y.1.wr) ∧ (expand (prs es)).Perm (tolds (ks.take i)) ∧ es.length ≤ i ∧ Same H H')
    ⟨[], _, _, _, rfl, sN _ _ upd_same, upd_same, (fun _ h => by cases h), .nil, by simp [prs, expand, tolds], Nat.le_refl _, sF.trans sN⟩ (fun i σ H' _ ⟨_, _, _, _, _, _, _, _, _, _, _, s⟩ => SqL.of (s _ _ h2)) ?_ ?_⟩
  · rintro i x σ H' hx ⟨es, y3, y4, y5, rfl, g1, g2, g3, g4, g5, g6, g7⟩
    obtain ⟨t1, ht1, hx2⟩ := r.getV hx
    have dt := depths_mem (List.mem_of_getElem? ht1)
    have st := sizes_mem (List.mem_of_getElem? ht1)
    have hil : i < ks.length := (List.getElem?_eq_some_iff.mp ht1).1
    have hL1 : t1.told.lets Ltr := by
      have := tolds_lets _ hlt.2
      exact lets_mem this (by rw [tolds_map]; exact List.mem_map_of_mem (List.mem_of_getElem? ht1))
    refine ⟨_, rfl, x, t1, rfl, hx2.same g7, by omega, by omega, by omega, fun rr H4 s4 row => ?_⟩
    obtain ⟨pr, fv, er, hpr, hpr0, D4⟩ := row
    dsimp only at er hpr D4
    subst er
    have hF4 := s4 _ _ g1
    have hN4 := s4 _ _ g2
    refine ⟨pr, _, rfl, SqL.of hpr, rfl, _, _, rfl, _, _, rfl, rfl, ?_⟩
    refine ⟨_, rfl, _, rfl, _, rfl, F, _, rfl, DPut.k (k := Sum.inr (ws t1.told)) hF4 ?_, ?_⟩
    · unfold kF
      rw [List.length_map]
      exact Nat.lt_of_le_of_lt (show _ ≤ 1000000 by omega) (by decide)
    have hN5 : (upd H4 F (.dK (putK (kF es) (Sum.inr (ws t1.told)) fv))) N = some (.dK (kN es)) := by rw [upd_ne (fun e => nFN e.symm)]; exact hN4
    refine ⟨_, rfl, N, rfl, .inl ⟨_, .inl hN5⟩, _, rfl, _, DGet.k (k := Sum.inr (ws t1.told)) hN5, nOf es t1.told, 1, getN _ _, rfl, _, rfl, _, rfl, N, _, rfl, DPut.k (k := Sum.inr (ws t1.told)) hN5 ?_, ?_⟩
    · unfold kN
      rw [List.length_map]
      exact Nat.lt_of_le_of_lt (show _ ≤ 1000000 by omega) (by decide)
    rw [put_F, xput_rec g4, put_N _ fv g4]
    have kk : ∀ b o, b ≠ F → b ≠ N → H4 b = some o → (upd (upd H4 F (.dK (kF (xrec es t1.told fv)))) N (.dK (kN (xrec es t1.told fv)))) b = some o := fun b o n1 n2 h => by rw [upd_ne n2, upd_ne n1]; exact h
    have nF4 : ∀ b o, H b = some o → b ≠ F := fun b o h => ne_of_none h hF
    have nN4 : ∀ b o, H b = some o → b ≠ N := fun b o h => ne_of_none h hN0
    refine ⟨xrec es t1.told fv, _, _, _, rfl, by rw [upd_ne nFN]; exact upd_same, upd_same, ?_, xrec_pair g4, ?_, ?_, ?_⟩
    · intro e he
      have D5 : TrAt (fun b => H b = none ∧ b ≠ F ∧ b ≠ N) (upd (upd H4 F (.dK (kF (xrec es t1.told fv)))) N (.dK (kN (xrec es t1.told fv)))) fv t1.told :=
        TrAt.imp (fun b h => ⟨g7.free h, (fun e => by rw [e, g1] at h; cases h), fun e => by rw [e, g2] at h; cases h⟩) (fun b o h e => kk b o (fun e => by rw [e, g1] at h; cases h) (fun e => by rw [e, g2] at h; cases h) e) _ _ D4
      rcases xrec_mem he with he | ⟨w1, w2, w3, w4⟩
      · obtain ⟨u1, u2, u3⟩ := g3 e he
        exact ⟨(u1.same s4).keep fun b o h e => kk b o h.2.1 h.2.2 e, u2, u3⟩
      · have hlE : e.1.lets Ltr := by
          rcases w4 with w4 | ⟨e2, m1, m2⟩
          · rw [w4]; exact hL1
          · rw [← m2]; exact (g3 e2 m1).2.1
        rw [w1, wr_eq hlE hL1 w2]
        exact ⟨D5, hL1, w3⟩
    · rw [xrec_prs, take_succ_of ht1, tolds_map, List.map_append, ← tolds_map]
      refine (dput_expand hL1 (prs es) fun d hd => ?_).trans (g5.append_right _)
      obtain ⟨e, he, rfl⟩ := List.mem_map.mp hd
      exact (g3 e he).2.1
    · have := xrec_len (t := t1.told) (f := fv) es
      omega
    · exact fun b o h => kk b o (nF4 b o h) (nN4 b o h) (s4 _ _ (g7 b o h))
  · rintro σ H' ⟨es, y3, y4, y5, rfl, g1, g2, g3, g4, g5, g6, g7⟩
    rw [lr, List.take_length] at g5
    refine ⟨_, rfl, F, kF es, es.map fun e => ws e.1, rfl, .inl g1, by simp [kF], by rw [List.length_map]; omega, fun ys p hperm hsort hp => ⟨p, rfl, ⟨_, SqL.of upd_same⟩, fun D hD => ?_⟩⟩
    obtain ⟨zs, hz1, hz2⟩ := perm_mapE hperm rfl
    have hz2' : ys = zs.map fun e => ws e.1 := hz2.symm
    subst hz2'
    have sp1 := same_new hp (o := .lst ((zs.map fun e => ws e.1).map V.str))
    have sD := same_new hD (o := .lst [])
    have hlz := hz1.length_eq
    have S1 : Same H' (upd (upd H' p (.lst ((zs.map fun e => ws e.1).map V.str))) D (.lst [])) := sp1.trans sD
    refine lc_list (xs := (zs.map fun e => ws e.1).map V.str) (fun i H2 => ∃ fs : List (V × Tr × Nat), H2 D = some (.lst (fs.map (·.1))) ∧ (∀ e ∈ fs, HeN D H2 e) ∧ fs.map (·.2) = prs (zs.take i) ∧ Same (upd H' p (.lst ((zs.map fun e => ws e.1).map V.str))) H2)
      ⟨[], upd_same, (fun _ h => by cases h), rfl, sD⟩ (fun i H2 _ ⟨_, _, _, _, s⟩ => SqL.of (s _ _ upd_same)) ?_ ?_
    · rintro i x H2 hx ⟨fs, f1, f2, f3, f4⟩
      rw [List.getElem?_map, List.getElem?_map] at hx
      cases hc : zs[i]? with
      | none => rw [hc] at hx; cases hx
      | some e =>
      rw [hc] at hx
      cases hx
      have hm : e ∈ es := hz1.mem_iff.mp (List.mem_of_getElem? hc)
      obtain ⟨vF, vN⟩ := val_F g4 hm
      have S2 : Same H' H2 := sp1.trans f4
      have dF := DGet.k (k := Sum.inr (ws e.1)) (S2 _ _ g1)
      have dN := DGet.k (k := Sum.inr (ws e.1)) (S2 _ _ g2)
      rw [vF] at dF
      rw [vN] at dN
      have hfl : fs.length ≤ 60 := by
        have := congrArg List.length f3
        rw [List.length_map] at this
        simp only [prs, List.length_map, List.length_take] at this
        omega
      refine ⟨rfl, _, rfl, _, rfl, F, _, rfl, dF, _, rfl, _, rfl, N, _, rfl, dN, (by show 2 ≤ sizeLine; decide), fun tp htp => ?_⟩
      have sT := same_new htp (o := .tup [e.2.1, .int e.2.2])
      refine ⟨_, sT _ _ f1, ?_, fs ++ [(.ref tp, e.1, e.2.2)], ?_, ?_, ?_, ?_⟩
      · rw [List.length_map]
        exact Nat.lt_of_le_of_lt (show _ ≤ 1000000 by omega) (by decide)
      · rw [upd_same, List.map_append]
        rfl
      · have nDt : tp ≠ D := fun e => by rw [e, f1] at htp; cases htp
        have nD0 : ∀ b o, H' b = some o → b ≠ D := fun b o h => ne_of_none (sp1 _ _ h) hD
        intro e2 he2
        rcases List.mem_append.mp he2 with he2 | he2
        · obtain ⟨p2, x2, q1, q2, q3, q4⟩ := f2 e2 he2
          exact ⟨p2, x2, q1, by rw [upd_ne q4]; exact sT _ _ q2, ((q3.same sT).keep (upd_keep fun b h => h)), q4⟩
        · simp only [List.mem_singleton] at he2
          subst he2
          refine ⟨tp, _, rfl, by rw [upd_ne nDt]; exact upd_same, ?_, nDt⟩
          have A := (g3 e hm).1
          have A2 : TrAt (fun b => b ≠ D) H' e.2.1 e.1 := (TrAt.there _ _ A).weak fun b ⟨_, o, h⟩ => nD0 b o h
          exact ((A2.same S2).same sT).keep (upd_keep fun b h => h)
      · rw [take_succ_of hc, List.map_append, f3]
        simp [prs]
      · exact same_add (f4.trans sT) hD
    · rintro H2 ⟨fs, f1, f2, f3, f4⟩
      rw [List.length_map, List.length_map, List.take_length] at f3
      refine q D fs H2 (g7.trans (sp1.trans f4)) f1 (fun e he => (f2 e he).isIn) ?_
      rw [f3]
      have hpr : (prs zs).Perm (prs es) := hz1.map _
      have hzp : zs.Pairwise (fun x y => x.1.wr ≠ y.1.wr) := (hz1.pairwise_iff fun h => h.symm).mpr g4
      refine rle_is (tolds_lets _ hlt.2) ?_ (List.pairwise_map.mpr hzp) ?_ ((expand_perm hpr).trans g5)
      · intro d hd
        obtain ⟨e, he, rfl⟩ := List.mem_map.mp hd
        exact (g3 e (hz1.mem_iff.mp he)).2.2
      · have hs : (zs.map (·.1)).Pairwise (fun a b => leW a b = true) := rising_all _ (by rw [List.map_map]; exact hsort)
        exact List.pairwise_map.mpr (List.pairwise_map.mp hs)
end

theorem SqL.frT {K : PySem.W.Frag} {P a : Addr} {H H' : Hp} {xs : List V} {ps : Array Value} (f : Fr P H H') (hP : H P = some (.tbl ps)) (h : SqL K H a xs) : SqL K H' a xs := by
  rcases h with (h | ⟨o, h⟩) | h
  · exact .inl (.inl (f _ _ (fun e => by rw [e, hP] at h; cases h) h))
  · exact .inl (.inr ⟨o, f _ _ (fun e => by rw [e, hP] at h; cases h) h⟩)
  · exact .inr h
theorem TrAt.frT {ok : Addr → Prop} {P : Addr} {H H' : Hp} {v : V} {t : Tr} {ps : Array Value} (x : TrAt ok H v t) (hP : H P = some (.tbl ps)) (f : Fr P H H') : TrAt ok H' v t :=
  ((TrAt.kind t v x).keep fun b o h e => f b o (fun e2 => h.2 ps (by rw [e2]; exact hP)) e).weak fun b h => h.1
theorem TrO.frT {ok : Addr → Prop} {P : Addr} {H H' : Hp} {v : V} {t : Tr} {as : List Addr} {ps : Array Value} (x : TrO ok H v t as) (hP : H P = some (.tbl ps)) (f : Fr P H H') (hk : ∀ b, ok b → b ≠ P) : TrO ok H' v t as :=
  x.keep fun b o h e => f b o (hk b h) e
theorem TabS.keepN {H H' : Hp} {P : Addr} {q : Str} (h : LamX.TabS H P q) (k : ∀ b o, (∀ xs, o ≠ .lst xs) → H b = some o → H' b = some o) : LamX.TabS H' P q := by
  obtain ⟨ps, h1, h2, h3⟩ := h
  refine ⟨ps, k _ _ (fun _ e => by cases e) h1, h2, fun pos cv hc => ?_⟩
  obtain ⟨c, e, h4⟩ := h3 pos cv hc
  exact ⟨c, e, k _ _ (fun _ e => by cases e) h4⟩
theorem mkT {H : Hp} {l a : Addr} {c : Nat} {vs : List V} {ks : List Tr} (hl : H l = none) (ha : (upd H l (.lst vs)) a = none) (c1 : 97 ≤ c) (c2 : c ≤ 122) (hv : TrsAt (fun _ => True) H vs ks) :
    TrAt (fun _ => True) (upd (upd H l (.lst vs)) a (.tup [.str (ch c), .ref l])) (.ref a) (.node c ks) :=
  .node upd_same (by rw [upd_ne (ne_of_none upd_same ha)]; exact upd_same) trivial trivial c1 c2 ((hv.same (same_new hl)).same (same_new ha))

theorem extN_same {H H' : Hp} (s : Same H H') : LamX.ExtN H H' := fun b o e _ => s b o e
theorem extN_fr {P : Addr} {H H' : Hp} {ps : Array Value} (f : Fr P H H') (hP : H P = some (.tbl ps)) : LamX.ExtN H H' := fun b o e n => f b o (fun e2 => by rw [e2, hP] at e; cases e; exact n _ rfl) e
theorem extN_fr2 {P R : Addr} {H H' : Hp} {ps rs : Array Value} (f : Fr2 P R H H') (hP : H P = some (.tbl ps)) (hR : H R = some (.tbl rs)) : LamX.ExtN H H' := fun b o e n => f b o (fun e2 => by rw [e2, hP] at e; cases e; exact n _ rfl) (fun e2 => by rw [e2, hR] at e; cases e; exact n _ rfl) e
theorem extN_trans {H H1 H2 : Hp} (a : LamX.ExtN H H1) (b : LamX.ExtN H1 H2) : LamX.ExtN H H2 := fun x o e n => b x o (a x o e n) n
theorem TrAt.extN {ok : Addr → Prop} {H H' : Hp} {v : V} {t : Tr} (x : TrAt ok H v t) (f : LamX.ExtN H H') : TrAt ok H' v t :=
  ((TrAt.kind t v x).keep fun b o h e => f b o e fun ps e2 => h.2 ps (by rw [e, e2])).weak fun b h => h.1
mutual
theorem TrO.kind {ok : Addr → Prop} {H : Hp} : ∀ (t : Tr) (v : V) (as : List Addr), TrO ok H v t as → TrO (fun b => ok b ∧ ∀ ps, H b ≠ some (.tbl ps)) H v t as
  | .node c ks, v, as, x => by
    cases x with
    | node h1 h2 k1 k2 c1 c2 r => exact .node h1 h2 ⟨k1, fun ps e => by rw [h1] at e; cases e⟩ ⟨k2, fun ps e => by rw [h2] at e; cases e⟩ c1 c2 (TrsO.kind ks _ _ r)
theorem TrsO.kind {ok : Addr → Prop} {H : Hp} : ∀ (ts : List Tr) (vs : List V) (as : List Addr), TrsO ok H vs ts as → TrsO (fun b => ok b ∧ ∀ ps, H b ≠ some (.tbl ps)) H vs ts as
  | [], _, _, x => by cases x; exact .nil
  | t :: r, _, _, x => by
    cases x with
    | cons a b => exact .cons (TrO.kind t _ _ a) (TrsO.kind r _ _ b)
end
theorem HeIn.extN {H H' : Hp} {e : V × Tr × Nat} (x : HeIn H e) (f : LamX.ExtN H H') : HeIn H' e := by
  obtain ⟨p, x, e1, e2, e3⟩ := x
  exact ⟨p, x, e1, f _ _ e2 (fun _ h => by cases h), e3.extN f⟩
theorem extN_lst {H H' : Hp} {a : Addr} {xs : List V} (f : LamX.ExtN H H') (h : H a = some (.lst xs)) : H' a = some (.lst xs) := f _ _ h fun _ e => by cases e
theorem SqL.extN {K : PySem.W.Frag} {a : Addr} {H H' : Hp} {xs : List V} (f : LamX.ExtN H H') (h : SqL K H a xs) : SqL K H' a xs := by
  rcases h with (h | ⟨o, h⟩) | h
  · exact .inl (.inl (extN_lst f h))
  · exact .inl (.inr ⟨o, f _ _ h fun _ e => by cases e⟩)
  · exact .inr h
theorem TrsAt.rep {ok : Addr → Prop} {H : Hp} {v : V} {t : Tr} (x : TrAt ok H v t) : ∀ n, TrsAt ok H (List.replicate n v) (List.replicate n t)
  | 0 => .nil
  | n + 1 => .cons x (TrsAt.rep x n)
theorem depths_expand {d : Nat} : ∀ es : List (Tr × Nat), (∀ e ∈ es, e.1.depth ≤ d) → depths (expand es) ≤ d
  | [], _ => by simp [expand, depths]
  | e :: r, h => by
    have ih := depths_expand r fun x hx => h x (List.mem_cons_of_mem _ hx)
    have h1 := h e List.mem_cons_self
    have e1 : expand (e :: r) = List.replicate e.2 e.1 ++ expand r := by simp [expand]
    have h2 : ∀ n, depths (List.replicate n e.1) ≤ d := by
      intro n
      induction n with
      | zero => simp [depths]
      | succ n ih => rw [List.replicate_succ]; simp only [depths]; omega
    rw [e1, depths_append]
    have := h2 e.2
    omega
theorem len_expand : ∀ es : List (Tr × Nat), (∀ e ∈ es, 1 ≤ e.2) → es.length ≤ (expand es).length
  | [], _ => Nat.le_refl _
  | e :: r, h => by
    have ih := len_expand r fun x hx => h x (List.mem_cons_of_mem _ hx)
    have h1 := h e List.mem_cons_self
    have e1 : expand (e :: r) = List.replicate e.2 e.1 ++ expand r := by simp [expand]
    rw [e1, List.length_append, List.length_replicate, List.length_cons]
    omega

theorem HeAt.imp {ok ok' : Addr → Prop} {H H' : Hp} {e : HE} (x : HeAt ok H e) (hk : ∀ b o, ok b → H b = some o → ok' b) (h : ∀ b o, ok b → H b = some o → H' b = some o) : HeAt ok' H' e := by
  obtain ⟨p, x, e1, e2, e3, e4⟩ := x
  exact ⟨p, x, e1, h _ _ e3 e2, hk _ _ e3 e2, TrO.imp (fun b ⟨h, o, e⟩ => hk b o h e) (fun b o h' e => h b o h'.1 e) _ _ _ (TrO.there _ _ _ e4)⟩
theorem mem_expand {t : Tr} {n : Nat} : ∀ {ds : List (Tr × Nat)}, (t, n) ∈ ds → 1 ≤ n → t ∈ expand ds := by
  intro ds h hn
  simp only [expand, List.mem_flatten, List.mem_map]
  exact ⟨List.replicate n t, ⟨(t, n), h, rfl⟩, List.mem_replicate.mpr ⟨by omega, rfl⟩⟩
section
variable {P : Program} {w : World} {K : PySem.W.Frag} {mg : Str → Option Value} {base : Heap}
theorem ok_law (T : Txt K mg) (B : Tbs T base) : FnOk P w K mg base CX0 42 T.f_law T.d_law ["script"] (spLawT K [T.P__joined, T.P_heap_of]) := by
  have G__law_pool : FnOk P w K mg base CX0 1 T.f__law_pool T.d__law_pool ["script", "k"] (sp__law_pool K) := ok__law_pool T
  have G__law_tree : FnOk P w K mg base CX0 40 T.f__law_tree T.d__law_tree ["pool", "most", "letters"] sp__law_tree := ok__law_tree T
  have G__law_letters : FnOk P w K mg base CX0 2 T.f__law_letters T.d__law_letters ["pool"] sp__law_letters := ok__law_letters T
  have G__law_wider : FnOk P w K mg base CX0 34 T.f__law_wider T.d__law_wider ["pool", "tree"] sp__law_wider := ok__law_wider T
  have G__law_due : FnOk P w K mg base CX0 32 T.f__law_due T.d__law_due ["tree"] sp__law_due := ok__law_due T
  have G__law_is_heap : FnOk P w K mg base CX0 32 T.f__law_is_heap T.d__law_is_heap ["found", "due"] sp__law_is_heap := ok__law_is_heap T
  have G__law_same : FnOk P w K mg base CX0 31 T.f__law_same T.d__law_same ["one", "other"] (sp__law_same 31) := ok__law_same T 31
  have G__law_marked : FnOk P w K mg base CX0 31 T.f__law_marked T.d__law_marked ["tree", "marks"] (sp__law_marked 31) := ok__law_marked T 31
  have G__law_copy : FnOk P w K mg base CX0 31 T.f__law_copy T.d__law_copy ["tree"] (sq__law_copy 31) := oq__law_copy T 31
  have G_heap_of : FnOk P w K mg base CX0 9 T.f_heap_of T.d_heap_of ["tree"] (sp_heap_of T.P__joined q__joined T.P_heap_of q_heap_of) := ok_heap_of T B
  refine T.F_law.ok sc_law (fun vs H Q E h => ?_) (fun cdv A outer s H vs Q E hr h => ?_)
  · obtain ⟨a, ns, rfl, _⟩ := h
    rfl
  obtain ⟨a, ns, rfl, hS, h63, hPs, q⟩ := h
  have nPP := T.n__joined_heap_of
  generalize hP1 : T.P__joined = P1 at *
  generalize hP2 : T.P_heap_of = P2 at *
  have hA0 : H P1 = some (.tbl #[]) := hPs P1 (by simp)
  have hB0 : H P2 = some (.tbl #[]) := hPs P2 (by simp)
  have hT1 : LamX.TabS H P1 q__joined := LamX.TabS.nil hA0
  have hT2 : LamX.TabS H P2 q_heap_of := LamX.TabS.nil hB0
  refine ⟨_, (pss_cons (ps_for PassesOwn.never rfl (pi_range1 (by rfl) T.z_range (pa_cons (pe_callB (call_max2 rfl) (by rfl) T.z_max (by decide +kernel) (pa_cons pe_int (pa_cons (pe_callB (call_min2 rfl) (by rfl) T.z_min (by decide +kernel) (pa_cons pe_int (pa_cons (pe_callB call_len_seq (by rfl) T.z_len PySem.boot_len (pa_cons (pv 0) pa_nil)) pa_nil))) pa_nil))) pa_nil)) (pg_name (i := 1) sc_law.nd rfl (Or.inl rfl)) (pss_cons (ps_set (i := 2) sc_law.nd rfl (Or.inl rfl) (pe_call G__law_pool (hr.mono (by omega)) (by rfl) T.m__law_pool T.F__law_pool.kp T.b__law_pool .nil pass0 (pa_cons (pv 0) (pa_cons (pv 1) pa_nil)))) (pss_cons (ps_set (i := 3) sc_law.nd rfl (Or.inl rfl) (pe_call G__law_wider (hr.mono (by omega)) (by rfl) T.m__law_wider T.F__law_wider.kp T.b__law_wider .nil pass0 (pa_cons (pv 2) (pa_cons (pe_call G__law_tree (hr.mono (by omega)) (by rfl) T.m__law_tree T.F__law_tree.kp T.b__law_tree .nil pass0 (pa_cons (pv 2) (pa_cons pe_int (pa_cons (pe_call G__law_letters (hr.mono (by omega)) (by rfl) T.m__law_letters T.F__law_letters.kp T.b__law_letters .nil pass0 (pa_cons (pv 2) pa_nil)) pa_nil)))) pa_nil)))) (pss_cons (ps_set (i := 4) sc_law.nd rfl (Or.inl rfl) (pe_call G__law_due (hr.mono (by omega)) (by rfl) T.m__law_due T.F__law_due.kp T.b__law_due .nil pass0 (pa_cons (pv 3) pa_nil))) (pss_cons (ps_set (i := 5) sc_law.nd rfl (Or.inl rfl) (pe_call G__law_copy (hr.mono (by omega)) (by rfl) T.m__law_copy T.F__law_copy.kp T.b__law_copy .nil pass0 (pa_cons (pv 3) pa_nil))) (pss_one (ps_for PassesOwn.never rfl (pi_range1 (by rfl) T.z_range (pa_cons pe_int pa_nil)) (pg_name (i := 6) sc_law.nd rfl (Or.inl rfl)) (pss_cons (ps_set (i := 7) sc_law.nd rfl (Or.inl rfl) (pe_call G_heap_of (hr.mono (by omega)) (by rfl) T.m_heap_of T.F_heap_of.kp T.b_heap_of .nil pass0 (pa_cons (pv 5) pa_nil))) (pss_cons (ps_if (PW.pt (pw_or (pt_not (pt_val (pe_call G__law_is_heap (hr.mono (by omega)) (by rfl) T.m__law_is_heap T.F__law_is_heap.kp T.b__law_is_heap .nil pass0 (pa_cons (pv 7) (pa_cons (pv 4) pa_nil))))) (pw_or1 (pt_not (pt_val (pe_call G__law_same (hr.mono (by omega)) (by rfl) T.m__law_same T.F__law_same.kp T.b__law_same .nil pass0 (pa_cons (pv 5) (pa_cons (pv 3) pa_nil)))))))) (pss_one (ps_ret pe_bl)) pss_nil) (pss_cons (ps_set (i := 8) sc_law.nd rfl (Or.inl rfl) (pe_lst (pa_cons pe_int pa_nil))) (pss_cons (ps_set (i := 9) sc_law.nd rfl (Or.inl rfl) (pe_lst (pa_cons pe_int pa_nil))) (pss_cons (ps_for PassesOwn.never rfl (pi_zip (by rfl) T.z_zip (pa_cons (pv 7) (pa_cons (pv 4) pa_nil))) (pg_tup rfl (pgs_cons (pg_name (i := 10) sc_law.nd rfl (Or.inl rfl)) (pgs_cons (pg_name (i := 11) sc_law.nd rfl (Or.inl rfl)) pgs_nil))) (pss_cons (ps_set (i := 12) sc_law.nd rfl (Or.inl rfl) (pe_call G__law_copy (hr.mono (by omega)) (by rfl) T.m__law_copy T.F__law_copy.kp T.b__law_copy .nil pass0 (pa_cons (pe_ix ix_tup (pv 11) pe_int (fun _ _ => rfl)) pa_nil))) (pss_cons (ps_expr (pe_call G__law_marked (hr.mono (by omega)) (by rfl) T.m__law_marked T.F__law_marked.kp T.b__law_marked .nil pass0 (pa_cons (pe_ix ix_tup (pv 10) pe_int (fun _ _ => rfl)) (pa_cons (pv 8) pa_nil)))) (pss_cons (ps_expr (pe_call G__law_marked (hr.mono (by omega)) (by rfl) T.m__law_marked T.F__law_marked.kp T.b__law_marked .nil pass0 (pa_cons (pv 12) (pa_cons (pv 9) pa_nil)))) (pss_one (ps_if (pt_cmpR (op_neD hr.units) (pe_ix ix_tup (pv 10) pe_int (fun _ _ => rfl)) (pv 12) (nomark _)) (pss_one (ps_ret pe_bl)) pss_nil)))))) (pss_cons (ps_expr (pe_bm PySem.F.plainAttrs_list PySem.F.slot_list_append PySem.F.type_list_append mt_append (pv 7) (pa_cons pe_int pa_nil))) (pss_one (ps_if (pt_not (pt_val (pe_call G__law_same (hr.mono (by omega)) (by rfl) T.m__law_same T.F__law_same.kp T.b__law_same .nil pass0 (pa_cons (pv 5) (pa_cons (pv 3) pa_nil))))) (pss_one (ps_ret pe_bl)) pss_nil))))))))))))))) (pss_one (ps_ret (pe_cmpR (op_eqD hr.units) (pe_call G_heap_of (hr.mono (by omega)) (by rfl) T.m_heap_of T.F_heap_of.kp T.b_heap_of .nil pass0 (pa_cons (pe_tup (pa_cons pe_str (pa_cons (pe_lst pa_nil) pa_nil))) pa_nil)) (pe_lst pa_nil) (nomark _))))), ?_⟩
  have hl : (ns.map V.int).length = ns.length := List.length_map _
  obtain ⟨j, hj, hj0, hj1⟩ : ∃ j : Int, (if (if ((ns.map V.int).length : Int) < 10 then ((ns.map V.int).length : Int) else 10) > 1 then (if ((ns.map V.int).length : Int) < 10 then ((ns.map V.int).length : Int) else 10) else 1) = j ∧ 0 ≤ j ∧ j ≤ 30 := ⟨_, rfl, by split <;> split <;> omega, by split <;> split <;> omega⟩
  refine ⟨_, rfl, a, _, rfl, .inl hS, _, _, rfl, _, _, rfl, j, congrArg (fun z => [V.int z]) hj, by omega, by omega, for_range (lo := 0) (n := j.toNat) (fun i σ H' => (∃ y1 y2 y3 y4 y5 y6 y7 y8 y9 y10 y11 y12, σ = [some (.ref a), y1, y2, y3, y4, y5, y6, y7, y8, y9, y10, y11, y12]) ∧ SqL K H' a (ns.map V.int) ∧ LamX.TabS H' P1 q__joined ∧ LamX.TabS H' P2 q_heap_of) ⟨⟨_, _, _, _, _, _, _, _, _, _, _, _, rfl⟩, hS, hT1, hT2⟩ ?_ ?_⟩
  · rintro i σ H0 hi ⟨⟨y1, y2, y3, y4, y5, y6, y7, y8, y9, y10, y11, y12, rfl⟩, hS0, hTi, hUi⟩
    refine ⟨_, rfl, _, rfl, a, ns, _, rfl, hS0, h63, by omega, by omega, fun p H1 hp c1 Pl1 => ?_⟩
    refine ⟨_, rfl, _, rfl, _, rfl, p, 3000, rfl, Pl1, by decide, fun L H2 hL f2 Pl2 => ⟨p, _, 60, L, rfl, Pl2, by decide, by decide, by decide, hL, fun tv t H3 hz hd hlt f3 T3 Pl3 => ⟨p, _, tv, t, rfl, Pl3, by omega, T3.weak fun _ _ => trivial, by omega, by omega, fun wv u H4 hdu hzu f4 T4 Pl4 => ?_⟩⟩⟩
    refine ⟨_, rfl, wv, u, rfl, T4, hdu, hzu, fun r fs H5 s5 hr5 hfs hfe => ?_⟩
    refine ⟨_, rfl, wv, u, rfl, T4.same s5, hdu, by omega, fun hv ash H6 s6 O6 nd6 => ?_⟩
    obtain ⟨_, _, _, eP1, _⟩ := id Pl1
    obtain ⟨_, _, _, eP2, _⟩ := id Pl2
    obtain ⟨_, _, _, eP3, _⟩ := id Pl3
    have cH : ∀ {Pt : Addr} {qq : Str}, LamX.TabS H0 Pt qq → LamX.TabS H6 Pt qq := fun h =>
      ((TabS.fr (TabS.fr (TabS.fr (h.ext fun b o h => c1.at h (ne_of_none h hp)) eP1 f2) eP2 f3) eP3 f4).ext s5).ext s6
    have T6 := cH hTi
    have U6 := cH hUi
    have F6 : Fr p H0 H6 := (((((Fr.chg c1).trans f2).trans f3).trans f4).trans (Fr.same s5)).trans (Fr.same s6)
    have hS6 : SqL K H6 a (ns.map V.int) := F6.seq hp hS0
    have A6 : TrAt (fun _ => True) H6 wv u := (T4.same s5).same s6
    have Ah6 : TrAt (fun _ => True) H6 hv u := (TrO.at _ _ _ O6).weak fun _ _ => trivial
    have hr6 := s6 _ _ hr5
    have hfs6 : ∀ e ∈ fs, HeIn H6 e := fun e he => (hfs e he).extN (extN_same s6)
    have uL := TrAt.ltr _ _ A6
    have mem_ok : ∀ e ∈ rle ((tolds u.kids).mergeSort leW), e.1.depth ≤ 30 ∧ e.1.size ≤ 60 := by
      intro e he
      obtain ⟨c, ks⟩ := u
      simp only [Tr.lets] at uL
      simp only [Tr.depth] at hdu
      simp only [Tr.size] at hzu
      have hML : letss Ltr ((tolds ks).mergeSort leW) := letss_perm (List.mergeSort_perm _ _).symm (tolds_lets _ uL.2)
      obtain ⟨hexp, hrl⟩ := rle_all _ hML
      have hm := mem_expand (show (e.1, e.2) ∈ rle ((tolds ks).mergeSort leW) from he) (hrl e he).2
      rw [hexp] at hm
      have d1 := depths_mem hm
      have d2 := sizes_mem hm
      rw [depths_sort, tolds_depths] at d1
      rw [sizes_sort, tolds_sizes] at d2
      omega
    have len_ok : fs.length ≤ 60 := by
      obtain ⟨c, ks⟩ := u
      simp only [Tr.lets] at uL
      simp only [Tr.size] at hzu
      have hML : letss Ltr ((tolds ks).mergeSort leW) := letss_perm (List.mergeSort_perm _ _).symm (tolds_lets _ uL.2)
      obtain ⟨hexp, hrl⟩ := rle_all _ hML
      have a1 := congrArg List.length hfe
      rw [List.length_map] at a1
      have a2 := len_expand (rle ((tolds ks).mergeSort leW)) fun e he => (hrl e he).2
      rw [hexp] at a2
      have a3 := len_sizes ((tolds ks).mergeSort leW)
      rw [sizes_sort, tolds_sizes] at a3
      have a4 : (rle ((tolds (Tr.node c ks).kids).mergeSort leW)).length = (rle ((tolds ks).mergeSort leW)).length := rfl
      omega
    refine ⟨2, rfl, by decide, by decide, for_range (lo := 0) (n := 2) (fun i2 σ H' => ∃ y6 y7 y8 y9 y10 y11 y12, σ = [some (.ref a), some (.int (0 + i)), some (.ref p), some wv, some (.ref r), some hv, y6, y7, y8, y9, y10, y11, y12] ∧ LamX.ExtN H6 H' ∧ LamX.TabS H' P1 q__joined ∧ LamX.TabS H' P2 q_heap_of) ⟨_, _, _, _, _, _, _, rfl, extN_same (Same.refl _), T6, U6⟩ ?_ ?_⟩
    · rintro i2 σ Hs hi2 ⟨y6, y7, y8, y9, y10, y11, y12, rfl, fS, TS, US⟩
      obtain ⟨pas, hAs, _, _⟩ := id TS
      obtain ⟨pbs, hBs, _, _⟩ := id US
      have AhS := Ah6.extN fS
      have AwS := A6.extN fS
      have hrS := extN_lst fS hr6
      refine ⟨_, rfl, hv, u, rfl, AhS, by omega, TS, US, fun r7 es H7 f7 T7 U7 hr70 hr7 hes nd7 hrle => ?_⟩
      have x7 : LamX.ExtN Hs H7 := extN_fr2 f7 hAs hBs
      have hee : es.map (fun e => (e.t, e.n)) = fs.map (·.2) := by rw [hrle, hfe]
      have hlen : es.length = fs.length := by
        have := congrArg List.length hee
        simpa using this
      have eok : ∀ e ∈ es, e.t.depth ≤ 30 ∧ e.t.size ≤ 60 := fun e he => mem_ok (e.t, e.n) (by rw [← hrle]; exact List.mem_map.mpr ⟨e, he, rfl⟩)
      refine ⟨_, rfl, _, rfl, r7, r, es.map fun e => (e.v, e.t, e.n), fs, rfl, by rw [hr7, List.map_map]; rfl, extN_lst x7 hrS, by rw [← hee, List.map_map]; rfl, ?_, fun e he => ((hfs6 e he).extN fS).extN x7, fun H8 s8 => ⟨_, rfl, iteF ?_⟩⟩
      · intro e he
        obtain ⟨e1, he1, rfl⟩ := List.mem_map.mp he
        obtain ⟨p1, x1, w1, w2, w3, w4⟩ := hes e1 he1
        have := eok e1 he1
        exact ⟨⟨p1, x1, w1, w2, (TrO.at _ _ _ w4).weak fun _ _ => trivial⟩, by show e1.t.depth ≤ 31; omega, by show e1.t.size ≤ 1000; omega⟩
      have x8 : LamX.ExtN Hs H8 := extN_trans x7 (extN_same s8)
      refine ⟨_, rfl, _, rfl, hv, wv, u, rfl, AhS.extN x8, AwS.extN x8, hdu, by omega, fun H9 s9 => ⟨_, rfl, iteF ?_⟩⟩
      have x9 : LamX.ExtN Hs H9 := extN_trans x8 (extN_same s9)
      have T9 := (T7.ext s8).ext s9
      have U9 := (U7.ext s8).ext s9
      have hr9 := s9 _ _ (s8 _ _ hr7)
      have hes9 : ∀ e ∈ es, HeAt (fun b => Hs b = none ∧ b ≠ r7) H9 e := fun e he => (hes e he).imp (fun _ _ h _ => h) fun b o _ h => s9 _ _ (s8 _ _ h)
      refine ⟨(by show 1 ≤ sizeLine; decide), fun m1 hm1 => ⟨(by show 1 ≤ sizeLine; decide), fun m2 hm2 => ?_⟩⟩
      have sm1 := same_new hm1 (o := .lst [.int 0])
      have sm2 := same_new hm2 (o := .lst [.int 0])
      have s9m := sm1.trans sm2
      have n12 : m1 ≠ m2 := ne_of_none upd_same hm2
      have hm29 : H9 m2 = none := sm1.free hm2
      have nm : ∀ b o, H9 b = some o → b ≠ m1 ∧ b ≠ m2 := fun b o h => ⟨ne_of_none h hm1, ne_of_none h hm29⟩
      obtain ⟨nr1, nr2⟩ := nm _ _ hr9
      have hrA := x9 _ _ hrS (fun _ e => by cases e)
      obtain ⟨nq1, nq2⟩ := nm _ _ hrA
      refine ⟨_, rfl, _, rfl, r7, r, _, _, rfl, SqL.of (s9m _ _ hr9), SqL.of (s9m _ _ hrA), RZ.for_zipL (xs := es.map (·.v)) (ys := fs.map (·.1)) (by rw [List.length_map, List.length_map, hlen])
        (fun i3 σ H' => ∃ (y10 y11 y12 : Option V) (n : Int), σ = [some (.ref a), some (.int (0 + i)), some (.ref p), some wv, some (.ref r), some hv, some (.int (0 + i2)), some (.ref r7), some (.ref m1), some (.ref m2), y10, y11, y12] ∧ H' m1 = some (.lst [.int n]) ∧ H' m2 = some (.lst [.int n]) ∧
          (∀ j e, i3 ≤ j → es[j]? = some e → HeAt (fun b => Hs b = none ∧ b ≠ r7 ∧ b ≠ m1 ∧ b ≠ m2) H' e) ∧ H' r7 = some (.lst (es.map (·.v))) ∧ LamX.ExtN Hs H' ∧ LamX.TabS H' P1 q__joined ∧ LamX.TabS H' P2 q_heap_of)
        ⟨_, _, _, 0, rfl, sm2 _ _ upd_same, upd_same, (fun j e _ h => (hes9 e (List.mem_of_getElem? h)).imp (fun b o h e => ⟨h.1, h.2, nm b o e⟩) fun b o _ h => s9m _ _ h), s9m _ _ hr9, extN_trans x9 (extN_same s9m), T9.ext s9m, U9.ext s9m⟩
        (fun i3 σ H' ⟨_, _, _, _, _, _, _, _, g5, g6, _, _⟩ => ⟨SqL.of g5, SqL.of (extN_lst g6 hrS)⟩) ?_ ?_⟩
      · rintro i3 x y Tt σ H' hx hy ⟨y10, y11, y12, n, rfl, g1, g2, g3, g4, g5, g6, g7⟩ hT
        rw [List.getElem?_map] at hx hy
        cases hc : es[i3]? with
        | none => rw [hc] at hx; cases hx
        | some e =>
        cases hc2 : fs[i3]? with
        | none => rw [hc2] at hy; cases hy
        | some e' =>
        rw [hc] at hx
        rw [hc2] at hy
        cases hx
        cases hy
        have heq : (e.t, e.n) = e'.2 := by
          have h1 := congrArg (·[i3]?) hee
          simp only [List.getElem?_map, hc, hc2, Option.map_some, Option.some.injEq] at h1
          exact h1
        obtain ⟨d1, z1⟩ := eok e (List.mem_of_getElem? hc)
        obtain ⟨p1, x1, r1, r2, r3, r4⟩ := g3 i3 e (Nat.le_refl _) hc
        obtain ⟨p2, x2, u1, u2, u3⟩ := ((hfs6 e' (List.mem_of_getElem? hc2)).extN fS).extN g5
        rw [← heq] at u2 u3
        obtain ⟨v2, tn2⟩ := e'
        dsimp only at u1 u2 u3 heq
        subst u1
        obtain ⟨ev, et, en, eas⟩ := e
        dsimp only at r1 r2 r4 u2 u3 d1 z1
        subst r1
        have sT := same_new hT (o := .tup [.ref p1, .ref p2])
        have hndE : eas.Nodup := (List.pairwise_flatten.mp nd7).1 eas (List.mem_map.mpr ⟨_, List.mem_of_getElem? hc, rfl⟩)
        refine ⟨_, _, rfl, SqT.of upd_same, rfl, _, _, rfl, _, _, rfl, rfl, ?_⟩
        refine ⟨_, rfl, _, _, 0, _, rfl, rfl, SqT.of (sT _ _ u2), atI_nat (j := 0) rfl, x2, et, rfl, u3.same sT, by omega, by omega, fun cv asm H10 s10 Oc ndc => ?_⟩
        have sT10 := sT.trans s10
        have lstE := TrO.lst _ _ _ r4
        have lstC := TrO.lst _ _ _ Oc
        refine ⟨_, rfl, _, _, 0, _, rfl, rfl, SqT.of (sT10 _ _ r2), atI_nat (j := 0) rfl, _, rfl, x1, m1, et, n, eas, _, rfl, r4.same sT10, hndE, fun b h => h.2.2.1, sT10 _ _ g1, by omega, by omega, fun H11 M11 e11 fr11 => ?_⟩
        have inE : ∀ b, (upd H' Tt (.tup [.ref p1, .ref p2])) b = none → b ∉ eas ∧ b ≠ m1 ∧ b ≠ m2 := by
          intro b h
          refine ⟨fun hm => ?_, fun e2 => ?_, fun e2 => ?_⟩
          · obtain ⟨_, xs, e2⟩ := lstE b hm
            rw [sT _ _ e2] at h
            cases h
          · rw [e2, sT _ _ g1] at h
            cases h
          · rw [e2, sT _ _ g2] at h
            cases h
        have Oc11 : TrO (fun b => (upd H' Tt (.tup [.ref p1, .ref p2])) b = none) H11 cv et asm := Oc.keep fun b o h e => fr11 b o (inE b h).1 (inE b h).2.1 e
        have lstC11 := TrO.lst _ _ _ Oc11
        have h112 : H11 m2 = some (.lst [.int n]) := fr11 _ _ (fun hm => (lstE m2 hm).1.2.2.2 rfl) (fun e => n12 e.symm) (sT10 _ _ g2)
        refine ⟨_, rfl, _, rfl, cv, m2, et, n, asm, _, rfl, Oc11, ndc, fun b h => (inE b h).2.2, h112, by omega, by omega, fun H12 M12 e12 fr12 => ?_⟩
        have N12 : MAt H12 x1 et n eas := by
          refine MAt.keep _ _ _ _ M11 fun b o h e => ?_
          rcases h with h | ⟨xs, rfl⟩
          · refine fr12 b o (fun hm => (inE b (lstC b hm).1).1 h) (fun e2 => (lstE b h).1.2.2.2 e2) e
          · refine fr12 b _ (fun hm => ?_) (fun e2 => by rw [e2, h112] at e; cases e) e
            obtain ⟨_, xs2, e2⟩ := lstC11 b hm
            rw [e2] at e
            cases e
        have kAll : ∀ b o, b ∉ eas → b ≠ m1 → b ≠ m2 → H' b = some o → H12 b = some o := fun b o n1 n2 n3 h =>
          fr12 b o (fun hm => by have := (lstC b hm).1; rw [sT _ _ h] at this; cases this) n3 (fr11 b o n1 n2 (sT10 _ _ h))
        have nE : ∀ b o, (∀ xs, o ≠ .lst xs) → H' b = some o → b ∉ eas := fun b o nl h hm => by
          obtain ⟨_, xs, e2⟩ := lstE b hm
          rw [e2] at h
          cases h
          exact nl _ rfl
        have e111 : H12 m1 = some (.lst [.int (n + et.size)]) := fr12 _ _ (fun hm => (inE m1 (lstC m1 hm).1).2.1 rfl) n12 e11
        have h121 := kAll _ _ (nE _ _ (fun _ e => by cases e) r2) r3.2.2.1 r3.2.2.2 r2
        refine ⟨_, rfl, _, _, 0, _, rfl, rfl, SqT.of h121, atI_nat (j := 0) rfl, _, rfl, et.mdat n, et.mdat n, MAt.dp _ _ _ _ N12, MAt.dp _ _ _ _ M12, shaped_m N12 (by omega), shaped_m M12 (by omega), _, rfl, ?_⟩
        rw [eqv_self (shaped_m N12 (by omega))]
        refine iteF ?_
        have keepTab : ∀ {Pt : Addr} {qq : Str}, LamX.TabS H' Pt qq → LamX.TabS H12 Pt qq := fun h => TabS.keepN h fun b o nl e => kAll b o (nE b o nl e) (fun e2 => by rw [e2, g1] at e; cases e; exact nl _ rfl) (fun e2 => by rw [e2, g2] at e; cases e; exact nl _ rfl) e
        refine ⟨_, _, _, n + et.size, rfl, e111, e12, ?_, kAll _ _ (fun hm => (lstE _ hm).1.2.1 rfl) nr1 nr2 g4, ?_, keepTab g6, keepTab g7⟩
        · intro j2 e2 hj2 hc3
          obtain ⟨p3, x3, w1, w2, w3, w4⟩ := g3 j2 e2 (by omega) hc3
          refine ⟨p3, x3, w1, kAll _ _ (nE _ _ (fun _ e => by cases e) w2) w3.2.2.1 w3.2.2.2 w2, w3, ?_⟩
          have dis : ∀ b ∈ e2.as, b ∉ eas := by
            intro b hb hb2
            obtain ⟨hl1, e1⟩ := List.getElem?_eq_some_iff.mp hc
            obtain ⟨hl2, e3⟩ := List.getElem?_eq_some_iff.mp hc3
            have hpw := List.pairwise_iff_getElem.mp (List.pairwise_flatten.mp nd7).2 i3 j2 (by rw [List.length_map]; exact hl1) (by rw [List.length_map]; exact hl2) (by omega)
            rw [List.getElem_map, List.getElem_map, e1, e3] at hpw
            exact hpw b hb2 b hb rfl
          exact ((TrO.notin (S := eas) _ _ _ w4 dis fun b h => (lstE b h).2).keep fun b o h e => kAll b o h.2 h.1.2.2.1 h.1.2.2.2 e).weak fun b h => h.1
        · intro b o e nt
          have e' := g5 b o e nt
          have n9 := nm b o (x9 b o e nt)
          exact kAll b o (fun hm => by rw [(lstE b hm).1.1] at e; cases e) n9.1 n9.2 e'
      · rintro σ H' ⟨y10, y11, y12, n, rfl, g1, g2, g3, g4, g5, g6, g7⟩
        refine ⟨_, rfl, .inl ⟨rfl, _, SqL.of g4⟩, r7, _, _, rfl, rfl, g4, ?_, ?_⟩
        · rw [List.length_map, hlen]
          exact Nat.lt_of_le_of_lt (show _ ≤ 1000000 by omega) (by decide)
        have nr : ∀ b o, Hs b = some o → b ≠ r7 := fun b o h => ne_of_none h hr70
        have xA : LamX.ExtN Hs (upd H' r7 (.lst (es.map (·.v) ++ [.int 0]))) := fun b o e nt => by rw [upd_ne (nr b o e)]; exact g5 b o e nt
        have kT : ∀ {Pt : Addr} {qq : Str}, LamX.TabS H' Pt qq → LamX.TabS (upd H' r7 (.lst (es.map (·.v) ++ [.int 0]))) Pt qq := fun h => TabS.keepN h fun b o nl e => by rw [upd_ne (fun e2 => by rw [e2, g4] at e; cases e; exact nl _ rfl)]; exact e
        refine ⟨_, rfl, _, rfl, hv, wv, u, rfl, AhS.extN xA, AwS.extN xA, hdu, by omega, fun H14 s14 => ⟨_, rfl, iteF ?_⟩⟩
        exact ⟨_, _, _, _, _, _, _, rfl, extN_trans fS (extN_trans xA (extN_same s14)), (kT g6).ext s14, (kT g7).ext s14⟩
    · rintro σ Hs ⟨y6, y7, y8, y9, y10, y11, y12, rfl, fS, TS, US⟩
      exact ⟨⟨_, _, _, _, _, _, _, _, _, _, _, _, rfl⟩, SqL.extN fS hS6, TS, US⟩
  · rintro σ H0 ⟨⟨y1, y2, y3, y4, y5, y6, y7, y8, y9, y10, y11, y12, rfl⟩, hS0, hTi, hUi⟩
    rw [show Str.ofString "a" = ch 97 by decide +kernel]
    refine ⟨(by show 0 ≤ sizeLine; decide), fun l1 h1 => ⟨(by show 2 ≤ sizeLine; decide), fun a1 g1 => ?_⟩⟩
    have b1 := mkT h1 g1 (c := 97) (by decide) (by decide) .nil
    have sA := (same_new h1 (o := .lst [])).trans (same_new g1 (o := .tup [.str (ch 97), .ref l1]))
    refine ⟨_, _, rfl, b1, by decide +kernel, hTi.ext sA, hUi.ext sA, fun r7 es H7 f7 T7 U7 hr70 hr7 hes nd7 hrle => ?_⟩
    have e0 : es = [] := by
      have : rle ((tolds (Tr.node 97 []).kids).mergeSort leW) = [] := by simp [Tr.kids, tolds, rle]
      rw [this] at hrle
      exact List.map_eq_nil_iff.mp hrle
    subst e0
    refine ⟨(by show 0 ≤ sizeLine; decide), fun l2 h2 => ⟨_, _, dp_nil ((same_new h2) _ _ hr7), dp_nil upd_same, shaped_nil, shaped_nil, ?_⟩⟩
    rw [eqv_nil]
    exact q _
end
theorem all_mk {l : PySem.W.OpenLaw} {w : World} {K : PySem.W.Frag} {h : Heap} {mg : Str → Option Value} {fa f0 f1 f2 f3 f4 f5 f6 f7 f8 f9 f10 f11 f12 f13 f14 f15 f16 f17 f18 f19 f20 f21 f22 f23 f24 f25 : Addr} (X : K.In h) (G : h.Ns mainGlobals mg) (hfa : mg "law" = some (.ref fa))
    {od0 an0 od1 an1 od2 an2 od3 an3 od4 an4 od5 an5 od6 an6 od7 an7 od8 an8 od9 an9 od10 an10 od11 an11 od12 an12 od13 an13 od14 an14 od15 an15 od16 an16 od17 an17 od18 an18 od19 an19 od20 an20 od21 an21 od22 an22 od23 an23 od24 an24 od25 an25 : Option Addr} {sl0 sl1 sl2 sl3 sl4 sl5 sl6 sl7 sl8 sl9 sl10 sl11 sl12 sl13 sl14 sl15 sl16 sl17 sl18 sl19 sl20 sl21 sl22 sl23 sl24 sl25 : Array (Option Value)} {oc0 kV0 dc0 pm0 ct0 cd0 oc1 kV1 dc1 pm1 ct1 cd1 oc2 kV2 dc2 pm2 ct2 cd2 oc3 kV3 dc3 pm3 ct3 cd3 oc4 kV4 dc4 pm4 ct4 cd4 oc5 kV5 dc5 pm5 ct5 cd5 oc6 kV6 dc6 pm6 ct6 cd6 oc7 kV7 dc7 pm7 ct7 oc8 kV8 dc8 pm8 ct8 cd8 oc9 kV9 dc9 pm9 ct9 oc10 kV10 dc10 pm10 ct10 cd10 oc11 kV11 dc11 pm11 ct11 cd11 oc12 kV12 dc12 pm12 ct12 cd12 oc13 kV13 dc13 pm13 ct13 cd13 oc14 kV14 dc14 pm14 ct14 cd14 oc15 kV15 dc15 pm15 ct15 cd15 oc16 kV16 dc16 pm16 ct16 cd16 oc17 kV17 dc17 pm17 ct17 cd17 oc18 kV18 dc18 pm18 ct18 cd18 oc19 kV19 dc19 pm19 ct19 cd19 oc20 kV20 dc20 pm20 ct20 cd20 oc21 kV21 dc21 pm21 ct21 cd21 oc22 kV22 dc22 pm22 ct22 cd22 oc23 kV23 dc23 pm23 ct23 cd23 oc24 kV24 dc24 pm24 ct24 cd24 oc25 kV25 dc25 pm25 ct25 cd25 : Value} {c7 P7 c9 P9 : Addr}
    (a0 : PySem.W.nsIn K mainGlobals "is_letter" = some (some (.ref f0))) (l0 : K.lookup f0 = some ⟨oc0, od0, .func (PySem.W.fnOf "is_letter" "is_letter" (defArgs s_is_letter) (defBody s_is_letter) (defScope s_is_letter) .none kV0 dc0 pm0 an0 cd0 ct0), sl0⟩) (d0 : PySem.W.codeIn K cd0 "is_letter" = true) (k0 : PySem.W.keepIn K (.ref f0) = true)
    (a1 : PySem.W.nsIn K mainGlobals "is_tree" = some (some (.ref f1))) (l1 : K.lookup f1 = some ⟨oc1, od1, .func (PySem.W.fnOf "is_tree" "is_tree" (defArgs s_is_tree) (defBody s_is_tree) (defScope s_is_tree) .none kV1 dc1 pm1 an1 cd1 ct1), sl1⟩) (d1 : PySem.W.codeIn K cd1 "is_tree" = true) (k1 : PySem.W.keepIn K (.ref f1) = true)
    (a2 : PySem.W.nsIn K mainGlobals "_is_part" = some (some (.ref f2))) (l2 : K.lookup f2 = some ⟨oc2, od2, .func (PySem.W.fnOf "_is_part" "_is_part" (defArgs s__is_part) (defBody s__is_part) (defScope s__is_part) .none kV2 dc2 pm2 an2 cd2 ct2), sl2⟩) (d2 : PySem.W.codeIn K cd2 "_is_part" = true) (k2 : PySem.W.keepIn K (.ref f2) = true)
    (a3 : PySem.W.nsIn K mainGlobals "check_tree" = some (some (.ref f3))) (l3 : K.lookup f3 = some ⟨oc3, od3, .func (PySem.W.fnOf "check_tree" "check_tree" (defArgs s_check_tree) (defBody s_check_tree) (defScope s_check_tree) .none kV3 dc3 pm3 an3 cd3 ct3), sl3⟩) (d3 : PySem.W.codeIn K cd3 "check_tree" = true) (k3 : PySem.W.keepIn K (.ref f3) = true)
    (a4 : PySem.W.nsIn K mainGlobals "parts_upward" = some (some (.ref f4))) (l4 : K.lookup f4 = some ⟨oc4, od4, .func (PySem.W.fnOf "parts_upward" "parts_upward" (defArgs s_parts_upward) (defBody s_parts_upward) (defScope s_parts_upward) .none kV4 dc4 pm4 an4 cd4 ct4), sl4⟩) (d4 : PySem.W.codeIn K cd4 "parts_upward" = true) (k4 : PySem.W.keepIn K (.ref f4) = true)
    (a5 : PySem.W.nsIn K mainGlobals "built_upward" = some (some (.ref f5))) (l5 : K.lookup f5 = some ⟨oc5, od5, .func (PySem.W.fnOf "built_upward" "built_upward" (defArgs s_built_upward) (defBody s_built_upward) (defScope s_built_upward) .none kV5 dc5 pm5 an5 cd5 ct5), sl5⟩) (d5 : PySem.W.codeIn K cd5 "built_upward" = true) (k5 : PySem.W.keepIn K (.ref f5) = true)
    (a6 : PySem.W.nsIn K mainGlobals "_written_and_told" = some (some (.ref f6))) (l6 : K.lookup f6 = some ⟨oc6, od6, .func (PySem.W.fnOf "_written_and_told" "_written_and_told" (defArgs s__written_and_told) (defBody s__written_and_told) (defScope s__written_and_told) .none kV6 dc6 pm6 an6 cd6 ct6), sl6⟩) (d6 : PySem.W.codeIn K cd6 "_written_and_told" = true) (k6 : PySem.W.keepIn K (.ref f6) = true)
    (a7 : PySem.W.nsIn K mainGlobals "_joined" = some (some (.ref f7))) (l7 : K.lookup f7 = some ⟨oc7, od7, .func (PySem.W.fnOf "_joined" "_joined" (defArgs s__joined) (defBody s__joined) (defScope s__joined) .none kV7 dc7 pm7 an7 (.ref c7) ct7), sl7⟩) (d7 : PySem.W.codeIn K (.ref c7) "_joined" = true) (k7 : PySem.W.keepIn K (.ref f7) = true)
    (a8 : PySem.W.nsIn K mainGlobals "written_part" = some (some (.ref f8))) (l8 : K.lookup f8 = some ⟨oc8, od8, .func (PySem.W.fnOf "written_part" "written_part" (defArgs s_written_part) (defBody s_written_part) (defScope s_written_part) .none kV8 dc8 pm8 an8 cd8 ct8), sl8⟩) (d8 : PySem.W.codeIn K cd8 "written_part" = true) (k8 : PySem.W.keepIn K (.ref f8) = true)
    (a9 : PySem.W.nsIn K mainGlobals "heap_of" = some (some (.ref f9))) (l9 : K.lookup f9 = some ⟨oc9, od9, .func (PySem.W.fnOf "heap_of" "heap_of" (defArgs s_heap_of) (defBody s_heap_of) (defScope s_heap_of) .none kV9 dc9 pm9 an9 (.ref c9) ct9), sl9⟩) (d9 : PySem.W.codeIn K (.ref c9) "heap_of" = true) (k9 : PySem.W.keepIn K (.ref f9) = true)
    (a10 : PySem.W.nsIn K mainGlobals "_law_pool" = some (some (.ref f10))) (l10 : K.lookup f10 = some ⟨oc10, od10, .func (PySem.W.fnOf "_law_pool" "_law_pool" (defArgs s__law_pool) (defBody s__law_pool) (defScope s__law_pool) .none kV10 dc10 pm10 an10 cd10 ct10), sl10⟩) (d10 : PySem.W.codeIn K cd10 "_law_pool" = true) (k10 : PySem.W.keepIn K (.ref f10) = true)
    (a11 : PySem.W.nsIn K mainGlobals "_law_take" = some (some (.ref f11))) (l11 : K.lookup f11 = some ⟨oc11, od11, .func (PySem.W.fnOf "_law_take" "_law_take" (defArgs s__law_take) (defBody s__law_take) (defScope s__law_take) .none kV11 dc11 pm11 an11 cd11 ct11), sl11⟩) (d11 : PySem.W.codeIn K cd11 "_law_take" = true) (k11 : PySem.W.keepIn K (.ref f11) = true)
    (a12 : PySem.W.nsIn K mainGlobals "_law_mixed_up" = some (some (.ref f12))) (l12 : K.lookup f12 = some ⟨oc12, od12, .func (PySem.W.fnOf "_law_mixed_up" "_law_mixed_up" (defArgs s__law_mixed_up) (defBody s__law_mixed_up) (defScope s__law_mixed_up) .none kV12 dc12 pm12 an12 cd12 ct12), sl12⟩) (d12 : PySem.W.codeIn K cd12 "_law_mixed_up" = true) (k12 : PySem.W.keepIn K (.ref f12) = true)
    (a13 : PySem.W.nsIn K mainGlobals "_law_grown" = some (some (.ref f13))) (l13 : K.lookup f13 = some ⟨oc13, od13, .func (PySem.W.fnOf "_law_grown" "_law_grown" (defArgs s__law_grown) (defBody s__law_grown) (defScope s__law_grown) .none kV13 dc13 pm13 an13 cd13 ct13), sl13⟩) (d13 : PySem.W.codeIn K cd13 "_law_grown" = true) (k13 : PySem.W.keepIn K (.ref f13) = true)
    (a14 : PySem.W.nsIn K mainGlobals "_law_shuffled" = some (some (.ref f14))) (l14 : K.lookup f14 = some ⟨oc14, od14, .func (PySem.W.fnOf "_law_shuffled" "_law_shuffled" (defArgs s__law_shuffled) (defBody s__law_shuffled) (defScope s__law_shuffled) .none kV14 dc14 pm14 an14 cd14 ct14), sl14⟩) (d14 : PySem.W.codeIn K cd14 "_law_shuffled" = true) (k14 : PySem.W.keepIn K (.ref f14) = true)
    (a15 : PySem.W.nsIn K mainGlobals "_law_tree" = some (some (.ref f15))) (l15 : K.lookup f15 = some ⟨oc15, od15, .func (PySem.W.fnOf "_law_tree" "_law_tree" (defArgs s__law_tree) (defBody s__law_tree) (defScope s__law_tree) .none kV15 dc15 pm15 an15 cd15 ct15), sl15⟩) (d15 : PySem.W.codeIn K cd15 "_law_tree" = true) (k15 : PySem.W.keepIn K (.ref f15) = true)
    (a16 : PySem.W.nsIn K mainGlobals "_law_letters" = some (some (.ref f16))) (l16 : K.lookup f16 = some ⟨oc16, od16, .func (PySem.W.fnOf "_law_letters" "_law_letters" (defArgs s__law_letters) (defBody s__law_letters) (defScope s__law_letters) .none kV16 dc16 pm16 an16 cd16 ct16), sl16⟩) (d16 : PySem.W.codeIn K cd16 "_law_letters" = true) (k16 : PySem.W.keepIn K (.ref f16) = true)
    (a17 : PySem.W.nsIn K mainGlobals "_law_copy" = some (some (.ref f17))) (l17 : K.lookup f17 = some ⟨oc17, od17, .func (PySem.W.fnOf "_law_copy" "_law_copy" (defArgs s__law_copy) (defBody s__law_copy) (defScope s__law_copy) .none kV17 dc17 pm17 an17 cd17 ct17), sl17⟩) (d17 : PySem.W.codeIn K cd17 "_law_copy" = true) (k17 : PySem.W.keepIn K (.ref f17) = true)
    (a18 : PySem.W.nsIn K mainGlobals "_law_form" = some (some (.ref f18))) (l18 : K.lookup f18 = some ⟨oc18, od18, .func (PySem.W.fnOf "_law_form" "_law_form" (defArgs s__law_form) (defBody s__law_form) (defScope s__law_form) .none kV18 dc18 pm18 an18 cd18 ct18), sl18⟩) (d18 : PySem.W.codeIn K cd18 "_law_form" = true) (k18 : PySem.W.keepIn K (.ref f18) = true)
    (a19 : PySem.W.nsIn K mainGlobals "_law_same" = some (some (.ref f19))) (l19 : K.lookup f19 = some ⟨oc19, od19, .func (PySem.W.fnOf "_law_same" "_law_same" (defArgs s__law_same) (defBody s__law_same) (defScope s__law_same) .none kV19 dc19 pm19 an19 cd19 ct19), sl19⟩) (d19 : PySem.W.codeIn K cd19 "_law_same" = true) (k19 : PySem.W.keepIn K (.ref f19) = true)
    (a20 : PySem.W.nsIn K mainGlobals "_law_marked" = some (some (.ref f20))) (l20 : K.lookup f20 = some ⟨oc20, od20, .func (PySem.W.fnOf "_law_marked" "_law_marked" (defArgs s__law_marked) (defBody s__law_marked) (defScope s__law_marked) .none kV20 dc20 pm20 an20 cd20 ct20), sl20⟩) (d20 : PySem.W.codeIn K cd20 "_law_marked" = true) (k20 : PySem.W.keepIn K (.ref f20) = true)
    (a21 : PySem.W.nsIn K mainGlobals "_law_wider" = some (some (.ref f21))) (l21 : K.lookup f21 = some ⟨oc21, od21, .func (PySem.W.fnOf "_law_wider" "_law_wider" (defArgs s__law_wider) (defBody s__law_wider) (defScope s__law_wider) .none kV21 dc21 pm21 an21 cd21 ct21), sl21⟩) (d21 : PySem.W.codeIn K cd21 "_law_wider" = true) (k21 : PySem.W.keepIn K (.ref f21) = true)
    (a22 : PySem.W.nsIn K mainGlobals "_law_parts" = some (some (.ref f22))) (l22 : K.lookup f22 = some ⟨oc22, od22, .func (PySem.W.fnOf "_law_parts" "_law_parts" (defArgs s__law_parts) (defBody s__law_parts) (defScope s__law_parts) .none kV22 dc22 pm22 an22 cd22 ct22), sl22⟩) (d22 : PySem.W.codeIn K cd22 "_law_parts" = true) (k22 : PySem.W.keepIn K (.ref f22) = true)
    (a23 : PySem.W.nsIn K mainGlobals "_law_due" = some (some (.ref f23))) (l23 : K.lookup f23 = some ⟨oc23, od23, .func (PySem.W.fnOf "_law_due" "_law_due" (defArgs s__law_due) (defBody s__law_due) (defScope s__law_due) .none kV23 dc23 pm23 an23 cd23 ct23), sl23⟩) (d23 : PySem.W.codeIn K cd23 "_law_due" = true) (k23 : PySem.W.keepIn K (.ref f23) = true)
    (a24 : PySem.W.nsIn K mainGlobals "_law_is_heap" = some (some (.ref f24))) (l24 : K.lookup f24 = some ⟨oc24, od24, .func (PySem.W.fnOf "_law_is_heap" "_law_is_heap" (defArgs s__law_is_heap) (defBody s__law_is_heap) (defScope s__law_is_heap) .none kV24 dc24 pm24 an24 cd24 ct24), sl24⟩) (d24 : PySem.W.codeIn K cd24 "_law_is_heap" = true) (k24 : PySem.W.keepIn K (.ref f24) = true)
    (a25 : PySem.W.nsIn K mainGlobals "law" = some (some (.ref f25))) (l25 : K.lookup f25 = some ⟨oc25, od25, .func (PySem.W.fnOf "law" "law" (defArgs s_law) (defBody s_law) (defScope s_law) .none kV25 dc25 pm25 an25 cd25 ct25), sl25⟩) (d25 : PySem.W.codeIn K cd25 "law" = true) (k25 : PySem.W.keepIn K (.ref f25) = true)
    (t7 : PySem.W.tabIn K "_joined" = some (c7, P7)) (u7 : K.lookup P7 = none)
    (t9 : PySem.W.tabIn K "heap_of" = some (c9, P9)) (u9 : K.lookup P9 = none)
    (v7_9 : P7 ≠ P9)
    (z_bool : PySem.W.nsIn K mainGlobals "bool" = some none)
    (z_int : PySem.W.nsIn K mainGlobals "int" = some none)
    (z_isinstance : PySem.W.nsIn K mainGlobals "isinstance" = some none)
    (z_len : PySem.W.nsIn K mainGlobals "len" = some none)
    (z_list : PySem.W.nsIn K mainGlobals "list" = some none)
    (z_max : PySem.W.nsIn K mainGlobals "max" = some none)
    (z_min : PySem.W.nsIn K mainGlobals "min" = some none)
    (z_range : PySem.W.nsIn K mainGlobals "range" = some none)
    (z_sorted : PySem.W.nsIn K mainGlobals "sorted" = some none)
    (z_str : PySem.W.nsIn K mainGlobals "str" = some none)
    (z_sum : PySem.W.nsIn K mainGlobals "sum" = some none)
    (z_tuple : PySem.W.nsIn K mainGlobals "tuple" = some none)
    (z_zip : PySem.W.nsIn K mainGlobals "zip" = some none)
    : LawT l w K 42 "script" mg fa [("_joined", c7, P7), ("heap_of", c9, P9)] := by
  have e := hfa.symm.trans (PySem.W.mg_of X G a25)
  cases e
  have F0 := fun_mk (st := s_is_letter) l0 d0 k0
  have b0 := F0.binds (ps := ["thing"]) fun _ _ _ _ _ _ us hl => match us, hl with | [_], _ => rfl
  have F1 := fun_mk (st := s_is_tree) l1 d1 k1
  have b1 := F1.binds (ps := ["thing"]) fun _ _ _ _ _ _ us hl => match us, hl with | [_], _ => rfl
  have F2 := fun_mk (st := s__is_part) l2 d2 k2
  have b2 := F2.binds (ps := ["thing"]) fun _ _ _ _ _ _ us hl => match us, hl with | [_], _ => rfl
  have F3 := fun_mk (st := s_check_tree) l3 d3 k3
  have b3 := F3.binds (ps := ["thing"]) fun _ _ _ _ _ _ us hl => match us, hl with | [_], _ => rfl
  have F4 := fun_mk (st := s_parts_upward) l4 d4 k4
  have b4 := F4.binds (ps := ["tree"]) fun _ _ _ _ _ _ us hl => match us, hl with | [_], _ => rfl
  have F5 := fun_mk (st := s_built_upward) l5 d5 k5
  have b5 := F5.binds (ps := ["tree", "made"]) fun _ _ _ _ _ _ us hl => match us, hl with | [_, _], _ => rfl
  have F6 := fun_mk (st := s__written_and_told) l6 d6 k6
  have b6 := F6.binds (ps := ["tree"]) fun _ _ _ _ _ _ us hl => match us, hl with | [_], _ => rfl
  have F7 := fun_mk (st := s__joined) l7 d7 k7
  have b7 := F7.binds (ps := ["letter", "below"]) fun _ _ _ _ _ _ us hl => match us, hl with | [_, _], _ => rfl
  have F8 := fun_mk (st := s_written_part) l8 d8 k8
  have b8 := F8.binds (ps := ["letter", "texts"]) fun _ _ _ _ _ _ us hl => match us, hl with | [_, _], _ => rfl
  have F9 := fun_mk (st := s_heap_of) l9 d9 k9
  have b9 := F9.binds (ps := ["tree"]) fun _ _ _ _ _ _ us hl => match us, hl with | [_], _ => rfl
  have F10 := fun_mk (st := s__law_pool) l10 d10 k10
  have b10 := F10.binds (ps := ["script", "k"]) fun _ _ _ _ _ _ us hl => match us, hl with | [_, _], _ => rfl
  have F11 := fun_mk (st := s__law_take) l11 d11 k11
  have b11 := F11.binds (ps := ["pool", "many"]) fun _ _ _ _ _ _ us hl => match us, hl with | [_, _], _ => rfl
  have F12 := fun_mk (st := s__law_mixed_up) l12 d12 k12
  have b12 := F12.binds (ps := ["pool", "things"]) fun _ _ _ _ _ _ us hl => match us, hl with | [_, _], _ => rfl
  have F13 := fun_mk (st := s__law_grown) l13 d13 k13
  have b13 := F13.binds (ps := ["pool", "most", "letters"]) fun _ _ _ _ _ _ us hl => match us, hl with | [_, _, _], _ => rfl
  have F14 := fun_mk (st := s__law_shuffled) l14 d14 k14
  have b14 := F14.binds (ps := ["pool", "tree"]) fun _ _ _ _ _ _ us hl => match us, hl with | [_, _], _ => rfl
  have F15 := fun_mk (st := s__law_tree) l15 d15 k15
  have b15 := F15.binds (ps := ["pool", "most", "letters"]) fun _ _ _ _ _ _ us hl => match us, hl with | [_, _, _], _ => rfl
  have F16 := fun_mk (st := s__law_letters) l16 d16 k16
  have b16 := F16.binds (ps := ["pool"]) fun _ _ _ _ _ _ us hl => match us, hl with | [_], _ => rfl
  have F17 := fun_mk (st := s__law_copy) l17 d17 k17
  have b17 := F17.binds (ps := ["tree"]) fun _ _ _ _ _ _ us hl => match us, hl with | [_], _ => rfl
  have F18 := fun_mk (st := s__law_form) l18 d18 k18
  have b18 := F18.binds (ps := ["tree"]) fun _ _ _ _ _ _ us hl => match us, hl with | [_], _ => rfl
  have F19 := fun_mk (st := s__law_same) l19 d19 k19
  have b19 := F19.binds (ps := ["one", "other"]) fun _ _ _ _ _ _ us hl => match us, hl with | [_, _], _ => rfl
  have F20 := fun_mk (st := s__law_marked) l20 d20 k20
  have b20 := F20.binds (ps := ["tree", "marks"]) fun _ _ _ _ _ _ us hl => match us, hl with | [_, _], _ => rfl
  have F21 := fun_mk (st := s__law_wider) l21 d21 k21
  have b21 := F21.binds (ps := ["pool", "tree"]) fun _ _ _ _ _ _ us hl => match us, hl with | [_, _], _ => rfl
  have F22 := fun_mk (st := s__law_parts) l22 d22 k22
  have b22 := F22.binds (ps := ["tree"]) fun _ _ _ _ _ _ us hl => match us, hl with | [_], _ => rfl
  have F23 := fun_mk (st := s__law_due) l23 d23 k23
  have b23 := F23.binds (ps := ["tree"]) fun _ _ _ _ _ _ us hl => match us, hl with | [_], _ => rfl
  have F24 := fun_mk (st := s__law_is_heap) l24 d24 k24
  have b24 := F24.binds (ps := ["found", "due"]) fun _ _ _ _ _ _ us hl => match us, hl with | [_, _], _ => rfl
  have F25 := fun_mk (st := s_law) l25 d25 k25
  have b25 := F25.binds (ps := ["script"]) fun _ _ _ _ _ _ us hl => match us, hl with | [_], _ => rfl
  let T : Txt K mg := ⟨f0, _, F0, b0, PySem.W.mg_of X G a0, f1, _, F1, b1, PySem.W.mg_of X G a1, f2, _, F2, b2, PySem.W.mg_of X G a2, f3, _, F3, b3, PySem.W.mg_of X G a3, f4, _, F4, b4, PySem.W.mg_of X G a4, f5, _, F5, b5, PySem.W.mg_of X G a5, f6, _, F6, b6, PySem.W.mg_of X G a6, f7, _, F7, b7, PySem.W.mg_of X G a7, f8, _, F8, b8, PySem.W.mg_of X G a8, f9, _, F9, b9, PySem.W.mg_of X G a9, f10, _, F10, b10, PySem.W.mg_of X G a10, f11, _, F11, b11, PySem.W.mg_of X G a11, f12, _, F12, b12, PySem.W.mg_of X G a12, f13, _, F13, b13, PySem.W.mg_of X G a13, f14, _, F14, b14, PySem.W.mg_of X G a14, f15, _, F15, b15, PySem.W.mg_of X G a15, f16, _, F16, b16, PySem.W.mg_of X G a16, f17, _, F17, b17, PySem.W.mg_of X G a17, f18, _, F18, b18, PySem.W.mg_of X G a18, f19, _, F19, b19, PySem.W.mg_of X G a19, f20, _, F20, b20, PySem.W.mg_of X G a20, f21, _, F21, b21, PySem.W.mg_of X G a21, f22, _, F22, b22, PySem.W.mg_of X G a22, f23, _, F23, b23, PySem.W.mg_of X G a23, f24, _, F24, b24, PySem.W.mg_of X G a24, fa, _, F25, b25, PySem.W.mg_of X G a25, c7, P7, rfl, c9, P9, rfl, v7_9, PySem.W.mg_none_of X G z_bool, PySem.W.mg_none_of X G z_int, PySem.W.mg_none_of X G z_isinstance, PySem.W.mg_none_of X G z_len, PySem.W.mg_none_of X G z_list, PySem.W.mg_none_of X G z_max, PySem.W.mg_none_of X G z_min, PySem.W.mg_none_of X G z_range, PySem.W.mg_none_of X G z_sorted, PySem.W.mg_none_of X G z_str, PySem.W.mg_none_of X G z_sum, PySem.W.mg_none_of X G z_tuple, PySem.W.mg_none_of X G z_zip⟩
  refine ⟨?_, PySem.W.fnOf "law" "law" (defArgs s_law) (defBody s_law) (defScope s_law) .none kV25 dc25 pm25 an25 cd25 ct25, fun s v => .of_eq rfl, fun base _ _ hb => ?_⟩
  · intro z hz
    simp only [List.mem_cons, List.not_mem_nil, or_false] at hz
    rcases hz with rfl | rfl
    · exact ⟨t7, u7⟩
    · exact ⟨t9, u9⟩
  · have B : Tbs T base := ⟨hb ("_joined", c7, P7) (by simp), hb ("heap_of", c9, P9) (by simp)⟩
    exact ok_law T B
end My
open PySem PySem.W PyProof.Rows
set_option maxRecDepth 100000 in
set_option maxHeartbeats 0 in
theorem PySem.Challenge.cw_heaptrees_k04_heaps_told_holds : PySem.Challenge.rw_heaptrees_k04_heaps_told.Holds := by
  w_on; o_law; k_head; (case hw => w_witness2)
  k_fill
  refine My.walk_ofT (l := PySem.Challenge.rw_heaptrees_k04_heaps_told) (n := 63) (k := 42) (x := "script") rfl (by decide) (by decide) rfl ⟨rfl, by decide, by decide⟩ (fun w h Y => Y.1) ["_joined", "heap_of"] ?R ?F
  case R => decide +kernel
  case F =>
    intro w mg fa h KX G hmg
    refine' ⟨_, ?n, ?m⟩
    case m =>
      refine' My.all_mk KX G hmg ?a0 ?l0 ?d0 ?k0 ?a1 ?l1 ?d1 ?k1 ?a2 ?l2 ?d2 ?k2 ?a3 ?l3 ?d3 ?k3 ?a4 ?l4 ?d4 ?k4 ?a5 ?l5 ?d5 ?k5 ?a6 ?l6 ?d6 ?k6 ?a7 ?l7 ?d7 ?k7 ?a8 ?l8 ?d8 ?k8 ?a9 ?l9 ?d9 ?k9 ?a10 ?l10 ?d10 ?k10 ?a11 ?l11 ?d11 ?k11 ?a12 ?l12 ?d12 ?k12 ?a13 ?l13 ?d13 ?k13 ?a14 ?l14 ?d14 ?k14 ?a15 ?l15 ?d15 ?k15 ?a16 ?l16 ?d16 ?k16 ?a17 ?l17 ?d17 ?k17 ?a18 ?l18 ?d18 ?k18 ?a19 ?l19 ?d19 ?k19 ?a20 ?l20 ?d20 ?k20 ?a21 ?l21 ?d21 ?k21 ?a22 ?l22 ?d22 ?k22 ?a23 ?l23 ?d23 ?k23 ?a24 ?l24 ?d24 ?k24 ?a25 ?l25 ?d25 ?k25 ?t7 ?u7 ?t9 ?u9 ?v7_9 ?z_bool ?z_int ?z_isinstance ?z_len ?z_list ?z_max ?z_min ?z_range ?z_sorted ?z_str ?z_sum ?z_tuple ?z_zip
      (case a0 => k_is)
      (case l0 => k_is)
      (case d0 => k_is)
      (case k0 => k_is)
      (case a1 => k_is)
      (case l1 => k_is)
      (case d1 => k_is)
      (case k1 => k_is)
      (case a2 => k_is)
      (case l2 => k_is)
      (case d2 => k_is)
      (case k2 => k_is)
      (case a3 => k_is)
      (case l3 => k_is)
      (case d3 => k_is)
      (case k3 => k_is)
      (case a4 => k_is)
      (case l4 => k_is)
      (case d4 => k_is)
      (case k4 => k_is)
      (case a5 => k_is)
      (case l5 => k_is)
      (case d5 => k_is)
      (case k5 => k_is)
      (case a6 => k_is)
      (case l6 => k_is)
      (case d6 => k_is)
      (case k6 => k_is)
      (case a7 => k_is)
      (case l7 => k_is)
      (case d7 => k_is)
      (case k7 => k_is)
      (case a8 => k_is)
      (case l8 => k_is)
      (case d8 => k_is)
      (case k8 => k_is)
      (case a9 => k_is)
      (case l9 => k_is)
      (case d9 => k_is)
      (case k9 => k_is)
      (case a10 => k_is)
      (case l10 => k_is)
      (case d10 => k_is)
      (case k10 => k_is)
      (case a11 => k_is)
      (case l11 => k_is)
      (case d11 => k_is)
      (case k11 => k_is)
      (case a12 => k_is)
      (case l12 => k_is)
      (case d12 => k_is)
      (case k12 => k_is)
      (case a13 => k_is)
      (case l13 => k_is)
      (case d13 => k_is)
      (case k13 => k_is)
      (case a14 => k_is)
      (case l14 => k_is)
      (case d14 => k_is)
      (case k14 => k_is)
      (case a15 => k_is)
      (case l15 => k_is)
      (case d15 => k_is)
      (case k15 => k_is)
      (case a16 => k_is)
      (case l16 => k_is)
      (case d16 => k_is)
      (case k16 => k_is)
      (case a17 => k_is)
      (case l17 => k_is)
      (case d17 => k_is)
      (case k17 => k_is)
      (case a18 => k_is)
      (case l18 => k_is)
      (case d18 => k_is)
      (case k18 => k_is)
      (case a19 => k_is)
      (case l19 => k_is)
      (case d19 => k_is)
      (case k19 => k_is)
      (case a20 => k_is)
      (case l20 => k_is)
      (case d20 => k_is)
      (case k20 => k_is)
      (case a21 => k_is)
      (case l21 => k_is)
      (case d21 => k_is)
      (case k21 => k_is)
      (case a22 => k_is)
      (case l22 => k_is)
      (case d22 => k_is)
      (case k22 => k_is)
      (case a23 => k_is)
      (case l23 => k_is)
      (case d23 => k_is)
      (case k23 => k_is)
      (case a24 => k_is)
      (case l24 => k_is)
      (case d24 => k_is)
      (case k24 => k_is)
      (case a25 => k_is)
      (case l25 => k_is)
      (case d25 => k_is)
      (case k25 => k_is)
      (case t7 => rfl)
      (case u7 => rfl)
      (case t9 => rfl)
      (case u9 => rfl)
      (case v7_9 => decide +kernel)
      (case z_bool => k_is)
      (case z_int => k_is)
      (case z_isinstance => k_is)
      (case z_len => k_is)
      (case z_list => k_is)
      (case z_max => k_is)
      (case z_min => k_is)
      (case z_range => k_is)
      (case z_sorted => k_is)
      (case z_str => k_is)
      (case z_sum => k_is)
      (case z_tuple => k_is)
      (case z_zip => k_is)
    case n => rfl
#print axioms PySem.Challenge.cw_heaptrees_k04_heaps_told_holds
