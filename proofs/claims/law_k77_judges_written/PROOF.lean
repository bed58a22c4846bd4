import PyProof.Rows.All
import Wide.All
import OpenK.AllK
import Wide.FinOn
import HandS.ForMost
import HandS.Wide
import HandS.IsInst
import HandS.Exc
import HandS.ExcOwn
import HandS.ExcValue
import HandS.ExcIs
import HandS.TryOnly
import HandS.WordsExc
import HandS.Flow
import HandS.Style
import HandS.Codes
import HandS.Lambda
import HandS.Star
import HandS.Nested
import HandS.EndTab
import HandS.SortKw
import HandS.FStr
import HandS.NoneIn
import HandS.More
import HandS.Zip
import HandS.Conv
import HandS.TupAny
import HandS.RaiseMore
import HandS.Walk
import HandS.Iter
import HandS.Dict
import PyProof.StrLawsRepr
import KE.SortKeyHeap
import KE.SortData
import KE.DataFind
import KE.DataMinMax
import KE.KEqNest
import PyProof.Draws
import PyProof.EnumMake
import KE.KeyNested
import KE.KDictKeyed
import HandS.Steps
import HandS.SetFor
import HandS.DictEq
import HandS.DictTup
import HandS.DictComp
import KE.KMathGC
import HandS.Gcd
import HandS.Replace
import HandS.SortInts
import KE.GoesMore
import KE.GoesZip
import PySem.Challenge.RW_heaptrees_k77_judges_written
set_option Elab.async false
set_option linter.all false
set_option maxRecDepth 100000
set_option maxHeartbeats 4000000
namespace My
open PySem PySem.Spec PyProof.Rows L2
def topS (i : Nat) : Stmt := PySem.Challenge.pw_heaptrees_k77_judges_written.main.body.getD i (.Pass ⟨0, 0, 0, 0⟩)
abbrev s_is_whole : Stmt := topS 4
theorem sc_is_whole : FnScope ["thing"] ["thing"] (defScope s_is_whole) := ⟨rfl, rfl, rfl, by decide +kernel, rfl, by decide +kernel, by decide +kernel⟩
abbrev s_is_whole_within : Stmt := topS 5
theorem sc_is_whole_within : FnScope ["thing", "low", "high"] ["thing", "low", "high"] (defScope s_is_whole_within) := ⟨rfl, rfl, rfl, by decide +kernel, rfl, by decide +kernel, by decide +kernel⟩
abbrev s_is_letter : Stmt := topS 6
theorem sc_is_letter : FnScope ["thing"] ["thing"] (defScope s_is_letter) := ⟨rfl, rfl, rfl, by decide +kernel, rfl, by decide +kernel, by decide +kernel⟩
abbrev s_is_judge : Stmt := topS 12
theorem sc_is_judge : FnScope ["thing", "letters", "states", "few", "turn", "table", "good"] ["thing"] (defScope s_is_judge) := ⟨rfl, rfl, rfl, by decide +kernel, rfl, by decide +kernel, by decide +kernel⟩
abbrev s_may_have_table : Stmt := topS 13
theorem sc_may_have_table : FnScope ["letters", "states", "few", "turn"] ["letters", "states", "few", "turn"] (defScope s_may_have_table) := ⟨rfl, rfl, rfl, by decide +kernel, rfl, by decide +kernel, by decide +kernel⟩
abbrev s_are_letters : Stmt := topS 14
theorem sc_are_letters : FnScope ["thing", "sign"] ["thing"] (defScope s_are_letters) := ⟨rfl, rfl, rfl, by decide +kernel, rfl, by decide +kernel, by decide +kernel⟩
abbrev s_are_rising_states : Stmt := topS 15
theorem sc_are_rising_states : FnScope ["thing", "states", "state"] ["thing", "states"] (defScope s_are_rising_states) := ⟨rfl, rfl, rfl, by decide +kernel, rfl, by decide +kernel, by decide +kernel⟩
abbrev s__rises : Stmt := topS 16
theorem sc__rises : FnScope ["row", "low", "high"] ["row"] (defScope s__rises) := ⟨rfl, rfl, rfl, by decide +kernel, rfl, by decide +kernel, by decide +kernel⟩
abbrev s_tuples_due : Stmt := topS 17
theorem sc_tuples_due : FnScope ["letters", "states", "classes", "many", "_"] ["letters", "states", "classes"] (defScope s_tuples_due) := ⟨rfl, rfl, rfl, by decide +kernel, rfl, by decide +kernel, by decide +kernel⟩
abbrev s__is_table : Stmt := topS 18
theorem sc__is_table : FnScope ["thing", "letters", "states", "classes", "key", "state"] ["thing", "letters", "states", "classes"] (defScope s__is_table) := ⟨rfl, rfl, rfl, by decide +kernel, rfl, by decide +kernel, by decide +kernel⟩
abbrev s__is_key : Stmt := topS 19
theorem sc__is_key : FnScope ["thing", "letters", "states", "classes", "letter", "row", "number"] ["thing", "letters", "states", "classes"] (defScope s__is_key) := ⟨rfl, rfl, rfl, by decide +kernel, rfl, by decide +kernel, by decide +kernel⟩
abbrev s_class_rows : Stmt := topS 20
theorem sc_class_rows : FnScope ["states", "classes", "rows", "_", "row", "number"] ["states", "classes"] (defScope s_class_rows) := ⟨rfl, rfl, rfl, by decide +kernel, rfl, by decide +kernel, by decide +kernel⟩
abbrev s_keys_due : Stmt := topS 21
theorem sc_keys_due : FnScope ["letters", "states", "classes", "rows", "letter", "row"] ["letters", "states", "classes"] (defScope s_keys_due) := ⟨rfl, rfl, rfl, by decide +kernel, rfl, by decide +kernel, by decide +kernel⟩
abbrev s_show_judge : Stmt := topS 24
theorem sc_show_judge : FnScope ["judge", "letters", "states", "few", "turn", "table", "good", "good_text", "figures", "state", "key"] ["judge"] (defScope s_show_judge) := ⟨rfl, rfl, rfl, by decide +kernel, rfl, by decide +kernel, by decide +kernel⟩
abbrev s_read_judge : Stmt := topS 25
theorem sc_read_judge : FnScope ["text", "words", "judge"] ["text"] (defScope s_read_judge) := ⟨rfl, rfl, rfl, by decide +kernel, rfl, by decide +kernel, by decide +kernel⟩
abbrev s__judge_read : Stmt := topS 26
theorem sc__judge_read : FnScope ["words", "letters", "states", "few", "turn", "keys", "good", "table", "word", "sign"] ["words"] (defScope s__judge_read) := ⟨rfl, rfl, rfl, by decide +kernel, rfl, by decide +kernel, by decide +kernel⟩
abbrev s__figure : Stmt := topS 27
theorem sc__figure : FnScope ["word"] ["word"] (defScope s__figure) := ⟨rfl, rfl, rfl, by decide +kernel, rfl, by decide +kernel, by decide +kernel⟩
abbrev s__law_cell : Stmt := topS 29
theorem sc__law_cell : FnScope ["script", "k"] ["script", "k"] (defScope s__law_cell) := ⟨rfl, rfl, rfl, by decide +kernel, rfl, by decide +kernel, by decide +kernel⟩
abbrev s__law_store : Stmt := topS 30
theorem sc__law_store : FnScope ["cell", "great"] ["cell"] (defScope s__law_store) := ⟨rfl, rfl, rfl, by decide +kernel, rfl, by decide +kernel, by decide +kernel⟩
abbrev s__law_take : Stmt := topS 31
theorem sc__law_take : FnScope ["store", "many", "told", "one"] ["store", "many"] (defScope s__law_take) := ⟨rfl, rfl, rfl, by decide +kernel, rfl, by decide +kernel, by decide +kernel⟩
abbrev s__law_classes : Stmt := topS 32
theorem sc__law_classes : FnScope ["many", "states", "rows", "k", "longer", "row", "one"] ["many", "states"] (defScope s__law_classes) := ⟨rfl, rfl, rfl, by decide +kernel, rfl, by decide +kernel, by decide +kernel⟩
abbrev s__law_letters : Stmt := topS 33
theorem sc__law_letters : FnScope ["store", "way", "left", "many"] ["store"] (defScope s__law_letters) := ⟨rfl, rfl, rfl, by decide +kernel, rfl, by decide +kernel, by decide +kernel⟩
abbrev s__law_judge : Stmt := topS 34
theorem sc__law_judge : FnScope ["store", "small", "sizes", "states", "few", "turn", "letters", "rows", "table", "letter", "kind", "row", "good", "state"] ["store", "small"] (defScope s__law_judge) := ⟨rfl, rfl, rfl, by decide +kernel, rfl, by decide +kernel, by decide +kernel⟩
abbrev s__law_shown : Stmt := topS 35
theorem sc__law_shown : FnScope ["judge", "letters", "states", "few", "turn", "table", "good", "told", "letter", "some", "row", "state"] ["judge"] (defScope s__law_shown) := ⟨rfl, rfl, rfl, by decide +kernel, rfl, by decide +kernel, by decide +kernel⟩
abbrev s__law_same : Stmt := topS 36
theorem sc__law_same : FnScope ["found", "due", "k", "key"] ["found", "due"] (defScope s__law_same) := ⟨rfl, rfl, rfl, by decide +kernel, rfl, by decide +kernel, by decide +kernel⟩
abbrev s__law_shuffled : Stmt := topS 37
theorem sc__law_shuffled : FnScope ["store", "judge", "keys", "way", "table", "k", "key"] ["store", "judge"] (defScope s__law_shuffled) := ⟨rfl, rfl, rfl, by decide +kernel, rfl, by decide +kernel, by decide +kernel⟩
abbrev s_law : Stmt := topS 38
theorem sc_law : FnScope ["script", "at", "store", "judge", "handed", "text", "found", "told"] ["script"] (defScope s_law) := ⟨rfl, rfl, rfl, by decide +kernel, rfl, by decide +kernel, by decide +kernel⟩
structure Txt (K : PySem.W.Frag) (mg : Str → Option Value) where
  f_is_whole : Addr
  d_is_whole : FuncData
  F_is_whole : Fun K "is_whole" "is_whole" s_is_whole f_is_whole d_is_whole
  b_is_whole : Binds K d_is_whole ["thing"] []
  m_is_whole : mg "is_whole" = some (.ref f_is_whole)
  f_is_whole_within : Addr
  d_is_whole_within : FuncData
  F_is_whole_within : Fun K "is_whole_within" "is_whole_within" s_is_whole_within f_is_whole_within d_is_whole_within
  b_is_whole_within : Binds K d_is_whole_within ["thing", "low", "high"] []
  m_is_whole_within : mg "is_whole_within" = some (.ref f_is_whole_within)
  f_is_letter : Addr
  d_is_letter : FuncData
  F_is_letter : Fun K "is_letter" "is_letter" s_is_letter f_is_letter d_is_letter
  b_is_letter : Binds K d_is_letter ["thing"] []
  m_is_letter : mg "is_letter" = some (.ref f_is_letter)
  f_is_judge : Addr
  d_is_judge : FuncData
  F_is_judge : Fun K "is_judge" "is_judge" s_is_judge f_is_judge d_is_judge
  b_is_judge : Binds K d_is_judge ["thing"] []
  m_is_judge : mg "is_judge" = some (.ref f_is_judge)
  f_may_have_table : Addr
  d_may_have_table : FuncData
  F_may_have_table : Fun K "may_have_table" "may_have_table" s_may_have_table f_may_have_table d_may_have_table
  b_may_have_table : Binds K d_may_have_table ["letters", "states", "few", "turn"] []
  m_may_have_table : mg "may_have_table" = some (.ref f_may_have_table)
  f_are_letters : Addr
  d_are_letters : FuncData
  F_are_letters : Fun K "are_letters" "are_letters" s_are_letters f_are_letters d_are_letters
  b_are_letters : Binds K d_are_letters ["thing"] []
  m_are_letters : mg "are_letters" = some (.ref f_are_letters)
  f_are_rising_states : Addr
  d_are_rising_states : FuncData
  F_are_rising_states : Fun K "are_rising_states" "are_rising_states" s_are_rising_states f_are_rising_states d_are_rising_states
  b_are_rising_states : Binds K d_are_rising_states ["thing", "states"] []
  m_are_rising_states : mg "are_rising_states" = some (.ref f_are_rising_states)
  f__rises : Addr
  d__rises : FuncData
  F__rises : Fun K "_rises" "_rises" s__rises f__rises d__rises
  b__rises : Binds K d__rises ["row"] []
  m__rises : mg "_rises" = some (.ref f__rises)
  f_tuples_due : Addr
  d_tuples_due : FuncData
  F_tuples_due : Fun K "tuples_due" "tuples_due" s_tuples_due f_tuples_due d_tuples_due
  b_tuples_due : Binds K d_tuples_due ["letters", "states", "classes"] []
  m_tuples_due : mg "tuples_due" = some (.ref f_tuples_due)
  f__is_table : Addr
  d__is_table : FuncData
  F__is_table : Fun K "_is_table" "_is_table" s__is_table f__is_table d__is_table
  b__is_table : Binds K d__is_table ["thing", "letters", "states", "classes"] []
  m__is_table : mg "_is_table" = some (.ref f__is_table)
  f__is_key : Addr
  d__is_key : FuncData
  F__is_key : Fun K "_is_key" "_is_key" s__is_key f__is_key d__is_key
  b__is_key : Binds K d__is_key ["thing", "letters", "states", "classes"] []
  m__is_key : mg "_is_key" = some (.ref f__is_key)
  f_class_rows : Addr
  d_class_rows : FuncData
  F_class_rows : Fun K "class_rows" "class_rows" s_class_rows f_class_rows d_class_rows
  b_class_rows : Binds K d_class_rows ["states", "classes"] []
  m_class_rows : mg "class_rows" = some (.ref f_class_rows)
  f_keys_due : Addr
  d_keys_due : FuncData
  F_keys_due : Fun K "keys_due" "keys_due" s_keys_due f_keys_due d_keys_due
  b_keys_due : Binds K d_keys_due ["letters", "states", "classes"] []
  m_keys_due : mg "keys_due" = some (.ref f_keys_due)
  f_show_judge : Addr
  d_show_judge : FuncData
  F_show_judge : Fun K "show_judge" "show_judge" s_show_judge f_show_judge d_show_judge
  b_show_judge : Binds K d_show_judge ["judge"] []
  m_show_judge : mg "show_judge" = some (.ref f_show_judge)
  f_read_judge : Addr
  d_read_judge : FuncData
  F_read_judge : Fun K "read_judge" "read_judge" s_read_judge f_read_judge d_read_judge
  b_read_judge : Binds K d_read_judge ["text"] []
  m_read_judge : mg "read_judge" = some (.ref f_read_judge)
  f__judge_read : Addr
  d__judge_read : FuncData
  F__judge_read : Fun K "_judge_read" "_judge_read" s__judge_read f__judge_read d__judge_read
  b__judge_read : Binds K d__judge_read ["words"] []
  m__judge_read : mg "_judge_read" = some (.ref f__judge_read)
  f__figure : Addr
  d__figure : FuncData
  F__figure : Fun K "_figure" "_figure" s__figure f__figure d__figure
  b__figure : Binds K d__figure ["word"] []
  m__figure : mg "_figure" = some (.ref f__figure)
  f__law_cell : Addr
  d__law_cell : FuncData
  F__law_cell : Fun K "_law_cell" "_law_cell" s__law_cell f__law_cell d__law_cell
  b__law_cell : Binds K d__law_cell ["script", "k"] []
  m__law_cell : mg "_law_cell" = some (.ref f__law_cell)
  f__law_store : Addr
  d__law_store : FuncData
  F__law_store : Fun K "_law_store" "_law_store" s__law_store f__law_store d__law_store
  b__law_store : Binds K d__law_store ["cell"] []
  m__law_store : mg "_law_store" = some (.ref f__law_store)
  f__law_take : Addr
  d__law_take : FuncData
  F__law_take : Fun K "_law_take" "_law_take" s__law_take f__law_take d__law_take
  b__law_take : Binds K d__law_take ["store", "many"] []
  m__law_take : mg "_law_take" = some (.ref f__law_take)
  f__law_classes : Addr
  d__law_classes : FuncData
  F__law_classes : Fun K "_law_classes" "_law_classes" s__law_classes f__law_classes d__law_classes
  b__law_classes : Binds K d__law_classes ["many", "states"] []
  m__law_classes : mg "_law_classes" = some (.ref f__law_classes)
  f__law_letters : Addr
  d__law_letters : FuncData
  F__law_letters : Fun K "_law_letters" "_law_letters" s__law_letters f__law_letters d__law_letters
  b__law_letters : Binds K d__law_letters ["store"] []
  m__law_letters : mg "_law_letters" = some (.ref f__law_letters)
  f__law_judge : Addr
  d__law_judge : FuncData
  F__law_judge : Fun K "_law_judge" "_law_judge" s__law_judge f__law_judge d__law_judge
  b__law_judge : Binds K d__law_judge ["store", "small"] []
  m__law_judge : mg "_law_judge" = some (.ref f__law_judge)
  f__law_shown : Addr
  d__law_shown : FuncData
  F__law_shown : Fun K "_law_shown" "_law_shown" s__law_shown f__law_shown d__law_shown
  b__law_shown : Binds K d__law_shown ["judge"] []
  m__law_shown : mg "_law_shown" = some (.ref f__law_shown)
  f__law_same : Addr
  d__law_same : FuncData
  F__law_same : Fun K "_law_same" "_law_same" s__law_same f__law_same d__law_same
  b__law_same : Binds K d__law_same ["found", "due"] []
  m__law_same : mg "_law_same" = some (.ref f__law_same)
  f__law_shuffled : Addr
  d__law_shuffled : FuncData
  F__law_shuffled : Fun K "_law_shuffled" "_law_shuffled" s__law_shuffled f__law_shuffled d__law_shuffled
  b__law_shuffled : Binds K d__law_shuffled ["store", "judge"] []
  m__law_shuffled : mg "_law_shuffled" = some (.ref f__law_shuffled)
  f_law : Addr
  d_law : FuncData
  F_law : Fun K "law" "law" s_law f_law d_law
  b_law : Binds K d_law ["script"] []
  m_law : mg "law" = some (.ref f_law)
  t_MOST_STATES : Tok
  g_MOST_STATES : mg "MOST_STATES" = some (.int 6 t_MOST_STATES)
  t_MOST_FEW : Tok
  g_MOST_FEW : mg "MOST_FEW" = some (.int 4 t_MOST_FEW)
  t_MOST_TURN : Tok
  g_MOST_TURN : mg "MOST_TURN" = some (.int 4 t_MOST_TURN)
  t_MOST_TUPLES : Tok
  g_MOST_TUPLES : mg "MOST_TUPLES" = some (.int 600 t_MOST_TUPLES)
  t_FIGURES : Tok
  g_FIGURES : mg "FIGURES" = some (.str (Str.ofString "0123456789") t_FIGURES)
  z_all : mg "all" = none
  z_bool : mg "bool" = none
  z_dict : mg "dict" = none
  z_int : mg "int" = none
  z_isinstance : mg "isinstance" = none
  z_len : mg "len" = none
  z_list : mg "list" = none
  z_max : mg "max" = none
  z_min : mg "min" = none
  z_range : mg "range" = none
  z_sorted : mg "sorted" = none
  z_str : mg "str" = none
  z_sum : mg "sum" = none
  z_tuple : mg "tuple" = none
  z_zip : mg "zip" = none
local macro_rules | `(tactic| walk_at "my rd") => `(tactic| repeat (first | refine ⟨_, rfl, ?_⟩ | refine ⟨_, _, rfl, rfl, ?_⟩ | refine ⟨rfl, ?_⟩))
local macro_rules | `(tactic| walk_at "my one") => `(tactic| first | refine ⟨_, rfl, ?_⟩ | refine ⟨_, _, rfl, rfl, ?_⟩ | refine ⟨rfl, ?_⟩)
def Chg (p : Addr) (H H' : Hp) : Prop := ∀ b, b ≠ p → H' b = H b
theorem Chg.refl (p : Addr) (H : Hp) : Chg p H H := fun _ _ => rfl
theorem Chg.trans {p : Addr} {H H1 H2 : Hp} (a : Chg p H H1) (b : Chg p H1 H2) : Chg p H H2 := fun c hc => (b c hc).trans (a c hc)
theorem Chg.upd {p : Addr} {H : Hp} {o : HO} : Chg p H (upd H p o) := fun _ h => upd_ne h
theorem Chg.at {p b : Addr} {H H' : Hp} {o : HO} (c : Chg p H H') (h : H b = some o) (n : b ≠ p) : H' b = some o := (c b n).trans h
theorem Chg.seq {K : PySem.W.Frag} {p a : Addr} {H H' : Hp} {xs : List V} (c : Chg p H H') (hp : H p = none) (h : SqL K H a xs) : SqL K H' a xs := by
  rcases h with (h | ⟨o, h⟩) | h
  · exact .inl (.inl (c.at h (ne_of_none h hp)))
  · exact .inl (.inr ⟨o, c.at h (ne_of_none h hp)⟩)
  · exact .inr h
theorem same_new {H : Hp} {p : Addr} {o : HO} (h : H p = none) : Same H (upd H p o) := fun b u q => by rw [upd_ne (ne_of_none q h)]; exact q
theorem nn_mul {a b A B : Int} (h0 : 0 ≤ a) (h1 : a ≤ A) (g0 : 0 ≤ b) (g1 : b ≤ B) : 0 ≤ a * b ∧ a * b ≤ A * B :=
  ⟨Int.mul_nonneg h0 g0, Int.mul_le_mul h1 g1 g0 (Int.le_trans h0 h1)⟩
theorem divW {i j : Int} (h : 0 < j) (h2 : j < 2 ^ 60) : CDivW i j := wide_div (b := 60) h (by omega) (by decide) (by decide)

theorem lay_ints : ∀ xs : List Int, PyData.canLayAll0 (xs.map PyData.int) = true
  | [] => by simp only [List.map_nil, PyData.canLayAll0]
  | x :: r => by simp only [List.map_cons, PyData.canLayAll0, PyData.canLay0, lay_ints r, Bool.and_self]
theorem dep_ints : ∀ xs : List Int, PyData.depthAll (xs.map PyData.int) ≤ 1
  | [] => by simp only [List.map_nil, PyData.depthAll]; omega
  | x :: r => by
    have := dep_ints r
    simp only [List.map_cons, PyData.depthAll, PyData.depth]
    omega
theorem shaped_ints (xs : List Int) : SeqAt.shaped (.list (xs.map PyData.int)) = true := by
  have a := lay_ints xs
  have b := dep_ints xs
  unfold SeqAt.shaped
  rw [Bool.and_eq_true]
  refine ⟨by simp only [PyData.canLay0]; exact a, decide_eq_true ?_⟩
  simp only [PyData.depth]
  omega
theorem dp_ints {K : PySem.W.Frag} {H : Hp} : ∀ xs : List Int, DpAll K H (xs.map V.int) (xs.map PyData.int)
  | [] => .nil
  | x :: r => .cons (.int x) (dp_ints r)
theorem dp_intsL {K : PySem.W.Frag} {H : Hp} {a : Addr} {xs : List Int} (h : SqL K H a (xs.map V.int)) : Dp K H (.ref a) (.list (xs.map PyData.int)) := .lst h (dp_ints xs)
theorem eqv_self {d : PyData} (h : SeqAt.shaped d = true) : PyData.eqv d d = true := SeqAt.eqv_refl d (SeqAt.canLay_of_shaped h)

inductive Tr where
  | node (c : Nat) (ks : List Tr)
def ch (c : Nat) : Str := ⟨#[c]⟩
mutual
def Tr.size : Tr → Nat
  | .node _ ks => 1 + sizes ks
def sizes : List Tr → Nat
  | [] => 0
  | t :: r => t.size + sizes r
end
mutual
def Tr.depth : Tr → Nat
  | .node _ ks => 1 + depths ks
def depths : List Tr → Nat
  | [] => 0
  | t :: r => max t.depth (depths r)
end
mutual
def Tr.post : Tr → List Tr
  | .node c ks => posts ks ++ [.node c ks]
def posts : List Tr → List Tr
  | [] => []
  | t :: r => t.post ++ posts r
end

mutual
def Tr.lets (p : Nat → Prop) : Tr → Prop
  | .node c ks => p c ∧ letss p ks
def letss (p : Nat → Prop) : List Tr → Prop
  | [] => True
  | t :: r => t.lets p ∧ letss p r
end
def Tr.kids : Tr → List Tr
  | .node _ ks => ks
def Tr.top : Tr → Nat
  | .node c _ => c
theorem sizes_append : ∀ a b : List Tr, sizes (a ++ b) = sizes a + sizes b
  | [], b => by simp only [List.nil_append, sizes]; omega
  | t :: r, b => by simp only [List.cons_append, sizes, sizes_append r b]; omega
theorem depths_append : ∀ a b : List Tr, depths (a ++ b) = max (depths a) (depths b)
  | [], b => by simp only [List.nil_append, depths]; omega
  | t :: r, b => by simp only [List.cons_append, depths, depths_append r b]; omega
theorem posts_append : ∀ a b : List Tr, posts (a ++ b) = posts a ++ posts b
  | [], b => by simp only [List.nil_append, posts]
  | t :: r, b => by simp only [List.cons_append, posts, posts_append r b, List.append_assoc]
theorem letss_append (p : Nat → Prop) : ∀ a b : List Tr, letss p (a ++ b) ↔ letss p a ∧ letss p b
  | [], b => by simp only [List.nil_append, letss, true_and]
  | t :: r, b => by simp only [List.cons_append, letss, letss_append p r b, and_assoc]
theorem size_pos : ∀ t : Tr, 1 ≤ t.size
  | .node c ks => by simp only [Tr.size]; omega
theorem len_sizes : ∀ ts : List Tr, ts.length ≤ sizes ts
  | [] => Nat.le_refl _
  | t :: r => by
    have a := size_pos t
    have b := len_sizes r
    simp only [List.length_cons, sizes]
    omega
mutual
theorem post_len : ∀ t : Tr, t.post.length = t.size
  | .node c ks => by simp only [Tr.post, List.length_append, posts_len ks, List.length_singleton, Tr.size]; omega
theorem posts_len : ∀ ts : List Tr, (posts ts).length = sizes ts
  | [] => rfl
  | t :: r => by simp only [posts, List.length_append, post_len t, posts_len r, sizes]
end
theorem sizes_mem : ∀ {ts : List Tr} {t : Tr}, t ∈ ts → t.size ≤ sizes ts
  | u :: r, t, h => by
    rcases List.mem_cons.mp h with e | h
    · subst e; simp only [sizes]; omega
    · have := sizes_mem h
      simp only [sizes]; omega
theorem depths_mem : ∀ {ts : List Tr} {t : Tr}, t ∈ ts → t.depth ≤ depths ts
  | u :: r, t, h => by
    rcases List.mem_cons.mp h with e | h
    · subst e; simp only [depths]; omega
    · have := depths_mem h
      simp only [depths]; omega
theorem letss_mem {p : Nat → Prop} : ∀ {ts : List Tr} {t : Tr}, letss p ts → t ∈ ts → t.lets p
  | u :: r, t, hl, h => by
    simp only [letss] at hl
    rcases List.mem_cons.mp h with e | h
    · subst e; exact hl.1
    · exact letss_mem hl.2 h
mutual
theorem lets_mono {p q : Nat → Prop} (h : ∀ c, p c → q c) : ∀ t : Tr, t.lets p → t.lets q
  | .node c ks, a => by
    simp only [Tr.lets] at a ⊢
    exact ⟨h _ a.1, letss_mono h ks a.2⟩
theorem letss_mono {p q : Nat → Prop} (h : ∀ c, p c → q c) : ∀ ts : List Tr, letss p ts → letss q ts
  | [], _ => trivial
  | t :: r, a => by
    simp only [letss] at a ⊢
    exact ⟨lets_mono h t a.1, letss_mono h r a.2⟩
end
mutual
inductive TrAt (ok : Addr → Prop) (H : Hp) : V → Tr → Prop
  | node {a l : Addr} {vs : List V} {c : Nat} {ks : List Tr} : H a = some (.tup [.str (ch c), .ref l]) → H l = some (.lst vs) → ok a → ok l → 97 ≤ c → c ≤ 122 → TrsAt ok H vs ks → TrAt ok H (.ref a) (.node c ks)
inductive TrsAt (ok : Addr → Prop) (H : Hp) : List V → List Tr → Prop
  | nil : TrsAt ok H [] []
  | cons {v : V} {vs : List V} {t : Tr} {ts : List Tr} : TrAt ok H v t → TrsAt ok H vs ts → TrsAt ok H (v :: vs) (t :: ts)
end
section
variable {ok ok' : Addr → Prop} {H H' : Hp}
mutual
theorem TrAt.imp (hk : ∀ b, ok b → ok' b) (h : ∀ b o, ok b → H b = some o → H' b = some o) : ∀ (t : Tr) (v : V), TrAt ok H v t → TrAt ok' H' v t
  | .node c ks, v, x => by
    cases x with
    | node h1 h2 k1 k2 c1 c2 r => exact .node (h _ _ k1 h1) (h _ _ k2 h2) (hk _ k1) (hk _ k2) c1 c2 (TrsAt.imp hk h ks _ r)
theorem TrsAt.imp (hk : ∀ b, ok b → ok' b) (h : ∀ b o, ok b → H b = some o → H' b = some o) : ∀ (ts : List Tr) (vs : List V), TrsAt ok H vs ts → TrsAt ok' H' vs ts
  | [], _, x => by cases x; exact .nil
  | t :: r, _, x => by
    cases x with
    | cons a b => exact .cons (TrAt.imp hk h t _ a) (TrsAt.imp hk h r _ b)
end
theorem TrAt.keep {v : V} {t : Tr} (x : TrAt ok H v t) (h : ∀ b o, ok b → H b = some o → H' b = some o) : TrAt ok H' v t := TrAt.imp (fun _ k => k) h t v x
theorem TrsAt.keep {vs : List V} {ts : List Tr} (x : TrsAt ok H vs ts) (h : ∀ b o, ok b → H b = some o → H' b = some o) : TrsAt ok H' vs ts := TrsAt.imp (fun _ k => k) h ts vs x
theorem TrAt.weak {v : V} {t : Tr} (x : TrAt ok H v t) (h : ∀ b, ok b → ok' b) : TrAt ok' H v t := TrAt.imp h (fun _ _ _ e => e) t v x
theorem TrsAt.weak {vs : List V} {ts : List Tr} (x : TrsAt ok H vs ts) (h : ∀ b, ok b → ok' b) : TrsAt ok' H vs ts := TrsAt.imp h (fun _ _ _ e => e) ts vs x
mutual
theorem TrAt.there : ∀ (t : Tr) (v : V), TrAt ok H v t → TrAt (fun b => ok b ∧ ∃ o, H b = some o) H v t
  | .node c ks, v, x => by
    cases x with
    | node h1 h2 k1 k2 c1 c2 r => exact .node h1 h2 ⟨k1, _, h1⟩ ⟨k2, _, h2⟩ c1 c2 (TrsAt.there ks _ r)
theorem TrsAt.there : ∀ (ts : List Tr) (vs : List V), TrsAt ok H vs ts → TrsAt (fun b => ok b ∧ ∃ o, H b = some o) H vs ts
  | [], _, x => by cases x; exact .nil
  | t :: r, _, x => by
    cases x with
    | cons a b => exact .cons (TrAt.there t _ a) (TrsAt.there r _ b)
end
theorem TrsAt.len : ∀ {vs : List V} {ts : List Tr}, TrsAt ok H vs ts → vs.length = ts.length
  | [], [], _ => rfl
  | v :: vs, t :: ts, h => by
    cases h with
    | cons a b => simp only [List.length_cons, TrsAt.len b]
  | [], _ :: _, h => by cases h
  | _ :: _, [], h => by cases h
theorem TrsAt.get : ∀ {vs : List V} {ts : List Tr} {i : Nat} {t : Tr}, TrsAt ok H vs ts → ts[i]? = some t → ∃ v, vs[i]? = some v ∧ TrAt ok H v t
  | _, _, i, t, .nil, e => by simp at e
  | _, _, 0, t, .cons a _, e => by simp at e; subst e; exact ⟨_, rfl, a⟩
  | _, _, i + 1, t, .cons _ b, e => by
    obtain ⟨v, h1, h2⟩ := TrsAt.get (i := i) (t := t) b (by simpa using e)
    exact ⟨v, by simpa using h1, h2⟩
theorem TrsAt.getV : ∀ {vs : List V} {ts : List Tr} {i : Nat} {v : V}, TrsAt ok H vs ts → vs[i]? = some v → ∃ t, ts[i]? = some t ∧ TrAt ok H v t
  | _, _, i, t, .nil, e => by simp at e
  | _, _, 0, t, .cons a _, e => by simp at e; subst e; exact ⟨_, rfl, a⟩
  | _, _, i + 1, t, .cons _ b, e => by
    obtain ⟨v, h1, h2⟩ := TrsAt.getV (i := i) (v := t) b (by simpa using e)
    exact ⟨v, by simpa using h1, h2⟩
theorem TrsAt.append : ∀ {vs ws : List V} {ts us : List Tr}, TrsAt ok H vs ts → TrsAt ok H ws us → TrsAt ok H (vs ++ ws) (ts ++ us)
  | [], _, [], _, _, h => h
  | v :: vs, _, t :: ts, _, h, g => by
    cases h with
    | cons a b => exact .cons a (TrsAt.append b g)
  | [], _, _ :: _, _, h, _ => by cases h
  | _ :: _, _, [], _, h, _ => by cases h
theorem TrsAt.split : ∀ {vs ws : List V} {ts : List Tr}, TrsAt ok H (vs ++ ws) ts → ∃ a b, ts = a ++ b ∧ TrsAt ok H vs a ∧ TrsAt ok H ws b
  | [], ws, ts, h => ⟨[], ts, rfl, .nil, h⟩
  | v :: vs, ws, _, h => by
    cases h with
    | cons x y =>
      obtain ⟨a, b, e, h1, h2⟩ := TrsAt.split y
      exact ⟨_ :: a, b, by rw [e]; rfl, .cons x h1, h2⟩
theorem TrsAt.perm {vs ws : List V} (p : vs.Perm ws) : ∀ {ts : List Tr}, TrsAt ok H vs ts → ∃ us, ts.Perm us ∧ TrsAt ok H ws us := by
  induction p with
  | nil => intro ts h; exact ⟨ts, .refl _, h⟩
  | cons x _ ih =>
    intro ts h
    cases h with
    | cons a b =>
      obtain ⟨us, p1, h1⟩ := ih b
      exact ⟨_ :: us, p1.cons _, .cons a h1⟩
  | swap x y l =>
    intro ts h
    cases h with
    | cons a b =>
      cases b with
      | cons c d => exact ⟨_, .swap _ _ _, .cons c (.cons a d)⟩
  | trans _ _ ih1 ih2 =>
    intro ts h
    obtain ⟨us, p1, h1⟩ := ih1 h
    obtain ⟨ws, p2, h2⟩ := ih2 h1
    exact ⟨ws, p1.trans p2, h2⟩
theorem TrsAt.rev {vs : List V} {ts : List Tr} (h : TrsAt ok H vs ts) : TrsAt ok H vs.reverse ts.reverse := by
  induction vs generalizing ts with
  | nil => cases h; exact .nil
  | cons v vs ih =>
    cases h with
    | cons a b =>
      rw [List.reverse_cons, List.reverse_cons]
      exact (ih b).append (.cons a .nil)
end
theorem sizes_perm {a b : List Tr} (p : a.Perm b) : sizes a = sizes b := by
  induction p with
  | nil => rfl
  | cons x _ ih => simp only [sizes, ih]
  | swap x y l => simp only [sizes]; omega
  | trans _ _ ih1 ih2 => exact ih1.trans ih2
theorem depths_perm {a b : List Tr} (p : a.Perm b) : depths a = depths b := by
  induction p with
  | nil => rfl
  | cons x _ ih => simp only [depths, ih]
  | swap x y l => simp only [depths]; omega
  | trans _ _ ih1 ih2 => exact ih1.trans ih2
theorem letss_perm {p : Nat → Prop} {a b : List Tr} (h : a.Perm b) : letss p a → letss p b := by
  induction h with
  | nil => exact id
  | cons x _ ih =>
    intro q
    simp only [letss] at q ⊢
    exact ⟨q.1, ih q.2⟩
  | swap x y l =>
    intro q
    simp only [letss] at q ⊢
    exact ⟨q.2.1, q.1, q.2.2⟩
  | trans _ _ ih1 ih2 => exact fun q => ih2 (ih1 q)
mutual
inductive Sh : Tr → Tr → Prop
  | node {c : Nat} {ks us ls : List Tr} : ks.Perm us → Shs us ls → Sh (.node c ks) (.node c ls)
inductive Shs : List Tr → List Tr → Prop
  | nil : Shs [] []
  | cons {t u : Tr} {ts us : List Tr} : Sh t u → Shs ts us → Shs (t :: ts) (u :: us)
end
mutual
theorem Sh.refl : ∀ t : Tr, Sh t t
  | .node c ks => .node (.refl _) (Shs.refl ks)
theorem Shs.refl : ∀ ts : List Tr, Shs ts ts
  | [] => .nil
  | t :: r => .cons (Sh.refl t) (Shs.refl r)
end
mutual
theorem Sh.size : ∀ {t u : Tr}, Sh t u → t.size = u.size
  | _, _, .node p h => by simp only [Tr.size, sizes_perm p, Shs.sizes h]
theorem Shs.sizes : ∀ {ts us : List Tr}, Shs ts us → My.sizes ts = My.sizes us
  | _, _, .nil => rfl
  | _, _, .cons a b => by simp only [My.sizes, Sh.size a, Shs.sizes b]
end
mutual
theorem Sh.depth : ∀ {t u : Tr}, Sh t u → t.depth = u.depth
  | _, _, .node p h => by simp only [Tr.depth, depths_perm p, Shs.depths h]
theorem Shs.depths : ∀ {ts us : List Tr}, Shs ts us → My.depths ts = My.depths us
  | _, _, .nil => rfl
  | _, _, .cons a b => by simp only [My.depths, Sh.depth a, Shs.depths b]
end
mutual
theorem Sh.lets {p : Nat → Prop} : ∀ {t u : Tr}, Sh t u → t.lets p → u.lets p
  | _, _, .node q h, a => by
    simp only [Tr.lets] at a ⊢
    exact ⟨a.1, Shs.letss h (letss_perm q a.2)⟩
theorem Shs.letss {p : Nat → Prop} : ∀ {ts us : List Tr}, Shs ts us → My.letss p ts → My.letss p us
  | _, _, .nil, a => a
  | _, _, .cons x y, a => by
    simp only [My.letss] at a ⊢
    exact ⟨Sh.lets x a.1, Shs.letss y a.2⟩
end
theorem Shs.len : ∀ {ts us : List Tr}, Shs ts us → ts.length = us.length
  | _, _, .nil => rfl
  | _, _, .cons a b => by simp only [List.length_cons, Shs.len b]
theorem Shs.append : ∀ {ts us ts' us' : List Tr}, Shs ts us → Shs ts' us' → Shs (ts ++ ts') (us ++ us')
  | _, _, _, _, .nil, h => h
  | _, _, _, _, .cons a b, h => .cons a (Shs.append b h)

def Fr (p : Addr) (H H' : Hp) : Prop := ∀ b o, b ≠ p → H b = some o → H' b = some o
theorem Fr.refl (p : Addr) (H : Hp) : Fr p H H := fun _ _ _ h => h
theorem Fr.trans {p : Addr} {H H1 H2 : Hp} (a : Fr p H H1) (b : Fr p H1 H2) : Fr p H H2 := fun c o n h => b c o n (a c o n h)
theorem Fr.same {p : Addr} {H H' : Hp} (s : Same H H') : Fr p H H' := fun b o _ h => s b o h
theorem Fr.chg {p : Addr} {H H' : Hp} (c : Chg p H H') : Fr p H H' := fun _ _ n h => c.at h n
theorem Fr.new {p q : Addr} {H H' : Hp} {o : HO} (f : Fr p H H') (h : H q = none) : Fr p H (upd H' q o) := fun b u n e => by
  rw [upd_ne (ne_of_none e h)]
  exact f b u n e
theorem same_add {q : Addr} {H H' : Hp} {o : HO} (f : Same H H') (h : H q = none) : Same H (upd H' q o) := fun b u e => by
  rw [upd_ne (ne_of_none e h)]
  exact f b u e
theorem Fr.free {p q : Addr} {H H' : Hp} (f : Fr p H H') (hp : H' p ≠ none) (h : H' q = none) : H q = none := by
  cases e : H q with
  | none => rfl
  | some o =>
    by_cases hq : q = p
    · subst hq; exact absurd h hp
    · rw [f q o hq e] at h; cases h
theorem Fr.seq {K : PySem.W.Frag} {p a : Addr} {H H' : Hp} {xs : List V} (c : Fr p H H') (hp : H p = none) (h : SqL K H a xs) : SqL K H' a xs := by
  rcases h with (h | ⟨o, h⟩) | h
  · exact .inl (.inl (c _ _ (ne_of_none h hp) h))
  · exact .inl (.inr ⟨o, c _ _ (ne_of_none h hp) h⟩)
  · exact .inr h
theorem TrAt.same {ok : Addr → Prop} {H H' : Hp} {v : V} {t : Tr} (x : TrAt ok H v t) (s : Same H H') : TrAt ok H' v t := x.keep fun b o _ h => s b o h
theorem TrsAt.same {ok : Addr → Prop} {H H' : Hp} {vs : List V} {ts : List Tr} (x : TrsAt ok H vs ts) (s : Same H H') : TrsAt ok H' vs ts := x.keep fun b o _ h => s b o h
theorem TrAt.off {ok : Addr → Prop} {H : Hp} {v : V} {t : Tr} {w : Addr} (x : TrAt ok H v t) (h : H w = none) : TrAt (fun b => ok b ∧ b ≠ w) H v t :=
  (TrAt.there t v x).weak fun b ⟨k, o, e⟩ => ⟨k, ne_of_none e h⟩
theorem TrsAt.off {ok : Addr → Prop} {H : Hp} {vs : List V} {ts : List Tr} {w : Addr} (x : TrsAt ok H vs ts) (h : H w = none) : TrsAt (fun b => ok b ∧ b ≠ w) H vs ts :=
  (TrsAt.there ts vs x).weak fun b ⟨k, o, e⟩ => ⟨k, ne_of_none e h⟩
theorem upd_keep {H : Hp} {w : Addr} {o : HO} {ok : Addr → Prop} (h : ∀ b, ok b → b ≠ w) : ∀ b u, ok b → H b = some u → (upd H w o) b = some u := fun b u k e => by
  rw [upd_ne (h b k)]
  exact e
theorem lc_outer {K : PySem.W.Frag} {a : Addr} {xs : List V} {Bd : V → Hp → (Hp → Prop) → Prop} {Qd : Hp → Prop} {H0 : Hp} (Pv : Nat → Hp → Prop) (h0 : Pv 0 H0) (hl : ∀ i H, i ≤ xs.length → Pv i H → SqL K H a xs)
    (hs : ∀ i x H, xs[i]? = some x → Pv i H → Bd x H (Pv (i + 1))) (hd : ∀ H, Pv xs.length H → Qd H) :
    ∃ W : Nat → Nat → Hp → Prop, (∃ m, W 0 m H0) ∧ ∀ i m H, W i m H → ((Itl K a).stop i H ∧ Qd H) ∨ ((Itl K a).go i H ∧ ∃ Nx : Hp → Prop, (∀ H', Nx H' → ∃ m', m' < m ∧ W (i + 1) m' H') ∧ ∀ x H', (Itl K a).yld i H x H' → Bd x H' Nx) := by
  refine ⟨fun i m H => m = xs.length - i ∧ i ≤ xs.length ∧ Pv i H, ⟨xs.length, by simp, Nat.zero_le _, h0⟩, ?_⟩
  rintro i m H ⟨rfl, hi, p⟩
  have q := hl i H hi p
  by_cases hlt : i < xs.length
  · refine .inr ⟨⟨xs, xs[i], q, by simp [hlt]⟩, Pv (i + 1), fun H' p' => ⟨xs.length - (i + 1), by omega, rfl, hlt, p'⟩, fun x H' y => ?_⟩
    obtain ⟨e, y⟩ := y
    subst e
    exact hs i x _ (y xs q) p
  · have e : i = xs.length := by omega
    subst e
    exact .inl ⟨⟨xs, q, Nat.le_refl _⟩, hd H p⟩
theorem take_succ_of {α : Type} {l : List α} {i : Nat} {x : α} (h : l[i]? = some x) : l.take (i + 1) = l.take i ++ [x] := by
  rw [List.take_add_one, h]
  rfl

def RowL (params : Arguments) (scope : PySem.Scope) (body : PySem.Expr) : Prop :=
  (∃ (x : Str) (p1 p2 p3 : Pos) (k0 : Nat), body = .Subscript (.Name x p1) (.Constant (.int 0) k0 p2) p3 ∧ (x == Str.ofString "__debug__") = false ∧ scope.names = [(x, .local)] ∧
    ∀ (fd : FuncData) (u : Value), fd.params = params → fd.defaults = .none → fd.kwdefaults = .none → bindArgs fd ⟨[u], []⟩ = pure [(x, u)]) ∧
  scope.kind = .function ∧ scope.isGenerator = false ∧ scope.isCoroutine = false
theorem row_call {P : Program} {w : World} {A : Around} {s : Shared} {f p c' : Addr} {nm q : Str} {params : Arguments} {scope : PySem.Scope} {body : PySem.Expr} {clos : List (Str × Addr)} {pm ctv : Value} {its : Array Value} {x : Str} {tx : Tok}
    (R : RowL params scope body) (hd : A.depth < recursionLimit) (hf : s.heap.get? f = some (PySem.W.kla_obj nm q params body scope clos pm c' ctv))
    (hc : s.heap.CodeRec (.ref c') q) (hn : s.heap.NoLimit) (ht : IsTup s.heap p its) (h0 : its[0]? = some (.str x tx)) :
    wpAny (model P w) A (call (.ref f) [.ref p]) (PySem.W.KeyPure (.str x) s) (fun _ _ => False) s := by
  obtain ⟨⟨z, p1, p2, p3, k0, rfl, hz, hnm, hb⟩, hk, hg, ho⟩ := R
  refine wpAny_call ?_
  refine PySem.W.kla_callFunE hd hf rfl ho hg rfl hc ?_
  refine BindsTo.of_eq (hb _ _ rfl rfl rfl) _ _ _ _ ?_
  refine wpAny_newFunctionEnv (by intro y hy; rw [show (PySem.W.kla_fn nm q params _ scope clos pm (.ref c') ctv).scope.names = _ from hnm] at hy; simp only [List.mem_singleton] at hy; subst hy; simp) (by intro y hy; simp only [List.mem_singleton] at hy; subst hy; rw [show (PySem.W.kla_fn nm q params _ scope clos pm (.ref c') ctv).scope.names = _ from hnm]; simp) (fun h' hns hsame => ?_) hk
  have hkeep : ∀ b o, s.heap.get? b = some o → h'.get? b = some o := by
    intro b o hb
    have hne : b ≠ s.heap.objs.size := fun e => by
      rw [e] at hb
      simp [Heap.get?] at hb
    rw [hsame.2 b hne]
    exact Heap.get?_push_of_some _ hb
  refine ⟨hn.keeps hkeep, PySem.W.kla_codeExpr ?_⟩
  refine Subscript_Constant (wpAny_Name (wpAny_loadName_local (m := fun y => List.lookup y [(z, Value.ref p)].reverse) (v := .ref p) hk ?_ hns ?_ ?_) hz)
  · simp [Env.kindOf, newEnv, hnm]
  · simp
  refine wpAny_Constant_int ?_
  obtain ⟨o, g1, g2, n, g3⟩ := ht
  have ht' : IsTup h' p its := ⟨o, hkeep _ _ g1, g2, n, g3⟩
  refine ⟨"tuple", _, rfl, ⟨o, hkeep _ _ g1, g2⟩, ?_⟩
  have hz0 : its.size ≠ 0 := fun e => by
    rw [Array.getElem?_eq_none (by omega)] at h0
    cases h0
  refine getItem_tuple (j := 0) ht' (by decide) (by decide) ?_ h0 ?_
  · simp [seqIndex?]
    intro e
    rw [e] at hz0
    exact hz0 rfl
  exact ⟨h', _, rfl, hkeep, .str _ _⟩

def leS (a b : V × Str) : Bool := decide (a.2.cps.toList ≤ b.2.cps.toList)
def RowO (f c : Addr) (q : Str) : HO := .ext fun h => ∃ nm params body scope clos pm ctv, h.get? f = some (PySem.W.kla_obj nm q params body scope clos pm c ctv) ∧ RowL params scope body
def rSortRow : List V → List V → Hp → VK → Prop := fun xs zs H Q => ∃ (a f c : Addr) (q : Str) (bs : List (V × Str)), xs = [.ref a] ∧ zs = [.ref f] ∧ H f = some (RowO f c q) ∧ H c = some (LamX.CodeO c q) ∧ H a = some (.lst (bs.map Prod.fst)) ∧
  (∀ b ∈ bs, ∃ p rest, b.1 = .ref p ∧ H p = some (.tup (.str b.2 :: rest))) ∧ bs.length ≤ sizeLine ∧ ∀ r, H r = none → Q (.ref r) (upd H r (.lst ((bs.mergeSort leS).map Prod.fst)))
def RowR (H : Hp) (v : Value) (b : V × Str) : Prop := RelV b.1 v ∧ ∃ p rest, b.1 = .ref p ∧ H p = some (.tup (.str b.2 :: rest))
theorem eachRow {H : Hp} : ∀ {bs : List (V × Str)} {its : List Value}, Vals (bs.map Prod.fst) its → (∀ b ∈ bs, ∃ p rest, b.1 = .ref p ∧ H p = some (.tup (.str b.2 :: rest))) → PySem.W.EachIs (RowR H) its bs
  | [], _, v, _ => by cases v; exact .nil
  | b :: r, _, v, h => by
    cases v with
    | cons g1 g2 => exact .cons ⟨g1, h b (by simp)⟩ (eachRow g2 fun x hx => h x (by simp [hx]))
theorem rowEach {H : Hp} : ∀ {bs : List (V × Str)} {its : List Value}, PySem.W.EachIs (RowR H) its bs → Vals (bs.map Prod.fst) its
  | [], _, v => by cases v; exact .nil
  | b :: r, _, v => by
    cases v with
    | cons g1 g2 => exact .cons g1.1 (rowEach g2)
theorem cr_sortRow {X : Cx} {k : Nat} (hr : Room k X.A) : CallRK X (.builtin "sorted") ["key"] rSortRow := by
  intro pins s σ H xs zs us ws Q I hv hw h
  obtain ⟨a, f, c, q, bs, rfl, rfl, hf, hc, ha, hp, hz, q2⟩ := h
  cases hv with
  | cons g1 g2 =>
  cases g2
  cases hw with
  | cons g3 g4 =>
  cases g4
  cases g1
  cases g3
  have oa := I.hok _ _ ha
  have of := I.hok _ _ hf
  have oc := I.hok _ _ hc
  obtain ⟨nm, params, body, scope, clos, pm, ctv, hfo, hR⟩ := of.1
  obtain ⟨oz, its, n, hits, hao⟩ := oa
  refine PySem.W.sorted_key_data (vs := its) (bs := bs) (R := RowR H) (f := .ref f) (b := false) (fun b => .str b.2) ⟨_, hao, rfl, n, rfl⟩ (eachRow hits hp) ?_ ?_ hz ?_ (ksk_s1 _ _) (fun x => ksk_l1 _ _) (fun x => ?_) (fun v x hv hx h tk hk => ?_) (fun out c' h' tk hk hn ho hl he => ?_)
  · intro d hd d' hd'
    simp only [List.mem_map] at hd hd'
    obtain ⟨_, _, rfl⟩ := hd
    obtain ⟨_, _, rfl⟩ := hd'
    rfl
  · refine .inr fun d hd => ?_
    simp only [List.mem_map] at hd
    obtain ⟨_, _, rfl⟩ := hd
    exact ⟨by simp, by simp⟩
  · intro x _
    have := hr.un
    have e : (PyData.str x.2).depth = 0 := rfl
    omega
  · rfl
  · obtain ⟨hv1, p, rest, e1, e2⟩ := hv
    obtain ⟨v1, w1⟩ := x
    dsimp only at e1 hv1 e2 hx ⊢
    subst e1
    cases hv1
    have op := I.hok _ _ e2
    obtain ⟨_, its2, g1, g2, g3, n2, g4⟩ := op
    cases g1 with
    | cons k1 k2 =>
    obtain ⟨tx, rfl⟩ := k1
    obtain ⟨oc', vs', t', c1, c2, c3⟩ := oc.1
    refine row_call (its := _) (x := w1) (tx := tx) hR ?_ (hk _ _ hfo) ⟨_, _, _, _, rfl, hk _ _ c1, c2, c3⟩ (I.nolimit.keeps hk) ⟨g2, hk _ _ g3, n2, g4⟩ (by simp)
    have := hr.dp
    show X.A.depth < recursionLimit
    omega
  · refine ⟨.ref (s.heap.objs.size + 1), _, I.laid (a := s.heap.objs.size + 1) (o := .lst ((bs.mergeSort leS).map Prod.fst)) hk (by omega) ?_, rfl, q2 _ ?_⟩
    · have e : PySem.W.dataLe false (fun b : V × Str => PyData.str b.2) = leS := PySem.W.dataLe_str _
      rw [e] at he
      exact ⟨by simpa using hz, out, c', rowEach he, ho⟩
    · exact I.hok.fresh (by omega)
theorem rowO_ok {P : Program} {w : World} {H : Hp} {h : Heap} {c : Addr} {nm q : Str} {params : Arguments} {scope : PySem.Scope} {body : PySem.Expr} {clos : List (Str × Addr)} {pm ctv : Value} (hR : RowL params scope body) :
    ObjOk P w H (h.push (PySem.W.kla_obj nm q params body scope clos pm c ctv)) h.objs.size (RowO h.objs.size c q) := by
  have e : (h.push (PySem.W.kla_obj nm q params body scope clos pm c ctv)).get? h.objs.size = some (PySem.W.kla_obj nm q params body scope clos pm c ctv) := Heap.get?_push_size _ rfl
  refine ⟨⟨_, _, _, _, _, _, _, e, hR⟩, ⟨_, e⟩, fun h1 h2 ⟨a1, a2, a3, a4, a5, a6, a7, e1, e2⟩ k => ⟨a1, a2, a3, a4, a5, a6, a7, k _ e1, e2⟩⟩
theorem pe_lamRow {X : Cx} {c P : Addr} {params : Arguments} {body : PySem.Expr} {scope : PySem.Scope} {pos : Pos} (tb : LamX.TabB X.base X.mg c P) (hc : X.env.code = .ref c) (hd : defaultsOf params X.env = ([], []))
    (hR : RowL params scope body) : PE X (.Lambda params body scope pos) (fun σ H Q => LamX.TabS H P (X.env.qual ++ "<lambda>") ∧ ∀ (f c : Addr) (H1 : Hp), Fr P H H1 → LamX.TabS H1 P (X.env.qual ++ "<lambda>") → H1 f = some (RowO f c (X.env.qual ++ "<lambda>")) → H1 c = some (LamX.CodeO c (X.env.qual ++ "<lambda>")) → Q (.ref f) H1) := by
  refine ⟨fun pins s σ H Q I h => ?_⟩
  obtain ⟨ht, q⟩ := h
  have hclo : closureFor scope X.env = pure (cloFrom X.env.cells scope.names []) := by
    refine closure_ok ?_
    intro y hy he
    obtain ⟨⟨z, p1, p2, p3, k0, rfl, hz, hnm, hb⟩, hk, hg, ho⟩ := hR
    rw [hnm] at hy
    simp only [List.mem_singleton] at hy
    subst hy
    cases he
  have ht' := ht
  obtain ⟨ps, hP, hT, hA⟩ := ht'
  have oP : s.heap.get? P = some (PySem.W.tabObj ps) := I.hok _ _ hP
  refine PySem.W.kla_eval hd ?_
  cases hcd : codeAmong pos ps.toList with
  | some cv =>
    obtain ⟨c', rfl, hc'⟩ := hA _ _ hcd
    refine PySem.W.kla_makeFunctionHit hclo I.ok.glob (I.mod.glob.keeps I.bk) hc (tb.code.keeps I.bk) oP hT hcd (tb.bm.keeps I.bk) (fun ctv h' tk hk hs => ?_)
    have I1 := I.kept (t' := tk) hk
    have hz : s.heap.objs.size ≤ h'.objs.size := hs
    have hn : H h'.objs.size = none := I.hok.fresh hz
    refine ⟨.ref h'.objs.size, upd H h'.objs.size (RowO h'.objs.size c' (X.env.qual ++ "<lambda>")), ?_, rfl, q _ c' _ (fun b o _ hb => ?_) (ht.ext fun b o hb => ?_) upd_same ?_⟩
    · exact I1.laid (h' := h'.push _) (t' := tk) (fun b u hb => Heap.get?_push_of_some _ hb) (Nat.le_refl _) (rowO_ok hR)
    · rw [upd_ne (ne_of_none hb hn)]; exact hb
    · rw [upd_ne (ne_of_none hb hn)]; exact hb
    · rw [upd_ne (ne_of_none hc' hn)]; exact hc'
  | none =>
    refine PySem.W.kla_makeFunction hclo I.ok.glob (I.mod.glob.keeps I.bk) hc (tb.code.keeps I.bk) oP hT hcd tb.gP (tb.bm.keeps I.bk) (fun c' ctv h' tk he hl hu hrec hP' => ?_)
    obtain ⟨c2, o2, vs2, t2, ec, e1, e2, e3⟩ := hrec
    cases ec
    have I2 := LamX.inv_table (t' := tk) (c := c') (q := X.env.qual ++ "<lambda>") I hP he (more := #[rawInt ↑pos.line, rawInt ↑pos.col, .ref c']) hP' hl ⟨_, _, _, e1, e2, e3⟩
    have hn : (upd (upd H P (.tbl (ps ++ #[rawInt ↑pos.line, rawInt ↑pos.col, .ref c']))) c' (LamX.CodeO c' (X.env.qual ++ "<lambda>"))) h'.objs.size = none := I2.hok.fresh (Nat.le_refl _)
    have hcn : H c' = none := I.hok.fresh hl
    have hPc : P ≠ c' := fun e => by rw [e] at hP; rw [hcn] at hP; cases hP
    refine ⟨.ref h'.objs.size, _, I2.laid (h' := h'.push _) (o := RowO h'.objs.size c' (X.env.qual ++ "<lambda>")) (t' := tk) (fun b u hb => Heap.get?_push_of_some _ hb) (Nat.le_refl _) (rowO_ok hR), rfl, q _ c' _ ?_ ?_ upd_same ?_⟩
    · intro b o hbP hb
      have h1 : (upd (upd H P (.tbl (ps ++ #[rawInt ↑pos.line, rawInt ↑pos.col, .ref c']))) c' (LamX.CodeO c' (X.env.qual ++ "<lambda>"))) b = some o := by
        rw [upd_ne (ne_of_none hb hcn), upd_ne hbP]; exact hb
      rw [upd_ne (ne_of_none h1 hn)]; exact h1
    · refine LamX.TabS.ext (H := upd (upd H P (.tbl (ps ++ #[rawInt ↑pos.line, rawInt ↑pos.col, .ref c']))) c' (LamX.CodeO c' (X.env.qual ++ "<lambda>"))) ?_ (fun b o hb => by rw [upd_ne (ne_of_none hb hn)]; exact hb)
      refine ⟨_, by rw [upd_ne hPc]; exact upd_same, ?_, ?_⟩
      · simpa using TriplesOk_snoc _ _ _ _ hT
      · intro pos2 cv hcv
        rw [Array.toList_append] at hcv
        rcases LamX.among_app _ hT hcv with h | h
        · obtain ⟨c3, e3, h3⟩ := hA _ _ h
          refine ⟨c3, e3, ?_⟩
          rw [upd_ne (ne_of_none h3 hcn), upd_ne (fun e => by rw [e, hP] at h3; cases h3)]
          exact h3
        · exact ⟨c', h, upd_same⟩
    · have h1 : (upd (upd H P (.tbl (ps ++ #[rawInt ↑pos.line, rawInt ↑pos.col, .ref c']))) c' (LamX.CodeO c' (X.env.qual ++ "<lambda>"))) c' = some (LamX.CodeO c' (X.env.qual ++ "<lambda>")) := upd_same
      rw [upd_ne (ne_of_none h1 hn)]; exact h1

theorem okC {P : Program} {w : World} {K : PySem.W.Frag} {mg : Str → Option Value} {base : Heap} {x qual : Str} {st : Stmt} {f c : Addr} {fd : FuncData} {N ps : List Str} {k : Nat} {sp : Sp} (F : Fun K x qual st f fd) (hc : fd.code = .ref c) (S : FnScope N ps (defScope st))
    (len : ∀ vs H Q E, sp vs H Q E → vs.length = ps.length)
    (hb : ∀ (A : Around) (outer : List Env) (s : Shared) (H : Hp) (vs : List V) (Q : VK) (E : XK), Room k (A.deeper (envOfC qual (defScope st) s.heap.objs.size f (.ref c))) → sp vs H Q E →
      ∃ t, PSs (cxOf CX0 P w K mg base N qual (defScope st) f (.ref c) A outer s H E).nox (defBody st) t ∧ t { nx := fun _ H' => Q .non H', rt := Q } (L2.start N vs) H) : FnOk P w K mg base CX0 (k + 1) f fd ps sp := by
  obtain ⟨oc, od, kV, doc, pm, an, cdv, ct, osl, rfl, lk, hcd⟩ := F.ex
  cases hc
  exact fn_of lk hcd S len fun A outer s H vs Q E hr hsp => by
    obtain ⟨t, h, q⟩ := hb A outer s H vs Q E hr hsp
    exact ⟨t, h.nox, q⟩
theorem rowL_mk {x : Str} {p0 p1 p2 p3 : Pos} {k0 : Nat} {scope : PySem.Scope} (hz : (x == Str.ofString "__debug__") = false) (hn : scope.names = [(x, .local)]) (hk : scope.kind = .function) (hg : scope.isGenerator = false) (hc : scope.isCoroutine = false)
    (hb : ∀ (nm q : Str) (b : FuncBody) (sc : PySem.Scope) (g : Addr) (cl : List (Str × Addr)) (pm an : Value) (cd : Option Addr) (ct bl : Value) (bu : Addr) (u : Value), bindArgs ⟨nm, q, { posonlyargs := [], args := [{ arg := x, annotation := none, pos := p0 }], vararg := none, kwonlyargs := [], kw_defaults := [], kwarg := none, defaults := [] }, b, sc, g, cl, .none, .none, pm, an, cd, ct, bl, bu⟩ ⟨[u], []⟩ = pure [(x, u)]) :
    RowL { posonlyargs := [], args := [{ arg := x, annotation := none, pos := p0 }], vararg := none, kwonlyargs := [], kw_defaults := [], kwarg := none, defaults := [] } scope (.Subscript (.Name x p1) (.Constant (.int 0) k0 p2) p3) := by
  refine ⟨⟨x, p1, p2, p3, k0, rfl, hz, hn, fun fd u e1 e2 e3 => ?_⟩, hk, hg, hc⟩
  obtain ⟨nm, q, pr, b, sc, g, cl, d, kd, pm, an, cd, ct, bl, bu⟩ := fd
  subst e1 e2 e3
  exact hb _ _ _ _ _ _ _ _ _ _ _ _ _
def spLawT (K : PySem.W.Frag) (Ps : List Addr) : Sp := fun vs H Q _ => ∃ (a : Addr) (ns : List Int), vs = [.ref a] ∧ SqL K H a (ns.map V.int) ∧ ns.length ≤ 63 ∧ (∀ P ∈ Ps, H P = some (.tbl #[])) ∧ ∀ H', Q (.bl true) H'
def LawT (l : PySem.W.OpenLaw) (w : World) (K : PySem.W.Frag) (k : Nat) (x : Str) (mg : Str → Option Value) (fa : Addr) (cs : List (Str × Addr × Addr)) : Prop :=
  (∀ z ∈ cs, PySem.W.tabIn K z.1 = some (z.2.1, z.2.2) ∧ K.lookup z.2.2 = none) ∧ ∃ fd : FuncData, (∀ (s : Shared) (v : Value), BindsTo s fd ⟨[v], []⟩ [(x, v)]) ∧
    ∀ base : Heap, K.In base → base.Ns mainGlobals mg → (∀ z ∈ cs, LamX.TabB base mg z.2.1 z.2.2) → FnOk l.prog w K mg base CX0 k fa fd [x] (spLawT K (cs.map fun z => z.2.2))
theorem walk_ofT {l : PySem.W.OpenLaw} {n k : Nat} {q : Program} {loose : List Str} {XP : (Str → Option Value) → Heap → Prop} {YP : World → Heap → Prop} {d : DefRec} {K : Params → PySem.W.Frag} {x : Str}
    (hn : l.most = some n) (hz : n ≤ sizeLine) (h63 : n ≤ 63) (hd : d.params.defaults = []) (hr : Room k callerA) (hY : ∀ w h, YP w h → (K w.params).In h) (names : List Str)
    (hR : (names.all fun z => (recsOf q).any fun e => e.name == z) = true)
    (hF : ∀ (w : World) (mg : Str → Option Value) (fa : Addr) (h : Heap), (K w.params).In h → h.Ns mainGlobals mg → mg d.name = some (.ref fa) → ∃ cs : List (Str × Addr × Addr), cs.map Prod.fst = names ∧ LawT l w (K w.params) k x mg fa cs) :
    PySem.W.WalkO q loose XP YP l.row.toRowW d [] fun f vs => call f vs := by
  refine Att.attach_callB hn hd fun w s0 s1 mg mb fa o pm cd doc a vs ns G Y ho hod hcr hmg ha hi hl hb hg => ?_
  obtain ⟨cs, hcs, hT, fd, hB, hOk⟩ := hF w mg fa s1.heap (hY w _ Y) G.T.g hmg
  have key : ∀ z ∈ cs, PySem.W.CodeHd s1.heap z.2.1 z.2.2 ∧ s1.heap.get? z.2.2 = some (PySem.W.tabObj #[]) := by
    intro z hz
    have h1 : z.1 ∈ names := by rw [← hcs]; exact List.mem_map_of_mem hz
    have h2 := List.all_eq_true.mp hR _ h1
    cases hf : (recsOf q).find? fun e => e.name == z.1 with
    | none =>
      rw [List.find?_eq_none] at hf
      rw [List.any_eq_true] at h2
      obtain ⟨e, he, h3⟩ := h2
      exact absurd h3 (hf e he)
    | some dd => exact PySem.W.tab_of G.T (hY w _ Y) hf (hT z hz).1
  refine LamX.law_callTs (K := K w.params) (cs := cs.map fun z => z.2) (hY w _ Y) G.T.g G.T.b G.T.builtins G.T.nolimit hg ?_ ?_ ?_ G.T.bmain ha hi (Nat.le_trans hl hz) hr (fun base h1 h2 h3 => hOk base h1 h2 fun z hz => h3 _ (List.mem_map_of_mem hz)) (fun s u => hB s u) (fun H hH hS => ⟨a, ns, rfl, hS, ?_, ?_, fun _ => rfl⟩) (fun _ _ _ h => h)
  · intro p hp
    obtain ⟨z, hz, rfl⟩ := List.mem_map.mp hp
    exact (key z hz).2
  · intro p hp
    obtain ⟨z, hz, rfl⟩ := List.mem_map.mp hp
    exact (hT z hz).2
  · intro p hp
    obtain ⟨z, hz, rfl⟩ := List.mem_map.mp hp
    exact (key z hz).1
  · exact Nat.le_trans hl h63
  · intro P hP
    obtain ⟨z, hz, rfl⟩ := List.mem_map.mp hP
    exact hH _ (List.mem_map_of_mem hz)

theorem take_zip {α : Type} (sel : Nat → Bool) (j : Nat) : ∀ (xs : List α) (i : Nat), (∀ k, k < i + xs.length → sel k = decide (j ≤ k)) → (xs.zipIdx i).filterMap (fun x => if sel x.2 = true then none else some x.1) = xs.take (j - i)
  | [], i, _ => by simp
  | x :: r, i, hs => by
    rw [List.zipIdx_cons, List.filterMap_cons]
    have ih := take_zip sel j r (i + 1) fun k hk => hs k (by rw [List.length_cons]; omega)
    have h0 := hs i (by rw [List.length_cons]; omega)
    by_cases h : j ≤ i
    · have e : j - i = 0 := by omega
      have e2 : j - (i + 1) = 0 := by omega
      rw [e2] at ih
      simp only [h0, h, decide_true, if_true, e, List.take_zero]
      simpa using ih
    · have e : j - i = (j - (i + 1)) + 1 := by omega
      rw [e, List.take_succ_cons, ← ih]
      simp [h0, h]
theorem run_delFrom {P : Program} {w : World} {A : Around} {E : Value → Shared → Prop} {s : Shared} {l sl : Addr} {items : Array Value} {n j : Nat} {t : Tok} {Q : Unit → Shared → Prop}
    (hl : s.heap.get? l = some { cls := Value.type "list", data := Data.seq items n }) (hs : s.heap.get? sl = some { cls := .type "slice", data := .fields #[.int j t, .none, .none] }) (hj : j ≤ items.size) (hz : items.size ≤ sizeLine)
    (q : ∀ f : Array Value → Array Value, f items = (items.toList.take j).toArray → Q () { s with heap := s.heap.update l (Obj.mapSeq f) }) :
    wpAny (model P w) A (delItem (.ref l) (.ref sl)) Q E s := by
  refine wpAny_delItem_slot (T := "list") ⟨_, hl, rfl⟩ (by decide) PySem.F.slot_list_delitem ?_
  refine wpAny_call_entry PySem.F.slot_list_delitem ⟨_, hl, rfl⟩ PySem.F.entry_list_delitem ?_ (PySem.F.args_list_delitem_2 _ _)
  show wpAny _ _ (do
      let __x ← slotArgs "__delitem__" 1 { pos := [.ref l, .ref sl] }
      _) _ _ _
  refine wpAny_bind (wpAny_pure ?_)
  refine wpAny_bind ?_
  refine wpAny_bind (wpAny_specialOf (T := "slice") (r := none) ⟨_, hs, rfl⟩ rfl ?_)
  refine wpAny_pure ?_
  refine wpAny_bind (wpAny_typeOf (T := "slice") ⟨_, hs, rfl⟩ ?_)
  dsimp only
  rw [if_neg (by decide)]
  refine wpAny_bind ?_
  rw [listSliceParts_eq]
  refine wpAny_bind (wpAny_field hs rfl (i := 2) rfl (wpAny_bind (wpAny_listPart .none ?_)))
  dsimp only [rawPart]
  rw [if_neg (by decide)]
  refine wpAny_bind (wpAny_field hs rfl (i := 0) rfl (wpAny_bind (wpAny_listPart (.int _ _) ?_)))
  refine wpAny_bind (wpAny_field hs rfl (i := 1) rfl (wpAny_bind (wpAny_listPart .none (wpAny_pure ?_))))
  dsimp only
  refine wpAny_bind (wpAny_listItems hl rfl ?_)
  have eb : sliceBounds (some (j : Int)) none none items.size = ((j : Int), (items.size : Int), 1) := by
    simp [sliceBounds]
    omega
  rw [show sliceIndices (rawPart (some (j : Int))) (rawPart none) .none items.size = pure (sliceBounds (some (j : Int)) none none items.size) from sliceIndices_raw (some (j : Int)) none none items.size (by simp), eb]
  refine wpAny_bind (wpAny_pure ?_)
  dsimp only
  refine wpAny_bind (wpAny_rule ?_)
  refine wpAny_bind (wpAny_updateSeq hl rfl (wpAny_bind (wpAny_letGo (wpAny_pure ⟨_, rfl, q _ ?_⟩))) hz ?_)
  · refine congrArg List.toArray ((take_zip (fun k => _) j items.toList 0 ?_).trans (by rw [Nat.sub_zero]))
    intro k hk
    show (if (1 : Int) > 0 then decide ((j : Int) ≤ (k : Int)) && decide ((k : Int) < (items.size : Int)) && ((k : Int) - j) % 1 == 0 else _) = _
    rw [Nat.zero_add, Array.length_toList] at hk
    rw [if_pos (by decide), Int.emod_one, decide_eq_true (show (k : Int) < (items.size : Int) by omega)]
    by_cases h : j ≤ k
    · simp [h]
    · simp [h]
  · refine Nat.le_trans ?_ (Nat.le_succ_of_le hz)
    rw [List.size_toArray]
    refine Nat.le_trans (List.length_filterMap_le _ _) ?_
    simp
theorem ps_delFrom {X : Cx} {pos p2 : Pos} {o e : PySem.Expr} {to te : TE} {tpos : Pos} (ho : PE X o to) (he : PE X e te) :
    PS X (.Delete [.Subscript o (.Slice (some e) none none p2) tpos] pos) (fun D σ H => to σ H fun x H1 => te σ H1 fun y H2 => ∃ (l : Addr) (xs : List V) (j : Nat), x = .ref l ∧ y = .int j ∧ H2 l = some (.lst xs) ∧ j ≤ xs.length ∧ D.nx σ (upd H2 l (.lst (xs.take j)))) := by
  refine ⟨fun pins s σ H D I h => ?_⟩
  refine wpAny_Delete (wpAny_deleteEach_cons (wpAny_delete_Subscript ?_))
  refine thn (ho.run pins s σ H _ I h) fun u s1 hx => ?_
  obtain ⟨x, H1, I1, r1, h1⟩ := hx
  refine wpAny_Slice ?_
  rw [evalPart_some]
  refine thn (he.run pins s1 σ H1 _ I1 h1) fun u2 s2 hx => ?_
  obtain ⟨y, H2, I2, r2, l, xs, j, rfl, rfl, hl, hj, q⟩ := hx
  cases r1
  obtain ⟨t, rfl⟩ := r2
  rw [evalPart_none]
  refine wpAny_pure ?_
  refine wpAny_pure ?_
  have hsl : (s2.heap.push { cls := .type "slice", data := .fields #[.int j t, .none, .none] }).get? s2.heap.objs.size = some { cls := .type "slice", data := .fields #[.int j t, .none, .none] } := Heap.get?_push_size _ rfl
  have I3 := I2.kept (h' := s2.heap.push { cls := .type "slice", data := .fields #[.int j t, .none, .none] }) (t' := s2.toks) (fun b u hb => Heap.get?_push_of_some _ hb)
  obtain ⟨oz, its, n, hits, hao⟩ := I3.hok _ _ hl
  have ll : xs.length = its.length := L2.Vals.length hits
  refine run_delFrom (items := its.toArray) hao hsl (by simp; omega) (by simp; omega) (fun f hf => ?_)
  refine wpAny_deleteEach_nil ?_
  refine ⟨σ, _, I3.lset (its := its) (its' := its.take j) (ys := xs.take j) hl hao (by simpa using hf) ?_ ?_, q⟩
  · exact L2.Vals.take j hits
  · rw [List.length_take]; omega

mutual
def Tr.dat : Tr → PyData
  | .node c ks => .tuple [.str (ch c), .list (dats ks)]
def dats : List Tr → List PyData
  | [] => []
  | t :: r => t.dat :: dats r
end
mutual
theorem dat_depth : ∀ t : Tr, t.dat.depth ≤ 2 * t.depth
  | .node c ks => by
    have := dats_depth ks
    simp only [Tr.dat, PyData.depth, PyData.depthAll, Tr.depth]
    omega
theorem dats_depth : ∀ ts : List Tr, PyData.depthAll (dats ts) ≤ 2 * depths ts
  | [] => by simp only [dats, PyData.depthAll, depths]; omega
  | t :: r => by
    have a := dat_depth t
    have b := dats_depth r
    simp only [dats, PyData.depthAll, depths]
    omega
end
section
variable {ok : Addr → Prop} {H : Hp} {K : PySem.W.Frag}
theorem strOk_ch {c : Nat} (h : c ≤ 122) : PyData.strOk (ch c) = true := by
  unfold PyData.strOk ch
  simp
  omega
mutual
theorem TrAt.lay : ∀ (t : Tr) (v : V), TrAt ok H v t → t.dat.canLay0 = true
  | .node c ks, v, x => by
    cases x with
    | node h1 h2 k1 k2 c1 c2 r => simp only [Tr.dat, PyData.canLay0, PyData.canLayAll0, strOk_ch c2, TrsAt.lay ks _ r, Bool.and_self]
theorem TrsAt.lay : ∀ (ts : List Tr) (vs : List V), TrsAt ok H vs ts → PyData.canLayAll0 (dats ts) = true
  | [], _, _ => by simp only [dats, PyData.canLayAll0]
  | t :: r, _, x => by
    cases x with
    | cons a b => simp only [dats, PyData.canLayAll0, TrAt.lay t _ a, TrsAt.lay r _ b, Bool.and_self]
end
mutual
theorem TrAt.dp : ∀ (t : Tr) (v : V), TrAt ok H v t → Dp K H v t.dat
  | .node c ks, v, x => by
    cases x with
    | node h1 h2 k1 k2 c1 c2 r =>
      simp only [Tr.dat]
      exact .tup (SqT.of h1) (.cons (.str _) (.cons (.lst (SqL.of h2) (TrsAt.dp ks _ r)) .nil))
theorem TrsAt.dp : ∀ (ts : List Tr) (vs : List V), TrsAt ok H vs ts → DpAll K H vs (dats ts)
  | [], _, x => by cases x; exact .nil
  | t :: r, _, x => by
    cases x with
    | cons a b => exact .cons (TrAt.dp t _ a) (TrsAt.dp r _ b)
end
theorem shaped_tr {v : V} {t : Tr} (x : TrAt ok H v t) (h : t.depth ≤ 32) : SeqAt.shaped t.dat = true := by
  unfold SeqAt.shaped
  rw [Bool.and_eq_true]
  exact ⟨TrAt.lay t v x, decide_eq_true (by have := dat_depth t; omega)⟩
theorem shaped_trs {vs : List V} {ts : List Tr} (x : TrsAt ok H vs ts) (h : depths ts ≤ 31) : SeqAt.shaped (.list (dats ts)) = true := by
  unfold SeqAt.shaped
  rw [Bool.and_eq_true]
  refine ⟨by simp only [PyData.canLay0]; exact TrsAt.lay ts vs x, decide_eq_true ?_⟩
  have := dats_depth ts
  simp only [PyData.depth]
  omega
end
def DatOk (K : PySem.W.Frag) (H : Hp) (v : V) : Prop := ∃ d, Dp K H v d ∧ d.canLay0 = true ∧ d.depth ≤ 63
theorem DatOk.all {K : PySem.W.Frag} {H : Hp} : ∀ {vs : List V}, (∀ v ∈ vs, DatOk K H v) → ∃ ds, DpAll K H vs ds ∧ SeqAt.shaped (.list ds) = true ∧ ds.length = vs.length
  | [], _ => ⟨[], .nil, by decide +kernel, rfl⟩
  | v :: r, h => by
    obtain ⟨d, h1, h2, h3⟩ := h v List.mem_cons_self
    obtain ⟨ds, g1, g2, g3⟩ := DatOk.all (vs := r) fun u hu => h u (List.mem_cons_of_mem _ hu)
    unfold SeqAt.shaped at g2
    rw [Bool.and_eq_true] at g2
    have g4 := of_decide_eq_true g2.2
    have g5 := g2.1
    simp only [PyData.canLay0] at g5
    simp only [PyData.depth] at g4
    refine ⟨d :: ds, .cons h1 g1, ?_, by simp only [List.length_cons, g3]⟩
    unfold SeqAt.shaped
    rw [Bool.and_eq_true]
    refine ⟨by simp only [PyData.canLay0, PyData.canLayAll0, h2, g5, Bool.and_self], decide_eq_true ?_⟩
    simp only [PyData.depth, PyData.depthAll]
    omega
theorem datOk_int {K : PySem.W.Frag} {H : Hp} (i : Int) : DatOk K H (.int i) := ⟨.int i, .int i, by simp only [PyData.canLay0], by simp only [PyData.depth]; omega⟩
theorem datOk_tr {K : PySem.W.Frag} {H : Hp} {ok : Addr → Prop} {v : V} {t : Tr} (x : TrAt ok H v t) (h : t.depth ≤ 31) : DatOk K H v := ⟨t.dat, TrAt.dp t v x, TrAt.lay t v x, by have := dat_depth t; omega⟩
theorem eqv_nil (ds : List PyData) : PyData.eqv (.list ds) (.list []) = decide (ds.length = 0) := by
  cases ds with
  | nil => simp [PyData.eqv, PyData.eqvAll]
  | cons d r => simp [PyData.eqv, PyData.eqvAll]
theorem shaped_nil : SeqAt.shaped (.list []) = true := by decide +kernel
theorem dp_nil {K : PySem.W.Frag} {H : Hp} {a : Addr} (h : H a = some (.lst [])) : Dp K H (.ref a) (.list []) := .lst (SqL.of h) .nil

open LamX NdefX in
structure CalX (P : Program) (w : World) (K : PySem.W.Frag) (mg : Str → Option Value) (base : Heap) (k : Nat) (f : Addr) (G : Hp → Prop) (np : Nat) (sp : Sp) : Prop where
  len : ∀ vs H Q E, sp vs H Q E → vs.length = np
  at_ : ∀ (s : Shared) (H : Hp), HOk P w H s.heap → K.In s.heap → G H → PySem.W.FnAt f s.heap
  run : ∀ (A : Around) (outer : List Env) (s : Shared) (H : Hp) (us : List Value) (vs : List V) (Q : VK) (E : XK), Room k A → Env0 P w K mg base A outer s H → G H → Vals vs us → sp vs H Q E → codeAny (model P w) A (.call (.ref f) ⟨us, []⟩) (CR CX0 outer P w H s Q E) s
def tCalX (i : Nat) (f : Addr) (G : Hp → Prop) (sp : Sp) (t : TA) : TE := fun σ H Q => σ[i]? = some (some (.ref f)) ∧ G H ∧ t σ H fun vs H1 => G H1 ∧ sp vs H1 Q C8.E0
theorem pe_calX {X : Cx} {k i np : Nat} {f : Addr} {G : Hp → Prop} {sp : Sp} {x : Str} {p pos : Pos} {e : PySem.Expr} {es : List PySem.Expr} {t : TA}
    (C : CalX X.prog X.w X.K X.mg X.base k f G np sp) (hr : Room k X.A) (hN : X.N[i]? = some x) (hv : Vis X.env.scope x) (ha : PA X (e :: es) t)
    (hdb : (x == ("__debug__" : Str)) = false := by decide) (hcd : (x == ("__classdict__" : Str)) = false := by decide)
    (he : starEach (e :: es) X.env = (false, eval e X.env) :: starEach es X.env := by rfl) (hpl : (backTo pos (starEach es X.env)).any (·.1) = false := by rfl) : PE X (.Call (.Name x p) (e :: es) [] pos) (tCalX i f G sp t) := by
  refine ⟨fun pins s σ H Q I h => ?_⟩
  obtain ⟨hs, hg, ht⟩ := h
  refine wpAny_Call_Name_kw (thn ((pe_var (pos := p) hN hv hdb hcd).run pins s σ H (fun v H1 => v = .ref f ∧ H1 = H) I ⟨.ref f, hs, rfl, rfl⟩) fun u s1 ⟨v, H1, I1, r1, q1⟩ => ?_)
  obtain ⟨ev, eH⟩ := q1
  subst ev
  rw [eH] at I1
  obtain rfl : u = Value.ref f := r1
  refine PySem.W.callWith_F (first := []) (C.at_ s1 H I1.hok I1.kIn hg) (thn (ha.run pos pins s1 σ H _ I1 ht) fun us s2 ⟨vs, H2, I2, r, h1, q⟩ => ⟨C.at_ s2 H2 I2.hok I2.kIn h1, ?_⟩) he hpl
  show wpAny _ _ (call (.ref f) us) _ _ _
  refine wpAny_call (codeAny_mono (C.run X.A X.stack s2 H2 us vs Q C8.E0 hr I2.env0 h1 r q) fun r s' hq => ?_)
  cases r with
  | error e => exact (show False from hq).elim
  | ok fl =>
    cases fl with
    | ret u => exact I2.after hq
    | next => exact False.elim hq
    | brk => exact False.elim hq
    | cont => exact False.elim hq
theorem calX_of {P : Program} {w : World} {K : PySem.W.Frag} {mg : Str → Option Value} {base : Heap} {k : Nat} {x q : Str} {st : Stmt} {f : Addr} {fd : FuncData} {ps : List Str} {sp : Sp} (F : FnOk P w K mg base CX0 k f fd ps sp) (U : Fun K x q st f fd) (hb : Binds K fd ps []) {G : Hp → Prop} : CalX P w K mg base k f G ps.length sp := by
  refine ⟨F.len, fun s H _ hk _ => ?_, fun A outer s H us vs Q E hr e0 _ r h => ?_⟩
  · obtain ⟨oc, od, kV, doc, pm, an, cdv, ct, osl, rfl, lk, hcd⟩ := U.ex
    exact ⟨_, _, _, _, hk _ _ lk⟩
  · have KX : K.In s.heap := e0.mod.kin.keeps fun b o e => (e0.bs b o e).1
    have hl : us.length = ps.length := by rw [← r.length]; exact F.len _ _ _ _ h
    have hb' := hb s us KX (by rw [List.append_nil]; exact hl)
    rw [List.append_nil] at hb'
    exact F.run A outer s H ⟨us, []⟩ us vs Q E hr e0 hb' r h
structure LF where
  qual : Str
  params : Arguments
  body : PySem.Expr
  scope : PySem.Scope
  cl : List (Str × Addr)
  c : Addr
abbrev LF.nf (F : LF) : NdefX.NF := ⟨"<lambda>", F.qual, F.params, [], F.scope, F.cl, F.c⟩
def LamO (f : Addr) (F : LF) : HO := .ext fun h => ∃ pm ctv, h.get? f = some (PySem.W.kla_obj "<lambda>" F.qual F.params F.body F.scope F.cl pm F.c ctv)
theorem lamO_ok {P : Program} {w : World} {H : Hp} {h : Heap} {F : LF} {pm ctv : Value} :
    ObjOk P w H (h.push (PySem.W.kla_obj "<lambda>" F.qual F.params F.body F.scope F.cl pm F.c ctv)) h.objs.size (LamO h.objs.size F) := by
  have e : (h.push (PySem.W.kla_obj "<lambda>" F.qual F.params F.body F.scope F.cl pm F.c ctv)).get? h.objs.size = some (PySem.W.kla_obj "<lambda>" F.qual F.params F.body F.scope F.cl pm F.c ctv) := Heap.get?_push_size _ rfl
  exact ⟨⟨pm, ctv, e⟩, ⟨_, e⟩, fun h1 h2 ⟨a1, a2, e1⟩ k => ⟨a1, a2, k _ e1⟩⟩
theorem calX_lam {P : Program} {w : World} {K : PySem.W.Frag} {mg : Str → Option Value} {base : Heap} {k : Nat} {N ps : List Str} {f : Addr} {F : LF} {sp : Sp} (S : NdefX.NScope N ps [] F.scope) (hcl : F.cl = [])
    (hb : ∀ (pm ctv : Value) (us : List Value), us.length = ps.length → bindArgs (PySem.W.kla_fn "<lambda>" F.qual F.params F.body F.scope F.cl pm (.ref F.c) ctv) ⟨us, []⟩ = pure (ps.zip us)) (len : ∀ vs H Q E, sp vs H Q E → vs.length = ps.length)
    (hbody : ∀ (A : Around) (outer : List Env) (s : Shared) (H : Hp) (vs : List V) (Q : VK) (E : XK), Room k (A.deeper (NdefX.envF F.nf f s.heap.objs.size)) → sp vs H Q E →
      ∃ t, PE (NdefX.ncx CX0 P w K mg base N F.nf f A outer s H E) F.body t ∧ t (NdefX.startF N vs []) H Q) :
    CalX P w K mg base (k + 1) f (fun H => H f = some (LamO f F) ∧ H F.c = some (LamX.CodeO F.c F.qual)) ps.length sp := by
  refine ⟨len, fun s H hok _ hg => ?_, fun A outer s H us vs Q E hr e0 hg r hsp => ?_⟩
  · obtain ⟨⟨pm, ctv, e⟩, _, _⟩ := hok _ _ hg.1
    exact ⟨_, _, _, _, e⟩
  obtain ⟨⟨pm, ctv, ho⟩, _, _⟩ := e0.hok _ _ hg.1
  have hl := len _ _ _ _ hsp
  have lim : s.heap.NoLimit := e0.mod.nolimit.keeps fun b o e => (e0.bs b o e).1
  refine PySem.W.kla_callFunE hr.depth ho rfl S.co S.gen rfl (NdefX.codeO_at e0.hok hg.2) ?_
  rw [hb pm ctv us (by rw [← r.length]; exact hl)]
  refine wpAny_pure (wpAny_newFunctionEnv S.nocell (fun ⟨n, _⟩ hy => S.par n (List.of_mem_zip hy).1) (fun h₁ hns hsb => ⟨lim.fresh _ hsb, ?_⟩) S.kind)
  show codeAny _ _ (.expr F.body (NdefX.envF F.nf f s.heap.objs.size)) _ _
  have kp : ∀ b o, s.heap.get? b = some o → h₁.get? b = some o := fun b o e => hsb.extBut b o (Nat.ne_of_lt (Heap.lt_size e)) (Heap.get?_push_of_some _ e)
  obtain ⟨t, ht, hq⟩ := hbody A outer s H vs Q E (hr.deeper _) hsp
  have C : NdefX.CellsAt F.nf.cl [] [] s.heap H := by
    have e : F.nf.cl = [] := hcl
    rw [e]
    exact ⟨rfl, (fun y c e => by cases e), (fun x y c e => by cases e), (fun i y e => by simp at e)⟩
  have I : Inv (NdefX.ncx CX0 P w K mg base N F.nf f A outer s H E) [] (NdefX.startF N vs []) H { s with heap := h₁, toks := s.toks + (ps.zip us).length } := NdefX.inv_startN S hr.hd e0 hl r C hns kp
  refine PySem.W.kla_codeExpr (wpAny_mono (ht.run [] _ _ H Q I hq) (fun v s' hq => ?_) fun e s' hq => hq)
  obtain ⟨w', H', J', rv, q⟩ := hq
  exact ⟨w', H', J'.os, J'.bare, J'.base, J'.hok, rv, q⟩
theorem pe_lamX {X : Cx} {c P : Addr} {params : Arguments} {body : PySem.Expr} {scope : PySem.Scope} {pos : Pos} (tb : LamX.TabB X.base X.mg c P) (hc : X.env.code = .ref c) (hd : defaultsOf params X.env = ([], []))
    (hfree : ∀ y ∈ scope.names, y.2 = .free → ∃ c, X.env.cells.lookup y.1 = some c) : PE X (.Lambda params body scope pos) (fun σ H Q => LamX.TabS H P (X.env.qual ++ "<lambda>") ∧ ∀ (f c : Addr) (H1 : Hp), Fr P H H1 → (∀ b, H1 b = none → H b = none) → LamX.TabS H1 P (X.env.qual ++ "<lambda>") → H f = none →
      H1 f = some (LamO f ⟨X.env.qual ++ "<lambda>", params, body, scope, cloFrom X.env.cells scope.names [], c⟩) → H1 c = some (LamX.CodeO c (X.env.qual ++ "<lambda>")) → Q (.ref f) H1) := by
  refine ⟨fun pins s σ H Q I h => ?_⟩
  obtain ⟨ht, q⟩ := h
  have hclo : closureFor scope X.env = pure (cloFrom X.env.cells scope.names []) := closure_ok hfree
  have ht' := ht
  obtain ⟨ps, hP, hT, hA⟩ := ht'
  have oP : s.heap.get? P = some (PySem.W.tabObj ps) := I.hok _ _ hP
  refine PySem.W.kla_eval hd ?_
  cases hcd : codeAmong pos ps.toList with
  | some cv =>
    obtain ⟨c', rfl, hc'⟩ := hA _ _ hcd
    refine PySem.W.kla_makeFunctionHit hclo I.ok.glob (I.mod.glob.keeps I.bk) hc (tb.code.keeps I.bk) oP hT hcd (tb.bm.keeps I.bk) (fun ctv h' tk hk hs => ?_)
    have I1 := I.kept (t' := tk) hk
    have hz : s.heap.objs.size ≤ h'.objs.size := hs
    have hn : H h'.objs.size = none := I.hok.fresh hz
    refine ⟨.ref h'.objs.size, upd H h'.objs.size (LamO h'.objs.size ⟨X.env.qual ++ "<lambda>", params, body, scope, cloFrom X.env.cells scope.names [], c'⟩), ?_, rfl, q _ c' _ (fun b o _ hb => ?_) (fun b e => NdefX.upd_none e) (ht.ext fun b o hb => ?_) hn upd_same ?_⟩
    · exact I1.laid (h' := h'.push _) (t' := tk) (fun b u hb => Heap.get?_push_of_some _ hb) (Nat.le_refl _) (lamO_ok (F := ⟨X.env.qual ++ "<lambda>", params, body, scope, cloFrom X.env.cells scope.names [], c'⟩))
    · rw [upd_ne (ne_of_none hb hn)]; exact hb
    · rw [upd_ne (ne_of_none hb hn)]; exact hb
    · rw [upd_ne (ne_of_none hc' hn)]; exact hc'
  | none =>
    refine PySem.W.kla_makeFunction hclo I.ok.glob (I.mod.glob.keeps I.bk) hc (tb.code.keeps I.bk) oP hT hcd tb.gP (tb.bm.keeps I.bk) (fun c' ctv h' tk he hl hu hrec hP' => ?_)
    obtain ⟨c2, o2, vs2, t2, ec, e1, e2, e3⟩ := hrec
    cases ec
    have I2 := LamX.inv_table (t' := tk) (c := c') (q := X.env.qual ++ "<lambda>") I hP he (more := #[rawInt ↑pos.line, rawInt ↑pos.col, .ref c']) hP' hl ⟨_, _, _, e1, e2, e3⟩
    have hn : (upd (upd H P (.tbl (ps ++ #[rawInt ↑pos.line, rawInt ↑pos.col, .ref c']))) c' (LamX.CodeO c' (X.env.qual ++ "<lambda>"))) h'.objs.size = none := I2.hok.fresh (Nat.le_refl _)
    have hcn : H c' = none := I.hok.fresh hl
    have hPc : P ≠ c' := fun e => by rw [e] at hP; rw [hcn] at hP; cases hP
    refine ⟨.ref h'.objs.size, _, I2.laid (h' := h'.push _) (o := LamO h'.objs.size ⟨X.env.qual ++ "<lambda>", params, body, scope, cloFrom X.env.cells scope.names [], c'⟩) (t' := tk) (fun b u hb => Heap.get?_push_of_some _ hb) (Nat.le_refl _) (lamO_ok (F := ⟨X.env.qual ++ "<lambda>", params, body, scope, cloFrom X.env.cells scope.names [], c'⟩)), rfl, q _ c' _ ?_ (fun b e => NdefX.upd_none (NdefX.upd_none (NdefX.upd_none e))) ?_ (NdefX.upd_none (NdefX.upd_none hn)) upd_same ?_⟩
    · intro b o hbP hb
      have h1 : (upd (upd H P (.tbl (ps ++ #[rawInt ↑pos.line, rawInt ↑pos.col, .ref c']))) c' (LamX.CodeO c' (X.env.qual ++ "<lambda>"))) b = some o := by
        rw [upd_ne (ne_of_none hb hcn), upd_ne hbP]; exact hb
      rw [upd_ne (ne_of_none h1 hn)]; exact h1
    · refine LamX.TabS.ext (H := upd (upd H P (.tbl (ps ++ #[rawInt ↑pos.line, rawInt ↑pos.col, .ref c']))) c' (LamX.CodeO c' (X.env.qual ++ "<lambda>"))) ?_ (fun b o hb => by rw [upd_ne (ne_of_none hb hn)]; exact hb)
      refine ⟨_, by rw [upd_ne hPc]; exact upd_same, ?_, ?_⟩
      · simpa using TriplesOk_snoc _ _ _ _ hT
      · intro pos2 cv hcv
        rw [Array.toList_append] at hcv
        rcases LamX.among_app _ hT hcv with h | h
        · obtain ⟨c3, e3, h3⟩ := hA _ _ h
          refine ⟨c3, e3, ?_⟩
          rw [upd_ne (ne_of_none h3 hcn), upd_ne (fun e => by rw [e, hP] at h3; cases h3)]
          exact h3
        · exact ⟨c', h, upd_same⟩
    · have h1 : (upd (upd H P (.tbl (ps ++ #[rawInt ↑pos.line, rawInt ↑pos.col, .ref c']))) c' (LamX.CodeO c' (X.env.qual ++ "<lambda>"))) c' = some (LamX.CodeO c' (X.env.qual ++ "<lambda>")) := upd_same
      rw [upd_ne (ne_of_none h1 hn)]; exact h1
theorem nofree_by {scope : PySem.Scope} {cells : List (Str × Addr)} (h : (scope.names.all fun y => !decide (y.2 = .free)) = true) : ∀ y ∈ scope.names, y.2 = .free → ∃ c, cells.lookup y.1 = some c := fun y hy e => by
  have := List.all_eq_true.mp h y hy
  simp only [e, decide_true, Bool.not_true] at this
  cases this
theorem CalX.imp {P : Program} {w : World} {K : PySem.W.Frag} {mg : Str → Option Value} {base : Heap} {k j : Nat} {f : Addr} {G G' : Hp → Prop} {np : Nat} {sp sp' : Sp} (C : CalX P w K mg base k f G np sp) (hk : k ≤ j) (hG : ∀ H, G' H → G H) (hs : ∀ vs H Q E, sp' vs H Q E → sp vs H Q E) : CalX P w K mg base j f G' np sp' :=
  ⟨fun vs H Q E q => C.len vs H Q E (hs _ _ _ _ q), fun s H a b g => C.at_ s H a b (hG H g), fun A outer s H us vs Q E hr e0 g r q => C.run A outer s H us vs Q E (hr.mono hk) e0 (hG H g) r (hs _ _ _ _ q)⟩
inductive Runs : List Tr → List Tr → List Tr → Prop
  | nil {us : List Tr} : Runs us [] us
  | cons {us ks r z : List Tr} {c : Nat} : Runs (us ++ [.node c ks]) r z → Runs (us ++ ks) (.node c ks :: r) z
mutual
theorem runs_post : ∀ (t : Tr) (us r z : List Tr), Runs (us ++ [t]) r z → Runs us (t.post ++ r) z
  | .node c ks, us, r, z, h => by
    simp only [Tr.post, List.append_assoc, List.singleton_append]
    exact runs_posts ks us _ z (.cons h)
theorem runs_posts : ∀ (ts us r z : List Tr), Runs (us ++ ts) r z → Runs us (posts ts ++ r) z
  | [], us, r, z, h => by simpa [posts] using h
  | t :: ts, us, r, z, h => by
    simp only [posts, List.append_assoc]
    refine runs_post t us _ z (runs_posts ts (us ++ [t]) r z ?_)
    rw [List.append_assoc]
    exact h
end
theorem runs_all (t : Tr) : Runs [] t.post [t] := by
  have := runs_post t [] [] [t] .nil
  rwa [List.append_nil] at this
abbrev ItP := (Addr → Prop) → Hp → V → Tr → List Addr → Prop
structure ItOk (It : ItP) : Prop where
  imp : ∀ {ok ok' : Addr → Prop} {H H' : Hp} {v : V} {t : Tr} {as : List Addr}, (∀ b, ok b → ok' b) → (∀ b o, ok b → H b = some o → H' b = some o) → It ok H v t as → It ok' H' v t as
  lst : ∀ {ok : Addr → Prop} {H : Hp} {v : V} {t : Tr} {as : List Addr}, It ok H v t as → ∀ b ∈ as, ok b ∧ ∃ xs, H b = some (.lst xs)
abbrev lstsI (bs : List (V × Tr × List Addr)) : List Addr := (bs.map fun b => b.2.2).flatten
def sp_made (It : ItP) (Pt : Addr) (q : Str) : Sp := fun vs H Q _ => ∃ (c : Nat) (bl : Addr) (bs : List (V × Tr × List Addr)) (ok : Addr → Prop), vs = [.str (ch c), .ref bl] ∧ 97 ≤ c ∧ c ≤ 122 ∧ H bl = some (.lst (bs.map (·.1))) ∧ ok bl ∧
  (∀ b ∈ bs, It ok H b.1 b.2.1 b.2.2) ∧ (bl :: lstsI bs).Nodup ∧ sizes (bs.map (·.2.1)) ≤ 1000000 ∧ (∀ b, ok b → b ≠ Pt) ∧ LamX.TabS H Pt q ∧
  ∀ v as H', Fr Pt H H' → LamX.TabS H' Pt q → It (fun b => ok b ∨ H b = none) H' v (.node c (bs.map (·.2.1))) as → as.Nodup → (∀ a ∈ as, a ∈ bl :: lstsI bs ∨ H a = none) → Q v H'
def sp_built_upward (P : Program) (w : World) (K : PySem.W.Frag) (mg : Str → Option Value) (base : Heap) (k : Nat) (Pt : Addr) (q : Str) : Sp := fun vs H Q _ => ∃ (v : V) (t : Tr) (f : Addr) (It : ItP), vs = [v, .ref f] ∧ TrAt (fun _ => True) H v t ∧ t.size ≤ 1000000 ∧ ItOk It ∧ LamX.TabS H Pt q ∧
  CalX P w K mg base k f (fun H' => Fr Pt H H') 2 (sp_made It Pt q) ∧ ∀ r as H', Fr Pt H H' → LamX.TabS H' Pt q → It (fun b => H b = none) H' r t as → as.Nodup → Q r H'

def CellO (c : Addr) (o : Obj) : HO := .ext fun h => h.get? c = some o
abbrev Lent := List (Addr × Obj)
def lend (H : Hp) (cs : Lent) : Hp := fun b => match cs.lookup b with
  | some o => some (CellO b o)
  | none => H b
def unl (H : Hp) (cs : Lent) : Hp := fun b => match cs.lookup b with
  | some _ => none
  | none => H b
def LentAt (cs : Lent) (H : Hp) : Prop := ∀ c o, cs.lookup c = some o → H c = some (CellO c o)
def Fresh (cs : Lent) (H : Hp) : Prop := ∀ c o, cs.lookup c = some o → H c = none
section
variable {H H' : Hp} {cs : Lent} {b c : Addr} {o : Obj} {u : HO}
theorem lend_in (h : cs.lookup c = some o) : lend H cs c = some (CellO c o) := by unfold lend; rw [h]
theorem lend_out (h : cs.lookup b = none) : lend H cs b = H b := by unfold lend; rw [h]
theorem unl_in (h : cs.lookup c = some o) : unl H cs c = none := by unfold unl; rw [h]
theorem unl_out (h : cs.lookup b = none) : unl H cs b = H b := by unfold unl; rw [h]
theorem Fresh.out (f : Fresh cs H) (h : H b = some u) : cs.lookup b = none := by
  cases e : cs.lookup b with
  | none => rfl
  | some o => rw [f b o e] at h; cases h
theorem lend_some (f : Fresh cs H) (h : H b = some u) : lend H cs b = some u := by rw [lend_out (f.out h)]; exact h
theorem lend_same (f : Fresh cs H) : Same H (lend H cs) := fun _ _ h => lend_some f h
theorem unl_some (h : unl H cs b = some u) : H b = some u := by
  cases e : cs.lookup b with
  | none => rw [unl_out e] at h; exact h
  | some o => rw [unl_in e] at h; cases h
theorem unl_same : Same (unl H cs) H := fun _ _ h => unl_some h
theorem LentAt.out (f : LentAt cs H) (h : H b = some u) (n : ∀ φ, u ≠ .ext φ) : cs.lookup b = none := by
  cases e : cs.lookup b with
  | none => rfl
  | some o => rw [f b o e] at h; cases h; exact absurd rfl (n _)
theorem unl_keep (f : LentAt cs H) (h : H b = some u) (n : ∀ φ, u ≠ .ext φ) : unl H cs b = some u := by rw [unl_out (f.out h n)]; exact h
theorem unl_fresh : Fresh cs (unl H cs) := fun _ _ h => unl_in h
theorem lend_lent : LentAt cs (lend H cs) := fun _ _ h => lend_in h
theorem unl_lend (f : Fresh cs H) : unl (lend H cs) cs = H := by
  funext b
  cases e : cs.lookup b with
  | none => rw [unl_out e, lend_out e]
  | some o => rw [unl_in e, f b o e]
theorem lend_unl (f : LentAt cs H) : lend (unl H cs) cs = H := by
  funext b
  cases e : cs.lookup b with
  | none => rw [lend_out e, unl_out e]
  | some o => rw [lend_in e, f b o e]
end
section
variable {P : Program} {w : World} {H H1 : Hp} {h h0 h1 : Heap} {cs : Lent} {fs : List Addr}
theorem hok_lend (ok : HOk P w H h) (f : Fresh cs H) (hc : ∀ c o, cs.lookup c = some o → h.get? c = some o) : HOk P w (lend H cs) h := fun a u e => by
  cases hl : cs.lookup a with
  | some o =>
    rw [lend_in hl] at e
    cases e
    exact ⟨hc _ _ hl, ⟨o, hc _ _ hl⟩, fun h1 h2 q k => k _ q⟩
  | none =>
    rw [lend_out hl] at e
    exact (ok a u e).stay (fun _ _ _ q => q) (fun b q => lend_some f q) fun b xs q => lend_some f q
theorem hok_unl (ok : HOk P w H h) (f : LentAt cs H) : HOk P w (unl H cs) h := fun a u e =>
  (ok a u (unl_some e)).stay (fun _ _ _ q => q) (fun b q => unl_keep f q (fun φ z => by cases z)) fun b xs q => unl_keep f q (fun φ z => by cases z)
theorem lent_get (ok : HOk P w H h) (f : LentAt cs H) {c : Addr} {o : Obj} (e : cs.lookup c = some o) : h.get? c = some o := (ok c _ (f c o e)).1
theorem un_back (u : Un fs [] (lend H cs) H1 h0 h1) (f : Fresh cs H) (l : LentAt cs H1) (ok : HOk P w H1 h1) (hc : ∀ c o, cs.lookup c = some o → h0.get? c = some o) : Un fs [] H (unl H1 cs) h0 h1 where
  keep := fun b ob e n hf hx => by
    cases hl : cs.lookup b with
    | some o =>
      have e2 := hc _ _ hl
      rw [e] at e2
      cases e2
      exact lent_get ok l hl
    | none => exact u.keep b ob e (by rw [lend_out hl]; exact n) hf hx
  slot := fun b ob e n hf hx => by
    cases hl : cs.lookup b with
    | some o =>
      have e2 := hc _ _ hl
      rw [e] at e2
      cases e2
      exact ⟨ob.slots, lent_get ok l hl⟩
    | none => exact u.slot b ob e (by rw [lend_out hl]; exact n) hf hx
  free := fun b ob e n hx => by
    cases hl : cs.lookup b with
    | some o => exact unl_in hl
    | none => rw [unl_out hl]; exact u.free b ob e (by rw [lend_out hl]; exact n) hx
  there := u.there
  tups := fun b xs e => unl_keep l (u.tups b xs (lend_some f e)) (fun φ z => by cases z)
  frzs := fun b o v e => unl_keep l (u.frzs b o v (lend_some f e)) (fun φ z => by cases z)
  tbls := fun b ps e => by
    obtain ⟨more, q⟩ := u.tbls b ps (lend_some f e)
    exact ⟨more, unl_keep l q (fun φ z => by cases z)⟩
theorem un_fwd (u : Un fs [] (unl H cs) H1 h0 h1) (l : LentAt cs H) (ok : HOk P w H h0) (hf : ∀ c o, cs.lookup c = some o → c ∉ fs) : Fresh cs H1 ∧ (∀ c o, cs.lookup c = some o → h1.get? c = some o) ∧ Un fs [] H (lend H1 cs) h0 h1 := by
  have f1 : Fresh cs H1 := fun c o e => u.free c o (lent_get ok l e) (unl_in e) (by simp)
  have hc : ∀ c o, cs.lookup c = some o → h1.get? c = some o := fun c o e => u.keep c o (lent_get ok l e) (unl_in e) (hf c o e) (by simp)
  have no : ∀ b, H b = none → cs.lookup b = none := fun b n => by
    cases hl : cs.lookup b with
    | none => rfl
    | some o => rw [l b o hl] at n; cases n
  refine ⟨f1, hc, fun b ob e n => ?_, fun b ob e n => ?_, fun b ob e n hx => ?_, u.there, fun b xs e => ?_, fun b o v e => ?_, fun b ps e => ?_⟩
  · exact u.keep b ob e (by rw [unl_out (no b n)]; exact n)
  · exact u.slot b ob e (by rw [unl_out (no b n)]; exact n)
  · rw [lend_out (no b n)]
    exact u.free b ob e (by rw [unl_out (no b n)]; exact n) hx
  · exact lend_some f1 (u.tups b xs (unl_keep l e (fun φ z => by cases z)))
  · exact lend_some f1 (u.frzs b o v (unl_keep l e (fun φ z => by cases z)))
  · obtain ⟨more, q⟩ := u.tbls b ps (unl_keep l e (fun φ z => by cases z))
    exact ⟨more, lend_some f1 q⟩
end
structure Caught (cl : List (Str × Addr)) (fr : List Str) (ws : List (Option V)) (cs : Lent) : Prop where
  len : ws.length = fr.length
  all : ∀ y c, cl.lookup y = some c → ∃ o v, cs.lookup c = some o ∧ o.data = .cell v
  inj : ∀ x y c, cl.lookup x = some c → cl.lookup y = some c → x = y
  has : ∀ (i : Nat) (y : Str), fr[i]? = some y → ∃ c, cl.lookup y = some c ∧ ∀ v, ws[i]? = some (some v) → ∃ u o, L2.RelV v u ∧ cs.lookup c = some o ∧ o.data = .cell (some u)
def Cells (cs : Lent) : Prop := ∀ c o, cs.lookup c = some o → ∃ v, o.data = .cell v
theorem codeO_cell {c : Addr} {q : Str} {o : Obj} {v : Option Value} (hd : o.data = .cell v) : LamX.CodeO c q ≠ CellO c o := fun e => by
  have hg : (Heap.mk (Array.replicate (c + 1) o) {}).get? c = some o := by
    have h1 : (Array.replicate (c + 1) o)[c]? = some o := by rw [Array.getElem?_replicate, if_pos (Nat.lt_succ_self c)]
    show (match (Array.replicate (c + 1) o)[c]? with
      | some ⟨_, _, .freed, _⟩ => none
      | o => o) = some o
    rw [h1]
    obtain ⟨c1, c2, c3, c4⟩ := o
    cases hd
    rfl
  have e2 := HO.ext.inj e
  have e3 := (congrFun e2 (Heap.mk (Array.replicate (c + 1) o) {})).mpr hg
  obtain ⟨oc, vs, t, h1, h2, _⟩ := e3
  rw [hg] at h1
  cases h1
  rw [hd] at h2
  cases h2
section
variable {P : Program} {w : World} {K : PySem.W.Frag} {mg : Str → Option Value} {base : Heap} {cl : List (Str × Addr)} {fr : List Str} {ws : List (Option V)} {cs : Lent}
theorem Caught.at (C : Caught cl fr ws cs) {H : Hp} {h : Heap} (l : LentAt cs H) (ok : HOk P w H h) : NdefX.CellsAt cl fr ws h (unl H cs) := by
  refine ⟨C.len, fun y c e => ?_, C.inj, fun i y e => ?_⟩
  · obtain ⟨o, v, h1, h2⟩ := C.all y c e
    exact ⟨unl_in h1, v, o, lent_get ok l h1, h2⟩
  · obtain ⟨c, h1, h2⟩ := C.has i y e
    refine ⟨c, h1, fun v hv => ?_⟩
    obtain ⟨u, o, r, g1, g2⟩ := h2 v hv
    exact ⟨u, r, o, lent_get ok l g1, g2⟩
theorem unl_none {H : Hp} {b : Addr} (h : H b = none) : unl H cs b = none := by
  cases z : unl H cs b with
  | none => rfl
  | some u => rw [unl_some z] at h; cases h
theorem env0_unl {A : Around} {outer : List Env} {s : Shared} {H : Hp} (e : Env0 P w K mg base A outer s H) (l : LentAt cs H) : Env0 P w K mg base A outer s (unl H cs) :=
  ⟨e.frames, e.mod, fun b o q => ⟨(e.bs b o q).1, unl_none (e.bs b o q).2⟩, e.bsz, e.funs, fun b hb => unl_none (e.frf b hb), hok_unl e.hok l, e.bare⟩
theorem cr_fwd {outer : List Env} {s s' : Shared} {H : Hp} {Q : VK} {E : XK} {r : Result} (l : LentAt cs H) (ok : HOk P w H s.heap) (hf : ∀ c o, cs.lookup c = some o → c ∉ frs outer) (h : CR CX0 outer P w (unl H cs) s (fun v H' => Q v (lend H' cs)) E r s') : CR CX0 outer P w H s Q E r s' := by
  cases r with
  | error e => exact (show False from h).elim
  | ok fl =>
    cases fl with
    | ret u =>
      obtain ⟨v, H1, h1, h2, h3, h4, h5, h6⟩ := h
      obtain ⟨f1, f2, f3⟩ := un_fwd h3 l ok hf
      exact ⟨v, lend H1 cs, h1, h2, f3, hok_lend h4 f1 f2, h5, h6⟩
    | next => exact h
    | brk => exact h
    | cont => exact h
theorem calX_ndef {k : Nat} {f : Addr} {F : NdefX.NF} {ps : List Str} {sp : List (Option V) → Sp} (o : NdefX.NOk P w K mg base CX0 k f F ps fr sp) (C : Caught F.cl fr ws cs) (hz : Cells cs) :
    CalX P w K mg base k f (fun H => H f = some (NdefX.FnO f F) ∧ H F.c = some (LamX.CodeO F.c F.qual) ∧ LentAt cs H) ps.length (fun vs H Q E => sp ws vs (unl H cs) (fun v H' => Q v (lend H' cs)) E) := by
  refine ⟨fun vs H Q E h => o.len _ _ _ _ _ h, fun s H hok _ hg => ?_, fun A outer s H us vs Q E hr e0 hg r h => ?_⟩
  · obtain ⟨od, sl, doc, pm, ctv, ho⟩ := NdefX.fnO_at hok hg.1
    exact ⟨_, od, _, sl, ho⟩
  · obtain ⟨g1, g2, g3⟩ := hg
    have nf : cs.lookup f = none := by
      cases e : cs.lookup f with
      | none => rfl
      | some ob =>
        obtain ⟨od, sl, doc, pm, ctv, ho⟩ := NdefX.fnO_at e0.hok g1
        obtain ⟨v, hv⟩ := hz _ _ e
        rw [lent_get e0.hok g3 e] at ho
        cases ho
        cases hv
    have nc : cs.lookup F.c = none := by
      cases e : cs.lookup F.c with
      | none => rfl
      | some ob =>
        obtain ⟨c, oc, vs, t, ec, h1, h2, h3⟩ := NdefX.codeO_at e0.hok g2
        obtain ⟨v, hv⟩ := hz _ _ e
        cases ec
        rw [lent_get e0.hok g3 e] at h1
        cases h1
        rw [hv] at h2
        cases h2
    refine codeAny_mono (o.run A outer s (unl H cs) us vs ws _ E hr (env0_unl e0 g3) (by rw [unl_out nf]; exact g1) (by rw [unl_out nc]; exact g2) (C.at g3 e0.hok) r h) fun r s' hq => ?_
    exact cr_fwd g3 e0.hok (fun c ob e hb => by have := e0.frf c hb; rw [g3 c ob e] at this; cases this) hq
theorem calX_lamC {k : Nat} {N ps : List Str} {f : Addr} {F : LF} {sp : Sp} (S : NdefX.NScope N ps fr F.scope) (C : Caught F.cl fr ws cs) (hz : Cells cs)
    (hb : ∀ (pm ctv : Value) (us : List Value), us.length = ps.length → bindArgs (PySem.W.kla_fn "<lambda>" F.qual F.params F.body F.scope F.cl pm (.ref F.c) ctv) ⟨us, []⟩ = pure (ps.zip us)) (len : ∀ vs H Q E, sp vs H Q E → vs.length = ps.length)
    (hbody : ∀ (A : Around) (outer : List Env) (s : Shared) (H : Hp) (vs : List V) (Q : VK) (E : XK), Room k (A.deeper (NdefX.envF F.nf f s.heap.objs.size)) → sp vs H Q E →
      ∃ t, PE (NdefX.ncx CX0 P w K mg base N F.nf f A outer s H E) F.body t ∧ t (NdefX.startF N vs ws) H Q) :
    CalX P w K mg base (k + 1) f (fun H => H f = some (LamO f F) ∧ H F.c = some (LamX.CodeO F.c F.qual) ∧ LentAt cs H) ps.length (fun vs H Q E => sp vs (unl H cs) (fun v H' => Q v (lend H' cs)) E) := by
  refine ⟨fun vs H Q E h => len _ _ _ _ h, fun s H hok _ hg => ?_, fun A outer s H us vs Q E hr e0 hg r hsp => ?_⟩
  · obtain ⟨⟨pm, ctv, e⟩, _, _⟩ := hok _ _ hg.1
    exact ⟨_, _, _, _, e⟩
  obtain ⟨g1, g2, g3⟩ := hg
  obtain ⟨⟨pm, ctv, ho⟩, _, _⟩ := e0.hok _ _ g1
  have hl := len _ _ _ _ hsp
  have lim : s.heap.NoLimit := e0.mod.nolimit.keeps fun b o e => (e0.bs b o e).1
  refine codeAny_mono (R := CR CX0 outer P w (unl H cs) s (fun v H' => Q v (lend H' cs)) E) ?_ fun r s' hq => cr_fwd g3 e0.hok (fun c ob e hb => by have := e0.frf c hb; rw [g3 c ob e] at this; cases this) hq
  refine PySem.W.kla_callFunE hr.depth ho rfl S.co S.gen rfl (NdefX.codeO_at e0.hok g2) ?_
  rw [hb pm ctv us (by rw [← r.length]; exact hl)]
  refine wpAny_pure (wpAny_newFunctionEnv S.nocell (fun ⟨n, _⟩ hy => S.par n (List.of_mem_zip hy).1) (fun h₁ hns hsb => ⟨lim.fresh _ hsb, ?_⟩) S.kind)
  show codeAny _ _ (.expr F.body (NdefX.envF F.nf f s.heap.objs.size)) _ _
  have kp : ∀ b o, s.heap.get? b = some o → h₁.get? b = some o := fun b o e => hsb.extBut b o (Nat.ne_of_lt (Heap.lt_size e)) (Heap.get?_push_of_some _ e)
  obtain ⟨t, ht, hq⟩ := hbody A outer s (unl H cs) vs _ E (hr.deeper _) hsp
  have I : Inv (NdefX.ncx CX0 P w K mg base N F.nf f A outer s (unl H cs) E) [] (NdefX.startF N vs ws) (unl H cs) { s with heap := h₁, toks := s.toks + (ps.zip us).length } := NdefX.inv_startN S hr.hd (env0_unl e0 g3) hl r (C.at g3 e0.hok) hns kp
  refine PySem.W.kla_codeExpr (wpAny_mono (ht.run [] _ _ _ _ I hq) (fun v s' hq => ?_) fun e s' hq => hq)
  obtain ⟨w', H', J', rv, q⟩ := hq
  exact ⟨w', H', J'.os, J'.bare, J'.base, J'.hok, rv, q⟩
end
section
variable {X : Cx} {pins : List (Addr × Obj)} {σ : L2.St} {H : Hp} {s : Shared}
def ownCells (X : Cx) (h : Heap) : Lent := (X.env.cells.map (·.1)).filterMap fun y => match X.env.cells.lookup y with
  | some c => (h.get? c).map fun o => (c, o)
  | none => none
theorem look_has {α β : Type} [BEq α] [LawfulBEq α] {a : α} {b : β} : ∀ {l : List (α × β)}, (a, b) ∈ l → ∃ b', l.lookup a = some b'
  | (x, y) :: r, h => by
    by_cases e : a = x
    · subst e
      exact ⟨y, by simp [List.lookup]⟩
    · rcases List.mem_cons.mp h with h | h
      · cases h
        exact absurd rfl e
      · obtain ⟨b', h'⟩ := look_has h
        refine ⟨b', ?_⟩
        have : (a == x) = false := by simpa using e
        simp [List.lookup, this, h']
theorem mem_look {α β : Type} [BEq α] [LawfulBEq α] {a : α} {b : β} : ∀ {l : List (α × β)}, l.lookup a = some b → (a, b) ∈ l
  | (x, y) :: r, h => by
    by_cases e : a = x
    · subst e
      simp [List.lookup] at h
      rw [h]
      exact List.mem_cons_self
    · have e2 : (a == x) = false := by simpa using e
      simp only [List.lookup, e2] at h
      exact List.mem_cons_of_mem _ (mem_look h)
theorem own_mem {c : Addr} {o : Obj} {h : Heap} (e : (c, o) ∈ ownCells X h) : h.get? c = some o ∧ ∃ y, X.env.cells.lookup y = some c := by
  unfold ownCells at e
  obtain ⟨y, _, hy⟩ := List.mem_filterMap.mp e
  cases hl : X.env.cells.lookup y with
  | none => rw [hl] at hy; cases hy
  | some c' =>
    rw [hl] at hy
    dsimp only at hy
    cases ho : h.get? c' with
    | none => rw [ho] at hy; cases hy
    | some o' =>
      rw [ho] at hy
      cases hy
      exact ⟨ho, y, hl⟩
theorem own_look {c : Addr} {o : Obj} {h : Heap} (e : (ownCells X h).lookup c = some o) : h.get? c = some o ∧ ∃ y, X.env.cells.lookup y = some c := own_mem (mem_look e)
theorem own_in {c : Addr} {o : Obj} {h : Heap} {y : Str} (hy : X.env.cells.lookup y = some c) (ho : h.get? c = some o) : (ownCells X h).lookup c = some o := by
  have hm : (c, o) ∈ ownCells X h := by
    unfold ownCells
    refine List.mem_filterMap.mpr ⟨y, List.mem_map.mpr ⟨_, PySem.mem_of_lookup hy, rfl⟩, ?_⟩
    rw [hy]
    dsimp only
    rw [ho]
    rfl
  obtain ⟨o', h'⟩ := look_has hm
  have := (own_look h').1
  rw [ho] at this
  cases this
  exact h'
structure Lends (X : Cx) (σ : L2.St) (H : Hp) (cs : Lent) : Prop where
  new : Fresh cs H
  cel : Cells cs
  got : ∀ (scope : PySem.Scope) (fr : List Str) (js : List Nat), NdefX.ndefB X.env.scope scope fr = true → js.map (fun j => X.N[j]?) = fr.map some → Caught (cloFrom X.env.cells scope.names []) fr (js.map (NdefX.slotAt σ)) cs
theorem lends_own (I : Inv X pins σ H s) : Lends X σ H (ownCells X s.heap) := by
  have cel : Cells (ownCells X s.heap) := fun c o e => by
    obtain ⟨h1, y, h2⟩ := own_look e
    obtain ⟨v, o', h3, h4⟩ := I.cell y c h2
    rw [h1] at h3
    cases h3
    exact ⟨v, h4⟩
  refine ⟨fun c o e => ?_, cel, fun scope fr js hfr hjs => ?_⟩
  · obtain ⟨_, y, h2⟩ := own_look e
    exact I.freeC y c h2
  · have C := NdefX.Caps.made I.ok (NdefX.ndef_free hfr) (NdefX.ndef_fr hfr) hjs
    have A := NdefX.cells_of I C
    refine ⟨A.len, fun y c e => ?_, A.inj, fun i y e => ?_⟩
    · obtain ⟨_, v, o, h1, h2⟩ := A.all y c e
      exact ⟨o, v, own_in (C.sub y c e) h1, h2⟩
    · obtain ⟨c, h1, h2⟩ := A.has i y e
      refine ⟨c, h1, fun v hv => ?_⟩
      obtain ⟨u, r, o, h3, h4⟩ := h2 v hv
      exact ⟨u, o, r, own_in (C.sub y c h1) h3, h4⟩
theorem env0_lend (I : Inv X pins σ H s) (hfn : ∀ x, X.fn x = true) : Env0 X.prog X.w X.K X.mg X.base X.A X.stack s (lend H (ownCells X s.heap)) := by
  have L := lends_own I
  have big : ∀ c o, (ownCells X s.heap).lookup c = some o → X.s_0.heap.objs.size ≤ c := fun c o e => by
    obtain ⟨_, y, h2⟩ := own_look e
    exact I.ok.cab y c (hfn y) h2
  refine ⟨I.ok.frames, I.ok.mod, fun b o e => ⟨(I.bs b o e).1, ?_⟩, Nat.le_trans I.ok.bsz I.sz, I.stack, fun b hb => ?_, hok_lend I.hok L.new (fun c o e => (own_look e).1), I.bare⟩
  · cases hl : (ownCells X s.heap).lookup b with
    | none => rw [lend_out hl]; exact (I.bs b o e).2
    | some ob =>
      exact absurd (Nat.lt_of_lt_of_le (Heap.lt_size e) I.ok.bsz) (Nat.not_lt.mpr (big _ _ hl))
  · cases hl : (ownCells X s.heap).lookup b with
    | none => rw [lend_out hl]; exact I.stkFree b hb
    | some ob =>
      exfalso
      rcases List.mem_cons.mp (I.stkSub b hb) with e | hb
      · obtain ⟨v, hv⟩ := L.cel _ _ hl
        obtain ⟨m, hn, _⟩ := I.loc
        obtain ⟨o2, es, ep, h1, h3, _⟩ := hn
        rw [← e, (own_look hl).1] at h1
        cases h1
        rw [hv] at h3
        cases h3
      · obtain ⟨_, o, ho, _⟩ := I.ok.funs.mem hb
        exact absurd (Heap.lt_size ho) (Nat.not_lt.mpr (big _ _ hl))
theorem pe_callLd {k : Nat} {f : Addr} {fd : FuncData} {ps : List Str} {sp : Sp} {x : Str} {p pos : Pos} {e : PySem.Expr} {es : List PySem.Expr} {t : TA} (F : FnOk X.prog X.w X.K X.mg X.base CX0 k f fd ps sp) (hr : Room k X.A) (hg : Gl X x) (hm : X.mg x = some (.ref f)) (hk : PySem.W.keepIn X.K (.ref f) = true) (hb : Binds X.K fd ps []) (hfn : ∀ x, X.fn x = true)
    (ha : PA X (e :: es) t) (hdb : (x == ("__debug__" : Str)) = false := by decide) (he : starEach (e :: es) X.env = (false, eval e X.env) :: starEach es X.env := by rfl) (hpl : (backTo pos (starEach es X.env)).any (·.1) = false := by rfl) :
    PE X (.Call (.Name x p) (e :: es) [] pos) (fun σ H Q => t σ H fun vs H1 => ∀ cs, Lends X σ H1 cs → sp vs (lend H1 cs) (fun v H2 => LentAt cs H2 ∧ Q v (unl H2 cs)) E0) := by
  refine ⟨fun pins s σ H Q I h => ?_⟩
  refine wpAny_Call_Name_kw (ld_glob I hg hm ?_ hdb)
  refine PySem.W.callWith_K (h₀ := X.base) I.ok.mod.kin hk (thn (ha.run pos pins s σ H _ I h) fun us s1 ⟨vs, H1, I1, r, q⟩ => ⟨I1.kIn, ?_⟩) he hpl
  have L := lends_own I1
  have q := q _ L
  have hl : us.length = ps.length := by rw [← r.length]; exact F.len _ _ _ _ q
  have hb' := hb s1 us I1.kIn (by rw [List.append_nil]; exact hl)
  rw [List.append_nil] at hb'
  refine wpAny_call (codeAny_mono (F.run X.A X.stack s1 _ ⟨us, []⟩ us vs _ E0 hr (env0_lend I1 hfn) hb' r q) fun r s' hq => ?_)
  cases r with
  | error e => exact (show False from hq).elim
  | ok fl =>
    cases fl with
    | ret u =>
      obtain ⟨v, H2, h1, h2, h3, h4, h5, h6, h7⟩ := hq
      exact I1.after ⟨v, unl H2 _, h1, h2, un_back h3 L.new h6 h4 (fun c o e => (own_look e).1), hok_unl h4 h6, h5, h7⟩
    | next => exact False.elim hq
    | brk => exact False.elim hq
    | cont => exact False.elim hq
end
theorem pe_lamXc {X : Cx} {c P : Addr} {params : Arguments} {body : PySem.Expr} {scope : PySem.Scope} {pos : Pos} {fr : List Str} (tb : LamX.TabB X.base X.mg c P) (hc : X.env.code = .ref c) (hd : defaultsOf params X.env = ([], []))
    (hfr : NdefX.ndefB X.env.scope scope fr = true) : PE X (.Lambda params body scope pos) (fun σ H Q => LamX.TabS H P (X.env.qual ++ "<lambda>") ∧ ∀ (f c : Addr) (H1 : Hp), Fr P H H1 → (∀ b, H1 b = none → H b = none) → LamX.TabS H1 P (X.env.qual ++ "<lambda>") → H f = none →
      H1 f = some (LamO f ⟨X.env.qual ++ "<lambda>", params, body, scope, cloFrom X.env.cells scope.names [], c⟩) → H1 c = some (LamX.CodeO c (X.env.qual ++ "<lambda>")) → Q (.ref f) H1) :=
  ⟨fun pins s σ H Q I h => (pe_lamX tb hc hd fun y hy e => ((NdefX.ndef_free hfr) y hy e).elim (fun z => I.ok.has _ (.inl z)) fun z => I.ok.has _ (.inr z)).run pins s σ H Q I h⟩


def Sto (H : Hp) (p : Addr) (n : Nat) : Prop := ∃ g m s : Int, H p = some (.lst [.int g, .int m, .int s]) ∧ 0 ≤ m ∧ m < 2147483629 ∧ 0 ≤ s ∧ s ≤ 1 + (n : Int)
theorem Sto.mono {H : Hp} {p : Addr} {n m : Nat} (h : Sto H p n) (l : n ≤ m) : Sto H p m := let ⟨g, x, s, a, b, c, d, e⟩ := h; ⟨g, x, s, a, b, c, d, by omega⟩
theorem Sto.keep {H H' : Hp} {p : Addr} {n : Nat} (h : Sto H p n) (e : Same H H') : Sto H' p n := let ⟨g, x, s, a, b, c, d, f⟩ := h; ⟨g, x, s, e _ _ a, b, c, d, f⟩
theorem Sto.ne {H : Hp} {p q : Addr} {n : Nat} (h : Sto H p n) (e : H q = none) : q ≠ p := let ⟨_, _, _, a, _⟩ := h; fun z => by rw [z, a] at e; cases e
theorem Sto.some {H : Hp} {p : Addr} {n : Nat} (h : Sto H p n) : H p ≠ none := let ⟨_, _, _, a, _⟩ := h; by rw [a]; simp
theorem Sto.new {H : Hp} {p q : Addr} {n : Nat} {o : HO} (h : Sto H p n) (e : H q = none) : Sto (upd H q o) p n := h.keep (same_new e)
mutual
theorem TrAt.offL {ok : Addr → Prop} {H : Hp} {p : Addr} {x : Int} {zs : List V} (hp : H p = some (.lst (.int x :: zs))) : ∀ (t : Tr) (v : V), TrAt ok H v t → TrAt (fun b => ok b ∧ b ≠ p) H v t
  | .node c ks, v, h => by
    cases h with
    | node h1 h2 k1 k2 c1 c2 r =>
      refine .node h1 h2 ⟨k1, ne_of h1 hp (by intro z; cases z)⟩ ⟨k2, fun e => ?_⟩ c1 c2 (TrsAt.offL hp ks _ r)
      subst e
      rw [h2] at hp
      cases hp
      cases r with
      | cons a _ => cases a
theorem TrsAt.offL {ok : Addr → Prop} {H : Hp} {p : Addr} {x : Int} {zs : List V} (hp : H p = some (.lst (.int x :: zs))) : ∀ (ts : List Tr) (vs : List V), TrsAt ok H vs ts → TrsAt (fun b => ok b ∧ b ≠ p) H vs ts
  | [], _, h => by cases h; exact .nil
  | t :: r, _, h => by
    cases h with
    | cons a b => exact .cons (TrAt.offL hp t _ a) (TrsAt.offL hp r _ b)
end
theorem Sto.off {ok : Addr → Prop} {H : Hp} {p : Addr} {n : Nat} {v : V} {t : Tr} (hp : Sto H p n) (h : TrAt ok H v t) : TrAt (fun b => ok b ∧ b ≠ p) H v t := let ⟨_, _, _, hx, _⟩ := hp; TrAt.offL hx t v h
theorem Sto.offs {ok : Addr → Prop} {H : Hp} {p : Addr} {n : Nat} {vs : List V} {ts : List Tr} (hp : Sto H p n) (h : TrsAt ok H vs ts) : TrsAt (fun b => ok b ∧ b ≠ p) H vs ts := let ⟨_, _, _, hx, _⟩ := hp; TrsAt.offL hx ts vs h
theorem TrAt.sto {ok : Addr → Prop} {H H' : Hp} {p : Addr} {n : Nat} {v : V} {t : Tr} (h : TrAt ok H v t) (hp : Sto H p n) (f : Fr p H H') : TrAt ok H' v t := ((hp.off h).keep fun b o k e => f b o k.2 e).weak fun _ k => k.1
theorem TrsAt.sto {ok : Addr → Prop} {H H' : Hp} {p : Addr} {n : Nat} {vs : List V} {ts : List Tr} (h : TrsAt ok H vs ts) (hp : Sto H p n) (f : Fr p H H') : TrsAt ok H' vs ts := ((hp.offs h).keep fun b o k e => f b o k.2 e).weak fun _ k => k.1
def sp__law_cell (K : PySem.W.Frag) : Sp := fun vs H Q _ => ∃ (a : Addr) (ns : List Int) (k : Int), vs = [.ref a, .int k] ∧ SqL K H a (ns.map V.int) ∧ ns.length ≤ 63 ∧ 0 ≤ k ∧ k ≤ 63 ∧ ∀ c, Q (.int c) H
def sp__law_store : Sp := fun vs H Q _ => ∃ c : Int, vs = [.int c] ∧ ∀ p H', H p = none → Same H H' → Sto H' p 0 → Q (.ref p) H'
def sp__law_take : Sp := fun vs H Q _ => ∃ (p : Addr) (m : Int) (n : Nat), vs = [.ref p, .int m] ∧ Sto H p n ∧ n < 1000000 ∧ 0 < m ∧ m < 2 ^ 60 ∧
  ∀ r H', 0 ≤ r → r < m → Chg p H H' → Sto H' p (n + 1) → Q (.int r) H'
section
variable {P : Program} {w : World} {K : PySem.W.Frag} {mg : Str → Option Value} {base : Heap}
theorem ok__law_cell (T : Txt K mg) : FnOk P w K mg base CX0 1 T.f__law_cell T.d__law_cell ["script", "k"] (sp__law_cell K) := by
  refine T.F__law_cell.ok sc__law_cell (fun vs H Q E h => ?_) (fun cdv A outer s H vs Q E hr h => ?_)
  · obtain ⟨a, ns, k, rfl, _⟩ := h
    rfl
  obtain ⟨a, ns, k, rfl, hS, h63, h0, h1, q⟩ := h
  refine ⟨_, (pss_cons (ps_if (pt_cmpR op_lt (pv 1) (pe_callB call_len_seq (by rfl) T.z_len PySem.boot_len (pa_cons (pv 0) pa_nil)) (nomark _)) (pss_one (ps_ret (pe_ix ix_list (pv 0) (pv 1) (fun _ _ => rfl)))) pss_nil) (pss_one (ps_ret (pe_op op_add (pe_op op_add (pe_op op_mul (pe_op op_mul pe_int (pv 1)) (pv 1)) (pe_op op_mul pe_int (pv 1))) pe_int)))), ?_⟩
  refine ⟨_, rfl, _, rfl, a, _, rfl, .inl hS, _, _, rfl, rfl, _, rfl, ?_⟩
  refine ite2 (fun c => ?_) (fun c => ?_)
  · have hk : k.toNat < ns.length := by
      have c' : k < (((ns.map V.int).length : Nat) : Int) := of_decide_eq_true c
      rw [List.length_map] at c'
      omega
    exact ⟨_, rfl, _, rfl, a, _, _, _, rfl, rfl, hS, at_of (j := k.toNat) (v := V.int ns[k.toNat]) (by omega) (by rw [List.getElem?_map, List.getElem?_eq_getElem hk]; rfl), q _⟩
  · have b := nn_mul (a := 7 * k) (A := 441) (b := k) (B := 63) (by omega) (by omega) h0 h1
    exact ⟨_, rfl, 7, k, rfl, rfl, .inl ⟨by decide, by decide⟩, _, rfl, _, k, rfl, rfl, .inl ⟨by omega, by omega⟩, _, rfl, 3, k, rfl, rfl, .inl ⟨by decide, by decide⟩, _, _, rfl, rfl, _, _, rfl, rfl, q _⟩
theorem ok__law_store (T : Txt K mg) : FnOk P w K mg base CX0 1 T.f__law_store T.d__law_store ["cell"] sp__law_store := by
  refine T.F__law_store.ok sc__law_store (fun vs H Q E h => ?_) (fun cdv A outer s H vs Q E hr h => ?_)
  · obtain ⟨c, rfl, _⟩ := h
    rfl
  obtain ⟨c, rfl, q⟩ := h
  refine ⟨_, (pss_cons (ps_set (i := 1) sc__law_store.nd rfl (Or.inl rfl) pe_int) (pss_cons (ps_if (pt_cmpR op_ge (pv 0) (pe_op op_pow pe_int pe_int) (nomark _)) (pss_one (ps_set (i := 1) sc__law_store.nd rfl (Or.inl rfl) (pv 0))) pss_nil) (pss_one (ps_ret (pe_lst (pa_cons (pv 1) (pa_cons (pe_op op_mod (pv 0) pe_int) (pa_cons pe_int pa_nil)))))))), ?_⟩
  have a0 : 0 ≤ c % 2147483629 := Int.emod_nonneg _ (by decide)
  have a1 : c % 2147483629 < 2147483629 := Int.emod_lt_of_pos _ (by decide)
  refine ⟨_, rfl, 10, 18, rfl, rfl, ⟨by decide, by decide, by decide⟩, _, _, rfl, rfl, _, rfl, ?_⟩
  refine ite2 (fun _ => ?_) (fun _ => ?_)
  · refine ⟨_, rfl, _, rfl, _, rfl, c, 2147483629, rfl, rfl, (by show (0 : Int) < 2147483629; decide), (by show 3 ≤ sizeLine; decide), fun p hp => ?_⟩
    exact q p _ hp (same_new hp) ⟨_, _, _, upd_same, a0, a1, by decide, by decide⟩
  · refine ⟨_, rfl, _, rfl, c, 2147483629, rfl, rfl, (by show (0 : Int) < 2147483629; decide), (by show 3 ≤ sizeLine; decide), fun p hp => ?_⟩
    exact q p _ hp (same_new hp) ⟨_, _, _, upd_same, a0, a1, by decide, by decide⟩
theorem ok__law_take (T : Txt K mg) : FnOk P w K mg base CX0 1 T.f__law_take T.d__law_take ["store", "many"] sp__law_take := by
  refine T.F__law_take.ok sc__law_take (fun vs H Q E h => ?_) (fun cdv A outer s H vs Q E hr h => ?_)
  · obtain ⟨p, m, n, rfl, _⟩ := h
    rfl
  obtain ⟨p, m, n, rfl, ⟨x, f, t, hp, hf0, hf1, ht0, ht1⟩, hn, hm0, hm1, q⟩ := h
  refine ⟨_, (pss_cons (ps_if (pt_cmpR op_gt (pe_ix ix_list (pv 0) pe_int (fun _ _ => rfl)) pe_int (nomark _)) (pss_cons (ps_set (i := 2) sc__law_take.nd rfl (Or.inl rfl) (pe_op op_mod (pe_ix ix_list (pv 0) pe_int (fun _ _ => rfl)) (pv 1))) (pss_cons (ps_asg (pe_op op_fdivW (pe_ix ix_list (pv 0) pe_int (fun _ _ => rfl)) (pv 1)) (pg_sub (pv 0) pe_int set_list)) (pss_one (ps_ret (pv 2))))) pss_nil) (pss_cons (ps_asg (pe_op op_add (pe_ix ix_list (pv 0) pe_int (fun _ _ => rfl)) pe_int) (pg_sub (pv 0) pe_int set_list)) (pss_cons (ps_set (i := 3) sc__law_take.nd rfl (Or.inl rfl) (pe_op op_mod (pe_op op_mul (pe_op op_add (pe_ix ix_list (pv 0) pe_int (fun _ _ => rfl)) (pe_op op_mul pe_int (pe_ix ix_list (pv 0) pe_int (fun _ _ => rfl)))) pe_int) pe_int)) (pss_cons (ps_set (i := 3) sc__law_take.nd rfl (Or.inl rfl) (pe_op op_mod (pe_op op_mul (pv 3) (pv 3)) pe_int)) (pss_cons (ps_set (i := 3) sc__law_take.nd rfl (Or.inl rfl) (pe_op op_mod (pe_op op_mul (pe_op op_add (pv 3) (pe_op op_mul pe_int (pe_ix ix_list (pv 0) pe_int (fun _ _ => rfl)))) pe_int) pe_int)) (pss_one (ps_ret (pe_op op_mod (pe_op op_fdivW (pv 3) pe_int) (pv 1))))))))), ?_⟩
  have i0 : atI [V.int x, V.int f, V.int t] 0 = some (.int x) := atI_nat (j := 0) rfl
  have i1 : atI [V.int x, V.int f, V.int t] 1 = some (.int f) := atI_nat (j := 1) rfl
  have i2 : atI [V.int x, V.int f, V.int t] 2 = some (.int t) := atI_nat (j := 2) rfl
  refine ⟨_, rfl, p, _, 0, _, rfl, rfl, SqL.of hp, i0, _, _, rfl, rfl, _, rfl, ?_⟩
  refine ite2 (fun c => ?_) (fun c => ?_)
  · refine ⟨_, rfl, p, _, 0, _, rfl, rfl, SqL.of hp, i0, _, rfl, x, m, rfl, rfl, hm0, ?_⟩
    refine ⟨_, rfl, p, _, 0, _, rfl, rfl, SqL.of hp, i0, _, rfl, x, m, rfl, rfl, divW hm0 hm1, ?_⟩
    refine ⟨_, rfl, p, _, 0, 0, rfl, rfl, hp, rfl, ?_⟩
    refine ⟨_, rfl, q _ _ (Int.emod_nonneg _ (by omega)) (Int.emod_lt_of_pos _ hm0) Chg.upd ⟨_, _, _, upd_same, hf0, hf1, ht0, by omega⟩⟩
  · refine ⟨_, rfl, p, _, 2, _, rfl, rfl, SqL.of hp, i2, t, 1, rfl, rfl, ?_⟩
    refine ⟨_, rfl, p, _, 2, 2, rfl, rfl, hp, rfl, ?_⟩
    have hp' : (upd H p (.lst [V.int x, V.int f, V.int (t + 1)])) p = some (.lst [V.int x, V.int f, V.int (t + 1)]) := upd_same
    have j1 : atI [V.int x, V.int f, V.int (t + 1)] 1 = some (.int f) := atI_nat (j := 1) rfl
    have j2 : atI [V.int x, V.int f, V.int (t + 1)] 2 = some (.int (t + 1)) := atI_nat (j := 2) rfl
    refine ⟨_, rfl, p, _, 1, _, rfl, rfl, SqL.of hp', j1, _, rfl, p, _, 2, _, rfl, rfl, SqL.of hp', j2, 7919, t + 1, rfl, rfl, .inl ⟨by decide, by decide⟩, _, _, rfl, rfl, _, 48271, rfl, rfl, .inr ⟨by decide, by decide⟩, _, 2147483647, rfl, rfl, (by show (0 : Int) < 2147483647; decide), ?_⟩
    obtain ⟨M1, hM1, b0, b1⟩ : ∃ M1, (f + 7919 * (t + 1)) * 48271 % 2147483647 = M1 ∧ 0 ≤ M1 ∧ M1 < 2147483647 := ⟨_, rfl, Int.emod_nonneg _ (by decide), Int.emod_lt_of_pos _ (by decide)⟩
    refine ⟨_, rfl, _, rfl, M1, M1, congrArg V.int hM1, congrArg V.int hM1, .inl ⟨by omega, by omega⟩, _, 2147483629, rfl, rfl, (by show (0 : Int) < 2147483629; decide), ?_⟩
    obtain ⟨M2, hM2, d0, d1⟩ : ∃ M2, M1 * M1 % 2147483629 = M2 ∧ 0 ≤ M2 ∧ M2 < 2147483629 := ⟨_, rfl, Int.emod_nonneg _ (by decide), Int.emod_lt_of_pos _ (by decide)⟩
    refine ⟨_, rfl, _, rfl, p, _, 2, _, rfl, rfl, SqL.of hp', j2, 40692, t + 1, rfl, rfl, .inl ⟨by decide, by decide⟩, M2, _, congrArg V.int hM2, rfl, _, 69621, rfl, rfl, .inr ⟨by decide, by decide⟩, _, 2147483587, rfl, rfl, (by show (0 : Int) < 2147483587; decide), ?_⟩
    refine ⟨_, rfl, _, 8, rfl, rfl, divW (by decide) (by decide), _, rfl, _, m, rfl, rfl, hm0, ?_⟩
    exact q _ _ (Int.emod_nonneg _ (by omega)) (Int.emod_lt_of_pos _ hm0) Chg.upd ⟨_, _, _, upd_same, hf0, hf1, by omega, by omega⟩
end

mutual
inductive Dt (ok : Addr → Prop) (H : Hp) : V → PyData → Prop
  | non : Dt ok H .non .none
  | bl (b : Bool) : Dt ok H (.bl b) (.bool b)
  | int (i : Int) : Dt ok H (.int i) (.int i)
  | str (x : Str) : Dt ok H (.str x) (.str x)
  | dic {a : Addr} : H a = some (.dK []) → ok a → Dt ok H (.ref a) (.dict [])
  | lst {a : Addr} {xs : List V} {ds : List PyData} : H a = some (.lst xs) → ok a → xs.length ≤ 1000 → DtAll ok H xs ds → Dt ok H (.ref a) (.list ds)
  | tup {a : Addr} {xs : List V} {ds : List PyData} : H a = some (.tup xs) → ok a → xs.length ≤ 1000 → DtAll ok H xs ds → Dt ok H (.ref a) (.tuple ds)
inductive DtAll (ok : Addr → Prop) (H : Hp) : List V → List PyData → Prop
  | nil : DtAll ok H [] []
  | cons {v : V} {vs : List V} {d : PyData} {ds : List PyData} : Dt ok H v d → DtAll ok H vs ds → DtAll ok H (v :: vs) (d :: ds)
end
section
variable {ok ok' : Addr → Prop} {H H' : Hp} {K : PySem.W.Frag}
mutual
theorem Dt.imp (hk : ∀ b o, ok b → H b = some o → ok' b) (h : ∀ b o, ok b → H b = some o → H' b = some o) : ∀ {v : V} {d : PyData}, Dt ok H v d → Dt ok' H' v d
  | _, _, .non => .non
  | _, _, .bl b => .bl b
  | _, _, .int i => .int i
  | _, _, .str x => .str x
  | _, _, .dic e k => .dic (h _ _ k e) (hk _ _ k e)
  | _, _, .lst e k l r => .lst (h _ _ k e) (hk _ _ k e) l (DtAll.imp hk h r)
  | _, _, .tup e k l r => .tup (h _ _ k e) (hk _ _ k e) l (DtAll.imp hk h r)
theorem DtAll.imp (hk : ∀ b o, ok b → H b = some o → ok' b) (h : ∀ b o, ok b → H b = some o → H' b = some o) : ∀ {vs : List V} {ds : List PyData}, DtAll ok H vs ds → DtAll ok' H' vs ds
  | _, _, .nil => .nil
  | _, _, .cons a b => .cons (Dt.imp hk h a) (DtAll.imp hk h b)
end
theorem Dt.keep {v : V} {d : PyData} (x : Dt ok H v d) (h : ∀ b o, ok b → H b = some o → H' b = some o) : Dt ok H' v d := x.imp (fun _ _ k _ => k) h
theorem Dt.same {v : V} {d : PyData} (x : Dt ok H v d) (s : Same H H') : Dt ok H' v d := x.keep fun b o _ h => s b o h
theorem Dt.weak {v : V} {d : PyData} (x : Dt ok H v d) (h : ∀ b, ok b → ok' b) : Dt ok' H v d := x.imp (fun b _ k _ => h b k) fun _ _ _ e => e
theorem Dt.any {v : V} {d : PyData} (x : Dt ok H v d) : Dt (fun _ => True) H v d := x.weak fun _ _ => trivial
theorem Dt.off {w : Addr} {v : V} {d : PyData} (x : Dt ok H v d) (h : H w = none) : Dt (fun b => ok b ∧ b ≠ w) H v d := x.imp (fun _ _ k e => ⟨k, ne_of_none e h⟩) fun _ _ _ e => e
theorem DtAll.keep {vs : List V} {ds : List PyData} (x : DtAll ok H vs ds) (h : ∀ b o, ok b → H b = some o → H' b = some o) : DtAll ok H' vs ds := x.imp (fun _ _ k _ => k) h
theorem DtAll.same {vs : List V} {ds : List PyData} (x : DtAll ok H vs ds) (s : Same H H') : DtAll ok H' vs ds := x.keep fun b o _ h => s b o h
theorem DtAll.weak {vs : List V} {ds : List PyData} (x : DtAll ok H vs ds) (h : ∀ b, ok b → ok' b) : DtAll ok' H vs ds := x.imp (fun b _ k _ => h b k) fun _ _ _ e => e
mutual
theorem Dt.dp : ∀ {v : V} {d : PyData}, Dt ok H v d → d.canLay0 = true → Dp K H v d
  | _, _, .non, _ => .non
  | _, _, .bl b, _ => .bl b
  | _, _, .int i, _ => .int i
  | _, _, .str x, _ => .str x
  | _, _, .dic _ _, h => by simp [PyData.canLay0] at h
  | _, _, .lst e _ _ r, h => .lst (SqL.of e) (DtAll.dp r (by simpa only [PyData.canLay0] using h))
  | _, _, .tup e _ _ r, h => .tup (SqT.of e) (DtAll.dp r (by simpa only [PyData.canLay0] using h))
theorem DtAll.dp : ∀ {vs : List V} {ds : List PyData}, DtAll ok H vs ds → PyData.canLayAll0 ds = true → DpAll K H vs ds
  | _, _, .nil, _ => .nil
  | _, _, .cons a b, h => by
    simp only [PyData.canLayAll0, Bool.and_eq_true] at h
    exact .cons (Dt.dp a h.1) (DtAll.dp b h.2)
end
theorem DtAll.len : ∀ {vs : List V} {ds : List PyData}, DtAll ok H vs ds → vs.length = ds.length
  | _, _, .nil => rfl
  | _, _, .cons _ b => by simp only [List.length_cons, DtAll.len b]
theorem DtAll.getV : ∀ {vs : List V} {ds : List PyData} {i : Nat} {x : V}, DtAll ok H vs ds → vs[i]? = some x → ∃ d, ds[i]? = some d ∧ Dt ok H x d
  | _, _, 0, _, .cons a _, h => by cases h; exact ⟨_, rfl, a⟩
  | _, _, i + 1, _, .cons _ b, h => by
    rw [List.getElem?_cons_succ] at h
    obtain ⟨d, h1, h2⟩ := DtAll.getV b h
    exact ⟨d, by rw [List.getElem?_cons_succ]; exact h1, h2⟩
theorem DtAll.snoc : ∀ {vs : List V} {ds : List PyData} {v : V} {d : PyData}, DtAll ok H vs ds → Dt ok H v d → DtAll ok H (vs ++ [v]) (ds ++ [d])
  | _, _, _, _, .nil, y => .cons y .nil
  | _, _, _, _, .cons a b, y => .cons a (DtAll.snoc b y)
theorem dt_ints : ∀ xs : List Int, DtAll ok H (xs.map V.int) (xs.map PyData.int)
  | [] => .nil
  | x :: r => .cons (.int x) (dt_ints r)
theorem dt_intsL {a : Addr} {xs : List Int} (h : H a = some (.lst (xs.map V.int))) (k : ok a) (l : xs.length ≤ 1000) : Dt ok H (.ref a) (.list (xs.map PyData.int)) := .lst h k (by rw [List.length_map]; exact l) (dt_ints xs)
theorem dtAll_ints : ∀ {w : List Int} {vs : List V}, DtAll ok H vs (w.map PyData.int) → vs = w.map V.int
  | [], _, h => by cases h; rfl
  | x :: r, _, h => by
    cases h with
    | cons a b =>
      cases a
      rw [dtAll_ints b]
      rfl
theorem Dt.intsL {v : V} {w : List Int} (h : Dt ok H v (.list (w.map PyData.int))) : ∃ a, v = .ref a ∧ H a = some (.lst (w.map V.int)) ∧ ok a := by
  cases h with
  | lst e k l r =>
    rw [dtAll_ints r] at e
    exact ⟨_, rfl, e, k⟩
end
theorem layAll_mem {d : PyData} : ∀ {ds : List PyData}, PyData.canLayAll0 ds = true → d ∈ ds → d.canLay0 = true
  | x :: r, h, hm => by
    simp only [PyData.canLayAll0, Bool.and_eq_true] at h
    rcases List.mem_cons.mp hm with rfl | hm
    · exact h.1
    · exact layAll_mem h.2 hm
theorem depthAll_mem {d : PyData} : ∀ {ds : List PyData}, d ∈ ds → d.depth ≤ PyData.depthAll ds
  | x :: r, h => by
    simp only [PyData.depthAll]
    rcases List.mem_cons.mp h with rfl | h
    · omega
    · have := depthAll_mem h
      omega
theorem eqT {x y : V} {i : Decidable (x = y)} {A B : Prop} (h : x = y) (k : A) : if (@decide (x = y) i) = true then A else B := by
  rw [decide_eq_true h]
  exact iteT k
theorem eqF {x y : V} {i : Decidable (x = y)} {A B : Prop} (h : x ≠ y) (k : B) : if (@decide (x = y) i) = true then A else B := by
  rw [decide_eq_false h]
  exact iteF k
theorem noneOf {sp : Sp} {P : Program} {w : World} {K : PySem.W.Frag} {mg : Str → Option Value} {base : Heap} {f : Addr} {fd : FuncData} {ps : List Str} {k : Nat} (no : ∀ vs H Q E, ¬ sp vs H Q E) : FnOk P w K mg base CX0 k f fd ps sp :=
  ⟨fun vs H Q E h => absurd h (no vs H Q E), fun A outer s H args us vs Q E _ _ _ _ h => absurd h (no vs H Q E)⟩

abbrev nI (n : Nat) : V := .int (n : Int)
theorem nI_map (xs : List Nat) : xs.map nI = (xs.map fun n : Nat => (n : Int)).map V.int := by rw [List.map_map]; rfl
theorem tabsN_fr1 {TT : List NdefX.NTab} {H H' : Hp} {p : Addr} {xs : List V} (h : NdefX.TabsN TT H) (hp : H p = some (.lst xs)) (f : Fr p H H') : NdefX.TabsN TT H' := fun z hz => by
  obtain ⟨ps, h1, h2, h3⟩ := h z hz
  refine ⟨ps, f _ _ (fun e => by rw [e, hp] at h1; cases h1) h1, h2, fun pos cv hc => ?_⟩
  obtain ⟨c, e, h4⟩ := h3 pos cv hc
  exact ⟨c, e, f _ _ (fun e => by rw [e, hp] at h4; unfold LamX.CodeO at h4; cases h4) h4⟩
theorem CalX.imp2 {P : Program} {w : World} {K : PySem.W.Frag} {mg : Str → Option Value} {base : Heap} {k j : Nat} {f : Addr} {G G' : Hp → Prop} {np : Nat} {sp sp' : Sp} (C : CalX P w K mg base k f G np sp) (hk : k ≤ j) (hl : ∀ vs H Q E, sp' vs H Q E → vs.length = np) (hG : ∀ H, G' H → G H) (hs : ∀ vs H Q E, G' H → sp' vs H Q E → sp vs H Q E) : CalX P w K mg base j f G' np sp' :=
  ⟨hl, fun s H a b g => C.at_ s H a b (hG H g), fun A outer s H us vs Q E hr e0 g r q => C.run A outer s H us vs Q E (hr.mono hk) e0 (hG H g) r (hs _ _ _ _ g q)⟩

theorem concat_of {α : Type} {l : List α} (h : l ≠ []) : ∃ a b, l = a ++ [b] := ⟨l.dropLast, l.getLast h, (List.dropLast_concat_getLast h).symm⟩


def cnts (n : Nat) (xs : List Nat) : List Nat := (List.range n).map fun s => xs.count s
mutual
def St (fs : Nat → List Nat → Nat) (n : Nat) : Tr → Nat
  | .node c ks => fs c (cnts n (Sts fs n ks))
def Sts (fs : Nat → List Nat → Nat) (n : Nat) : List Tr → List Nat
  | [] => []
  | t :: r => St fs n t :: Sts fs n r
end
theorem Sts_map (fs : Nat → List Nat → Nat) (n : Nat) : ∀ ks : List Tr, Sts fs n ks = ks.map (St fs n)
  | [] => rfl
  | t :: r => by simp only [Sts, List.map_cons, Sts_map fs n r]
theorem count_cast (s : Nat) : ∀ xs : List Nat, (xs.map fun n : Nat => (n : Int)).count (s : Int) = xs.count s
  | [] => rfl
  | x :: r => by
    rw [List.map_cons, List.count_cons, List.count_cons, count_cast s r]
    by_cases e : x = s
    · subst e; simp
    · have : ¬ ((x : Int) = (s : Int)) := by omega
      simp [e, this]
def sp__numbers (K : PySem.W.Frag) : Sp := fun vs H Q _ => ∃ (b : Addr) (xs : List Nat) (n : Nat), vs = [.ref b, nI n] ∧ SqL K H b (xs.map nI) ∧ n ≤ 1000 ∧ ∀ r H', Same H H' → H r = none → H' r = some (.lst ((cnts n xs).map nI)) → Q (.ref r) H'
def sp_state_at (L : Str) (n : Nat) (fs : Nat → List Nat → Nat) : Sp := fun vs H Q _ => ∃ (c : Nat) (b : Addr) (cs : List Nat), vs = [.str (ch c), .ref b] ∧ c ∈ L.cps.toList ∧ cs.length = n ∧ (∀ x ∈ cs, x ≤ 1000000) ∧ H b = some (.lst (cs.map nI)) ∧ ∀ H', Same H H' → Q (nI (fs c cs)) H'
def sp_check_letters (K : PySem.W.Frag) : Sp := fun vs H Q _ => ∃ (a : Addr) (L : Str) (ws : List V) (ts : List Tr) (ok : Addr → Prop), vs = [.ref a, .str L] ∧ SqL K H a ws ∧ TrsAt ok H ws ts ∧ (∀ t ∈ ts, ∀ c ks, t = .node c ks → c ∈ L.cps.toList) ∧ ∀ H', Same H H' → Q .non H'
def sp_next_state (L : Str) (n : Nat) (fs : Nat → List Nat → Nat) (f p : Addr) (G : Hp → Prop) : List (Option V) → Sp := fun ws vs H Q _ => ∃ (c : Nat) (bl : Addr) (xs ds : List Nat), vs = [.str (ch c), .ref bl] ∧ ws = [some (.ref p), some (.ref f), some (nI n)] ∧ c ∈ L.cps.toList ∧ n ≤ 1000 ∧ xs.length ≤ 1000000 ∧ ds.length ≤ 1000000 ∧
  H bl = some (.lst (xs.map nI)) ∧ H p = some (.lst (ds.map nI)) ∧ (∀ H', Same H H' → G H') ∧ ∀ H', Fr p H H' → H' p = some (.lst ((ds ++ [fs c (cnts n xs)]).map nI)) → Q (nI (fs c (cnts n xs))) H'
def sp_states_upward (P : Program) (w : World) (K : PySem.W.Frag) (mg : Str → Option Value) (base : Heap) (TT : List NdefX.NTab) : Sp := fun vs H Q _ => ∃ (v : V) (t : Tr) (L : Str) (n : Nat) (f : Addr) (fs : Nat → List Nat → Nat), vs = [v, .str L, nI n, .ref f] ∧ TrAt (fun _ => True) H v t ∧ t.size ≤ 1000000 ∧
  t.lets (fun c => c ∈ L.cps.toList) ∧ n ≤ 1000 ∧ NdefX.TabsN TT H ∧ CalX P w K mg base 10 f (fun H' => LamX.ExtN H H') 2 (sp_state_at L n fs) ∧
  ∀ r H', LamX.ExtN H H' → NdefX.TabsN TT H' → H r = none → H' r = some (.lst ((t.post.map (St fs n)).map nI)) → Q (.ref r) H'
mutual
theorem lets_post {q : Nat → Prop} : ∀ t : Tr, t.lets q → ∀ u ∈ t.post, ∀ c ks, u = .node c ks → q c
  | .node c ks, h, u, hu, c', ks', e => by
    simp only [Tr.lets] at h
    simp only [Tr.post, List.mem_append, List.mem_singleton] at hu
    rcases hu with hu | hu
    · exact letss_post ks h.2 u hu c' ks' e
    · rw [hu] at e
      cases e
      exact h.1
theorem letss_post {q : Nat → Prop} : ∀ ts : List Tr, letss q ts → ∀ u ∈ posts ts, ∀ c ks, u = .node c ks → q c
  | [], _, u, hu, _, _, _ => by simp [posts] at hu
  | t :: r, h, u, hu, c', ks', e => by
    simp only [letss] at h
    simp only [posts, List.mem_append] at hu
    rcases hu with hu | hu
    · exact lets_post t h.1 u hu c' ks' e
    · exact letss_post r h.2 u hu c' ks' e
end
theorem Same.fr {H H' : Hp} {p : Addr} (s : Same H H') : Fr p H H' := Fr.same s
section
variable {P : Program} {w : World} {K : PySem.W.Frag} {mg : Str → Option Value} {base : Heap}
end

mutual
inductive NK (H : Hp) : NestedKey → V → Prop
  | int (i : Int) : NK H (.num i) (.int i)
  | text (x : Str) : NK H (.text x) (.str x)
  | tup {a : Addr} {vs : List V} {ks : List NestedKey} : H a = some (.tup vs) → NKs H ks vs → NK H (.tup ks) (.ref a)
inductive NKs (H : Hp) : List NestedKey → List V → Prop
  | nil : NKs H [] []
  | cons {k : NestedKey} {v : V} {ks : List NestedKey} {vs : List V} : NK H k v → NKs H ks vs → NKs H (k :: ks) (v :: vs)
end
section
variable {X : Cx} {pins : List (Addr × Obj)} {σ : L2.St} {H H' : Hp} {s : Shared}
mutual
theorem NK.is (I : Inv X pins σ H s) : ∀ {k : NestedKey} {v : V} {u : Value}, NK H k v → RelV v u → NestedIs s.heap k u
  | _, _, _, .int i, r => by
    obtain ⟨t, rfl⟩ := r
    exact .int i t
  | _, _, _, .text x, r => by
    obtain ⟨t, rfl⟩ := r
    exact .text x t
  | _, _, _, .tup h1 h2, r => by
    cases r
    obtain ⟨_, its, rv, o, e1, e2, n, e3⟩ := I.hok _ _ h1
    exact .tup e1 e2 e3 (by simpa using NKs.is I h2 rv)
theorem NKs.is (I : Inv X pins σ H s) : ∀ {ks : List NestedKey} {vs : List V} {us : List Value}, NKs H ks vs → Vals vs us → NestedAll s.heap ks us
  | _, _, _, .nil, r => by cases r; exact .nil
  | _, _, _, .cons a b, r => by
    cases r with
    | cons r1 r2 => exact .cons (NK.is I a r1) (NKs.is I b r2)
end
mutual
theorem NK.keep (f : ∀ b xs, H b = some (.tup xs) → H' b = some (.tup xs)) : ∀ {k : NestedKey} {v : V}, NK H k v → NK H' k v
  | _, _, .int i => .int i
  | _, _, .text x => .text x
  | _, _, .tup h1 h2 => .tup (f _ _ h1) (NKs.keep f h2)
theorem NKs.keep (f : ∀ b xs, H b = some (.tup xs) → H' b = some (.tup xs)) : ∀ {ks : List NestedKey} {vs : List V}, NKs H ks vs → NKs H' ks vs
  | _, _, .nil => .nil
  | _, _, .cons a b => .cons (NK.keep f a) (NKs.keep f b)
end
end
abbrev NRow := NestedKey × Addr × V
def DictN (P : Program) (w : World) (a : Addr) (xs : List NRow) : HO := .ext fun h => (a == sysModules) = false ∧ xs.length ≤ sizeLine ∧ ∃ us : List (NestedKey × Addr × Value), Paired (fun (p : NRow) (q : NestedKey × Addr × Value) => p.1 = q.1 ∧ p.2.1 = q.2.1 ∧ RelV p.2.2 q.2.2) xs us ∧
  ∃ o es ep, h.get? a = some o ∧ o.ExactDict ∧ o.data = .dict es ep ∧ es.toList = us.map (entryOfKey (nestedKind P w)) ∧ (us.map (·.1)).Nodup
theorem dictN_ok {P : Program} {w : World} {H : Hp} {h : Heap} {a : Addr} {xs : List NRow} (h1 : (a == sysModules) = false) (h2 : xs.length ≤ sizeLine) {us : List (NestedKey × Addr × Value)} (h3 : Paired (fun (p : NRow) (q : NestedKey × Addr × Value) => p.1 = q.1 ∧ p.2.1 = q.2.1 ∧ RelV p.2.2 q.2.2) xs us)
    (h4 : ∃ o es ep, h.get? a = some o ∧ o.ExactDict ∧ o.data = .dict es ep ∧ es.toList = us.map (entryOfKey (nestedKind P w)) ∧ (us.map (·.1)).Nodup) : ObjOk P w H h a (DictN P w a xs) :=
  ⟨⟨h1, h2, us, h3, h4⟩, (let ⟨o, _, _, e, _⟩ := h4; ⟨o, e⟩), fun _ _ ⟨b1, b2, us, b3, o, es, ep, e, r⟩ k => ⟨b1, b2, us, b3, o, es, ep, k o e, r⟩⟩
def RowsN (H : Hp) (xs : List NRow) : Prop := ∀ x ∈ xs, NK H x.1 (.ref x.2.1) ∧ x.1.depth ≤ 8
def atN (xs : List NRow) (k : NestedKey) : Option V := (xs.find? fun x => decide (x.1 = k)).map (·.2.2)
section
variable {X : Cx} {pins : List (Addr × Obj)} {σ : L2.St} {H : Hp} {s : Shared} {a : Addr} {xs : List NRow}
theorem dictN_of (I : Inv X pins σ H s) (h : H a = some (DictN X.prog X.w a xs)) (hk : RowsN H xs) : (a == sysModules) = false ∧ ∃ us : List (NestedKey × Addr × Value), Paired (fun (p : NRow) (q : NestedKey × Addr × Value) => p.1 = q.1 ∧ p.2.1 = q.2.1 ∧ RelV p.2.2 q.2.2) xs us ∧ s.heap.DictOfH (nestedKind X.prog X.w) a us := by
  obtain ⟨⟨h1, h2, us, h3, o, es, ep, e1, e2, e3, e4, e5⟩, _, _⟩ := I.hok _ _ h
  refine ⟨h1, us, h3, o, es, ep, e1, e2, e3, e4, fun u hu => ?_, e5⟩
  have : ∀ (xs : List NRow) (us : List (NestedKey × Addr × Value)), Paired (fun (p : NRow) (q : NestedKey × Addr × Value) => p.1 = q.1 ∧ p.2.1 = q.2.1 ∧ RelV p.2.2 q.2.2) xs us → RowsN H xs → ∀ u ∈ us, (nestedKind X.prog X.w).is s.heap u.1 u.2.1 := by
    intro xs us p
    induction p with
    | nil => intro _ u hu; cases hu
    | cons r t ih =>
      intro hk u hu
      rcases List.mem_cons.mp hu with rfl | hu
      · obtain ⟨n1, n2⟩ := hk _ List.mem_cons_self
        refine ⟨?_, ?_⟩
        · rw [← r.1, ← r.2.1]
          exact NK.is I n1 rfl
        · rw [← r.1]
          exact n2
      · exact ih (fun x hx => hk x (List.mem_cons_of_mem _ hx)) u hu
  exact this _ _ h3 hk u hu
def tDGetN (P : Program) (w : World) (td ty : TE) : TE := fun σ H Q => td σ H fun x H1 => ty σ H1 fun y H2 => ∃ (a b : Addr) (xs : List NRow) (k : NestedKey) (v : V), x = .ref a ∧ y = .ref b ∧ H2 a = some (DictN P w a xs) ∧ RowsN H2 xs ∧ NK H2 k (.ref b) ∧ k.depth ≤ 8 ∧ atN xs k = some v ∧ Q v H2
theorem atN_pairs {k : NestedKey} {xs : List NRow} {us : List (NestedKey × Addr × Value)} (p : Paired (fun (p : NRow) (q : NestedKey × Addr × Value) => p.1 = q.1 ∧ p.2.1 = q.2.1 ∧ RelV p.2.2 q.2.2) xs us) : (∃ v u, atN xs k = some v ∧ valueAt (pairsH us) k = some u ∧ RelV v u) ∨ (atN xs k = none ∧ valueAt (pairsH us) k = none) := by
  induction p with
  | nil => exact .inr ⟨rfl, rfl⟩
  | cons r t ih =>
    rename_i x u xs us
    by_cases e : x.1 = k
    · have e2 : u.1 = k := r.1.symm.trans e
      exact .inl ⟨x.2.2, u.2.2, by simp [atN, e], by simp [valueAt, pairsH, e2], r.2.2⟩
    · have e2 : ¬ u.1 = k := fun z => e (r.1.trans z)
      have a1 : atN (x :: xs) k = atN xs k := by simp [atN, List.find?_cons, e]
      have a2 : valueAt (pairsH (u :: us)) k = valueAt (pairsH us) k := by simp [valueAt, pairsH, List.find?_cons, e2]
      rw [a1, a2]
      exact ih
theorem pe_dgetN {o i : PySem.Expr} {td ty : TE} {pos : Pos} (hu : X.A.units + 9 < cLine) (ho : PE X o td) (hi : PE X i ty) (hs : NoSl i) : PE X (.Subscript o i pos) (tDGetN X.prog X.w td ty) := by
  refine ⟨fun pins s σ H Q I h => ?_⟩
  refine subD_of PySem.F.slot_dict_getitem.lookup hs (thn (ho.run pins s σ H _ I h) fun u s1 ⟨x, H1, I1, rx, q1⟩ => thn (hi.run pins s1 σ H1 _ I1 q1) fun iv s2 ⟨y, H2, I2, ry, a, b, xs, k, v, ex, ey, g, gr, gk, gd, ga, q2⟩ => ?_)
  subst ex ey
  cases rx
  cases ry
  obtain ⟨ha, us, hp, hm⟩ := dictN_of I2 g gr
  rcases atN_pairs (k := k) hp with ⟨v', uv, e1, e2, rv⟩ | ⟨e1, _⟩
  · have ev := Option.some.inj (e1.symm.trans ga)
    subst ev
    exact ⟨hm.typeIs, getItem_keyed (knd := nestedKind X.prog X.w) (show X.A.units + 1 + 8 < cLine by omega) ⟨NK.is I2 gk rfl, gd⟩ ⟨us, hm, rfl⟩ e2 ⟨_, H2, I2.tok _, rv, q2⟩⟩
  · rw [ga] at e1
    cases e1
def rInN (P : Program) (w : World) : R2 := fun y x H Q => ∃ (a b : Addr) (xs : List NRow) (k : NestedKey), x = .ref a ∧ y = .ref b ∧ H a = some (DictN P w a xs) ∧ RowsN H xs ∧ NK H k (.ref b) ∧ k.depth ≤ 8 ∧ Q (.bl (atN xs k).isSome) H
theorem op_inN (hu : X.A.units + 9 < cLine) : OpR X (compareOp .In) (rInN X.prog X.w) := by
  intro pins s σ H y x u iv Q I ry rx h
  obtain ⟨a, b, xs, k, rfl, rfl, g, gr, gk, gd, q⟩ := h
  cases rx
  cases ry
  obtain ⟨ha, us, hp, hm⟩ := dictN_of I g gr
  refine in_keyed (knd := nestedKind X.prog X.w) (show X.A.units + 1 + 8 < cLine by omega) ⟨NK.is I gk rfl, gd⟩ ha ⟨us, hm, rfl⟩ ?_
  rcases atN_pairs (k := k) hp with ⟨v', uv, e1, e2, _⟩ | ⟨e1, e2⟩
  · rw [e1] at q
    rw [e2]
    exact ⟨.bl true, H, I.tok _, rfl, q⟩
  · rw [e1] at q
    rw [e2]
    exact ⟨.bl false, H, I.tok _, rfl, q⟩
def rNotInN (P : Program) (w : World) : R2 := fun y x H Q => ∃ (a b : Addr) (xs : List NRow) (k : NestedKey), x = .ref a ∧ y = .ref b ∧ H a = some (DictN P w a xs) ∧ RowsN H xs ∧ NK H k (.ref b) ∧ k.depth ≤ 8 ∧ Q (.bl (!(atN xs k).isSome)) H
theorem op_notInN (hu : X.A.units + 9 < cLine) : OpR X (compareOp .NotIn) (rNotInN X.prog X.w) := by
  intro pins s σ H y x u iv Q I ry rx h
  obtain ⟨a, b, xs, k, rfl, rfl, g, gr, gk, gd, q⟩ := h
  cases rx
  cases ry
  obtain ⟨ha, us, hp, hm⟩ := dictN_of I g gr
  refine notIn_keyed (knd := nestedKind X.prog X.w) (show X.A.units + 1 + 8 < cLine by omega) ⟨NK.is I gk rfl, gd⟩ ha ⟨us, hm, rfl⟩ ?_
  rcases atN_pairs (k := k) hp with ⟨v', uv, e1, e2, _⟩ | ⟨e1, e2⟩
  · rw [e1] at q
    rw [e2]
    exact ⟨.bl false, H, I.tok _, rfl, q⟩
  · rw [e1] at q
    rw [e2]
    exact ⟨.bl true, H, I.tok _, rfl, q⟩
def storedN (xs : List NRow) (k : NestedKey) (b : Addr) (v : V) : List NRow := if (atN xs k).isSome then xs.map (fun x => if x.1 = k then (x.1, x.2.1, v) else x) else xs ++ [(k, b, v)]
abbrev RowsP (xs : List NRow) (us : List (NestedKey × Addr × Value)) : Prop := Paired (fun (p : NRow) (q : NestedKey × Addr × Value) => p.1 = q.1 ∧ p.2.1 = q.2.1 ∧ RelV p.2.2 q.2.2) xs us
theorem rows_map {k : NestedKey} {v : V} {u : Value} (rv : RelV v u) : ∀ {xs : List NRow} {us : List (NestedKey × Addr × Value)}, RowsP xs us → RowsP (xs.map (fun x => if x.1 = k then (x.1, x.2.1, v) else x)) (us.map (putAt k u))
  | _, _, .nil => .nil
  | x :: xs, y :: us, .cons r t => by
    refine .cons ?_ (rows_map rv t)
    show (if x.1 = k then (x.1, x.2.1, v) else x).1 = (putAt k u y).1 ∧ (if x.1 = k then (x.1, x.2.1, v) else x).2.1 = (putAt k u y).2.1 ∧ RelV (if x.1 = k then (x.1, x.2.1, v) else x).2.2 (putAt k u y).2.2
    unfold putAt
    by_cases e : x.1 = k
    · rw [if_pos e, if_pos (r.1.symm.trans e)]
      exact ⟨r.1, r.2.1, rv⟩
    · rw [if_neg e, if_neg (fun z => e (r.1.trans z))]
      exact r
theorem rows_app {k : NestedKey} {b : Addr} {v : V} {u : Value} (rv : RelV v u) : ∀ {xs : List NRow} {us : List (NestedKey × Addr × Value)}, RowsP xs us → RowsP (xs ++ [(k, b, v)]) (us ++ [(k, b, u)])
  | _, _, .nil => .cons ⟨rfl, rfl, rv⟩ .nil
  | _ :: _, _ :: _, .cons r t => .cons r (rows_app rv t)
theorem stored_pairs {k : NestedKey} {b : Addr} {v : V} {u : Value} (rv : RelV v u) {xs : List NRow} {us : List (NestedKey × Addr × Value)} (p : Paired (fun (p : NRow) (q : NestedKey × Addr × Value) => p.1 = q.1 ∧ p.2.1 = q.2.1 ∧ RelV p.2.2 q.2.2) xs us) :
    Paired (fun (p : NRow) (q : NestedKey × Addr × Value) => p.1 = q.1 ∧ p.2.1 = q.2.1 ∧ RelV p.2.2 q.2.2) (storedN xs k b v) (storedH us k b u) := by
  have hs : (atN xs k).isSome = (atKey us k).isSome := by
    have e : valueAt (pairsH us) k = (atKey us k).map (·.2) := valueAt_pairsH us k
    rcases atN_pairs (k := k) p with ⟨v', u', e1, e2, _⟩ | ⟨e1, e2⟩
    · rw [e1]
      rw [e2] at e
      cases h : atKey us k with
      | none => rw [h] at e; cases e
      | some _ => rfl
    · rw [e1]
      rw [e2] at e
      cases h : atKey us k with
      | none => rfl
      | some _ => rw [h] at e; cases e
  unfold storedN storedH
  rw [hs]
  split
  · exact rows_map rv p
  · exact rows_app rv p
theorem storedN_len (xs : List NRow) (k : NestedKey) (b : Addr) (v : V) : (storedN xs k b v).length ≤ xs.length + 1 := by
  unfold storedN
  split
  · rw [List.length_map]; omega
  · rw [List.length_append]; exact Nat.le_refl _
def sDPutN (P : Program) (w : World) (td ty tv : TE) : TS := fun D σ H => tv σ H fun v H1 => td σ H1 fun x H2 => ty σ H2 fun y H3 => ∃ (a b : Addr) (xs : List NRow) (k : NestedKey), x = .ref a ∧ y = .ref b ∧ H3 a = some (DictN P w a xs) ∧ RowsN H3 xs ∧ NK H3 k (.ref b) ∧ k.depth ≤ 8 ∧ xs.length < sizeLine ∧ D.nx σ (upd H3 a (DictN P w a (storedN xs k b v)))
theorem ps_dputN {o i value : PySem.Expr} {td ty tv : TE} {pos pos' : Pos} (hu : X.A.units + 9 < cLine) (ho : PE X o td) (hi : PE X i ty) (hv : PE X value tv) (hs : swapsWith value (some (.Subscript o i pos')) pos.line X.env = pure false) :
    PS X (.Assign [.Subscript o i pos'] value pos) (sDPutN X.prog X.w td ty tv) := by
  refine ⟨fun pins s σ H D I h => ?_⟩
  refine wpAny_Assign_Subscript (thn (hv.run pins s σ H _ I h) fun r s1 ⟨v, H1, I1, rv, q1⟩ => thn (ho.run pins s1 σ H1 _ I1 q1) fun u s2 ⟨x, H2, I2, rx, q2⟩ => thn (hi.run pins s2 σ H2 _ I2 q2) fun iv s3 ⟨y, H3, I3, ry, a, b, xs, k, ex, ey, g, gr, gk, gd, gz, q3⟩ => ?_) hs
  subst ex ey
  cases rx
  cases ry
  obtain ⟨ha, us, hp, hm⟩ := dictN_of I3 g gr
  have hl : us.length ≤ sizeLine := by rw [← Paired.length hp]; omega
  refine wpAny_setItem_heap (knd := nestedKind X.prog X.w) (hsz := hl) (show X.A.units + 1 + 8 < cLine by omega) ⟨NK.is I3 gk rfl, gd⟩ hm fun h' hm' sb => ?_
  obtain ⟨ob, es, ep, e1, e2, e3, e4, _, e5⟩ := hm'
  have hz : (storedN xs k b v).length ≤ sizeLine := by have := storedN_len xs k b v; omega
  exact ⟨σ, _, d_write I3 (by rw [g]; exact True.intro) sb ⟨ob, e1⟩ (dictN_ok ha hz (stored_pairs rv hp) ⟨ob, es, ep, e1, e2, e3, e4, e5⟩), q3⟩
theorem pe_dnewN {pos : Pos} : PE X (.Dict [] [] pos) (fun _ H Q => ∀ p, H p = none → Q (.ref p) (upd H p (DictN X.prog X.w p []))) := ⟨fun pins s σ H Q I h =>
  wpAny_Dict_empty ⟨.ref s.heap.objs.size, _, I.laid (a := s.heap.objs.size) (o := DictN X.prog X.w s.heap.objs.size []) (t' := s.toks) (fun _ _ q => Heap.get?_push_of_some _ q) (Nat.le_refl _)
    (dictN_ok (beq_eq_false_iff_ne.mpr (Ne.symm (Nat.ne_of_lt I.big))) (Nat.zero_le _) .nil ⟨_, #[], 0, Heap.get?_push_size _ rfl, ⟨rfl, rfl, rfl⟩, rfl, rfl, List.nodup_nil⟩), rfl, h _ (I.hok.fresh (Nat.le_refl _))⟩⟩
end
theorem frzN {X : Cx} {pins : List (Addr × Obj)} {σ : L2.St} {H : Hp} {s : Shared} {a : Addr} {o : Obj} {xs : List NRow} (I : Inv X pins σ H s) (h : H a = some (.frz o (DictN X.prog X.w a xs))) :
    (a == sysModules) = false ∧ s.heap.get? a = some o ∧ o.ExactDict ∧ ∃ (es : Array DictEntry) (ep : Nat), o.data = .dict es ep ∧ es.size = xs.length ∧ ∀ (i : Nat) (row : NRow), xs[i]? = some row → ∃ en : DictEntry, es[i]? = some en ∧ en.key = Value.ref row.2.1 ∧ RelV row.2.2 en.val := by
  obtain ⟨hg, ⟨h1, h2, us, h3, o2, es, ep, e1, e2, e3, e4, e5⟩, _, _⟩ := I.hok _ _ h
  have eo : o2 = o := Option.some.inj (e1.symm.trans hg)
  subst eo
  have hl : us.length = es.size := by
    have := congrArg List.length e4
    rw [List.length_map, Array.length_toList] at this
    exact this.symm
  refine ⟨h1, hg, e2, es, ep, e3, by rw [← hl]; exact (Paired.length h3).symm, fun i row hr => ?_⟩
  have : ∀ (xs : List NRow) (us : List (NestedKey × Addr × Value)), RowsP xs us → ∀ (i : Nat) (row : NRow), xs[i]? = some row → ∃ u : NestedKey × Addr × Value, us[i]? = some u ∧ u.2.1 = row.2.1 ∧ RelV row.2.2 u.2.2 := by
    intro xs us p
    induction p with
    | nil => intro i row h; cases h
    | cons r t ih =>
      intro i row h
      cases i with
      | zero => cases h; exact ⟨_, rfl, r.2.1.symm, r.2.2⟩
      | succ i => exact ih i row (by simpa using h)
  obtain ⟨u, hu, k1, k2⟩ := this _ _ h3 i row hr
  refine ⟨entryOfKey (nestedKind X.prog X.w) u, ?_, by show Value.ref u.2.1 = _; rw [k1], k2⟩
  rw [← Array.getElem?_toList, e4, List.getElem?_map, hu]
  rfl
def ItkN (P : Program) (w : World) (d : Addr) (o : Obj) (xs : List NRow) : It :=
  ⟨fun i H => H d = some (.frz o (DictN P w d xs)) ∧ i < xs.length, fun i H x H' => H' = H ∧ ∃ row, xs[i]? = some row ∧ x = .ref row.2.1, fun i H => H d = some (.frz o (DictN P w d xs)) ∧ xs.length ≤ i⟩
theorem turn_keysN {P : Program} {w : World} {K : PySem.W.Frag} {tg : PySem.Expr} {d : Addr} {o : Obj} {es : Array DictEntry} {ep : Nat} {xs : List NRow} (it : Addr) (hod : o.data = .dict es ep) : Turn P w K tg (ItkN P w d o xs) [it] it (fun i h => h.IsKeyIter it d i xs.length ep) where
  mem := List.mem_singleton.mpr rfl
  obj := by
    intro i h st b hb
    cases List.mem_singleton.mp hb
    obtain ⟨x, e, c, dd⟩ := st
    exact ⟨x, e, fun v z => by rw [dd] at z; cases z⟩
  keep := by
    intro i h h' st k
    exact st.at fun x e => k it (List.mem_singleton.mpr rfl) x e
  item := by
    intro X hP hw hK hc i pins s σ H E I hf st hg
    subst hP hw hK
    obtain ⟨hd, hi⟩ := hg
    obtain ⟨z0, z1, z2, z3, z4, z5⟩ := hf it (List.mem_singleton.mpr rfl)
    obtain ⟨hs, hgd, hx, es2, ep2, hdt, hsz, ent⟩ := frzN I hd
    obtain ⟨rfl, rfl⟩ := dict_ep hod hdt
    obtain ⟨row, hrow⟩ : ∃ row, xs[i]? = some row := ⟨_, List.getElem?_eq_getElem hi⟩
    obtain ⟨en, hen, hkey, _⟩ := ent i row hrow
    refine next_key_item st hgd hdt hsz hen fun h' st' sb => ?_
    have J : Inv X pins σ H { s with heap := h' } := I.turned (t' := s.toks) (fun b ob hb e => (sb.2 b hb).trans e) z0 z1 z3 z4 z5
    obtain ⟨x, e, c, dd⟩ := id st'
    exact ⟨en.key, rfl, go_of (s := { s with heap := h' }) e c dd (by decide) ⟨.ref row.2.1, H, J, hkey, ⟨rfl, row, hrow, rfl⟩, st', fun b hb => (hf b hb).1⟩⟩
  done := by
    intro X hP hw hK hc i pins s σ H E I hf st hg
    subst hP hw hK
    obtain ⟨hd, hi⟩ := hg
    obtain ⟨z0, z1, z2, z3, z4, z5⟩ := hf it (List.mem_singleton.mpr rfl)
    obtain ⟨hs, hgd, hx, es2, ep2, hdt, hsz, ent⟩ := frzN I hd
    obtain ⟨rfl, rfl⟩ := dict_ep hod hdt
    exact next_key_end (I.ok.hd hc) st hgd hdt hsz hi fun h' eb => ⟨rfl, I.turned (t' := s.toks) (fun b ob hb e => eb b ob hb e) z0 z1 z3 z4 z5⟩
  self := fun A i s Q E st h => wpAny_pyIter_keyiter st h
def iKeysN (P : Program) (w : World) (td : TE) : TI := fun σ H R => td σ H fun x H1 => ∃ d o xs, x = .ref d ∧ H1 d = some (.frz o (DictN P w d xs)) ∧ R (ItkN P w d o xs) H1
theorem pi_keysN {X : Cx} {tg e : PySem.Expr} {td : TE} (he : PE X e td) : PI X tg e (iKeysN X.prog X.w td) := by
  refine ⟨fun pins s σ H R I h => ?_⟩
  refine thn (he.run pins s σ H _ I h) fun u s1 ⟨x, H1, I1, rx, d, o, xs, ex, hd, q⟩ => ?_
  subst ex
  cases rx
  obtain ⟨hs, hgd, hx, es, ep, hdt, hsz, ent⟩ := frzN I1 hd
  refine iter_keys hs hgd hx hdt (pi_one (tk := s1.toks) I1 _ (turn_keysN _ hdt) ⟨_, Heap.get?_push_size _ rfl, rfl, ?_⟩ q)
  rw [hsz] <;> rfl
theorem walk_keysN {P : Program} {w : World} {d : Addr} {o : Obj} {xs : List NRow} : Walk (ItkN P w d o xs) xs.length (fun H => H d = some (.frz o (DictN P w d xs))) (fun i H x H' => H' = H ∧ ∃ row, xs[i]? = some row ∧ x = .ref row.2.1) :=
  ⟨fun _ _ hi q => ⟨q, hi⟩, fun _ q => ⟨q, Nat.le_refl _⟩, fun _ _ _ _ _ _ y => y⟩
theorem roomN {k : Nat} {A : Around} (r : Room k A) : A.units + 9 < cLine := by have := r.un; omega
theorem call_lenN {X : Cx} : CallR X (.builtin "len") (fun xs H Q => ∃ (a : Addr) (rows : List NRow), xs = [.ref a] ∧ H a = some (DictN X.prog X.w a rows) ∧ RowsN H rows ∧ Q (.int (rows.length : Nat)) H) := by
  intro pins s σ H xs us Q I r h
  obtain ⟨a, rows, rfl, g, gr, q⟩ := h
  have hz : rows.length ≤ sizeLine := by
    obtain ⟨⟨_, h2, _⟩, _, _⟩ := I.hok _ _ g
    exact h2
  cases r with
  | cons r1 r2 =>
    cases r2
    cases r1
    obtain ⟨ha, us, hp, hm⟩ := dictN_of I g gr
    have hl : (pairsH us).length = rows.length := by
      rw [pairsH_length]
      exact (Paired.length hp).symm
    refine PyProof.Rows.call_len_slot (n := (pairsH us).length) hm.typeIs PySem.F.slot_dict_len (fun Q' hq => len_keyed (knd := nestedKind X.prog X.w) ha ⟨us, hm, rfl⟩ hq) (by omega) (by rw [hl]; rw [sizeLine_eq] at hz; omega) ?_
    rw [hl]
    exact ⟨.int _, H, I.tok _, ⟨_, rfl⟩, q⟩

def ItiN (P : Program) (w : World) (d : Addr) (o : Obj) (xs : List NRow) : It :=
  ⟨fun n H => H d = some (.frz o (DictN P w d xs)) ∧ n < xs.length, fun n H v H' => ∃ (p : Addr) (row : NRow), xs[n]? = some row ∧ v = .ref p ∧ H p = none ∧ H' = upd H p (.tup [.ref row.2.1, row.2.2]), fun n H => H d = some (.frz o (DictN P w d xs)) ∧ xs.length ≤ n⟩
theorem turn_itemsN {P : Program} {w : World} {K : PySem.W.Frag} {parts : List PySem.Expr} {many : Nat} {at_ : Pos} {d : Addr} {o : Obj} {es : Array DictEntry} {ep : Nat} {xs : List NRow} (it : Addr) (hod : o.data = .dict es ep) :
    Turn P w K (.Tuple parts many at_) (ItiN P w d o xs) [it] it (fun n h => ∃ x y, IsItemIter h it d n xs.length ep x y) where
  mem := List.mem_singleton.mpr rfl
  obj := by
    rintro n h ⟨x, y, e⟩ b hb
    cases List.mem_singleton.mp hb
    exact ⟨_, e, fun v z => nomatch z⟩
  keep := by
    rintro n h h' ⟨x, y, e⟩ k
    exact ⟨x, y, k it (List.mem_singleton.mpr rfl) _ e⟩
  item := by
    rintro X rfl rfl rfl calm n pins s σ H E I free ⟨x, y, here⟩ ⟨hd, more⟩
    obtain ⟨sys, got, exact_, es2, ep2, hdt, hsz, ent⟩ := frzN I hd
    obtain ⟨rfl, rfl⟩ := dict_ep hod hdt
    obtain ⟨row, hrow⟩ : ∃ row, xs[n]? = some row := ⟨_, List.getElem?_eq_getElem more⟩
    obtain ⟨en, hen, hkey, hval⟩ := ent n row hrow
    rw [← hsz] at here more
    have een : es2[n] = en := by
      have := List.getElem?_eq_some_iff.mp (show es2.toList[n]? = some en by rw [Array.getElem?_toList]; exact hen)
      simpa using this.2
    have low : it < s.heap.objs.size := Heap.lt_size here
    refine DT.nextI here ⟨o, got, exact_, hdt⟩ more fun h1 out tup _ stays => ?_
    refine ⟨_, rfl, wpAny_letOwnedTupleGo_items (s := { s with heap := h1 }) out fun h2 back but => ?_⟩
    rw [een] at tup back
    have tup2 : h2.get? s.heap.objs.size = some { cls := .type "tuple", data := .seq #[en.key, en.val] } := (but.2 _ (Nat.ne_of_gt low)).trans tup
    have made : ObjOk X.prog X.w (upd H s.heap.objs.size (.tup [.ref row.2.1, row.2.2])) h2 s.heap.objs.size (.tup [.ref row.2.1, row.2.2]) :=
      ⟨by show 2 ≤ sizeLine; decide, [en.key, en.val], .cons hkey (.cons hval .nil), _, tup2, rfl, _, rfl⟩
    have J : Inv X pins σ (upd H s.heap.objs.size (.tup [.ref row.2.1, row.2.2])) { s with heap := h2 } :=
      I.turnedNew (t' := s.toks) (ch := [it]) (fun b ob hb e => by
        have ne : b ≠ it := fun z => hb (by rw [z]; exact List.mem_singleton.mpr rfl)
        exact (but.2 b ne).trans (stays b ob ne e)) free (Nat.le_refl _) made
    refine ⟨.ref s.heap.objs.size, _, J, rfl, ⟨_, row, hrow, rfl, I.hok.fresh (Nat.le_refl _), rfl⟩, ⟨en.key, en.val, ?_⟩, fun b hb => ?_⟩
    · rw [← hsz]
      exact back
    · cases List.mem_singleton.mp hb
      rw [upd_ne (Nat.ne_of_lt low)]
      exact (free it (List.mem_singleton.mpr rfl)).1
  done := by
    rintro X rfl rfl rfl calm n pins s σ H E I free ⟨x, y, here⟩ ⟨hd, over⟩
    obtain ⟨z0, z1, z2, z3, z4, z5⟩ := free it (List.mem_singleton.mpr rfl)
    obtain ⟨sys, got, exact_, es2, ep2, hdt, hsz, _⟩ := frzN I hd
    obtain ⟨rfl, rfl⟩ := dict_ep hod hdt
    rw [← hsz] at here over
    exact DT.endI (I.ok.hd calm) here ⟨o, got, exact_, hdt⟩ over fun h' eb => ⟨rfl, I.turned (t' := s.toks) (fun b ob hb e => eb b ob hb e) z0 z1 z3 z4 z5⟩
  self := fun A i s Q E st h => let ⟨_, _, e⟩ := st; PySem.W.kcp_self e h
def iItemsN (P : Program) (w : World) (td : TE) : TI := fun σ H R => td σ H fun x H1 => ∃ d o xs, x = .ref d ∧ H1 d = some (.frz o (DictN P w d xs)) ∧ R (ItiN P w d o xs) H1
theorem pi_itemsN {X : Cx} {e : PySem.Expr} {td : TE} {parts : List PySem.Expr} {many : Nat} {at_ at1 at2 : Pos} (he : PE X e td) (base : attributeBase e "items" X.env (eval e X.env) = eval e X.env := by rfl) (line : (at1.endLine == at2.line) = true := by rfl) :
    PI X (.Tuple parts many at_) (.Call (.Attribute e "items" at1) [] [] at2) (iItemsN X.prog X.w td) := by
  refine ⟨fun pins s σ H R I h => wpAny_Call_method (T := "dict") (id := "dict.items") base rfl line F.plainAttrs_dict F.slot_dict_items F.type_dict_items (thn (he.run pins s σ H _ I h) ?_)⟩
  rintro u s1 ⟨x, H1, I1, rx, d, o, xs, rfl, hd, q⟩
  obtain rfl : u = Value.ref d := rx
  obtain ⟨sys, got, exact_, es, ep, hdt, hsz, _⟩ := frzN I1 hd
  have raw : DT.Raw s1.heap d es ep := ⟨o, got, exact_, hdt⟩
  refine ⟨raw.typeIs, (fun a e => by cases e; exact ⟨o, got, exact_.2.1⟩), ?_⟩
  have I2 : Inv X pins σ H1 { s1 with heap := s1.heap.push { cls := .type "dict_items", data := .fields #[.ref d] } } := I1.kept (t' := s1.toks) fun b ob z => Heap.get?_push_of_some _ z
  have go : wpAny (model X.prog X.w) X.A (pyIter (.ref s1.heap.objs.size)) (PIE X pins σ (.Tuple parts many at_) R) X.xe { s1 with heap := s1.heap.push { cls := .type "dict_items", data := .fields #[.ref d] } } := by
    refine DT.iterI (d := d) (es := es) (ep := ep) ⟨_, Heap.get?_push_size _ rfl, rfl, rfl⟩ (raw.push _) (pi_one (tk := s1.toks) I2 _ (turn_itemsN _ hdt) ⟨.none, .none, ?_⟩ q)
    rw [← hsz]
    exact Heap.get?_push_size _ rfl
  show wpAny _ _ (callWith at2 (.builtin "dict.items") [.ref d] [] []) _ X.xe s1
  exact method_meetsIn F.slot_dict_items F.entry_dict_items rfl (PySem.evalArgs_none ⟨rfl, raw.typeIs, F.args_dict_items_1 _, _, DT.meetsItems (es := es) (ep := ep) sys, raw, go⟩)
theorem walk_itemsN {P : Program} {w : World} {d : Addr} {o : Obj} {xs : List NRow} : Walk (ItiN P w d o xs) xs.length (fun H => H d = some (.frz o (DictN P w d xs))) (fun i H x H' => ∃ (p : Addr) (row : NRow), xs[i]? = some row ∧ x = .ref p ∧ H p = none ∧ H' = upd H p (.tup [.ref row.2.1, row.2.2])) :=
  ⟨fun _ _ hi q => ⟨q, hi⟩, fun _ q => ⟨q, Nat.le_refl _⟩, fun _ _ _ _ _ _ y => y⟩
def rIsN (P : Program) (w : World) (K : PySem.W.Frag) : List V → Hp → VK → Prop := fun xs H Q => ∃ (a : Addr) (rows : List NRow) (y : V) (u : Value) (b : Bool), xs = [.ref a, y] ∧ H a = some (DictN P w a rows) ∧ ClsV y u ∧ PySem.W.kitOne K (.type "dict") u = some b ∧ Q (.bl b) H
theorem call_isN {X : Cx} : CallR X (.builtin "isinstance") (rIsN X.prog X.w X.K) := by
  rintro pins s σ H _ us Q I r ⟨a, rows, y, u, b, rfl, ha, hy, hk, q⟩
  obtain ⟨_, u2, rfl, r1, r2⟩ := vals2 r
  obtain rfl := hy.eq r2
  cases r1
  obtain ⟨⟨_, _, _, _, o, _, _, e1, e2, _⟩, _, _⟩ := I.hok a _ ha
  exact PySem.W.kia_one PySem.W.kitx_dict I.kIn ⟨o, e1, e2.1⟩ hk (fun z => nomatch z) fun tk => ⟨.bl b, H, I.tok tk, rfl, q⟩

abbrev InBlk (X : Cx) (scope : PySem.Scope) (F : Cx → Prop) : Prop := ∀ (s : Shared) (H : Hp) (C : Addr) (cl : List (Str × Addr)) (fp : List Addr), F (X.blk s H scope (compEnvC scope cl C X.env) fp)
def tDcN (P : Program) (w : World) (wi : TI) (g : TG) (tt : TT) (tk tv : TE) (vs : List Nat) : TE := fun σ H Q => wi σ H fun J H1 => ∀ D, H1 D = none → ∃ W : Nat → Nat → Hp → Prop, (∃ m, W 0 m (upd H1 D (DictN P w D []))) ∧ ∀ n m H, W n m H →
  ((J.stop n H ∧ Q (.ref D) H) ∨ (J.go n H ∧ ∃ Nx : Hp → Prop, (∀ H', Nx H' → ∃ less, less < m ∧ W (n + 1) less H') ∧ ∀ x H', J.yld n H x H' → g x (wipe σ vs) H' fun σ2 H2 => wipe σ2 vs = wipe σ vs ∧ tt σ2 H2 fun yes H3 =>
    if yes = true then tk σ2 H3 fun y H4 => tv σ2 H4 fun z H5 => ∃ (xs : List NRow) (k : NestedKey) (b : Addr), y = .ref b ∧ H5 D = some (DictN P w D xs) ∧ RowsN H5 xs ∧ NK H5 k (.ref b) ∧ k.depth ≤ 8 ∧ xs.length < sizeLine ∧ Nx (upd H5 D (DictN P w D (storedN xs k b z))) else Nx H3))
section
variable {X : Cx} {pins : List (Addr × Obj)} {σ : L2.St} {H : Hp} {s : Shared}
theorem put_rowN {D b : Addr} {xs : List NRow} {k : NestedKey} {z : V} {r : Value} {E : Value → Shared → Prop} {Q : Unit → Shared → Prop} (hu : X.A.units + 9 < cLine) (I : Inv X pins σ H s) (hD : H D = some (DictN X.prog X.w D xs)) (hr : RowsN H xs) (hk : NK H k (.ref b)) (hd : k.depth ≤ 8) (hz : xs.length < sizeLine) (rv : RelV z r)
    (h : ∀ s', Inv X pins σ (upd H D (DictN X.prog X.w D (storedN xs k b z))) s' → Q () s') : wpAny (model X.prog X.w) X.A (dictSet D (.ref b) r) Q E s := by
  obtain ⟨hs, us, hp, hm⟩ := dictN_of I hD hr
  have hl : us.length ≤ sizeLine := by rw [← Paired.length hp]; omega
  refine wpAny_dictSet_heap (knd := nestedKind X.prog X.w) (hsz := hl) (show X.A.units + 8 < cLine by omega) ⟨NK.is I hk rfl, hd⟩ hm fun h' hm' but => h _ ?_
  obtain ⟨ob, es, ep, e1, e2, e3, e4, _, e5⟩ := hm'
  have fits : (storedN xs k b z).length ≤ sizeLine := by have := storedN_len xs k b z; omega
  exact d_write I (by rw [hD]; exact True.intro) but ⟨ob, e1⟩ (dictN_ok hs fits (stored_pairs rv hp) ⟨ob, es, ep, e1, e2, e3, e4, e5⟩)
theorem pe_dcN {kx vx tg iter : PySem.Expr} {ifs : List PySem.Expr} {scope : PySem.Scope} {own : List (Str × Nat)} {pos : Pos} {wi : TI} {g : TG} {tt : TT} {tk tv : TE} (hu : X.A.units + 9 < cLine) (calm : X.calm = true) (nd : X.N.Nodup) (hi : PI X tg iter wi) (ok : BlkOk X.N X.env.scope scope own)
    (hg : InBlk X scope fun Y => PG Y tg g) (ht : InBlk X scope fun Y => PTs Y ifs tt) (hk : InBlk X scope fun Y => PE Y kx tk) (he : InBlk X scope fun Y => PE Y vx tv) (plain : ∀ x, foldedSetIterable iter X.env x = pure x := by intro _; rfl) :
    PE X (.DictComp kx vx [⟨tg, iter, ifs, 0⟩] scope pos) (tDcN X.prog X.w wi g tt tk tv (own.map (·.2))) := by
  refine ⟨fun pins s σ H Q I h => ?_⟩
  rw [arm_eval_DictComp]
  have known : ∀ y ∈ scope.names, y.2 = .free → ∃ c, X.env.cells.lookup y.1 = some c := fun y hy e => (ok.free y hy e).elim (fun k => I.ok.has _ (.inl k)) (fun k => I.ok.has _ (.inr k))
  refine wpAny_comprehension_free (use := none) rfl plain (closure_ok known) ok.kind (fun y hy e => by rw [ok.uniq y hy, e]) (thn (hi.run pins s σ H _ I h) fun _ t1 a1 => thn a1 fun _ t2 a2 => ?_)
  obtain ⟨it, fp, tn, J, H2, rfl, I2, T, st2, apart, q⟩ := a2
  refine wpAny_newObj_type (newEnv_comp ?_)
  obtain ⟨W, ⟨m0, w0⟩, turn⟩ := q _ (I2.hok.fresh (Nat.le_refl _))
  have nsys : (t2.heap.objs.size == sysModules) = false := beq_eq_false_iff_ne.mpr (Ne.symm (Nat.ne_of_lt I2.big))
  have I3 : Inv X pins σ (upd H2 t2.heap.objs.size (DictN X.prog X.w t2.heap.objs.size [])) { t2 with heap := t2.heap.push { cls := .type "dict", data := .dict #[] } } :=
    I2.laid (t' := t2.toks) (fun _ _ z => Heap.get?_push_of_some _ z) (Nat.le_refl _) (dictN_ok nsys (Nat.zero_le _) .nil ⟨_, #[], 0, Heap.get?_push_size _ rfl, ⟨rfl, rfl, rfl⟩, rfl, rfl, List.nodup_nil⟩)
  have ahead : ∀ b ∈ fp, b < t2.heap.objs.size := fun b hb => let ⟨_, z, _⟩ := T.obj _ _ st2 b hb; Heap.lt_size z
  generalize e3 : ({ t2 with heap := t2.heap.push { cls := .type "dict", data := .dict #[] } } : Shared) = t3 at I3
  have h3 : t3.heap = t2.heap.push { cls := .type "dict", data := .dict #[] } := by rw [← e3]
  have fp3 : ∀ b ∈ fp, FpOk X pins (upd H2 t2.heap.objs.size (DictN X.prog X.w t2.heap.objs.size [])) b ∧ b < t3.heap.objs.size := fun b hb => by
    refine ⟨⟨?_, (apart b hb).2⟩, ?_⟩
    · rw [upd_ne (Nat.ne_of_lt (ahead b hb))]
      exact (apart b hb).1
    · rw [h3, Heap.size_push]
      exact Nat.lt_succ_of_lt (ahead b hb)
  have st3 : tn 0 t3.heap := T.keep _ _ _ st2 fun b _ o z => by rw [h3]; exact Heap.get?_push_of_some _ z
  have I4 := block_start I3 ok nd fp3
  generalize eD : t2.heap.objs.size = D at *
  generalize eH : upd H2 D (DictN X.prog X.w D []) = H3 at *
  have pg := hg t3 H3 t3.heap.objs.size (cellsFrom (t3.heap.objs.size + 1) scope.names (cloFrom X.env.cells scope.names [])) fp
  have pt := ht t3 H3 t3.heap.objs.size (cellsFrom (t3.heap.objs.size + 1) scope.names (cloFrom X.env.cells scope.names [])) fp
  have pk := hk t3 H3 t3.heap.objs.size (cellsFrom (t3.heap.objs.size + 1) scope.names (cloFrom X.env.cells scope.names [])) fp
  have pv := he t3 H3 t3.heap.objs.size (cellsFrom (t3.heap.objs.size + 1) scope.names (cloFrom X.env.cells scope.names [])) fp
  show codeAny _ _ (.compStart (.DictComp kx vx [⟨tg, iter, ifs, 0⟩] scope pos) 0 (.ref it) (.ref D) (compEnvC scope (cellsFrom (t3.heap.objs.size + 1) scope.names (cloFrom X.env.cells scope.names [])) t3.heap.objs.size X.env)) (compPost (model X.prog X.w) X.A X.xe none (EP X pins σ Q) (.ref D) t3.heap.objs.size) { t3 with heap := pushCells (t3.heap.push { cls := .type "dict", data := .dict #[] }) scope.names }
  have off : ∀ b ∈ fp, H3 b = none := fun b hb => (fp3 b hb).1.1
  generalize eC : compEnvC scope (cellsFrom (t3.heap.objs.size + 1) scope.names (cloFrom X.env.cells scope.names [])) t3.heap.objs.size X.env = ce at I4 pg pt pk pv ⊢
  have place : ce.locals = t3.heap.objs.size := by rw [← eC]; rfl
  generalize e4 : ({ t3 with heap := pushCells (t3.heap.push { cls := .type "dict", data := .dict #[] }) scope.names } : Shared) = t4 at I4 ⊢
  have st4 : tn 0 t4.heap := T.keep _ _ _ st3 fun b _ o z => by rw [← e4]; exact pushCells_keeps _ _ _ _ (Heap.get?_push_of_some _ z)
  have still : ∀ {σ' : L2.St} {H' : Hp} {t : Shared}, Inv (X.blk t3 H3 scope ce fp) [] σ' H' t → (∀ b ∈ fp, H' b = none) → ∀ b ∈ fp, FpOk (X.blk t3 H3 scope ce fp) [] H' b := fun J n b hb =>
    ⟨n b hb, (J.ok.exf b hb).1, J.ok.exfs b hb, .inl hb, fun x c z => (J.ok.exf b hb).2 x c z, fun z hz => absurd (show z ∈ ([] : List (Addr × Obj)) ++ [] from hz) (by simp)⟩
  have main : codeAny (model X.prog X.w) X.A (.compLoop (.DictComp kx vx [⟨tg, iter, ifs, 0⟩] scope pos) 0 (.ref it) (.ref D) ce) (compPost (model X.prog X.w) X.A X.xe none (EP X pins σ Q) (.ref D) t3.heap.objs.size) t4 := by
    refine compLoop_anyD (fun m t => ∃ n Hn, Inv (X.blk t3 H3 scope ce fp) [] (wipe σ (own.map (·.2))) Hn t ∧ tn n t.heap ∧ (∀ b ∈ fp, Hn b = none) ∧ W n m Hn) ?_ m0 ⟨0, H3, I4, st4, off, w0⟩
    rintro m t5 ⟨n, H5, I5, st5, off5, w5⟩
    rcases turn n m H5 w5 with ⟨stop, over⟩ | ⟨go, Nx, lower, step⟩
    · refine thnF (T.done (X.blk t3 H3 scope ce fp) rfl rfl rfl calm n [] t5 _ H5 (fun _ _ => False) I5 (still I5 off5) st5 stop) ?_
      rintro _ t6 ⟨rfl, I6⟩
      have I7 : Inv X pins σ H5 t6 := I3.call' (ch := fp) I6.os I6.base I6.hok I6.bare fun b hb => let z := (fp3 b hb).1.2; ⟨z.2.2.1, z.1, z.2.2.2.1, z.2.2.2.2⟩
      have gone : H5 t3.heap.objs.size = none := by rw [← place]; exact I6.free
      obtain ⟨names, hn, _⟩ := I6.loc
      have hn2 : t6.heap.Ns ce.locals names := hn
      rw [place] at hn2
      obtain ⟨z0, z1, z2, z3, z4, z5⟩ := I3.fpOk (Nat.le_refl _) gone
      exact ⟨names, hn2, fun h7 but => ⟨.ref D, H5, I7.turned (t' := t6.toks) (fun b ob hb z => (but.2 b hb).trans z) z0 z1 z3 z4 z5, rfl, over⟩⟩
    · refine thnF (T.item (X.blk t3 H3 scope ce fp) rfl rfl rfl calm n [] t5 _ H5 (fun _ _ => False) I5 (still I5 off5) st5 go) ?_
      rintro _ t6 ⟨u, rfl, a6⟩
      refine thnF a6 ?_
      rintro _ t7 ⟨x, H7, I7, rx, yx, st7, off7⟩
      refine thnF (pg.run _ t7 _ H7 x u _ (I7.pinned (still I7 off7) (T.obj _ _ st7)) rx (step x H7 yx)) ?_
      rintro _ t8 ⟨σ8, H8, I8, same8, q8⟩
      have close : ∀ {t : Shared} {Hn : Hp}, Inv (X.blk t3 H3 scope ce fp) ([] ++ pinsAt fp t7.heap) σ8 Hn t → Nx Hn → ∃ less, less < m ∧ ∃ n Hn, Inv (X.blk t3 H3 scope ce fp) [] (wipe σ (own.map (·.2))) Hn t ∧ tn n t.heap ∧ (∀ b ∈ fp, Hn b = none) ∧ W n less Hn := fun {t Hn} J nx => by
        obtain ⟨less, hl, wl⟩ := lower Hn nx
        have kept : ∀ b ∈ fp, ∀ o, t7.heap.get? b = some o → t.heap.get? b = some o ∧ Hn b = none := fun b hb o z =>
          let y := J.pin (b, o) (List.mem_append_right _ (List.mem_append_right _ (mem_pinsAt hb z)))
          ⟨y.1, y.2.1⟩
        refine ⟨less, hl, n + 1, Hn, (J.unpinned (pins := [])).weak (by rw [← same8, wipe_length]) fun j v z => ?_, T.keep _ _ _ st7 fun b hb o z => (kept b hb o z).1, fun b hb => ?_, wl⟩
        · rw [← same8] at z
          exact (wipe_some z).1
        · obtain ⟨o, z, _⟩ := T.obj _ _ st7 b hb
          exact (kept b hb o z).2
      refine thnF (pt.run _ t8 σ8 H8 _ I8 q8) ?_
      rintro yes t9 ⟨H9, I9, q9⟩
      cases yes with
      | false => exact close I9 (by simpa using q9)
      | true =>
        simp only [if_true] at q9 ⊢
        refine thnF (pk.run _ t9 σ8 H9 _ I9 q9) ?_
        rintro uk t10 ⟨y, H10, I10, ry, q10⟩
        refine thnF (pv.run _ t10 σ8 H10 _ I10 q10) ?_
        rintro uz t11 ⟨z, H11, I11, rz, xs, k, b, rfl, g1, g2, g3, g4, g5, nx⟩
        cases ry
        exact put_rowN (X := X.blk t3 H3 scope ce fp) hu I11 g1 g2 g3 g4 g5 rz fun t12 I12 => close I12 nx
  exact codeAny_compStart_dict main (T.self X.A 0 _ _ _ st4 main)
end

def Lets (L : Str) : Prop := 1 ≤ L.length ∧ L.length ≤ 26 ∧ ∀ c ∈ L.cps.toList, 97 ≤ c ∧ c ≤ 122

def rLcm : List V → Hp → VK → Prop := fun vs H Q => ∃ a b : Nat, vs = [nI a, nI b] ∧ a < 1000 ∧ b < 1000 ∧ Q (nI (a.lcm b)) H
theorem cr_lcm {X : Cx} : CallR X (.builtin "math.lcm") rLcm := by
  intro pins s σ H vs us Q I r ⟨a, b, e, ha, hb, q⟩
  subst e
  obtain ⟨t, u, rfl⟩ := Vals.int2 r
  refine PySem.W.mc_lcm (by rw [Int.natAbs_natCast]; exact Nat.lt_trans ha (by decide)) (by rw [Int.natAbs_natCast]; exact Nat.lt_trans hb (by decide)) fun _ => ⟨nI (a.lcm b), H, I.tok _, ⟨s.toks, ?_⟩, q⟩
  simp

theorem lc_outT {K : PySem.W.Frag} {a : Addr} {xs : List V} {Bd : V → Hp → (Hp → Prop) → Prop} {Qd : Hp → Prop} {H0 : Hp} (Pv : Nat → Hp → Prop) (h0 : Pv 0 H0) (hl : ∀ i H, i ≤ xs.length → Pv i H → SqT K H a xs)
    (hs : ∀ i x H, xs[i]? = some x → Pv i H → Bd x H (Pv (i + 1))) (hd : ∀ H, Pv xs.length H → Qd H) :
    ∃ W : Nat → Nat → Hp → Prop, (∃ m, W 0 m H0) ∧ ∀ i m H, W i m H → ((Itt K a).stop i H ∧ Qd H) ∨ ((Itt K a).go i H ∧ ∃ Nx : Hp → Prop, (∀ H', Nx H' → ∃ m', m' < m ∧ W (i + 1) m' H') ∧ ∀ x H', (Itt K a).yld i H x H' → Bd x H' Nx) := by
  refine ⟨fun i m H => m = xs.length - i ∧ i ≤ xs.length ∧ Pv i H, ⟨xs.length, by simp, Nat.zero_le _, h0⟩, ?_⟩
  rintro i m H ⟨rfl, hi, p⟩
  have q := hl i H hi p
  rcases Nat.lt_or_ge i xs.length with lt | ge
  · exact .inr ⟨⟨xs, xs[i], q, by simp [lt]⟩, Pv (i + 1), fun H' p' => ⟨_, by omega, rfl, lt, p'⟩, fun x H' y => by
      obtain ⟨e, y⟩ := y
      subst e
      exact hs i x _ (y xs q) p⟩
  · obtain rfl : i = xs.length := by omega
    exact .inl ⟨⟨xs, q, Nat.le_refl _⟩, hd H p⟩
theorem cut1 {x : V} {r : List V} : cutV (x :: r) (some 1) none = r := by
  have h1 : HT.sIx (x :: r).length 0 (some 1) = 1 := by
    have := HT.sIx_nat (x :: r).length 0 1
    rw [show ((1 : Nat) : Int) = 1 from rfl] at this
    rw [this, List.length_cons]
    omega
  unfold cutV
  rw [h1, HT.sIx_none, List.length_cons, List.drop_succ_cons, List.drop_zero, Nat.add_sub_cancel, List.take_length]
theorem cut1_not {x : V} {r : List V} : ¬ (HT.sIx (x :: r).length 0 (some 1) = 0 ∧ HT.sIx (x :: r).length (x :: r).length none = (x :: r).length) := by
  have h1 : HT.sIx (x :: r).length 0 (some 1) = 1 := by
    have := HT.sIx_nat (x :: r).length 0 1
    rw [show ((1 : Nat) : Int) = 1 from rfl] at this
    rw [this, List.length_cons]
    omega
  rw [h1]
  omega
theorem dtAll_app {ok : Addr → Prop} {H : Hp} : ∀ {xs ys : List V} {ds es : List PyData}, DtAll ok H xs ds → DtAll ok H ys es → DtAll ok H (xs ++ ys) (ds ++ es)
  | _, _, _, _, .nil, y => y
  | _, _, _, _, .cons a b, y => .cons a (dtAll_app b y)
theorem flat_take {α β : Type} (f : α → List β) {l : List α} {i : Nat} {x : α} (h : l[i]? = some x) : (l.take (i + 1)).flatMap f = (l.take i).flatMap f ++ f x := by
  rw [take_succ_of h, List.flatMap_append]
  simp


def rowsTo : Nat → Nat → List (List Nat)
  | 0, _ => [[]]
  | n + 1, k => (rowsTo n k).flatMap fun r => (List.range k).map fun x => r ++ [x]
def keysOf (L : Str) (n k : Nat) : List (Nat × List Nat) := L.cps.toList.flatMap fun c => (rowsTo n k).map fun r => (c, r)
def RowsAt (H : Hp) (as : List Addr) (rows : List (List Nat)) : Prop := Paired (fun (a : Addr) (row : List Nat) => H a = some (.tup (row.map nI))) as rows
def KeysAt (H : Hp) (bs : List Addr) (keys : List (Nat × List Nat)) : Prop := Paired (fun (b : Addr) (key : Nat × List Nat) => ∃ a, H b = some (.tup [.str (ch key.1), .ref a]) ∧ H a = some (.tup (key.2.map nI))) bs keys
theorem ext_len (k : Nat) : ∀ l : List (List Nat), (l.flatMap fun r => (List.range k).map fun x => r ++ [x]).length = l.length * k
  | [] => by simp
  | a :: t => by rw [List.flatMap_cons, List.length_append, List.length_map, List.length_range, ext_len k t, List.length_cons, Nat.succ_mul, Nat.add_comm]
theorem rowsTo_len (k : Nat) : ∀ n, (rowsTo n k).length = k ^ n
  | 0 => rfl
  | n + 1 => by rw [rowsTo, ext_len, rowsTo_len k n, Nat.pow_succ]
theorem rowsTo_mem {k : Nat} : ∀ {n : Nat} {r : List Nat}, r ∈ rowsTo n k → r.length = n ∧ ∀ x ∈ r, x < k
  | 0, r, h => by simp [rowsTo] at h; subst h; simp
  | n + 1, r, h => by
    simp only [rowsTo, List.mem_flatMap, List.mem_map, List.mem_range] at h
    obtain ⟨r0, h0, x, hx, rfl⟩ := h
    obtain ⟨a, b⟩ := rowsTo_mem h0
    refine ⟨by simp [a], fun y hy => ?_⟩
    rcases List.mem_append.mp hy with hy | hy
    · exact b y hy
    · rw [List.mem_singleton.mp hy]; exact hx
theorem prd_app {α β : Type} {F : α → β → Prop} : ∀ {as cs : List α} {bs ds : List β}, Paired F as bs → Paired F cs ds → Paired F (as ++ cs) (bs ++ ds)
  | _, _, _, _, .nil, y => y
  | _, _, _, _, .cons r t, y => .cons r (prd_app t y)
theorem prd_at {α β : Type} {F : α → β → Prop} : ∀ {as : List α} {bs : List β} {i : Nat} {a : α}, Paired F as bs → as[i]? = some a → ∃ b, bs[i]? = some b ∧ F a b
  | _, _, 0, _, .cons r _, h => by cases h; exact ⟨_, rfl, r⟩
  | _, _, i + 1, _, .cons _ t, h => by
    rw [List.getElem?_cons_succ] at h
    obtain ⟨b, h1, h2⟩ := prd_at t h
    exact ⟨b, by rw [List.getElem?_cons_succ]; exact h1, h2⟩
theorem RowsAt.keep {H H' : Hp} {as : List Addr} {rows : List (List Nat)} (x : RowsAt H as rows) (h : ∀ b xs, H b = some (.tup xs) → H' b = some (.tup xs)) : RowsAt H' as rows := Paired.mapP x fun _ _ e => h _ _ e
theorem KeysAt.keep {H H' : Hp} {as : List Addr} {ks : List (Nat × List Nat)} (x : KeysAt H as ks) (h : ∀ b xs, H b = some (.tup xs) → H' b = some (.tup xs)) : KeysAt H' as ks := Paired.mapP x fun _ _ ⟨a, e1, e2⟩ => ⟨a, h _ _ e1, h _ _ e2⟩
theorem upd_tup {H : Hp} {D : Addr} {xs : List V} {o : HO} (hD : H D = some (.lst xs)) : ∀ b ys, H b = some (.tup ys) → (upd H D o) b = some (.tup ys) := fun b ys e => by
  rw [upd_ne (fun z => by rw [z, hD] at e; cases e)]
  exact e
theorem lc_walk {J : It} {len : Nat} {G : Hp → Prop} {Y : Nat → Hp → V → Hp → Prop} (wk : Walk J len G Y) {Bd : V → Hp → (Hp → Prop) → Prop} {Qd : Hp → Prop} {H0 : Hp} (Pv : Nat → Hp → Prop) (h0 : Pv 0 H0) (hp : ∀ i H, i ≤ len → Pv i H → G H)
    (hs : ∀ i x H H', i < len → Pv i H → Y i H x H' → Bd x H' (Pv (i + 1))) (hd : ∀ H, Pv len H → Qd H) :
    ∃ W : Nat → Nat → Hp → Prop, (∃ m, W 0 m H0) ∧ ∀ i m H, W i m H → (J.stop i H ∧ Qd H) ∨ (J.go i H ∧ ∃ Nx : Hp → Prop, (∀ H', Nx H' → ∃ m', m' < m ∧ W (i + 1) m' H') ∧ ∀ x H', J.yld i H x H' → Bd x H' Nx) := by
  refine ⟨fun i m H => m = len - i ∧ i ≤ len ∧ Pv i H, ⟨len, by simp, Nat.zero_le _, h0⟩, ?_⟩
  rintro i m H ⟨rfl, hi, p⟩
  have g := hp i H hi p
  rcases Nat.lt_or_ge i len with lt | ge
  · exact .inr ⟨wk.goes i H lt g, Pv (i + 1), fun H' p' => ⟨_, by omega, rfl, lt, p'⟩, fun x H' y => hs i x H H' lt p (wk.yields i H x H' lt g y)⟩
  · obtain rfl : i = len := by omega
    exact .inl ⟨wk.stops H g, hd H p⟩
def sp_tuples_due : Sp := fun vs H Q _ => ∃ (L : Str) (n k : Nat), vs = [.str L, nI n, nI k] ∧ L.length ≤ 26 ∧ n ≤ 6 ∧ k ≤ 20 ∧ Q (nI (L.length * k ^ n)) H
def sp_class_rows : Sp := fun vs H Q _ => ∃ (n k : Nat), vs = [nI n, nI k] ∧ n ≤ 6 ∧ 1 ≤ k ∧ k ≤ 20 ∧ k ^ n ≤ 600 ∧ ∀ r as H', Same H H' → H r = none → H' r = some (.lst (as.map V.ref)) → RowsAt H' as (rowsTo n k) → Q (.ref r) H'
def sp_keys_due : Sp := fun vs H Q _ => ∃ (L : Str) (n k : Nat), vs = [.str L, nI n, nI k] ∧ Lets L ∧ n ≤ 6 ∧ 1 ≤ k ∧ k ≤ 20 ∧ L.length * k ^ n ≤ 600 ∧ ∀ r bs H', Same H H' → H r = none → H' r = some (.lst (bs.map V.ref)) → KeysAt H' bs (keysOf L n k) → Q (.ref r) H'
section
variable {P : Program} {w : World} {K : PySem.W.Frag} {mg : Str → Option Value} {base : Heap}
theorem ok_tuples_due (T : Txt K mg) : FnOk P w K mg base CX0 1 T.f_tuples_due T.d_tuples_due ["letters", "states", "classes"] sp_tuples_due := by
  refine T.F_tuples_due.ok sc_tuples_due (fun vs H Q E h => ?_) (fun cdv A outer s H vs Q E hr h => ?_)
  · obtain ⟨L, n, k, rfl, _⟩ := h
    rfl
  obtain ⟨L, n, k, rfl, hl, h6, k20, q⟩ := h
  refine ⟨_, (pss_cons (ps_set (i := 3) sc_tuples_due.nd rfl (Or.inl rfl) (pe_callB call_len_str (by rfl) T.z_len PySem.boot_len (pa_cons (pv 0) pa_nil))) (pss_cons (ps_for PassesOwn.never rfl (pi_range1 (by rfl) T.z_range (pa_cons (pv 1) pa_nil)) (pg_name (i := 4) sc_tuples_due.nd rfl (Or.inl rfl)) (pss_one (ps_set (i := 3) sc_tuples_due.nd rfl (Or.inl rfl) (pe_op op_mul (pv 3) (pv 2))))) (pss_one (ps_ret (pv 3))))), ?_⟩
  refine ⟨_, rfl, L, rfl, Nat.le_of_lt (Nat.lt_of_le_of_lt (show _ ≤ 1000000 by omega) (by decide)), _, rfl, n, rfl, by omega, by omega, for_range (lo := 0) (n := n) (fun i σ H' => ∃ y4, σ = [some (.str L), some (nI n), some (nI k), some (nI (L.length * k ^ i)), y4] ∧ H' = H) ⟨_, by rw [Nat.pow_zero, Nat.mul_one]; rfl, rfl⟩ ?_ ?_⟩
  · rintro i σ H1 hi ⟨y4, rfl, rfl⟩
    refine ⟨_, rfl, _, rfl, _, _, rfl, rfl, .inr ⟨by omega, by omega⟩, ?_⟩
    refine ⟨some (V.int (0 + (i : Int))), ?_, rfl⟩
    have e : ((L.length * k ^ i : Nat) : Int) * (k : Int) = ((L.length * k ^ (i + 1) : Nat) : Int) := by
      rw [Nat.pow_succ, ← Nat.mul_assoc]
      push_cast
      rfl
    show ([some (V.str L), some (nI n), some (nI k), some (V.int (((L.length * k ^ i : Nat) : Int) * (k : Int))), some (V.int (0 + (i : Int)))] : List (Option V)) = _
    rw [e]
  · rintro σ H1 ⟨y4, rfl, rfl⟩
    exact ⟨_, rfl, q⟩
theorem ok_class_rows (T : Txt K mg) : FnOk P w K mg base CX0 1 T.f_class_rows T.d_class_rows ["states", "classes"] sp_class_rows := by
  refine T.F_class_rows.ok sc_class_rows (fun vs H Q E h => ?_) (fun cdv A outer s H vs Q E hr h => ?_)
  · obtain ⟨n, k, rfl, _⟩ := h
    rfl
  obtain ⟨n, k, rfl, h6, k1, k20, h600, q⟩ := h
  refine ⟨_, (pss_cons (ps_set (i := 2) sc_class_rows.nd rfl (Or.inl rfl) (pe_lst (pa_cons (pe_tup pa_nil) pa_nil))) (pss_cons (ps_for PassesOwn.never rfl (pi_range1 (by rfl) T.z_range (pa_cons (pv 0) pa_nil)) (pg_name (i := 3) sc_class_rows.nd rfl (Or.inl rfl)) (pss_one (ps_setLc2 (i := 2) (own := [("row", 4), ("number", 5)]) (vs1 := [5]) (g := gName 4) (g1 := gName 5) (tt := tYes) (tt1 := tYes) (wi1 := iRng1 (tCons (tVar 1) tNil)) (te := tTup (StX.tStar K (tVar 4) (tCons (tVar 5) tNil))) rfl sc_class_rows.nd rfl rfl (sw_true rfl rfl rfl (by decide +kernel)) (pi_list (pv 2)) (blkOk_by (own := [("row", 4), ("number", 5)]) (N := ["states", "classes", "rows", "_", "row", "number"]) (sc := (defScope s_class_rows)) (by decide +kernel)) (by decide) (fun _ _ _ _ _ => (pg_name (i := 4) sc_class_rows.nd rfl (Or.inl rfl))) (fun _ _ _ _ _ => pts_nil) (fun _ _ _ _ _ => (pi_range1 (by rfl) T.z_range (pa_cons (pv 1) pa_nil))) (fun _ _ _ _ _ => (pg_name (i := 5) sc_class_rows.nd rfl (Or.inl rfl))) (fun _ _ _ _ _ => pts_nil) (fun _ _ _ _ _ => (pe_tup (StX.pa_star (pv 4) (pa_cons (pv 5) pa_nil))))))) (pss_one (ps_ret (pv 2))))), ?_⟩
  refine ⟨(by show 0 ≤ sizeLine; decide), fun p0 hp0 => ⟨(by show 1 ≤ sizeLine; decide), fun r0 hr0 => ?_⟩⟩
  have s0 := (same_new (o := .tup []) hp0).trans (same_new (o := .lst [V.ref p0]) hr0)
  have kp0 := same_new (o := .lst [V.ref p0]) hr0 _ _ (upd_same (H := H) (a := p0) (o := .tup []))
  have kr0 := upd_same (H := upd H p0 (.tup [])) (a := r0) (o := .lst [V.ref p0])
  have fr0 := (same_new (o := .tup []) hp0).free hr0
  generalize upd (upd H p0 (.tup [])) r0 (.lst [V.ref p0]) = H0 at *
  refine ⟨_, rfl, n, rfl, by omega, by omega, for_range (lo := 0) (n := n) (fun i σ H' => ∃ (r : Addr) (as : List Addr) (y3 y4 y5 : Option V), σ = [some (nI n), some (nI k), some (.ref r), y3, y4, y5] ∧ H' r = some (.lst (as.map V.ref)) ∧ RowsAt H' as (rowsTo i k) ∧ Same H H' ∧ H r = none) ⟨r0, [p0], none, none, none, rfl, kr0, .cons kp0 .nil, s0, fr0⟩ ?_ ?_⟩
  · rintro i σ H1 hi ⟨r, as, y3, y4, y5, rfl, hr1, ha, s1, fr1⟩
    have la : as.length = k ^ i := by rw [Paired.length ha, rowsTo_len]
    have pw : k ^ i ≤ 600 := Nat.le_trans (Nat.pow_le_pow_right k1 (by omega)) h600
    refine ⟨_, rfl, r, rfl, ⟨_, SqL.of hr1⟩, fun D hD => ?_⟩
    have nDr : r ≠ D := ne_of_none hr1 hD
    refine lc_outer (xs := as.map V.ref) (fun j H2 => ∃ bs : List Addr, H2 D = some (.lst (bs.map V.ref)) ∧ RowsAt H2 bs (((rowsTo i k).take j).flatMap fun r => (List.range k).map fun x => r ++ [x]) ∧ RowsAt H2 as (rowsTo i k) ∧ H2 r = some (.lst (as.map V.ref)) ∧ Same H1 H2)
      ⟨[], upd_same, .nil, ha.keep fun b xs e => same_new hD _ _ e, same_new hD _ _ hr1, same_new hD⟩ (fun j H2 _ ⟨_, _, _, _, h, _⟩ => SqL.of h) ?_ ?_
    · rintro j x H2 hx ⟨bs, g1, g2, g3, g4, g5⟩
      rw [List.getElem?_map] at hx
      cases haj : as[j]? with
      | none => rw [haj] at hx; cases hx
      | some aj =>
      rw [haj] at hx
      cases hx
      obtain ⟨row, hrow, kaj⟩ := prd_at g3 haj
      have hj := (List.getElem?_eq_some_iff.mp haj).1
      have lb := Paired.length g2
      rw [ext_len, List.length_take, rowsTo_len] at lb
      have lb2 : bs.length ≤ 600 * 20 := by rw [lb]; exact Nat.mul_le_mul (Nat.le_trans (Nat.min_le_right _ _) pw) k20
      refine ⟨rfl, _, rfl, k, rfl, by omega, by omega, ?_⟩
      refine lc_walk (len := k) (walk_range (lo := 0)) (fun m H3 => ∃ cs : List Addr, H3 D = some (.lst ((bs ++ cs).map V.ref)) ∧ RowsAt H3 bs (((rowsTo i k).take j).flatMap fun r => (List.range k).map fun x => r ++ [x]) ∧ RowsAt H3 cs ((List.range m).map fun x => row ++ [x]) ∧ RowsAt H3 as (rowsTo i k) ∧ H3 r = some (.lst (as.map V.ref)) ∧ H3 aj = some (.tup (row.map nI)) ∧ Same H1 H3)
        ⟨[], by simpa using g1, g2, .nil, g3, g4, kaj, g5⟩ (fun _ _ _ _ => trivial) ?_ ?_
      · rintro m z H3 H4 hm ⟨cs, k1', k2, k3, k4, k5, k6, k7⟩ ⟨rfl, rfl⟩
        have lc := Paired.length k3
        rw [List.length_map, List.length_range] at lc
        refine ⟨rfl, _, rfl, aj, _, rfl, .inl (SqT.of k6), _, rfl, ?_, fun b hb => ?_⟩
        · rw [List.length_append, List.length_map, (rowsTo_mem (List.mem_of_getElem? hrow)).1]
          exact Nat.le_of_lt (Nat.lt_of_le_of_lt (show _ ≤ 1000000 by simp; omega) (by decide))
        have sb := same_new (o := .tup (row.map nI ++ [V.int (0 + (m : Int))])) hb
        have kb := upd_same (H := H4) (a := b) (o := .tup (row.map nI ++ [V.int (0 + (m : Int))]))
        generalize upd H4 b (.tup (row.map nI ++ [V.int (0 + (m : Int))])) = H5 at *
        have kD := sb _ _ k1'
        have tk := upd_tup (o := .lst ((bs ++ cs).map V.ref ++ [V.ref b])) kD
        refine ⟨_, kD, ?_, cs ++ [b], ?_, (k2.keep fun b xs e => sb _ _ e).keep tk, ?_, (k4.keep fun b xs e => sb _ _ e).keep tk, ?_, tk _ _ (sb _ _ k6), same_add (k7.trans sb) hD⟩
        · rw [List.length_map, List.length_append, lc]
          exact Nat.lt_of_le_of_lt (show _ ≤ 1000000 by omega) (by decide)
        · rw [upd_same, ← List.append_assoc, List.map_append (l₂ := [b])]
          rfl
        · rw [List.range_succ, List.map_append (f := fun x => row ++ [x])]
          refine prd_app ((RowsAt.keep k3 fun b xs e => sb _ _ e).keep tk) (.cons ?_ .nil)
          have e : row.map nI ++ [V.int (0 + (m : Int))] = (row ++ [m]).map nI := by rw [List.map_append, Int.zero_add]; rfl
          rw [← e]
          exact tk _ _ kb
        · rw [upd_ne nDr]; exact sb _ _ k5
      · rintro H3 ⟨cs, k1', k2, k3, k4, k5, k6, k7⟩
        refine ⟨bs ++ cs, k1', ?_, k4, k5, k7⟩
        rw [flat_take _ hrow]
        exact prd_app k2 k3
    · rintro H2 ⟨bs, g1, g2, g3, g4, g5⟩
      rw [List.length_map, la, ← rowsTo_len k i, List.take_length] at g2
      exact ⟨D, bs, _, _, _, rfl, g1, g2, s1.trans g5, s1.free hD⟩
  · rintro σ H1 ⟨r, as, y3, y4, y5, rfl, hr1, ha, s1, fr1⟩
    exact ⟨_, rfl, q r as H1 s1 fr1 hr1 ha⟩
theorem ok_keys_due (T : Txt K mg) : FnOk P w K mg base CX0 2 T.f_keys_due T.d_keys_due ["letters", "states", "classes"] sp_keys_due := by
  have G_class_rows : FnOk P w K mg base CX0 1 T.f_class_rows T.d_class_rows ["states", "classes"] sp_class_rows := ok_class_rows T
  refine T.F_keys_due.ok sc_keys_due (fun vs H Q E h => ?_) (fun cdv A outer s H vs Q E hr h => ?_)
  · obtain ⟨L, n, k, rfl, _⟩ := h
    rfl
  obtain ⟨L, n, k, rfl, hL, h6, k1, k20, h600, q⟩ := h
  refine ⟨_, (pss_cons (ps_set (i := 3) sc_keys_due.nd rfl (Or.inr rfl) (pe_call G_class_rows (hr.mono (by omega)) (by rfl) T.m_class_rows T.F_class_rows.kp T.b_class_rows .nil pass0 (pa_cons (pv 1) (pa_cons (pv 2) pa_nil)))) (pss_one (ps_ret (pe_lc2 (own := [("letter", 4), ("row", 5)]) (vs1 := [5]) (g := gName 4) (g1 := gName 5) (tt := tYes) (tt1 := tYes) (wi1 := iList K (tVar 3)) (te := tTup (tCons (tVar 4) (tCons (tVar 5) tNil))) rfl sc_keys_due.nd (pi_str (pv 0)) (blkOk_by (own := [("letter", 4), ("row", 5)]) (N := ["letters", "states", "classes", "rows", "letter", "row"]) (sc := (defScope s_keys_due)) (by decide +kernel)) (by decide) (fun _ _ _ _ _ => (pg_name (i := 4) sc_keys_due.nd rfl (Or.inl rfl))) (fun _ _ _ _ _ => pts_nil) (fun _ _ _ _ _ => (pi_list (pv 3))) (fun _ _ _ _ _ => (pg_name (i := 5) sc_keys_due.nd rfl (Or.inl rfl))) (fun _ _ _ _ _ => pts_nil) (fun _ _ _ _ _ => (pe_tup (pa_cons (pv 4) (pa_cons (pv 5) pa_nil)))))))), ?_⟩
  have l1 := hL.1
  have hk : k ^ n ≤ 600 := Nat.le_trans (Nat.le_mul_of_pos_left _ l1) h600
  refine ⟨_, rfl, _, rfl, n, k, rfl, h6, k1, k20, hk, fun r as H1 s1 hr0 hr1 ha => ?_⟩
  refine ⟨_, rfl, L, rfl, fun D hD => ?_⟩
  have la : as.length = k ^ n := by rw [Paired.length ha, rowsTo_len]
  have nDr : r ≠ D := ne_of_none hr1 hD
  have lsz : L.cps.size = L.cps.toList.length := (Array.length_toList).symm
  have l26 : L.cps.toList.length ≤ 26 := by rw [← lsz]; exact hL.2.1
  refine lc_walk (len := L.cps.size) walk_str (fun j H2 => ∃ bs : List Addr, H2 D = some (.lst (bs.map V.ref)) ∧ KeysAt H2 bs ((L.cps.toList.take j).flatMap fun c => (rowsTo n k).map fun r => (c, r)) ∧ RowsAt H2 as (rowsTo n k) ∧ H2 r = some (.lst (as.map V.ref)) ∧ bs.length ≤ 600 * j ∧ Same H1 H2)
    ⟨[], upd_same, .nil, ha.keep fun b xs e => same_new hD _ _ e, same_new hD _ _ hr1, Nat.zero_le _, same_new hD⟩ (fun _ _ _ _ => trivial) ?_ ?_
  · rintro j x H2 H2' hj ⟨bs, g1, g2, g3, g4, g5, g6⟩ ⟨rfl, c, hc, rfl⟩
    have hc2 : L.cps.toList[j]? = some c := by rw [Array.getElem?_toList]; exact hc
    refine ⟨rfl, _, rfl, r, rfl, ⟨_, SqL.of g4⟩, ?_⟩
    refine lc_outer (xs := as.map V.ref) (fun m H3 => ∃ cs : List Addr, H3 D = some (.lst ((bs ++ cs).map V.ref)) ∧ KeysAt H3 bs ((L.cps.toList.take j).flatMap fun c => (rowsTo n k).map fun r => (c, r)) ∧ KeysAt H3 cs (((rowsTo n k).take m).map fun r => (c, r)) ∧ RowsAt H3 as (rowsTo n k) ∧ H3 r = some (.lst (as.map V.ref)) ∧ Same H1 H3)
      ⟨[], by simpa using g1, g2, .nil, g3, g4, g6⟩ (fun m H3 _ ⟨_, _, _, _, _, h, _⟩ => SqL.of h) ?_ ?_
    · rintro m z H3 hz ⟨cs, k1', k2, k3, k4, k5, k7⟩
      rw [List.getElem?_map] at hz
      cases ham : as[m]? with
      | none => rw [ham] at hz; cases hz
      | some am =>
      rw [ham] at hz
      cases hz
      obtain ⟨row, hrow, kam⟩ := prd_at k4 ham
      have lc := Paired.length k3
      rw [List.length_map, List.length_take, rowsTo_len] at lc
      refine ⟨rfl, _, rfl, _, rfl, (by show 2 ≤ sizeLine; decide), fun b hb => ?_⟩
      have sb := same_new (o := .tup [.str ⟨#[c]⟩, V.ref am]) hb
      have kb := upd_same (H := H3) (a := b) (o := .tup [.str ⟨#[c]⟩, V.ref am])
      generalize upd H3 b (.tup [.str ⟨#[c]⟩, V.ref am]) = H5 at *
      have kD := sb _ _ k1'
      have tk := upd_tup (o := .lst ((bs ++ cs).map V.ref ++ [V.ref b])) kD
      refine ⟨_, kD, ?_, cs ++ [b], ?_, (k2.keep fun b xs e => sb _ _ e).keep tk, ?_, (k4.keep fun b xs e => sb _ _ e).keep tk, ?_, same_add (k7.trans sb) hD⟩
      · rw [List.length_map, List.length_append]
        have : j < 26 := by omega
        exact Nat.lt_of_le_of_lt (show _ ≤ 1000000 by omega) (by decide)
      · rw [upd_same, ← List.append_assoc, List.map_append (l₂ := [b])]
        rfl
      · rw [take_succ_of hrow, List.map_append (f := fun r => (c, r))]
        exact prd_app ((KeysAt.keep k3 fun b xs e => sb _ _ e).keep tk) (.cons ⟨am, tk _ _ kb, tk _ _ (sb _ _ kam)⟩ .nil)
      · rw [upd_ne nDr]; exact sb _ _ k5
    · rintro H3 ⟨cs, k1', k2, k3, k4, k5, k7⟩
      rw [List.length_map, la, ← rowsTo_len k n, List.take_length] at k3
      have lc := Paired.length k3
      rw [List.length_map, rowsTo_len] at lc
      refine ⟨bs ++ cs, k1', ?_, k4, k5, by rw [List.length_append]; omega, k7⟩
      rw [flat_take _ hc2]
      exact prd_app k2 k3
  · rintro H2 ⟨bs, g1, g2, g3, g4, g5, g6⟩
    rw [lsz, List.take_length] at g2
    exact q D bs H2 (s1.trans g6) (s1.free hD) g1 g2
end

def keyN (c : Nat) (row : List Nat) : NestedKey := .tup [.text (ch c), .tup (row.map fun x : Nat => .num (x : Int))]
def RowsJ (xs : List NRow) (keys : List (Nat × List Nat)) (fs : Nat → List Nat → Nat) : Prop := Paired (fun (x : NRow) (key : Nat × List Nat) => x.1 = keyN key.1 key.2 ∧ x.2.2 = nI (fs key.1 key.2)) xs keys
def Rises (L : Str) : Prop := L.cps.toList.Pairwise (· < ·)
def sp_at (L : Str) (n : Nat) (fs : Nat → List Nat → Nat) : Sp := fun vs H Q _ => ∃ (c : Nat) (b : Addr) (row : List Nat), vs = [.str (ch c), .ref b] ∧ c ∈ L.cps.toList ∧ row.length = n ∧ H b = some (.tup (row.map nI)) ∧ ∀ H', Same H H' → Q (nI (fs c row)) H'
def sp_table_made (P : Program) (w : World) (K : PySem.W.Frag) (mg : Str → Option Value) (base : Heap) : Sp := fun vs H Q _ => ∃ (L : Str) (n few turn : Nat) (f : Addr) (fs : Nat → List Nat → Nat), vs = [.str L, nI n, nI few, nI turn, .ref f] ∧ Lets L ∧ Rises L ∧ n ≤ 6 ∧ few ≤ 4 ∧ 1 ≤ turn ∧ turn ≤ 4 ∧ L.length * (few + turn) ^ n ≤ 600 ∧
  CalX P w K mg base 8 f (fun H' => Same H H') 2 (sp_at L n fs) ∧ ∀ d xs H', Same H H' → H d = none → H' d = some (DictN P w d xs) → RowsN H' xs → RowsJ xs (keysOf L n (few + turn)) fs → Q (.ref d) H'
theorem ch_inj {a b : Nat} (h : ch a = ch b) : a = b := by
  have := congrArg (fun s : Str => s.cps.toList) h
  simpa [ch] using this
theorem keyN_inj {c c' : Nat} {r r' : List Nat} (h : keyN c r = keyN c' r') : c = c' ∧ r = r' := by
  unfold keyN at h
  injection h with h
  injection h with h1 h2
  injection h1 with h1
  injection h2 with h2
  injection h2 with h2
  refine ⟨ch_inj h1, ?_⟩
  clear h1
  induction r generalizing r' with
  | nil => cases r' with | nil => rfl | cons a b => cases h2
  | cons a b ih => cases r' with
    | nil => cases h2
    | cons a' b' =>
      rw [List.map_cons, List.map_cons] at h2
      injection h2 with e1 e2
      injection e1 with e1
      rw [ih e2, show a = a' by omega]
theorem keyN_depth (c : Nat) (r : List Nat) : (keyN c r).depth ≤ 8 := by
  have : ∀ r : List Nat, NestedKey.depthAll (r.map fun x : Nat => NestedKey.num (x : Int)) ≤ 1 := by
    intro r
    induction r with
    | nil => simp [NestedKey.depthAll]
    | cons a b ih => simp only [List.map_cons, NestedKey.depthAll, NestedKey.depth]; omega
  have := this r
  simp only [keyN, NestedKey.depth, NestedKey.depthAll]
  omega
theorem nk_nums {H : Hp} : ∀ r : List Nat, NKs H (r.map fun x : Nat => .num (x : Int)) (r.map nI)
  | [] => .nil
  | x :: r => .cons (.int _) (nk_nums r)
theorem nk_key {H : Hp} {b a : Addr} {c : Nat} {r : List Nat} (hb : H b = some (.tup [.str (ch c), .ref a])) (ha : H a = some (.tup (r.map nI))) : NK H (keyN c r) (.ref b) := .tup hb (.cons (.text _) (.cons (.tup ha (nk_nums r)) .nil))
theorem rowsTo_nd (k : Nat) : ∀ n, (rowsTo n k).Pairwise (· ≠ ·)
  | 0 => by simp [rowsTo]
  | n + 1 => by
    rw [rowsTo, List.pairwise_flatMap]
    refine ⟨fun r _ => ?_, (rowsTo_nd k n).imp fun {a b} hab x hx y hy e => ?_⟩
    · rw [List.pairwise_map]
      exact List.nodup_range.imp fun h e => h (by simpa using e)
    · simp only [List.mem_map] at hx hy
      obtain ⟨p, _, rfl⟩ := hx
      obtain ⟨q, _, rfl⟩ := hy
      exact hab (List.append_inj' e rfl).1
theorem keysOf_nd {L : Str} (h : Rises L) (n k : Nat) : (keysOf L n k).Pairwise (· ≠ ·) := by
  unfold keysOf
  rw [List.pairwise_flatMap]
  refine ⟨fun c _ => ?_, h.imp fun {a b} hab x hx y hy e => ?_⟩
  · rw [List.pairwise_map]
    exact (rowsTo_nd k n).imp fun h e => h (by simpa using e)
  · simp only [List.mem_map] at hx hy
    obtain ⟨p, _, rfl⟩ := hx
    obtain ⟨q, _, rfl⟩ := hy
    have : a = b := (Prod.mk.inj e).1
    omega
theorem atN_none {xs : List NRow} {k : NestedKey} (h : ∀ x ∈ xs, x.1 ≠ k) : atN xs k = none := by
  unfold atN
  rw [List.find?_eq_none.mpr fun x hx => by simpa using h x hx]
  rfl
theorem storedN_new {xs : List NRow} {k : NestedKey} {b : Addr} {v : V} (h : ∀ x ∈ xs, x.1 ≠ k) : storedN xs k b v = xs ++ [(k, b, v)] := by
  unfold storedN
  rw [atN_none h]
  rfl
theorem prd_mem {α β : Type} {F : α → β → Prop} {as : List α} {bs : List β} {a : α} (p : Paired F as bs) (h : a ∈ as) : ∃ b ∈ bs, F a b := by
  obtain ⟨i, hi⟩ := List.getElem?_of_mem h
  obtain ⟨b, h1, h2⟩ := prd_at p hi
  exact ⟨b, List.mem_of_getElem? h1, h2⟩
theorem ahead_ne {α : Type} {l : List α} {i : Nat} {x : α} (h : l.Pairwise (· ≠ ·)) (hx : l[i]? = some x) : ∀ y ∈ l.take i, y ≠ x := fun y hy e => by
  obtain ⟨j, hj⟩ := List.getElem?_of_mem hy
  have lt := (List.getElem?_eq_some_iff.mp hj).1
  rw [List.length_take] at lt
  rw [List.getElem?_take_of_lt (by omega)] at hj
  have h1 := List.getElem?_eq_some_iff.mp hj
  have h2 := List.getElem?_eq_some_iff.mp hx
  exact (List.pairwise_iff_getElem.mp h) j i h1.1 h2.1 (by omega) (by rw [h1.2, h2.2]; exact e)
theorem dF {p : Prop} {i : Decidable p} {A B : Prop} (h : ¬p) (k : B) : if (@decide p i) = true then A else B := by
  rw [decide_eq_false h]
  exact iteF k
theorem dT {p : Prop} {i : Decidable p} {A B : Prop} (h : p) (k : A) : if (@decide p i) = true then A else B := by
  rw [decide_eq_true h]
  exact iteT k
theorem RowsN.keep {H H' : Hp} {xs : List NRow} (x : RowsN H xs) (h : ∀ b ys, H b = some (.tup ys) → H' b = some (.tup ys)) : RowsN H' xs := fun r hr => ⟨NK.keep h (x r hr).1, (x r hr).2⟩
theorem upd_tupN {H : Hp} {D : Addr} {P : Program} {w : World} {d : Addr} {xs : List NRow} {o : HO} (hD : H D = some (DictN P w d xs)) : ∀ b ys, H b = some (.tup ys) → (upd H D o) b = some (.tup ys) := fun b ys e => by
  rw [upd_ne (fun z => by rw [z, hD] at e; unfold DictN at e; cases e)]
  exact e
theorem upd_lstN {H : Hp} {D : Addr} {P : Program} {w : World} {d : Addr} {xs : List NRow} {o : HO} (hD : H D = some (DictN P w d xs)) : ∀ b ys, H b = some (.lst ys) → (upd H D o) b = some (.lst ys) := fun b ys e => by
  rw [upd_ne (fun z => by rw [z, hD] at e; unfold DictN at e; cases e)]
  exact e
section
variable {P : Program} {w : World} {K : PySem.W.Frag} {mg : Str → Option Value} {base : Heap}
end

section
variable {X : Cx}
def rListN (P : Program) (w : World) : List V → Hp → VK → Prop := fun vs H Q => ∃ (d : Addr) (xs : List NRow), vs = [.ref d] ∧ H d = some (DictN P w d xs) ∧ ∀ q, H q = none → Q (.ref q) (upd H q (.lst (xs.map fun x => V.ref x.2.1)))
theorem call_listN (hc : X.calm = true) : CallR X (.type "list") (rListN X.prog X.w) := by
  intro pins s σ H vs ws Q I r h
  obtain ⟨d, xs, rfl, hd, q⟩ := h
  obtain ⟨u, rfl, rx⟩ := vals1 r
  cases rx
  obtain ⟨⟨h1, h2, us, h3, o, es, ep, e1, e2, e3, e4, e5⟩, _, _⟩ := I.hok _ _ hd
  have hl : us.length = es.size := by
    have := congrArg List.length e4
    rw [List.length_map, Array.length_toList] at this
    exact this.symm
  have ln : xs.length = us.length := Paired.length h3
  refine PySem.W.kdl_call (kdl_raw h1 e2 e3) (I.ok.hd hc) e1 (by omega) fun h' tk acc' c' hkeep hS hacc => ?_
  refine ⟨.ref s.heap.objs.size, _, I.laid hkeep (Nat.le_refl _) (show ObjOk X.prog X.w _ _ _ (.lst (xs.map fun x => V.ref x.2.1)) from ⟨?_, acc'.toList, c', ?_, ?_⟩), rfl, q _ (I.hok.fresh (Nat.le_refl _))⟩
  · rw [List.length_map]; exact h2
  · have el : acc'.toList.length = acc'.size := by simp
    refine vals_of_at (by rw [List.length_map, el, hacc.1, ← hl, ln]) fun j x w h1 h2 => ?_
    obtain ⟨en, hen, hw⟩ := hacc.2 j w (by rw [← Array.getElem?_toList]; exact h2)
    rw [← Array.getElem?_toList, e4, List.getElem?_map] at hen
    rw [List.getElem?_map] at h1
    cases hx : xs[j]? with
    | none => rw [hx] at h1; cases h1
    | some row =>
      rw [hx] at h1
      cases h1
      obtain ⟨u, hu, k1, k2, k3⟩ := prd_at h3 hx
      rw [hu] at hen
      cases hen
      rw [hw]
      show Value.ref u.2.1 = Value.ref row.2.1
      rw [← k2]
  · rw [Array.toArray_toList]; exact hS
theorem storedAll_new {ps : List (NestedKey × Addr × Value)} (nd : (ps.map (·.1)).Nodup) : storedAllH [] ps = ps := by
  have : ∀ (n : Nat), n ≤ ps.length → storedAllH [] (ps.take n) = ps.take n := by
    intro n
    induction n with
    | zero => intro _; rfl
    | succ n ih =>
      intro hn
      have hp : ps[n]? = some ps[n] := List.getElem?_eq_getElem hn
      rw [storedAllH_take_succ [] ps n _ hp, ih (by omega), List.take_add_one, hp]
      have none : atKey (ps.take n) ps[n].1 = none := by
        cases e : atKey (ps.take n) ps[n].1 with
        | none => rfl
        | some v =>
          exfalso
          have hm : ∃ x ∈ ps.take n, x.1 = ps[n].1 := by
            unfold atKey at e
            cases f : (ps.take n).find? fun x => decide (x.1 = ps[n].1) with
            | none => rw [f] at e; cases e
            | some x => exact ⟨x, List.mem_of_find?_eq_some f, by simpa using List.find?_some f⟩
          obtain ⟨x, hx, ex⟩ := hm
          obtain ⟨j, hj⟩ := List.getElem?_of_mem hx
          have hjn : j < n := by
            have := (List.getElem?_eq_some_iff.mp hj).1
            rw [List.length_take] at this
            omega
          rw [List.getElem?_take_of_lt hjn] at hj
          have g1 : (ps.map (·.1))[j]? = some ps[n].1 := by rw [List.getElem?_map, hj]; exact congrArg some ex
          have g2 : (ps.map (·.1))[n]? = some ps[n].1 := by rw [List.getElem?_map, hp]; rfl
          have := (List.getElem?_inj (List.getElem?_eq_some_iff.mp g1).1 nd).mp (g1.trans g2.symm)
          omega
      unfold storedH
      rw [none]
      rfl
  have := this ps.length (Nat.le_refl _)
  rwa [List.take_length] at this
def rDictP (P : Program) (w : World) : List V → Hp → VK → Prop := fun vs H Q => ∃ (l : Addr) (bs : List Addr) (ps : List NRow), vs = [.ref l] ∧ H l = some (.lst (bs.map V.ref)) ∧ Paired (fun (b : Addr) (p : NRow) => H b = some (.tup [.ref p.2.1, p.2.2])) bs ps ∧ RowsN H ps ∧ (ps.map (·.1)).Nodup ∧ ps.length ≤ sizeLine ∧
  ∀ d, H d = none → Q (.ref d) (upd H d (DictN P w d ps))
theorem call_dictP (hc : X.calm = true) (hu : X.A.units + 12 < cLine) : CallR X (.type "dict") (rDictP X.prog X.w) := by
  intro pins s σ H vs ws Q I r h
  obtain ⟨l, bs, ps, rfl, hl, hp, hr, nd, hz, q⟩ := h
  obtain ⟨u, rfl, rx⟩ := vals1 r
  cases rx
  obtain ⟨its, ri, ⟨o, m, g1, g2, g3, g4⟩, _⟩ := I.list (SqL.of hl)
  have pick : ∀ (bs : List Addr) (ps : List NRow), Paired (fun (b : Addr) (p : NRow) => H b = some (.tup [.ref p.2.1, p.2.2])) bs ps → ∃ us : List (NestedKey × Addr × Value), RowsP ps us ∧ Paired (fun (b : Addr) (u : NestedKey × Addr × Value) => s.heap.IsTuple b #[.ref u.2.1, u.2.2]) bs us := by
    intro bs ps p
    induction p with
    | nil => exact ⟨[], .nil, .nil⟩
    | @cons b x bs ps e t ih =>
      obtain ⟨us, a1, a2⟩ := ih
      obtain ⟨vs2, r1, k1, _⟩ := I.tuple (SqT.of e)
      cases r1 with
      | cons c1 c2 =>
      cases c2 with
      | cons c3 c4 =>
      cases c4
      cases c1
      exact ⟨(x.1, x.2.1, _) :: us, .cons ⟨rfl, rfl, c3⟩ a1, .cons k1 a2⟩
  obtain ⟨us, a1, a2⟩ := pick bs ps hp
  have lb : bs.length = us.length := Paired.length a2
  have lp : ps.length = us.length := Paired.length a1
  have li := ri.length
  rw [List.length_map] at li
  have keys : ps.map (·.1) = us.map (·.1) := by
    have : ∀ (ps : List NRow) (us : List (NestedKey × Addr × Value)), RowsP ps us → ps.map (·.1) = us.map (·.1) := by
      intro ps us p
      induction p with
      | nil => rfl
      | cons r t ih => rw [List.map_cons, List.map_cons, r.1, ih]
    exact this _ _ a1
  have nds : ((us.map (·.1))).Nodup := by rw [← keys]; exact nd
  have isk : ∀ x ∈ us, (nestedKind X.prog X.w).is s.heap x.1 x.2.1 := by
    have : ∀ (xs : List NRow) (us : List (NestedKey × Addr × Value)), RowsP xs us → RowsN H xs → ∀ u ∈ us, (nestedKind X.prog X.w).is s.heap u.1 u.2.1 := by
      intro xs us p
      induction p with
      | nil => intro _ u hu; cases hu
      | cons r t ih =>
        intro hk u hu
        rcases List.mem_cons.mp hu with rfl | hu
        · obtain ⟨n1, n2⟩ := hk _ List.mem_cons_self
          refine ⟨?_, ?_⟩
          · rw [← r.1, ← r.2.1]
            exact NK.is I n1 rfl
          · rw [← r.1]
            exact n2
        · exact ih (fun x hx => hk x (List.mem_cons_of_mem _ hx)) u hu
    exact this _ _ a1 hr
  have lo : s.heap.objs.size ≠ sysModules := Ne.symm (Nat.ne_of_lt I.big)
  refine call_dict_pairsH (knd := nestedKind X.prog X.w) (ps := us) (PairArg.list l its.toArray (fun j => bs.getD j 0) (us.map fun u => (Value.ref u.2.1, u.2.2))) (I.ok.hd hc) (show X.A.units + 1 + 1 + 8 < cLine by omega) ?_ ?_ (fun h' hk x hx => ?_) (by rw [List.length_map, ← lp]; exact hz) fun h' tk hd' hk => ?_
  · refine ⟨⟨o, m, g1, g2, g3, g4⟩, ?_, fun j k v hj => ?_⟩
    · rw [List.size_toArray, List.length_map]; omega
    · rw [List.getElem?_map] at hj
      cases hu : us[j]? with
      | none => rw [hu] at hj; cases hj
      | some u =>
        rw [hu] at hj
        cases hj
        have hjb : j < bs.length := by rw [lb]; exact (List.getElem?_eq_some_iff.mp hu).1
        have hb : bs[j]? = some bs[j] := List.getElem?_eq_getElem hjb
        have ed : bs.getD j 0 = bs[j] := by rw [List.getD_eq_getElem?_getD, hb]; rfl
        obtain ⟨u2, hu2, k1⟩ := prd_at a2 hb
        have e2 := Option.some.inj (hu2.symm.trans hu)
        subst e2
        dsimp only
        rw [ed]
        refine ⟨?_, .inl k1⟩
        obtain ⟨u3, hu3, r3⟩ := ri.get (show (bs.map V.ref)[j]? = some (V.ref bs[j]) by rw [List.getElem?_map, hb]; rfl)
        cases r3
        rw [List.getElem?_toArray]
        exact hu3
  · refine ⟨by rw [List.length_map], fun i key v hi => ?_⟩
    have hi : (us.map fun u => (Value.ref u.2.1, u.2.2))[i]? = some (key, v) := hi
    rw [List.getElem?_map] at hi
    cases hu : us[i]? with
    | none => rw [hu] at hi; cases hi
    | some u =>
      rw [hu] at hi
      cases hi
      exact ⟨u.1, u.2.1, rfl, rfl⟩
  · exact nestedKind_stays.stays (fun b o vs m e q => hk b o (Nat.ne_of_lt (Heap.lt_size e)) (fun z => nomatch z) e) (isk x hx)
  · rw [storedAll_new nds] at hd'
    obtain ⟨ob, es, ep, e1, e2, e3, e4, _, e5⟩ := hd'
    exact ⟨.ref s.heap.objs.size, _, I.laid (t' := tk) (fun b o e => hk b o (fun z => nomatch z) e) (Nat.le_refl _) (dictN_ok (beq_eq_false_iff_ne.mpr lo) hz a1 ⟨ob, es, ep, e1, e2, e3, e4, e5⟩), rfl, q _ (I.hok.fresh (Nat.le_refl _))⟩
end

def everyV {α : Type} (k a : Nat) (xs : List α) : List α := (List.range (if a < xs.length then (xs.length - a - 1) / k + 1 else 0)).filterMap fun m => xs[a + m * k]?
section
open HT
variable {prog : Program} {w : World} {A : Around} {E : Value → Shared → Prop} {s : Shared}
theorem applied_step {sl : Addr} {vl vs : Value} {a k n : Nat} {Q : Int × Int × Nat → Shared → Prop} (hs : s.heap.IsSliceOf sl vl .none vs) (pl : IsPart vl (some (a : Int))) (ps : IsPart vs (some (k : Int))) (hk : 1 ≤ k) (ha : a ≤ n)
    (h : Q (((a : Nat) : Int), ((k : Nat) : Int), if a < n then (n - a - 1) / k + 1 else 0) s) : wpAny (model prog w) A (Builtin.Slice.sliceApplied (.ref sl) (pure (n : Int))) Q E s := by
  obtain ⟨os, hos, hcs, hds⟩ := id hs
  unfold Builtin.Slice.sliceApplied Builtin.Slice.sliceFields
  refine wpAny_bind (wpAny_bind (wpAny_field hos hds (x := vl) rfl (wpAny_bind (wpAny_field hos hds (x := .none) rfl (wpAny_bind (wpAny_field hos hds (x := vs) rfl (wpAny_pure ?_)))))))
  refine wpAny_bind (slicePart_ ps ?_)
  show wpAny _ _ (if ((k : Int) == 0) = true then _ else _) _ _ s
  rw [if_neg (by simp; omega)]
  refine wpAny_bind (slicePart_ pl (wpAny_bind (slicePart_none (wpAny_bind (wpAny_pure ?_)))))
  have e1 : Builtin.Slice.sliceAdjust (some (a : Int)) none (k : Int) (n : Int) = ((a : Int), (n : Int)) := by
    have h1 : ¬ ((k : Int) < 0) := by omega
    unfold Builtin.Slice.sliceAdjust
    simp only [h1, if_false]
    refine Prod.ext ?_ rfl
    show (if (a : Int) < 0 then max ((a : Int) + (n : Int)) 0 else min (a : Int) (n : Int)) = (a : Int)
    rw [if_neg (by omega)]
    omega
  show wpAny _ _ (match Builtin.Slice.sliceAdjust (some (a : Int)) none (k : Int) (n : Int) with | (lo, hi) => pure (lo, (k : Int), Builtin.Slice.slicePlaces lo hi (k : Int))) _ _ s
  rw [e1]
  show wpAny _ _ (pure (((a : Nat) : Int), ((k : Nat) : Int), Builtin.Slice.slicePlaces (a : Int) (n : Int) (k : Int))) _ _ s
  have e2 : Builtin.Slice.slicePlaces (a : Int) (n : Int) (k : Int) = if a < n then (n - a - 1) / k + 1 else 0 := by
    unfold Builtin.Slice.slicePlaces
    rw [if_pos (show (k : Int) > 0 by omega)]
    by_cases hl : a < n
    · rw [if_pos (by omega), if_pos hl]
      have e3 : ((n : Int) - (a : Int) - 1) = ((n - a - 1 : Nat) : Int) := by omega
      rw [e3, ← Int.natCast_ediv, ← Int.natCast_succ, Int.toNat_natCast]
    · rw [if_neg (by omega), if_neg hl]
      rfl
  rw [e2]
  exact wpAny_pure h
theorem getItem_tuple_step {t sl : Addr} {items : Array Value} {vl vs : Value} {a k : Nat} {Q : Value → Shared → Prop} (ht : IsTup s.heap t items) (hs : s.heap.IsSliceOf sl vl .none vs) (pl : IsPart vl (some (a : Int))) (ps : IsPart vs (some (k : Int))) (hk : 1 ≤ k) (ha : a ≤ items.size)
    (h1 : a = 0 ∧ k = 1 → Q (.ref t) s) (h2 : ¬ (a = 0 ∧ k = 1) → Q (.ref s.heap.objs.size) { s with heap := s.heap.push { cls := .type "tuple", data := .seq (everyV k a items.toList).toArray } })
    (hsz : items.size ≤ sizeLine) : wpAny (model prog w) A (getItem (.ref t) (.ref sl)) Q E s := by
  obtain ⟨os, hos, hcs, hds⟩ := id hs
  have hTs : s.TypeIs (.ref sl) "slice" := ⟨os, hos, hcs⟩
  have few : (everyV k a items.toList).length ≤ items.size := by
    unfold everyV
    refine Nat.le_trans (List.length_filterMap_le _ _) ?_
    rw [List.length_range, Array.length_toList]
    split
    · have : (items.size - a - 1) / k ≤ items.size - a - 1 := Nat.div_le_self _ _
      omega
    · omega
  have htake : sizeOk (.seq (everyV k a items.toList).toArray) := by
    show (everyV k a items.toList).toArray.size ≤ sizeLine
    rw [List.size_toArray]
    omega
  unfold getItem
  try with_reducible refine wpAny_holding ?_
  first | refine wpAny_bind (wpAny_pure ?_) | skip
  refine wpAny_bind (wpAny_sequenceKey ht.typeIs (by decide) ?_)
  refine wpAny_bind (wpAny_callSpecial?_slot (name := Str.ofString "__getitem__") ht.typeIs PyProof.Rows.slot_tuple_getitem
    (wpAny_call_entry PyProof.Rows.slot_tuple_getitem ht.typeIs entry_tuple_getitem ?_ (args_tuple_getitem _ _)))
  show wpAny _ _ (Builtin.Tuple.tupleItemsOf (.ref t) >>= _) _ _ s
  refine wpAny_bind (tupleItemsOf_ ht ?_)
  refine wpAny_bind (wpAny_typeOf hTs ?_)
  rw [if_pos (by decide)]
  refine wpAny_bind (applied_step hs pl ps hk ha ?_)
  show wpAny _ _ (if (((a : Nat) : Int) == 0 && ((k : Nat) : Int) == 1 && (if a < items.size then (items.size - a - 1) / k + 1 else 0) == items.size) = true then _ else _) _ _ s
  by_cases whole : a = 0 ∧ k = 1
  · obtain ⟨rfl, rfl⟩ := whole
    have hyes : ((((0 : Nat) : Nat) : Int) == 0 && ((1 : Nat) : Int) == 1 && (if 0 < items.size then (items.size - 0 - 1) / 1 + 1 else 0) == items.size) = true := by
      have : (if 0 < items.size then (items.size - 0 - 1) / 1 + 1 else 0) = items.size := by
        split
        · rw [Nat.div_one]; omega
        · omega
      rw [this]
      simp
    rw [if_pos hyes]
    refine wpAny_bind ?_
    show wpAny _ _ (typeOf (.ref t) >>= fun T => pure (T == .type "tuple")) _ _ s
    refine wpAny_bind (wpAny_typeOf ht.typeIs (wpAny_pure ?_))
    first
      | rw [if_pos (by decide)]
      | simp only [beq_self_eq_true, if_true]
    first
      | exact wpAny_bind (wpAny_rule (wpAny_pure ⟨_, rfl, wpAny_pure (h1 ⟨rfl, rfl⟩)⟩))
      | exact wpAny_bind (wpAny_rule (wpAny_bind (wpAny_pure (wpAny_pure ⟨_, rfl, wpAny_pure (h1 ⟨rfl, rfl⟩)⟩))))
  · have hno : ¬ ((((a : Nat) : Int) == 0 && ((k : Nat) : Int) == 1 && (if a < items.size then (items.size - a - 1) / k + 1 else 0) == items.size) = true) := by
      intro q
      rw [Bool.and_eq_true, Bool.and_eq_true] at q
      have q1 : ((a : Nat) : Int) = 0 := eq_of_beq q.1.1
      have q2 : ((k : Nat) : Int) = 1 := eq_of_beq q.1.2
      exact whole ⟨by omega, by omega⟩
    rw [if_neg hno]
    have ep : ((List.range (if a < items.size then (items.size - a - 1) / k + 1 else 0)).filterMap fun (m : Nat) => items[((a : Int) + (m : Int) * (k : Int)).toNat]?).toArray = (everyV k a items.toList).toArray := by
      unfold everyV
      rw [Array.length_toList]
      have : (fun (m : Nat) => items[((a : Int) + (m : Int) * (k : Int)).toNat]?) = fun m => items.toList[a + m * k]? := by
        funext m
        have : ((a : Int) + (m : Int) * (k : Int)).toNat = a + m * k := by
          rw [← Int.natCast_mul, ← Int.natCast_add, Int.toNat_natCast]
        rw [this, Array.getElem?_toList]
      rw [this]
    rw [ep]
    have h := h2 whole
    first
      | exact wpAny_bind (m := Builtin.Tuple.tupleExact _) (wpAny_newObj_type (wpAny_pure ⟨_, rfl, wpAny_pure h⟩) htake)
      | exact wpAny_bind (m := Builtin.Tuple.tupleExact _) (wpAny_newObj_type (wpAny_bind (wpAny_pure (wpAny_pure ⟨_, rfl, wpAny_pure h⟩))) htake)
      | exact wpAny_bind (wpAny_bind (m := Builtin.Tuple.tupleExact _) (wpAny_newObj_type (wpAny_pure (wpAny_pure ⟨_, rfl, wpAny_pure h⟩)) htake))
      | exact wpAny_bind (wpAny_bind (m := Builtin.Tuple.tupleExact _) (wpAny_newObj_type (wpAny_pure ⟨_, rfl, wpAny_pure h⟩) htake))
end
theorem vals_every {xs : List V} {us : List Value} (r : Vals xs us) (k a : Nat) : Vals (everyV k a xs) (everyV k a us) := by
  unfold everyV
  rw [r.length]
  generalize List.range (if a < us.length then (us.length - a - 1) / k + 1 else 0) = l
  induction l with
  | nil => exact .nil
  | cons m t ih =>
    rw [List.filterMap_cons, List.filterMap_cons]
    cases hx : xs[a + m * k]? with
    | none =>
      have : us[a + m * k]? = none := List.getElem?_eq_none (by rw [← r.length]; exact List.getElem?_eq_none_iff.mp hx)
      rw [this]
      exact ih
    | some x =>
      obtain ⟨u, hu, ru⟩ := r.get hx
      rw [hu]
      exact .cons ru ih
section
variable {X : Cx} {e f g : PySem.Expr} {te tf tg : TE} {p3 pos : Pos}
def tStepT (K : PySem.W.Frag) (te tf tg : TE) : TE := fun σ H Q => te σ H fun x H1 => tPart tf σ H1 fun o H2 => tPart tg σ H2 fun o2 H3 => ∃ (p : Addr) (xs : List V) (a k : Nat), x = .ref p ∧ o = some (a : Int) ∧ o2 = some (k : Int) ∧ SqT K H3 p xs ∧ 1 ≤ k ∧ a ≤ xs.length ∧
  (a = 0 ∧ k = 1 → Q (.ref p) H3) ∧ (¬ (a = 0 ∧ k = 1) → ∀ q, H3 q = none → Q (.ref q) (upd H3 q (.tup (everyV k a xs))))
theorem pe_stepT (he : PE X e te) (hf : PE X f tf) (hg : PE X g tg) : PE X (.Subscript e (.Slice (some f) none (some g) p3) pos) (tStepT X.K te tf tg) := by
  refine ⟨fun pins s σ H Q I h => ?_⟩
  refine Subscript_ (thn (he.run pins s σ H _ I h) fun v s1 ⟨x, H1, I1, r1, q1⟩ => ?_)
  refine wpAny_Slice (thn ((po_some hf).run pins s1 σ H1 _ I1 q1) fun vl s2 ⟨o1, H2, I2, pl, q2⟩ => ?_)
  refine thn (po_none.run pins s2 σ H2 (fun o H3 => o = none ∧ H3 = H2) I2 ⟨rfl, rfl⟩) fun vu s3 ⟨u, H3, I3, pu, eu, e3⟩ => ?_
  subst eu e3
  refine thn ((po_some hg).run pins s3 σ H3 _ I3 q2) fun vs s4 ⟨o2, H4, I4, ps, p, xs, a, k, ex, e1, e2, hx, hk, ha, c1, c2⟩ => ?_
  subst ex e1 e2
  cases r1
  cases pu
  have I5 : Inv X pins σ H4 { s4 with heap := s4.heap.push { cls := .type "slice", data := .fields #[vl, .none, vs] } } := I4.kept (t' := s4.toks) fun b ob q => Heap.get?_push_of_some _ q
  obtain ⟨its, r, ht, hz⟩ := I5.tuple hx
  have hlen := r.length
  show wpAny (model X.prog X.w) X.A (subscriptTail e (.Slice (some f) none (some g) p3) (.ref p) (.ref s4.heap.objs.size)) (EP X pins σ Q) X.xe { s4 with heap := s4.heap.push { cls := .type "slice", data := .fields #[vl, .none, vs] } }
  refine tail_any (ops := [.ref p, .ref s4.heap.objs.size]) ht.typeIs (PyProof.Rows.slot_tuple_getitem.lookup) ?_ (by with_unfolding_all rfl)
  refine getItem_tuple_step ht (Heap.IsSliceOf.new _ vl .none vs) pl ps hk (by rw [List.size_toArray, ← hlen]; exact ha) (fun c => ⟨.ref p, H4, I5, rfl, c1 c⟩) (fun c => ?_) (by rw [List.size_toArray]; omega)
  have rr := vals_every r k a
  have few : (everyV k a xs).length ≤ xs.length := by
    unfold everyV
    refine Nat.le_trans (List.length_filterMap_le _ _) ?_
    rw [List.length_range]
    split
    · have : (xs.length - a - 1) / k ≤ xs.length - a - 1 := Nat.div_le_self _ _
      omega
    · omega
  refine ⟨.ref _, _, I5.laid (t' := s4.toks) (o := .tup (everyV k a xs)) (fun b ob q => Heap.get?_push_of_some _ q) (Nat.le_refl _) (show ObjOk X.prog X.w _ _ _ (.tup (everyV k a xs)) from ⟨Nat.le_trans few hz, everyV k a its, rr, IsTup.new _ _⟩), rfl, c2 c _ (I5.hok.fresh (Nat.le_refl _))⟩
def tStepL (K : PySem.W.Frag) (te tg : TE) : TE := fun σ H Q => te σ H fun x H1 => tPart tg σ H1 fun o H2 => ∃ (p : Addr) (xs : List V) (back : Bool), x = .ref p ∧ o = some (if back then -1 else 1) ∧ SqL K H2 p xs ∧ ∀ q, H2 q = none → Q (.ref q) (upd H2 q (.lst (if back then xs.reverse else xs)))
theorem pick_one (items : Array Value) : slicePick items none none (some 1) = items.toList.toArray := by
  unfold slicePick
  show ((sliceRange 0 (items.size : Int) 1).filterMap (items[·]?)).toArray = _
  have e : sliceRange 0 (items.size : Int) 1 = List.range items.size := by
    unfold sliceRange
    have h1 : (if (1 : Int) > 0 then (if (0 : Int) < (items.size : Int) then ((items.size : Int) - 0 + 1 - 1) / 1 else 0) else (if (0 : Int) > (items.size : Int) then (0 - (items.size : Int) - 1 - 1) / (-1) else 0)) = (items.size : Int) := by
      rw [if_pos (by decide)]
      split
      · rw [Int.ediv_one]; omega
      · omega
    dsimp only
    rw [h1, Int.toNat_natCast]
    have : (fun (k : Nat) => ((0 : Int) + 1 * (k : Int)).toNat) = id := by
      funext k
      show ((0 : Int) + 1 * (k : Int)).toNat = k
      omega
    rw [this, List.map_id]
  rw [e, PySem.W.krv_all]
theorem pe_stepL (he : PE X e te) (hg : PE X g tg) : PE X (.Subscript e (.Slice none none (some g) p3) pos) (tStepL X.K te tg) := by
  refine ⟨fun pins s σ H Q I h => ?_⟩
  refine Subscript_ (thn (he.run pins s σ H _ I h) fun v s1 ⟨x, H1, I1, r1, q1⟩ => ?_)
  refine wpAny_Slice (thn (po_none.run pins s1 σ H1 (fun o H2 => o = none ∧ H2 = H1) I1 ⟨rfl, rfl⟩) fun vl s2 ⟨l, H2, I2, pl, el, e2⟩ => ?_)
  subst el e2
  refine thn (po_none.run pins s2 σ H2 (fun o H3 => o = none ∧ H3 = H2) I2 ⟨rfl, rfl⟩) fun vu s3 ⟨u, H3, I3, pu, eu, e3⟩ => ?_
  subst eu e3
  refine thn ((po_some hg).run pins s3 σ H3 _ I3 q1) fun vs s4 ⟨o, H4, I4, ps, p, xs, back, ex, eo, hx, q⟩ => ?_
  subst ex eo
  cases r1
  have I5 : Inv X pins σ H4 { s4 with heap := s4.heap.push { cls := .type "slice", data := .fields #[vl, vu, vs] } } := I4.kept (t' := s4.toks) fun b ob q => Heap.get?_push_of_some _ q
  obtain ⟨its, r, ht, hz⟩ := I5.list hx
  have hlen := r.length
  show wpAny (model X.prog X.w) X.A (subscriptTail e (.Slice none none (some g) p3) (.ref p) (.ref s4.heap.objs.size)) (EP X pins σ Q) X.xe { s4 with heap := s4.heap.push { cls := .type "slice", data := .fields #[vl, vu, vs] } }
  refine tail_any (ops := [.ref p, .ref s4.heap.objs.size]) ht.isList.typeIs (PySem.slot_list_getitem.lookup) ?_ (by with_unfolding_all rfl)
  refine wpAny_getItem_list_slice ht.isList (Heap.IsSliceOf.new _ vl vu vs) pl pu ps (by cases back <;> decide) ?_ (by rw [List.size_toArray]; omega)
  cases back with
  | true =>
    rw [if_pos rfl] at q ⊢
    rw [PySem.W.krv_pick]
    refine ⟨.ref _, _, I5.laid (t' := s4.toks) (o := .lst xs.reverse) (fun b ob q => Heap.get?_push_of_some _ q) (Nat.le_refl _) ?_, rfl, q _ (I5.hok.fresh (Nat.le_refl _))⟩
    exact ⟨by rw [List.length_reverse]; exact hz, _, 0, r.reverse, Heap.get?_push_size _ rfl⟩
  | false =>
    rw [if_neg (by decide)] at q ⊢
    rw [pick_one]
    refine ⟨.ref _, _, I5.laid (t' := s4.toks) (o := .lst xs) (fun b ob q => Heap.get?_push_of_some _ q) (Nat.le_refl _) ?_, rfl, q _ (I5.hok.fresh (Nat.le_refl _))⟩
    exact ⟨hz, _, 0, r, Heap.get?_push_size _ rfl⟩
end
theorem everyV_map {α β : Type} (f : α → β) (k a : Nat) (xs : List α) : everyV k a (xs.map f) = (everyV k a xs).map f := by
  unfold everyV
  rw [List.length_map]
  generalize List.range (if a < xs.length then (xs.length - a - 1) / k + 1 else 0) = l
  induction l with
  | nil => rfl
  | cons m t ih =>
    rw [List.filterMap_cons, List.filterMap_cons, List.getElem?_map]
    cases xs[a + m * k]? with
    | none => exact ih
    | some x => rw [Option.map_some, List.map_cons, ih]

theorem perm_nodup {α : Type} [DecidableEq α] : ∀ {xs ys : List α}, xs.Nodup → ys.Nodup → (∀ a, a ∈ xs ↔ a ∈ ys) → xs.Perm ys
  | [], ys, _, _, h => by
    cases ys with
    | nil => exact .nil
    | cons y r => exact absurd ((h y).mpr List.mem_cons_self) (by simp)
  | x :: r, ys, n1, n2, h => by
    have hx : x ∈ ys := (h x).mp List.mem_cons_self
    rw [List.nodup_cons] at n1
    have p := List.perm_cons_erase hx
    have n3 : (ys.erase x).Nodup := n2.erase x
    refine (List.Perm.cons x (perm_nodup n1.2 n3 fun a => ?_)).trans p.symm
    rw [n2.mem_erase_iff]
    constructor
    · intro ha
      exact ⟨fun e => n1.1 (by rw [← e]; exact ha), (h a).mp (List.mem_cons_of_mem _ ha)⟩
    · rintro ⟨ne, ha⟩
      exact (List.mem_cons.mp ((h a).mpr ha)).resolve_left ne
theorem prd_perm {α β : Type} {F : α → β → Prop} {as cs : List α} (p : as.Perm cs) : ∀ {bs : List β}, Paired F as bs → ∃ ds, bs.Perm ds ∧ Paired F cs ds := by
  induction p with
  | nil => intro bs h; cases h; exact ⟨[], .nil, .nil⟩
  | cons x _ ih =>
    intro bs h
    cases h with
    | cons r t =>
    obtain ⟨ds, h1, h2⟩ := ih t
    exact ⟨_ :: ds, h1.cons _, .cons r h2⟩
  | swap x y l =>
    intro bs h
    cases h with
    | cons r t =>
    cases t with
    | cons r2 t =>
    exact ⟨_ :: _ :: _, .swap _ _ _, .cons r2 (.cons r t)⟩
  | trans _ _ ih1 ih2 =>
    intro bs h
    obtain ⟨d1, p1, h1⟩ := ih1 h
    obtain ⟨d2, p2, h2⟩ := ih2 h1
    exact ⟨d2, p1.trans p2, h2⟩
def RowsB (n : Nat) (xs : List NRow) (keys : List (Nat × List Nat)) : Prop := Paired (fun (x : NRow) (key : Nat × List Nat) => x.1 = keyN key.1 key.2 ∧ ∃ v : Nat, v < n ∧ x.2.2 = nI v) xs keys
theorem rows_fun {n : Nat} : ∀ {xs : List NRow} {keys : List (Nat × List Nat)}, RowsB n xs keys → keys.Nodup → ∃ fs : Nat → List Nat → Nat, RowsJ xs keys fs ∧ ∀ key ∈ keys, fs key.1 key.2 < n
  | _, _, .nil, _ => ⟨fun _ _ => 0, .nil, fun _ h => by cases h⟩
  | x :: xs, (c, row) :: keys, .cons ⟨e1, v, hv, e2⟩ t, nd => by
    rw [List.nodup_cons] at nd
    obtain ⟨fs, h1, h2⟩ := rows_fun t nd.2
    have same : ∀ {xs : List NRow} {ks : List (Nat × List Nat)}, RowsJ xs ks fs → (∀ k ∈ ks, k ∈ keys) → RowsJ xs ks (fun c' r' => if (c', r') = (c, row) then v else fs c' r') := by
      intro xs ks h
      induction h with
      | nil => intro _; exact .nil
      | @cons x1 k1 _ _ r _ ih =>
        intro hk
        refine .cons ⟨r.1, ?_⟩ (ih fun k h => hk k (List.mem_cons_of_mem _ h))
        have ne : ¬ ((k1.1, k1.2) = (c, row)) := fun e => nd.1 (by rw [← e]; exact hk k1 List.mem_cons_self)
        show x1.2.2 = nI (if (k1.1, k1.2) = (c, row) then v else fs k1.1 k1.2)
        rw [if_neg ne]
        exact r.2
    refine ⟨fun c' r' => if (c', r') = (c, row) then v else fs c' r', .cons ⟨e1, ?_⟩ (same h1 fun _ h => h), fun key hk => ?_⟩
    · show x.2.2 = nI (if (c, row) = (c, row) then v else fs c row)
      rw [if_pos rfl]
      exact e2
    · show (if (key.1, key.2) = (c, row) then v else fs key.1 key.2) < n
      split
      · exact hv
      · rename_i ne
        exact h2 key ((List.mem_cons.mp hk).resolve_left ne)
theorem atN_isb {n : Nat} {c : Nat} {row : List Nat} : ∀ {xs : List NRow} {keys : List (Nat × List Nat)}, RowsB n xs keys → (c, row) ∈ keys → ∃ v : Nat, v < n ∧ atN xs (keyN c row) = some (nI v)
  | _, _, .nil, h => by cases h
  | x :: xs, (c', row') :: keys, .cons r t, h => by
    obtain ⟨e1, v, hv, e2⟩ := r
    by_cases e : (c', row') = (c, row)
    · cases e
      exact ⟨v, hv, by simp [atN, e1, e2]⟩
    · have hm : (c, row) ∈ keys := (List.mem_cons.mp h).resolve_left fun z => e z.symm
      have ne : ¬ x.1 = keyN c row := fun z => e (by
        obtain ⟨a, b⟩ := keyN_inj (e1.symm.trans z)
        dsimp only at a b
        rw [a, b])
      have : atN (x :: xs) (keyN c row) = atN xs (keyN c row) := by simp [atN, List.find?_cons, ne]
      rw [this]
      exact atN_isb t hm
theorem storedN_old {n : Nat} {c v : Nat} {row : List Nat} {b : Addr} (hv : v < n) {xs : List NRow} {keys : List (Nat × List Nat)} (h : RowsB n xs keys) (hm : (c, row) ∈ keys) : RowsB n (storedN xs (keyN c row) b (nI v)) keys ∧ (storedN xs (keyN c row) b (nI v)).map (fun x => x.2.1) = xs.map fun x => x.2.1 := by
  obtain ⟨v0, _, e0⟩ := atN_isb h hm
  unfold storedN
  rw [e0, Option.isSome_some, if_pos rfl]
  constructor
  · have : ∀ {xs : List NRow} {ks : List (Nat × List Nat)}, RowsB n xs ks → RowsB n (xs.map fun x => if x.1 = keyN c row then (x.1, x.2.1, nI v) else x) ks := by
      intro xs ks h
      induction h with
      | nil => exact .nil
      | @cons x1 k1 _ _ r _ ih =>
        refine .cons ?_ ih
        dsimp only
        split
        · exact ⟨r.1, v, hv, rfl⟩
        · exact r
    exact this h
  · rw [List.map_map]
    refine List.map_congr_left fun x _ => ?_
    show (if x.1 = keyN c row then (x.1, x.2.1, nI v) else x).2.1 = x.2.1
    split <;> rfl
theorem keys_len {n : Nat} {xs : List NRow} {keys : List (Nat × List Nat)} (h : RowsB n xs keys) : xs.length = keys.length := Paired.length h
def keysC (L : Str) (n k : Nat) : List (Nat × List Nat) := (rowsTo n k).flatMap fun r => L.cps.toList.map fun c => (c, r)
theorem keysC_mem {L : Str} {n k c : Nat} {r : List Nat} : (c, r) ∈ keysC L n k ↔ (c, r) ∈ keysOf L n k := by
  simp only [keysC, keysOf, List.mem_flatMap, List.mem_map, Prod.mk.injEq]
  constructor
  · rintro ⟨r0, h1, c0, h2, rfl, rfl⟩
    exact ⟨c0, h2, r0, h1, rfl, rfl⟩
  · rintro ⟨c0, h2, r0, h1, rfl, rfl⟩
    exact ⟨r0, h1, c0, h2, rfl, rfl⟩
theorem nodup_flat {α β : Type} {f : α → List β} {g : β → α} (hg : ∀ a b, b ∈ f a → g b = a) (hf : ∀ a, (f a).Nodup) : ∀ {l : List α}, l.Nodup → (l.flatMap f).Nodup
  | [], _ => by simp
  | a :: r, nd => by
    rw [List.nodup_cons] at nd
    rw [List.flatMap_cons, List.nodup_append]
    refine ⟨hf a, nodup_flat hg hf nd.2, fun x h1 y h2 e => ?_⟩
    subst e
    obtain ⟨a2, m2, h3⟩ := List.mem_flatMap.mp h2
    have := (hg a x h1).symm.trans (hg a2 x h3)
    exact nd.1 (by rw [this]; exact m2)
theorem nodup_map {α β : Type} {f : α → β} (hf : ∀ a b, f a = f b → a = b) : ∀ {l : List α}, l.Nodup → (l.map f).Nodup
  | [], _ => by simp
  | a :: r, nd => by
    rw [List.nodup_cons] at nd
    rw [List.map_cons, List.nodup_cons]
    refine ⟨fun h => ?_, nodup_map hf nd.2⟩
    obtain ⟨b, hb, e⟩ := List.mem_map.mp h
    exact nd.1 (by rw [← hf b a e]; exact hb)
theorem keysC_nd {L : Str} (hL : Rises L) (n k : Nat) : (keysC L n k).Nodup :=
  nodup_flat (g := fun p => p.2) (fun a b h => by obtain ⟨c, _, rfl⟩ := List.mem_map.mp h; rfl) (fun a => nodup_map (fun x y e => by cases e; rfl) (hL.imp fun h => Nat.ne_of_lt h)) (rowsTo_nd k n)
theorem keysC_perm {L : Str} (hL : Rises L) (n k : Nat) : (keysC L n k).Perm (keysOf L n k) := perm_nodup (keysC_nd hL n k) (keysOf_nd hL n k) fun (_, _) => keysC_mem
theorem atN_self {row : NRow} : ∀ {xs : List NRow}, (xs.map (·.1)).Nodup → row ∈ xs → atN xs row.1 = some row.2.2
  | [], _, h => by cases h
  | x :: r, nd, h => by
    rw [List.map_cons, List.nodup_cons] at nd
    rcases List.mem_cons.mp h with e | h
    · rw [e]
      simp [atN]
    · have ne : ¬ x.1 = row.1 := fun e => nd.1 (List.mem_map.mpr ⟨row, h, e.symm⟩)
      have : atN (x :: r) row.1 = atN r row.1 := by simp [atN, List.find?_cons, ne]
      rw [this]
      exact atN_self nd.2 h
theorem rowsB_nd {n : Nat} : ∀ {xs : List NRow} {keys : List (Nat × List Nat)}, RowsB n xs keys → keys.Nodup → (xs.map (·.1)).Nodup
  | _, _, .nil, _ => by simp
  | x :: xs, key :: keys, .cons ⟨e, _⟩ t, nd => by
    rw [List.nodup_cons] at nd
    rw [List.map_cons, List.nodup_cons]
    refine ⟨fun h => ?_, rowsB_nd t nd.2⟩
    obtain ⟨y, hy, e1⟩ := List.mem_map.mp h
    obtain ⟨k2, hk2, e2, _⟩ := prd_mem t hy
    have e3 := e2.symm.trans (e1.trans e)
    obtain ⟨a, b⟩ := keyN_inj e3
    exact nd.1 (by rw [show key = k2 from Prod.ext a.symm b.symm]; exact hk2)

section
variable {ok : Addr → Prop} {H H' : Hp}
theorem DtAll.take : ∀ {vs : List V} {ds : List PyData} (n : Nat), DtAll ok H vs ds → DtAll ok H (vs.take n) (ds.take n)
  | _, _, 0, _ => .nil
  | _, _, n + 1, .nil => .nil
  | _, _, n + 1, .cons a b => .cons a (DtAll.take n b)
theorem DtAll.drop : ∀ {vs : List V} {ds : List PyData} (n : Nat), DtAll ok H vs ds → DtAll ok H (vs.drop n) (ds.drop n)
  | _, _, 0, h => h
  | _, _, n + 1, .nil => .nil
  | _, _, n + 1, .cons a b => DtAll.drop n b
theorem DtAll.app : ∀ {vs us : List V} {ds es : List PyData}, DtAll ok H vs ds → DtAll ok H us es → DtAll ok H (vs ++ us) (ds ++ es)
  | _, _, _, _, .nil, y => y
  | _, _, _, _, .cons a b, y => .cons a (DtAll.app b y)
theorem DtAll.at {vs : List V} {ds : List PyData} {r : Int} (h : DtAll ok H vs ds) (h0 : 0 ≤ r) (h1 : r < ds.length) : ∃ v d, atI vs r = some v ∧ ds[r.toNat]? = some d ∧ Dt ok H v d := by
  have hl := h.len
  have hn : r.toNat < vs.length := by omega
  obtain ⟨d, hd, hv⟩ := h.getV (List.getElem?_eq_getElem hn)
  exact ⟨_, d, at_of (j := r.toNat) (by omega) (List.getElem?_eq_getElem hn), hd, hv⟩
end
theorem cut_hi {xs : List V} {k : Nat} (h : k ≤ xs.length) : cutV xs none (some (k : Int)) = xs.take k := by
  unfold cutV
  rw [HT.sIx_none, HT.sIx_nat, List.drop_zero, Nat.sub_zero, Nat.min_eq_left h]
theorem cut_lo {xs : List V} {k : Nat} (h : k ≤ xs.length) : cutV xs (some (k : Int)) none = xs.drop k := by
  unfold cutV
  rw [HT.sIx_nat, HT.sIx_none, Nat.min_eq_left h, List.take_of_length_le (by rw [List.length_drop]; omega)]
theorem cut_m1 {xs : List V} : cutV xs none (some (-1)) = xs.take (xs.length - 1) := by
  have h : HT.sIx xs.length xs.length (some (-1)) = xs.length - 1 := by
    show (if (-1 : Int) < 0 then ((-1 : Int) + (xs.length : Int)).toNat else min (-1 : Int).toNat xs.length) = xs.length - 1
    rw [if_pos (by decide)]
    omega
  unfold cutV
  rw [HT.sIx_none, h, List.drop_zero, Nat.sub_zero]
theorem cut_whole {xs : List V} {lo hi : Option Int} (h : HT.sIx xs.length 0 lo = 0 ∧ HT.sIx xs.length xs.length hi = xs.length) : cutV xs lo hi = xs := by
  unfold cutV
  rw [h.1, h.2, List.drop_zero, Nat.sub_zero, List.take_length]
theorem slA {K : PySem.W.Frag} {H : Hp} {a : Addr} {xs : List V} {lo hi : Option Int} {Q : VK} (hx : H a = some (.tup xs))
    (q : ∀ t H', Same H H' → H' t = some (.tup (cutV xs lo hi)) → (t = a ∨ H t = none) → Q (.ref t) H') : rSlA K (.ref a) lo hi H Q :=
  ⟨a, xs, rfl, SqT.of hx, fun hw => q a H (Same.refl _) (by rw [cut_whole hw]; exact hx) (.inl rfl), fun _ p hp => q p _ (same_new hp) upd_same (.inr hp)⟩
theorem catA {K : PySem.W.Frag} {H : Hp} {a b : Addr} {xs ys : List V} {Q : VK} (ha : H a = some (.tup xs)) (hb : H b = some (.tup ys)) (hz : xs.length + ys.length ≤ 3000)
    (q : ∀ t H', Same H H' → H' t = some (.tup (xs ++ ys)) → (t = a ∨ t = b ∨ H t = none) → Q (.ref t) H') : rCatA K (.ref a) (.ref b) H Q :=
  ⟨a, b, xs, ys, rfl, rfl, SqT.of ha, SqT.of hb, Nat.le_trans hz (by decide), fun e => q b H (Same.refl _) (by rw [e]; exact hb) (.inr (.inl rfl)), fun _ e => q a H (Same.refl _) (by rw [e, List.append_nil]; exact ha) (.inl rfl),
    fun _ _ p hp => q p _ (same_new hp) upd_same (.inr (.inr hp))⟩

theorem neS {x y : V} {i : Decidable (x = y)} {A B : Prop} (h : x = y) (k : B) : if (!@decide (x = y) i) = true then A else B := by
  rw [decide_eq_true h]
  exact iteF k
def FrD (d : Addr) (H H' : Hp) : Prop := ∀ b o, b ≠ d → H b = some o → H' b = some o
theorem keysOf_len (L : Str) (n k : Nat) : (keysOf L n k).length = L.length * k ^ n := by
  have e : (keysOf L n k).length = L.cps.toList.length * (rowsTo n k).length := by
    unfold keysOf
    generalize L.cps.toList = l
    induction l with
    | nil => simp
    | cons a t ih => rw [List.flatMap_cons, List.length_append, List.length_map, ih, List.length_cons, Nat.succ_mul, Nat.add_comm]
  rw [e, rowsTo_len, Array.length_toList]
  rfl
theorem keysOf_mem {L : Str} {n k : Nat} {key : Nat × List Nat} (h : key ∈ keysOf L n k) : key.1 ∈ L.cps.toList ∧ key.2.length = n ∧ ∀ x ∈ key.2, x < k := by
  simp only [keysOf, List.mem_flatMap, List.mem_map] at h
  obtain ⟨c, hc, row, hrow, rfl⟩ := h
  exact ⟨hc, rowsTo_mem hrow⟩
theorem nks_nums {H : Hp} : ∀ {r : List Nat} {vs : List V}, NKs H (r.map fun x : Nat => .num (x : Int)) vs → vs = r.map nI
  | [], _, h => by cases h; rfl
  | x :: r, _, h => by
    cases h with
    | cons a b =>
      cases a
      rw [nks_nums b]
      rfl
theorem nk_inv {H : Hp} {b : Addr} {c : Nat} {r : List Nat} (h : NK H (keyN c r) (.ref b)) : ∃ a, H b = some (.tup [.str (ch c), .ref a]) ∧ H a = some (.tup (r.map nI)) := by
  unfold keyN at h
  cases h with
  | tup h1 h2 =>
    cases h2 with
    | cons a1 a2 =>
    cases a1
    cases a2 with
    | cons b1 b2 =>
    cases b2
    cases b1 with
    | tup c1 c2 =>
    rw [nks_nums c2] at c1
    exact ⟨_, h1, c1⟩


def sp__law_classes : Sp := fun vs H Q _ => ∃ (n k : Nat), vs = [nI k, nI n] ∧ n ≤ 6 ∧ 1 ≤ k ∧ k ≤ 20 ∧ k ^ n ≤ 600 ∧ ∀ r as H', Same H H' → H r = none → H' r = some (.lst (as.map V.ref)) → RowsAt H' as (rowsTo n k) → Q (.ref r) H'
section
variable {P : Program} {w : World} {K : PySem.W.Frag} {mg : Str → Option Value} {base : Heap}
theorem ok__law_classes (T : Txt K mg) : FnOk P w K mg base CX0 1 T.f__law_classes T.d__law_classes ["many", "states"] sp__law_classes := by
  refine T.F__law_classes.ok sc__law_classes (fun vs H Q E h => ?_) (fun cdv A outer s H vs Q E hr h => ?_)
  · obtain ⟨n, k, rfl, _⟩ := h
    rfl
  obtain ⟨n, k, rfl, n6, k1, k20, h600, q⟩ := h
  refine ⟨_, (pss_cons (ps_set (i := 2) sc__law_classes.nd rfl (Or.inl rfl) (pe_lst (pa_cons (pe_tup pa_nil) pa_nil))) (pss_cons (ps_for PassesOwn.never rfl (pi_range1 (by rfl) T.z_range (pa_cons (pv 1) pa_nil)) (pg_name (i := 3) sc__law_classes.nd rfl (Or.inl rfl)) (pss_cons (ps_set (i := 4) sc__law_classes.nd rfl (Or.inl rfl) (pe_lst pa_nil)) (pss_cons (ps_for PassesOwn.never rfl (pi_list (pv 2)) (pg_name (i := 5) sc__law_classes.nd rfl (Or.inr rfl)) (pss_one (ps_expr (pe_bm PySem.F.plainAttrs_list PySem.F.slot_list_extend PySem.F.type_list_extend mt_extend (pv 4) (pa_cons (pe_lc (own := [("one", 6)]) (g := gName 6) (te := tOp (rCatA K) (tVar 5) (tTup (tCons (tVar 6) tNil))) (tt := tYes) rfl sc__law_classes.nd (pi_range1 (by rfl) T.z_range (pa_cons (pv 0) pa_nil)) (blkOk_by (own := [("one", 6)]) (N := ["many", "states", "rows", "k", "longer", "row", "one"]) (sc := (defScope s__law_classes)) (by decide +kernel)) (fun _ _ _ _ _ => (pg_name (i := 6) sc__law_classes.nd rfl (Or.inl rfl))) (fun _ _ _ _ _ => pts_nil) (fun _ _ _ _ _ => (pe_op op_catA (pv 5) (pe_tup (pa_cons (pv 6) pa_nil))))) pa_nil))))) (pss_one (ps_set (i := 2) sc__law_classes.nd rfl (Or.inl rfl) (pv 4)))))) (pss_one (ps_ret (pv 2))))), ?_⟩
  refine ⟨(by show 0 ≤ sizeLine; decide), fun p0 hp0 => ⟨(by show 1 ≤ sizeLine; decide), fun r0 hr0 => ?_⟩⟩
  have s0 := (same_new (o := .tup []) hp0).trans (same_new (o := .lst [V.ref p0]) hr0)
  have kp0 := same_new (o := .lst [V.ref p0]) hr0 _ _ (upd_same (H := H) (a := p0) (o := .tup []))
  have kr0 := upd_same (H := upd H p0 (.tup [])) (a := r0) (o := .lst [V.ref p0])
  have nr0 : H r0 = none := (same_new (o := .tup []) hp0).free hr0
  generalize upd (upd H p0 (.tup [])) r0 (.lst [V.ref p0]) = H2 at *
  refine ⟨_, rfl, n, rfl, by omega, by omega, for_range (lo := 0) (n := n) (fun i σ H' => ∃ (r : Addr) (as : List Addr) (y3 y4 y5 : Option V), σ = [some (nI k), some (nI n), some (.ref r), y3, y4, y5, none] ∧ H' r = some (.lst (as.map V.ref)) ∧ RowsAt H' as (rowsTo i k) ∧ Same H H' ∧ H r = none) ⟨r0, [p0], none, none, none, rfl, kr0, .cons kp0 .nil, s0, nr0⟩ ?_ ?_⟩
  · rintro i σ H3 hi ⟨r, as, y3, y4, y5, rfl, hr3, ha3, s3, nr⟩
    have la : as.length = k ^ i := by rw [Paired.length ha3, rowsTo_len]
    have pw : k ^ i ≤ 600 := Nat.le_trans (Nat.pow_le_pow_right k1 (by omega)) h600
    refine ⟨(by show 0 ≤ sizeLine; decide), fun f0 hf0 => ?_⟩
    have s4 := same_new (o := .lst []) hf0
    have kf0 := upd_same (H := H3) (a := f0) (o := .lst [])
    generalize upd H3 f0 (.lst []) = H4 at *
    refine ⟨_, rfl, r, rfl, ⟨_, SqL.of (s4 _ _ hr3)⟩, for_list (xs := as.map V.ref) (fun j σ H' => ∃ (bs : List Addr) (y5 : Option V), σ = [some (nI k), some (nI n), some (.ref r), some (.int (0 + i)), some (.ref f0), y5, none] ∧ H' f0 = some (.lst (bs.map V.ref)) ∧ RowsAt H' bs (((rowsTo i k).take j).flatMap fun r => (List.range k).map fun x => r ++ [x]) ∧ Same H3 H') ⟨[], _, rfl, kf0, .nil, s4⟩ (fun j σ H' _ ⟨_, _, _, _, _, s5⟩ => SqL.of (s5 _ _ hr3)) ?_ ?_⟩
    · rintro j x σ H5 hx ⟨bs, y5, rfl, hf5, hb5, s5⟩
      rw [List.getElem?_map] at hx
      cases haj : as[j]? with
      | none => rw [haj] at hx; cases hx
      | some aj =>
      rw [haj] at hx
      cases hx
      obtain ⟨row, hrow, kaj⟩ := prd_at ha3 haj
      have kaj5 := s5 _ _ kaj
      have hj := (List.getElem?_eq_some_iff.mp haj).1
      have lb := Paired.length hb5
      rw [ext_len, List.length_take, rowsTo_len] at lb
      have lb2 : bs.length ≤ 600 * 20 := by rw [lb]; exact Nat.mul_le_mul (Nat.le_trans (Nat.min_le_right _ _) pw) k20
      refine ⟨_, rfl, .inl ⟨rfl, _, SqL.of hf5⟩, _, rfl, k, rfl, by omega, by omega, fun D hD => ?_⟩
      refine lc_range (lo := 0) (n := k) (fun m H6 => ∃ cs : List Addr, H6 D = some (.lst (cs.map V.ref)) ∧ RowsAt H6 cs ((List.range m).map fun x => row ++ [x]) ∧ Same H5 H6) ⟨[], upd_same, .nil, same_new hD⟩ ?_ ?_
      · rintro m H6 hm ⟨cs, g1, g2, g3⟩
        have lc := Paired.length g2
        rw [List.length_map, List.length_range] at lc
        refine ⟨rfl, _, rfl, _, rfl, (by show 1 ≤ sizeLine; decide), fun t ht => ?_⟩
        have st := same_new (o := .tup [V.int (0 + (m : Int))]) ht
        have hD6 : H5 D = none := hD
        refine catA (st _ _ (g3 _ _ kaj5)) upd_same (by rw [List.length_map, (rowsTo_mem (List.mem_of_getElem? hrow)).1, List.length_singleton]; omega) fun b H7 s7 kb nb => ?_
        have kD := s7 _ _ (st _ _ g1)
        have tk := upd_tup (o := .lst (cs.map V.ref ++ [V.ref b])) kD
        refine ⟨_, kD, ?_, cs ++ [b], ?_, ?_, same_add ((g3.trans st).trans s7) hD6⟩
        · rw [List.length_map, lc]
          exact Nat.lt_of_le_of_lt (show _ ≤ 1000000 by omega) (by decide)
        · rw [upd_same, List.map_append (l₂ := [b])]
          rfl
        · rw [List.range_succ, List.map_append (f := fun x => row ++ [x])]
          refine prd_app (((RowsAt.keep g2 fun b xs e => st _ _ e).keep fun b xs e => s7 _ _ e).keep tk) (.cons ?_ .nil)
          have e : row.map nI ++ [V.int (0 + (m : Int))] = (row ++ [m]).map nI := by rw [List.map_append, Int.zero_add]; rfl
          rw [← e]
          exact tk _ _ kb
      · rintro H6 ⟨cs, g1, g2, g3⟩
        have lc := Paired.length g2
        rw [List.length_map, List.length_range] at lc
        have kf6 := g3 _ _ hf5
        have tk := upd_tup (o := .lst (bs.map V.ref ++ cs.map V.ref)) kf6
        refine ⟨f0, D, _, _, rfl, rfl, kf6, g1, ?_, bs ++ cs, _, rfl, ?_, ?_, ?_⟩
        · rw [List.length_map, List.length_map]
          exact Nat.le_of_lt (Nat.lt_of_le_of_lt (show _ ≤ 1000000 by omega) (by decide))
        · rw [upd_same, List.map_append]
        · rw [flat_take _ hrow]
          exact prd_app ((hb5.keep fun b xs e => g3 _ _ e).keep tk) (RowsAt.keep g2 tk)
        · intro b o e
          rw [upd_ne (ne_of_none e hf0)]
          exact g3 _ _ (s5 _ _ e)
    · rintro σ H5 ⟨bs, y5, rfl, hf5, hb5, s5⟩
      rw [List.length_map, la, ← rowsTo_len k i, List.take_length] at hb5
      exact ⟨_, rfl, f0, bs, _, _, _, rfl, hf5, hb5, s3.trans s5, s3.free hf0⟩
  · rintro σ H3 ⟨r, as, y3, y4, y5, rfl, hr3, ha3, s3, nr⟩
    exact ⟨_, rfl, q r as H3 s3 nr hr3 ha3⟩
end

section
variable {X : Cx}
theorem call_listS (hc : X.calm = true) : CallR X (.type "list") (fun xs H Q => ∃ z : Str, xs = [.str z] ∧ z.length ≤ sizeLine ∧ ∀ p, H p = none → Q (.ref p) (upd H p (.lst (z.cps.toList.map fun c => V.str ⟨#[c]⟩)))) := by
  intro pins s σ H vs ws Q I r h
  obtain ⟨z, rfl, hz, q⟩ := h
  obtain ⟨u, rfl, t, rfl⟩ := vals1 r
  refine PySem.call_list_str (hn := hz) (I.ok.hd hc) z t fun h' tk acc' c' hk hS hacc => ?_
  refine ⟨.ref s.heap.objs.size, _, I.laid hk (Nat.le_refl _) (show ObjOk X.prog X.w _ _ _ (.lst (z.cps.toList.map fun c => V.str ⟨#[c]⟩)) from ⟨?_, acc'.toList, c', ?_, ?_⟩), rfl, q _ (I.hok.fresh (Nat.le_refl _))⟩
  · rw [List.length_map, Array.length_toList]; exact hz
  · have el : acc'.toList.length = acc'.size := by simp
    refine vals_of_at (by rw [List.length_map, el, hacc.1, Array.length_toList]) fun j x w h1 h2 => ?_
    have hw := hacc.2 j w (by rw [← Array.getElem?_toList]; exact h2)
    rw [List.getElem?_map, Array.getElem?_toList] at h1
    obtain ⟨c, t2, hc2, rfl⟩ := hw
    rw [hc2] at h1
    cases h1
    exact ⟨_, rfl⟩
  · rw [Array.toArray_toList]; exact hS
end

theorem join_goc (g : Str) (hg : g.cps = #[]) : ∀ (cs : List Nat) (a : Array Nat), (cs.map ch).foldl (fun acc p => acc ++ g.cps ++ p.cps) a = a ++ cs.toArray
  | [], a => by simp
  | c :: r, a => by
    rw [List.map_cons, List.foldl_cons, join_goc g hg r, hg]
    show a ++ #[] ++ #[c] ++ r.toArray = a ++ (c :: r).toArray
    simp
theorem join_chs : ∀ cs : List Nat, Txt.join (Str.ofString "") (cs.map ch) = ⟨cs.toArray⟩
  | [] => rfl
  | c :: r => by
    show Str.mk ((r.map ch).foldl (fun acc p => acc ++ (Str.ofString "").cps ++ p.cps) (ch c).cps) = _
    rw [join_goc _ (by decide +kernel)]
    show Str.mk (#[c] ++ r.toArray) = _
    simp
def alph7 : Str := Str.ofString "abcdefghijklmnopqrstuvwxyz"
theorem alph7_list : alph7.cps.toList = List.range' 97 26 := by decide +kernel
def LetC (cs : List Nat) : Prop := cs.Pairwise (· < ·) ∧ ∀ c ∈ cs, 97 ≤ c ∧ c ≤ 122
theorem LetC.erase {cs : List Nat} (h : LetC cs) (k : Nat) : LetC (cs.eraseIdx k) := ⟨h.1.sublist (List.eraseIdx_sublist _ _), fun c hc => h.2 c ((List.eraseIdx_sublist _ _).subset hc)⟩
theorem LetC.str {cs : List Nat} (h : LetC cs) (h1 : 1 ≤ cs.length) (h2 : cs.length ≤ 26) : Lets ⟨cs.toArray⟩ ∧ Rises ⟨cs.toArray⟩ := by
  refine ⟨⟨?_, ?_, fun c hc => h.2 c (by simpa using hc)⟩, ?_⟩
  · show 1 ≤ cs.toArray.size; simpa using h1
  · show cs.toArray.size ≤ 26; simpa using h2
  · show (cs.toArray.toList).Pairwise (· < ·); simpa using h.1
theorem map_erase7 {α β : Type} (f : α → β) : ∀ (l : List α) (k : Nat), (l.map f).eraseIdx k = (l.eraseIdx k).map f
  | [], _ => rfl
  | _ :: _, 0 => rfl
  | a :: r, k + 1 => by simp only [List.map_cons, List.eraseIdx_cons_succ, map_erase7 f r k]
theorem Fr.of_chg {p : Addr} {H H' : Hp} (c : Chg p H H') : Fr p H H' := fun b o n e => by rw [c b n]; exact e
def sp__law_letters : Sp := fun vs H Q _ => ∃ (p : Addr) (m : Nat), vs = [.ref p] ∧ Sto H p m ∧ m < 900000 ∧ ∀ L H', Lets L → Rises L → Fr p H H' → Sto H' p (m + 40) → Q (.str L) H'
section
variable {P : Program} {w : World} {K : PySem.W.Frag} {mg : Str → Option Value} {base : Heap}
theorem ok__law_letters (T : Txt K mg) : FnOk P w K mg base CX0 2 T.f__law_letters T.d__law_letters ["store"] sp__law_letters := by
  have G__law_take : FnOk P w K mg base CX0 1 T.f__law_take T.d__law_take ["store", "many"] sp__law_take := ok__law_take T
  refine T.F__law_letters.ok sc__law_letters (fun vs H Q E h => ?_) (fun cdv A outer s H vs Q E hr h => ?_)
  · obtain ⟨p, m, rfl, _⟩ := h
    rfl
  obtain ⟨p, m, rfl, S0, hm, q⟩ := h
  refine ⟨_, (pss_cons (ps_set (i := 1) sc__law_letters.nd rfl (Or.inl rfl) (pe_call G__law_take (hr.mono (by omega)) (by rfl) T.m__law_take T.F__law_take.kp T.b__law_take .nil pass0 (pa_cons (pv 0) (pa_cons pe_int pa_nil)))) (pss_cons (ps_if (pt_cmpR op_lt (pv 1) pe_int (nomark _)) (pss_one (ps_ret (pe_ix ix_list (pe_lst (pa_cons pe_str (pa_cons pe_str (pa_cons pe_str (pa_cons pe_str (pa_cons pe_str (pa_cons pe_str pa_nil))))))) (pv 1) (fun _ _ => rfl)))) pss_nil) (pss_cons (ps_set (i := 2) sc__law_letters.nd rfl (Or.inl rfl) (pe_callTy (call_listS rfl) (by rfl) T.z_list (by decide +kernel) (pa_cons pe_str pa_nil))) (pss_cons (ps_set (i := 3) sc__law_letters.nd rfl (Or.inl rfl) (pe_ix ix_list (pe_lst (pa_cons pe_int (pa_cons (pe_op op_add pe_int (pe_call G__law_take (hr.mono (by omega)) (by rfl) T.m__law_take T.F__law_take.kp T.b__law_take .nil pass0 (pa_cons (pv 0) (pa_cons pe_int pa_nil)))) (pa_cons (pe_op op_add pe_int (pe_call G__law_take (hr.mono (by omega)) (by rfl) T.m__law_take T.F__law_take.kp T.b__law_take .nil pass0 (pa_cons (pv 0) (pa_cons pe_int pa_nil)))) pa_nil)))) (pe_op op_sub (pv 1) pe_int) (fun _ _ => rfl))) (pss_cons (ps_while PassesOwn.never (pt_cmpR op_gt (pe_callB call_len_seq (by rfl) T.z_len PySem.boot_len (pa_cons (pv 2) pa_nil)) (pv 3) (nomark _)) (pss_one (ps_expr (pe_bm PySem.F.plainAttrs_list PySem.F.slot_list_pop PySem.F.type_list_pop mt_popAt (pv 2) (pa_cons (pe_call G__law_take (hr.mono (by omega)) (by rfl) T.m__law_take T.F__law_take.kp T.b__law_take .nil pass0 (pa_cons (pv 0) (pa_cons (pe_callB call_len_seq (by rfl) T.z_len PySem.boot_len (pa_cons (pv 2) pa_nil)) pa_nil))) pa_nil))))) (pss_one (ps_ret (pe_join pe_str (pv 2))))))))), ?_⟩
  refine ⟨_, rfl, p, 9, m, rfl, S0, by omega, by decide, by decide, fun r H1 r0 r1 c1 S1 => ?_⟩
  have F1 : Fr p H H1 := Fr.of_chg c1
  refine ⟨_, rfl, _, _, rfl, rfl, _, rfl, ite2 (fun k1 => ?_) (fun k1 => ?_)⟩
  · have k1 : r < 6 := of_decide_eq_true k1
    refine ⟨(by show 6 ≤ sizeLine; decide), fun l hl => ?_⟩
    obtain ⟨L, hat, a1, a2⟩ : ∃ L : Str, atI [V.str (Str.ofString "a"), V.str (Str.ofString "ab"), V.str (Str.ofString "ab"), V.str (Str.ofString "bz"), V.str (Str.ofString "abc"), V.str (Str.ofString "z")] r = some (V.str L) ∧ Lets L ∧ Rises L := by
      rcases (by omega : r = 0 ∨ r = 1 ∨ r = 2 ∨ r = 3 ∨ r = 4 ∨ r = 5) with rfl | rfl | rfl | rfl | rfl | rfl
      · exact ⟨_, at_of (j := 0) rfl rfl, by unfold Lets; decide +kernel, by unfold Rises; decide +kernel⟩
      · exact ⟨_, at_of (j := 1) rfl rfl, by unfold Lets; decide +kernel, by unfold Rises; decide +kernel⟩
      · exact ⟨_, at_of (j := 2) rfl rfl, by unfold Lets; decide +kernel, by unfold Rises; decide +kernel⟩
      · exact ⟨_, at_of (j := 3) rfl rfl, by unfold Lets; decide +kernel, by unfold Rises; decide +kernel⟩
      · exact ⟨_, at_of (j := 4) rfl rfl, by unfold Lets; decide +kernel, by unfold Rises; decide +kernel⟩
      · exact ⟨_, at_of (j := 5) rfl rfl, by unfold Lets; decide +kernel, by unfold Rises; decide +kernel⟩
    exact ⟨_, rfl, l, _, r, _, rfl, rfl, SqL.of upd_same, hat, q L _ a1 a2 (F1.trans (Fr.same (same_new hl))) ((S1.new hl).mono (by omega))⟩
  have k1 : 6 ≤ r := by have := of_decide_eq_false (by simpa using k1 : decide (r < 6) = false); omega
  refine ⟨alph7, rfl, (by show alph7.cps.size ≤ sizeLine; decide +kernel), fun l hl => ?_⟩
  have F2 := F1.trans (Fr.same (same_new (o := .lst (alph7.cps.toList.map fun c => V.str ⟨#[c]⟩)) hl))
  have S2 := S1.new (o := .lst (alph7.cps.toList.map fun c => V.str ⟨#[c]⟩)) hl
  have k2 := upd_same (H := H1) (a := l) (o := .lst (alph7.cps.toList.map fun c => V.str ⟨#[c]⟩))
  have nl : l ≠ p := S1.ne hl
  have hl0 : H l = none := F1.free S1.some hl
  generalize upd H1 l (.lst (alph7.cps.toList.map fun c => V.str ⟨#[c]⟩)) = H2 at *
  rw [alph7_list] at k2
  refine ⟨_, rfl, p, 9, m + 1, rfl, S2, by omega, by decide, by decide, fun x H3 x0 x1 c3 S3 => ⟨_, _, rfl, rfl, _, rfl, p, 26, m + 1 + 1, rfl, S3, by omega, by decide, by decide, fun y H4 y0 y1 c4 S4 => ⟨_, _, rfl, rfl, (by show 3 ≤ sizeLine; decide), fun l2 hl2 => ?_⟩⟩⟩
  have F4 := (F2.trans (Fr.of_chg c3)).trans (Fr.of_chg c4)
  have k4 : H4 l = some (.lst ((List.range' 97 26).map fun c => V.str ⟨#[c]⟩)) := by rw [c4 l nl, c3 l nl]; exact k2
  have F5 := F4.trans (Fr.same (same_new (o := .lst [V.int 4, V.int (1 + x), V.int (1 + y)]) hl2))
  have S5 := S4.new (o := .lst [V.int 4, V.int (1 + x), V.int (1 + y)]) hl2
  have k5 := same_new (o := .lst [V.int 4, V.int (1 + x), V.int (1 + y)]) hl2 _ _ k4
  have u5 := upd_same (H := H4) (a := l2) (o := .lst [V.int 4, V.int (1 + x), V.int (1 + y)])
  generalize upd H4 l2 (.lst [V.int 4, V.int (1 + x), V.int (1 + y)]) = H5 at *
  obtain ⟨z, hat, z1, z2⟩ : ∃ z : Int, atI [V.int 4, V.int (1 + x), V.int (1 + y)] (r - 6) = some (V.int z) ∧ 1 ≤ z ∧ z ≤ 26 := by
    rcases (by omega : r = 6 ∨ r = 7 ∨ r = 8) with rfl | rfl | rfl
    · exact ⟨4, at_of (j := 0) rfl rfl, by decide, by decide⟩
    · exact ⟨1 + x, at_of (j := 1) rfl rfl, by omega, by omega⟩
    · exact ⟨1 + y, at_of (j := 2) rfl rfl, by omega, by omega⟩
  refine ⟨_, rfl, _, _, rfl, rfl, l2, _, r - 6, _, rfl, rfl, SqL.of u5, hat, ?_⟩
  clear hat u5 k4 k2 c3 c4 S1 S2 S3 S4 F1 F2 F4 c1
  refine ⟨fun n σ' H' => ∃ cs : List Nat, n = cs.length ∧ σ' = [some (.ref p), some (.int r), some (.ref l), some (.int z)] ∧ LetC cs ∧ z ≤ cs.length ∧ cs.length ≤ 26 ∧ H' l = some (.lst (cs.map fun c => V.str ⟨#[c]⟩)) ∧ Fr p H H' ∧ Sto H' p (m + 3 + (26 - cs.length)), ⟨_, List.range' 97 26, rfl, rfl, ⟨by decide +kernel, by decide +kernel⟩, by simpa using z2, by simp, k5, F5, S5.mono (by simp)⟩, ?_⟩
  rintro n σ' H6 ⟨cs, rfl, rfl, hc, hz, h26, k6, F6, S6⟩
  refine ⟨_, rfl, l, _, rfl, .inl (SqL.of k6), _, rfl, _, _, rfl, rfl, _, rfl, ite2 (fun k7 => ?_) (fun k7 => ?_)⟩
  · have k7 := of_decide_eq_true k7
    rw [List.length_map] at k7
    refine ⟨fun σ' H' => ∃ m', m' < cs.length ∧ ∃ cs : List Nat, m' = cs.length ∧ σ' = [some (.ref p), some (.int r), some (.ref l), some (.int z)] ∧ LetC cs ∧ z ≤ cs.length ∧ cs.length ≤ 26 ∧ H' l = some (.lst (cs.map fun c => V.str ⟨#[c]⟩)) ∧ Fr p H H' ∧ Sto H' p (m + 3 + (26 - cs.length)), fun _ _ h => h, ?_⟩
    refine ⟨_, rfl, .inl ⟨rfl, _, SqL.of k6⟩, _, rfl, _, rfl, l, _, rfl, .inl (SqL.of k6), p, _, m + 3 + (26 - cs.length), rfl, S6, by omega, by rw [List.length_map]; omega, by rw [List.length_map]; omega, fun x H7 x0 x1 c7 S7 => ?_⟩
    rw [List.length_map] at x1
    obtain ⟨k, rfl, hk⟩ : ∃ k : Nat, x = (k : Int) ∧ k < cs.length := ⟨x.toNat, by omega, by omega⟩
    have hx : cs[k]? = some cs[k] := List.getElem?_eq_getElem hk
    have k7' : H7 l = some (.lst (cs.map fun c => V.str ⟨#[c]⟩)) := by rw [c7 l nl]; exact k6
    refine ⟨l, _, (k : Int), k, _, rfl, rfl, k7', by omega, by omega, ?_, by rw [List.getElem?_map, hx]; rfl, ?_⟩
    · rw [List.length_map]
      unfold seqIndex?
      simp
      omega
    · have le := List.length_eraseIdx_of_lt hk
      refine ⟨(cs.eraseIdx k).length, by omega, cs.eraseIdx k, rfl, rfl, hc.erase k, by omega, by omega, by rw [upd_same, map_erase7], ?_, ?_⟩
      · exact (F6.trans (Fr.of_chg c7)).new hl0
      · obtain ⟨g, x', s', a1, a2, a3, a4, a5⟩ := S7
        exact ⟨g, x', s', by rw [upd_ne nl.symm]; exact a1, a2, a3, a4, by rw [le]; omega⟩
  · have e1 := hc.str (by omega) h26
    refine ⟨⟨_, rfl⟩, _, rfl, Str.ofString "", l, cs.map ch, rfl, rfl, .inl (SqL.of (by rw [List.map_map]; exact k6)), ?_, ?_⟩
    · have : ∀ l : List Nat, ((l.map ch).map fun s : Str => s.length).sum = l.length := by
        intro l
        induction l with
        | nil => rfl
        | cons a t ih =>
          rw [List.map_cons, List.map_cons, List.sum_cons, ih]
          show 1 + t.length = t.length + 1
          omega
      rw [this, List.length_map]
      show cs.length + cs.length * 0 ≤ _
      omega
    · rw [join_chs]
      exact q _ H6 e1.1 e1.2 F6 (S6.mono (by omega))
end

def rSumT (K : PySem.W.Frag) : List V → Hp → VK → Prop := fun vs H Q => ∃ (a : Addr) (ns : List Int), vs = [V.ref a] ∧ SqT K H a (ns.map V.int) ∧ Q (.int ns.sum) H
theorem cr_sumT {X : Cx} (hc : X.calm = true) : CallR X (.builtin "sum") (rSumT X.K) := by
  intro pins s σ H vs us Q I r h
  obtain ⟨a, ns, rfl, hs, q⟩ := h
  obtain ⟨its, rv, ht, _⟩ := I.tuple hs
  rw [Vals.ref1 r]
  obtain ⟨xs, e⟩ := rv.ints.allInts.items
  have hn : numsOf (intItems xs).toList = ns := by rw [← e]; exact rv.ints.numsOf
  rw [nums_intItems] at hn
  rw [e] at ht
  have hlt : a < s.heap.objs.size := ht.lt
  refine call_sum_walkG (wpAny_pyIter_tuple ht ?_)
  refine ⟨s.heap.objs.size, _, _, _, _, _, numAt xs, rfl, Walks.tuple (A := X.A.in1) (I.ok.hd hc) _ a (Nat.ne_of_lt hlt) (intItems xs), ⟨⟨_, Heap.get?_push_size _ rfl, rfl, rfl⟩, (let ⟨o, e, r⟩ := ht; ⟨o, Heap.get?_push_of_some _ e, r⟩)⟩, fun b hb => ?_, (fun _ _ => intItems_at), fun h' tk t' hk => ?_⟩
  · show b < (s.heap.push _).objs.size
    rw [Heap.size_push]
    rcases List.mem_cons.mp hb with rfl | hb
    · exact Nat.lt_succ_self _
    · rcases List.mem_cons.mp hb with rfl | hb
      · exact Nat.lt_succ_of_lt hlt
      · cases hb
  · refine ⟨.int _, H, I.kept (t' := tk) fun b o e => hk b o (fun z => ?_) (Heap.get?_push_of_some _ e), ?_, q⟩
    · rw [List.mem_singleton.mp z] at e
      exact absurd (Heap.lt_size e) (Nat.lt_irrefl _)
    · refine ⟨t', ?_⟩
      have : (intItems xs).size = xs.size := by simp [intItems]
      rw [this, preSum_eq, List.take_of_length_le (by simp), hn]

theorem inV_nI (x : Nat) : ∀ g : List Nat, inV (nI x) (g.map nI) = decide (x ∈ g)
  | [] => rfl
  | y :: r => by
    have ih := inV_nI x r
    unfold inV at ih ⊢
    rw [List.map_cons, List.any_cons, ih]
    have e : eqV (nI y) (nI x) = decide (x = y) := by
      show ((y : Int) == (x : Int)) = _
      rw [Bool.eq_iff_iff]
      simp
      omega
    rw [e]
    simp
theorem flat_nI : ∀ g : List Nat, (g.map nI).all flatV = true
  | [] => rfl
  | y :: r => by rw [List.map_cons, List.all_cons, flat_nI r]; rfl
theorem post_last : ∀ t : Tr, ∃ l, t.post = l ++ [t]
  | .node c ks => ⟨posts ks, rfl⟩

theorem tabsN_frP {TT : List NdefX.NTab} {H H' : Hp} {P : Addr} {q : Str} (h : NdefX.TabsN TT H) (hm : (P, fun _ _ => q) ∈ TT) (hu : ∀ z ∈ TT, z.1 = P → z.2 = fun _ _ => q) (f : Fr P H H') (t : LamX.TabS H' P q) : NdefX.TabsN TT H' := fun z hz => by
  by_cases e : z.1 = P
  · rw [hu z hz e, e]
    exact NdefX.TabN.of t
  · obtain ⟨ps, h1, h2, h3⟩ := h z hz
    refine ⟨ps, f _ _ e h1, h2, fun pos cv hc => ?_⟩
    obtain ⟨c, e1, h4⟩ := h3 pos cv hc
    obtain ⟨ps0, g1, _⟩ := h _ hm
    exact ⟨c, e1, f _ _ (fun e2 => by rw [e2, g1] at h4; unfold LamX.CodeO at h4; cases h4) h4⟩
theorem extN_of_frP {H H' : Hp} {P : Addr} {TT : List NdefX.NTab} {q : Str} (h : NdefX.TabsN TT H) (hm : (P, fun _ _ => q) ∈ TT) (f : Fr P H H') : LamX.ExtN H H' := fun b o e n => f b o (fun e2 => by
  obtain ⟨ps0, g1, _⟩ := h _ hm
  rw [e2, g1] at e
  cases e
  exact n _ rfl) e
theorem lent_extN {cs : Lent} {H H' : Hp} (f : LamX.ExtN (lend H cs) H') : LentAt cs H' := fun c o e => f c _ (lend_in e) (fun ps z => by unfold CellO at z; cases z)
theorem same_lend {cs : Lent} {H H2 : Hp} (l : LentAt cs H) (s : Same (unl H cs) H2) : Same H (lend H2 cs) := fun b o e => by
  cases hb : cs.lookup b with
  | some ob => rw [lend_in hb, ← l b ob hb]; exact e
  | none => rw [lend_out hb]; exact s b o (by rw [unl_out hb]; exact e)
theorem extN_unl {cs : Lent} {H H' : Hp} (hn : Fresh cs H) (f : LamX.ExtN (lend H cs) H') : LamX.ExtN H (unl H' cs) := fun b o e n => by
  rw [unl_out (hn.out e)]
  exact f b o (lend_some hn e) n
theorem tabsN_unl {cs : Lent} {TT : List NdefX.NTab} {H H' : Hp} (hn : Fresh cs H) (h : NdefX.TabsN TT H') (l : LentAt cs H') (hcel : Cells cs) : NdefX.TabsN TT (unl H' cs) := fun z hz => by
  obtain ⟨ps, h1, h2, h3⟩ := h z hz
  refine ⟨ps, unl_keep l h1 (fun _ e => by cases e), h2, fun pos cv hc => ?_⟩
  obtain ⟨c, e, h4⟩ := h3 pos cv hc
  refine ⟨c, e, ?_⟩
  cases hb : cs.lookup c with
  | none => rw [unl_out hb]; exact h4
  | some ob =>
    obtain ⟨v, hv⟩ := hcel _ _ hb
    rw [l c ob hb] at h4
    exact absurd (Option.some.inj h4).symm (codeO_cell hv)

def clsN (few turn x : Nat) : Nat := if x < few + turn then x else few + (x - few) % turn
theorem clsN_lt {few turn : Nat} (h : 1 ≤ turn) (x : Nat) : clsN few turn x < few + turn := by
  unfold clsN
  split
  · assumption
  · have := Nat.mod_lt (x - few) (show turn > 0 by omega)
    omega
theorem clsN_low {few turn x : Nat} (h : x < few + turn) : clsN few turn x = x := by
  unfold clsN
  rw [if_pos h]
theorem clsN_few {few turn x : Nat} (h : few ≤ x) : few ≤ clsN few turn x := by
  unfold clsN
  split <;> omega
theorem clsN_dvd {few turn m : Nat} (hm : m ∣ turn) (x : Nat) : ((clsN few turn x : Nat) : Int) % (m : Int) = ((x : Nat) : Int) % (m : Int) := by
  unfold clsN
  split
  · rfl
  · obtain ⟨q, rfl⟩ := hm
    have e := Nat.div_add_mod (x - few) (m * q)
    have e2 : x = (few + (x - few) % (m * q)) + m * (q * ((x - few) / (m * q))) := by
      rw [← Nat.mul_assoc]
      omega
    have e3 : ((x : Nat) : Int) = ((few + (x - few) % (m * q) : Nat) : Int) + (m : Int) * ((q * ((x - few) / (m * q)) : Nat) : Int) := by
      rw [← Int.natCast_mul, ← Int.natCast_add, ← e2]
    rw [e3, Int.add_mul_emod_self_left]

theorem atN_rows {c : Nat} {row : List Nat} {fs : Nat → List Nat → Nat} : ∀ {xs : List NRow} {keys : List (Nat × List Nat)}, RowsJ xs keys fs → (c, row) ∈ keys → atN xs (keyN c row) = some (nI (fs c row))
  | _, _, .nil, h => by cases h
  | x :: xs, (c', row') :: keys, .cons r t, h => by
    obtain ⟨e1, e2⟩ := r
    by_cases e : (c', row') = (c, row)
    · cases e
      simp [atN, e1, e2]
    · have hm : (c, row) ∈ keys := (List.mem_cons.mp h).resolve_left fun z => e z.symm
      have ne : ¬ x.1 = keyN c row := fun z => e (by
        obtain ⟨a, b⟩ := keyN_inj (e1.symm.trans z)
        dsimp only at a b
        rw [a, b])
      have : atN (x :: xs) (keyN c row) = atN xs (keyN c row) := by simp [atN, List.find?_cons, ne]
      rw [this]
      exact atN_rows t hm


structure JD where
  L : Str
  n : Nat
  few : Nat
  turn : Nat
  fs : Nat → List Nat → Nat
  good : List Nat
def JD.keys (J : JD) : List (Nat × List Nat) := keysOf J.L J.n (J.few + J.turn)
def JD.sf (J : JD) (c : Nat) (row : List Nat) : Nat := J.fs c (row.map (clsN J.few J.turn))
structure JD.ok (J : JD) : Prop where
  L : Lets J.L
  n1 : 1 ≤ J.n
  n6 : J.n ≤ 6
  f4 : J.few ≤ 4
  t1 : 1 ≤ J.turn
  t4 : J.turn ≤ 4
  h600 : J.L.length * (J.few + J.turn) ^ J.n ≤ 600
  lt : ∀ key ∈ J.keys, J.fs key.1 key.2 < J.n
  g6 : J.good.length ≤ 6
  gn : ∀ g ∈ J.good, g < J.n
def JAt (P : Program) (w : World) (H : Hp) (v : V) (J : JD) : Prop := ∃ (j d g : Addr) (xs : List NRow) (keys : List (Nat × List Nat)), v = .ref j ∧ H j = some (.tup [.str J.L, nI J.n, nI J.few, nI J.turn, .ref d, .ref g]) ∧ H d = some (DictN P w d xs) ∧ RowsN H xs ∧ RowsJ xs keys J.fs ∧ keys.Perm J.keys ∧ H g = some (.lst (J.good.map nI))
theorem not_tbl {P : Program} {w : World} {d : Addr} {xs : List NRow} : ∀ ps, DictN P w d xs ≠ .tbl ps := fun ps z => by unfold DictN at z; cases z
theorem JAt.extN {P : Program} {w : World} {H H' : Hp} {v : V} {J : JD} (x : JAt P w H v J) (f : LamX.ExtN H H') : JAt P w H' v J := by
  obtain ⟨j, d, g, xs, keys, rfl, h1, h2, h3, h4, h5, h6⟩ := x
  exact ⟨j, d, g, xs, keys, rfl, f _ _ h1 (fun _ z => by cases z), f _ _ h2 not_tbl, h3.keep fun b ys e => f _ _ e (fun _ z => by cases z), h4, h5, f _ _ h6 (fun _ z => by cases z)⟩
theorem JAt.same {P : Program} {w : World} {H H' : Hp} {v : V} {J : JD} (x : JAt P w H v J) (f : Same H H') : JAt P w H' v J := x.extN (.of f)
theorem rowsTo_all {k : Nat} : ∀ {n : Nat} {r : List Nat}, r.length = n → (∀ x ∈ r, x < k) → r ∈ rowsTo n k
  | 0, r, h, _ => by
    rw [List.length_eq_zero_iff] at h
    subst h
    simp [rowsTo]
  | n + 1, r, h, hx => by
    obtain ⟨a, b, rfl⟩ := concat_of (l := r) (by intro z; rw [z] at h; cases h)
    rw [List.length_append, List.length_singleton] at h
    simp only [rowsTo, List.mem_flatMap, List.mem_map, List.mem_range]
    exact ⟨a, rowsTo_all (by omega) fun x hm => hx x (List.mem_append_left _ hm), b, hx b (List.mem_append_right _ (List.mem_singleton.mpr rfl)), rfl⟩
theorem keysOf_all {L : Str} {n k c : Nat} {row : List Nat} (hc : c ∈ L.cps.toList) (hl : row.length = n) (hx : ∀ x ∈ row, x < k) : (c, row) ∈ keysOf L n k :=
  List.mem_flatMap.mpr ⟨c, hc, List.mem_map.mpr ⟨row, rowsTo_all hl hx, rfl⟩⟩
theorem JD.ok.key {J : JD} (h : J.ok) {c : Nat} {row : List Nat} (hc : c ∈ J.L.cps.toList) (hl : row.length = J.n) : (c, row.map (clsN J.few J.turn)) ∈ J.keys :=
  keysOf_all hc (by rw [List.length_map, hl]) fun x hx => by
    obtain ⟨y, _, rfl⟩ := List.mem_map.mp hx
    exact clsN_lt h.t1 y
theorem JD.ok.sf_lt {J : JD} (h : J.ok) {c : Nat} {row : List Nat} (hc : c ∈ J.L.cps.toList) (hl : row.length = J.n) : J.sf c row < J.n := h.lt _ (h.key hc hl)
def NewN (H : Hp) (r : Addr) : Prop := ∀ o, H r = some o → ∃ ps, o = .tbl ps
def sp_class_of : Sp := fun vs H Q _ => ∃ x few turn : Nat, vs = [nI x, nI few, nI turn] ∧ 1 ≤ turn ∧ Q (nI (clsN few turn x)) H
def sp_state_by_numbers (P : Program) (w : World) : Sp := fun vs H Q _ => ∃ (v : V) (J : JD) (c : Nat) (b : Addr) (row : List Nat), vs = [v, .str (ch c), .ref b] ∧ JAt P w H v J ∧ J.ok ∧ c ∈ J.L.cps.toList ∧ row.length = J.n ∧ H b = some (.lst (row.map nI)) ∧ ∀ H', Same H H' → Q (nI (J.sf c row)) H'
def sp_part_states (P : Program) (w : World) (TT : List NdefX.NTab) : Sp := fun vs H Q _ => ∃ (v u : V) (J : JD) (t : Tr), vs = [v, u] ∧ JAt P w H v J ∧ J.ok ∧ TrAt (fun _ => True) H u t ∧ t.size ≤ 1000000 ∧ t.lets (fun c => c ∈ J.L.cps.toList) ∧ NdefX.TabsN TT H ∧
  ∀ r H', LamX.ExtN H H' → NdefX.TabsN TT H' → NewN H r → H' r = some (.lst ((t.post.map (St J.sf J.n)).map nI)) → Q (.ref r) H'
def sp_state_of (P : Program) (w : World) (TT : List NdefX.NTab) : Sp := fun vs H Q _ => ∃ (v u : V) (J : JD) (t : Tr), vs = [v, u] ∧ JAt P w H v J ∧ J.ok ∧ TrAt (fun _ => True) H u t ∧ t.size ≤ 1000000 ∧ t.lets (fun c => c ∈ J.L.cps.toList) ∧ NdefX.TabsN TT H ∧
  ∀ H', LamX.ExtN H H' → NdefX.TabsN TT H' → Q (nI (St J.sf J.n t)) H'
def sp_lets_by (P : Program) (w : World) (TT : List NdefX.NTab) : Sp := fun vs H Q _ => ∃ (v u : V) (J : JD) (t : Tr), vs = [v, u] ∧ JAt P w H v J ∧ J.ok ∧ TrAt (fun _ => True) H u t ∧ t.size ≤ 1000000 ∧ t.lets (fun c => c ∈ J.L.cps.toList) ∧ NdefX.TabsN TT H ∧
  ∀ H', LamX.ExtN H H' → NdefX.TabsN TT H' → Q (.bl (decide (St J.sf J.n t ∈ J.good))) H'
section
variable {P : Program} {w : World} {K : PySem.W.Frag} {mg : Str → Option Value} {base : Heap}
end

def JAtO (P : Program) (w : World) (ok : Addr → Prop) (H : Hp) (v : V) (J : JD) : Prop := ∃ (j d g : Addr) (xs : List NRow) (keys : List (Nat × List Nat)), v = .ref j ∧ H j = some (.tup [.str J.L, nI J.n, nI J.few, nI J.turn, .ref d, .ref g]) ∧ H d = some (DictN P w d xs) ∧ RowsN H xs ∧ RowsJ xs keys J.fs ∧ keys.Perm J.keys ∧ H g = some (.lst (J.good.map nI)) ∧ ok g
section
variable {P : Program} {w : World} {ok ok' : Addr → Prop} {H H' : Hp} {v : V} {J : JD}
theorem JAtO.at (x : JAtO P w ok H v J) : JAt P w H v J := by
  obtain ⟨j, d, g, xs, keys, rfl, h1, h2, h3, h4, h5, h6, _⟩ := x
  exact ⟨j, d, g, xs, keys, rfl, h1, h2, h3, h4, h5, h6⟩
theorem JAtO.weak (x : JAtO P w ok H v J) (h : ∀ b, ok b → ok' b) : JAtO P w ok' H v J := by
  obtain ⟨j, d, g, xs, keys, rfl, h1, h2, h3, h4, h5, h6, h7⟩ := x
  exact ⟨j, d, g, xs, keys, rfl, h1, h2, h3, h4, h5, h6, h _ h7⟩
theorem JAtO.extN (x : JAtO P w ok H v J) (f : LamX.ExtN H H') : JAtO P w ok H' v J := by
  obtain ⟨j, d, g, xs, keys, rfl, h1, h2, h3, h4, h5, h6, h7⟩ := x
  exact ⟨j, d, g, xs, keys, rfl, f _ _ h1 (fun _ z => by cases z), f _ _ h2 not_tbl, h3.keep fun b ys e => f _ _ e (fun _ z => by cases z), h4, h5, f _ _ h6 (fun _ z => by cases z), h7⟩
theorem JAtO.same (x : JAtO P w ok H v J) (f : Same H H') : JAtO P w ok H' v J := x.extN (.of f)
theorem JAtO.fr {p : Addr} {ys : List V} (x : JAtO P w ok H v J) (ho : ∀ b, ok b → b ≠ p) (hp : H p = some (.lst ys)) (f : Fr p H H') : JAtO P w ok H' v J := by
  obtain ⟨j, d, g, xs, keys, rfl, h1, h2, h3, h4, h5, h6, h7⟩ := x
  exact ⟨j, d, g, xs, keys, rfl, f _ _ (fun e => by rw [e, hp] at h1; cases h1) h1, f _ _ (fun e => by rw [e, hp] at h2; unfold DictN at h2; cases h2) h2, h3.keep fun b zs e => f _ _ (fun z => by rw [z, hp] at e; cases e) e, h4, h5, f _ _ (ho _ h7) h6, h7⟩
theorem JAt.o (x : JAt P w H v J) : JAtO P w (fun _ => True) H v J := by
  obtain ⟨j, d, g, xs, keys, rfl, h1, h2, h3, h4, h5, h6⟩ := x
  exact ⟨j, d, g, xs, keys, rfl, h1, h2, h3, h4, h5, h6, trivial⟩
end

def JAtK (P : Program) (w : World) (ok : Addr → Prop) (H : Hp) (v : V) (J : JD) : Prop := ∃ (j d g : Addr) (xs : List NRow), v = .ref j ∧ H j = some (.tup [.str J.L, nI J.n, nI J.few, nI J.turn, .ref d, .ref g]) ∧ H d = some (DictN P w d xs) ∧ RowsN H xs ∧ RowsJ xs J.keys J.fs ∧ H g = some (.lst (J.good.map nI)) ∧ ok g
theorem JAtK.o {P : Program} {w : World} {ok : Addr → Prop} {H : Hp} {v : V} {J : JD} (x : JAtK P w ok H v J) : JAtO P w ok H v J := by
  obtain ⟨j, d, g, xs, rfl, h1, h2, h3, h4, h5, h6⟩ := x
  exact ⟨j, d, g, xs, _, rfl, h1, h2, h3, h4, .refl _, h5, h6⟩


def OkS (n few turn : Nat) : Prop := 1 ≤ n ∧ n ≤ 6 ∧ few ≤ 4 ∧ 1 ≤ turn ∧ turn ≤ 4 ∧ (few + turn) ^ n ≤ 600
def GdS (H : Hp) (as : List Addr) : Prop := ∀ a ∈ as, ∃ n few turn : Nat, H a = some (.tup [nI n, nI few, nI turn]) ∧ OkS n few turn
theorem GdS.same {H H' : Hp} {as : List Addr} (x : GdS H as) (s : Same H H') : GdS H' as := fun a ha => by obtain ⟨n, f, t, e, r⟩ := x a ha; exact ⟨n, f, t, s _ _ e, r⟩
theorem GdS.put {H : Hp} {as : List Addr} (x : GdS H as) {a : Addr} {n few turn : Nat} (ha : H a = none) (ok : OkS n few turn) : GdS (upd H a (.tup [nI n, nI few, nI turn])) (as ++ [a]) := fun b hb => by
  rcases List.mem_append.mp hb with hb | hb
  · exact (x.same (same_new ha)) b hb
  · rw [List.mem_singleton.mp hb]
    exact ⟨n, few, turn, upd_same, ok⟩
def sp__law_judge (P : Program) (w : World) : Sp := fun vs H Q _ => ∃ (p : Addr) (m : Nat) (b : Bool), vs = [.ref p, .bl b] ∧ Sto H p m ∧ m < 800000 ∧ ∀ v (J : JD) H', Fr p H H' → Sto H' p (m + 800) → J.ok → Rises J.L → J.good.Pairwise (· < ·) → JAtK P w (fun b => b ≠ p ∧ H b = none) H' v J → Q v H'
theorem cut_last {L : Str} (h : 2 ≤ L.length) (hL : Lets L) (hR : Rises L) : (cutS L none (some (-1))).length = L.length - 1 ∧ Lets (cutS L none (some (-1))) ∧ Rises (cutS L none (some (-1))) := by
  have e : cutS L none (some (-1)) = ⟨(L.cps.toList.take (L.length - 1)).toArray⟩ := by
    unfold cutS
    have e1 : HT.sIx L.length L.length (some (-1)) = L.length - 1 := by
      show (if (-1 : Int) < 0 then ((-1 : Int) + (L.length : Int)).toNat else min (-1 : Int).toNat L.length) = L.length - 1
      rw [if_pos (by decide)]
      omega
    rw [e1, HT.sIx_none, List.drop_zero, Nat.sub_zero]
  have ll : (L.cps.toList.take (L.length - 1)).length = L.length - 1 := by
    rw [List.length_take, Array.length_toList]
    show min _ L.length = _
    omega
  have l26 := hL.2.1
  rw [e]
  refine ⟨by show ((L.cps.toList.take (L.length - 1)).toArray).size = _; rw [List.size_toArray, ll], ⟨?_, ?_, fun c hc => ?_⟩, ?_⟩
  · show 1 ≤ ((L.cps.toList.take (L.length - 1)).toArray).size
    rw [List.size_toArray, ll]; omega
  · show ((L.cps.toList.take (L.length - 1)).toArray).size ≤ 26
    rw [List.size_toArray, ll]; omega
  · exact hL.2.2 c (List.mem_of_mem_take (by simpa using hc : c ∈ L.cps.toList.take (L.length - 1)))
  · show (((L.cps.toList.take (L.length - 1)).toArray).toList).Pairwise (· < ·)
    exact List.Pairwise.sublist (List.take_sublist _ _) hR
section
variable {P : Program} {w : World} {K : PySem.W.Frag} {mg : Str → Option Value} {base : Heap}
theorem ok__law_judge (T : Txt K mg) : FnOk P w K mg base CX0 3 T.f__law_judge T.d__law_judge ["store", "small"] (sp__law_judge P w) := by
  have G__law_take : FnOk P w K mg base CX0 1 T.f__law_take T.d__law_take ["store", "many"] sp__law_take := ok__law_take T
  have G__law_letters : FnOk P w K mg base CX0 2 T.f__law_letters T.d__law_letters ["store"] sp__law_letters := ok__law_letters T
  have G__law_classes : FnOk P w K mg base CX0 1 T.f__law_classes T.d__law_classes ["many", "states"] sp__law_classes := ok__law_classes T
  refine T.F__law_judge.ok sc__law_judge (fun vs H Q E h => ?_) (fun cdv A outer s H vs Q E hr h => ?_)
  · obtain ⟨p, m, b, rfl, _⟩ := h
    rfl
  obtain ⟨p, m, b, rfl, hSt, hm, q⟩ := h
  refine ⟨_, (pss_cons (ps_set (i := 2) sc__law_judge.nd rfl (Or.inl rfl) (pe_lst (pa_cons (pe_tup (pa_cons pe_int (pa_cons pe_int (pa_cons pe_int pa_nil)))) (pa_cons (pe_tup (pa_cons pe_int (pa_cons pe_int (pa_cons pe_int pa_nil)))) (pa_cons (pe_tup (pa_cons pe_int (pa_cons pe_int (pa_cons pe_int pa_nil)))) (pa_cons (pe_tup (pa_cons pe_int (pa_cons pe_int (pa_cons pe_int pa_nil)))) (pa_cons (pe_tup (pa_cons pe_int (pa_cons pe_int (pa_cons pe_int pa_nil)))) pa_nil))))))) (pss_cons (ps_set (i := 2) sc__law_judge.nd rfl (Or.inl rfl) (pe_op op_cat (pv 2) (pe_lst (pa_cons (pe_tup (pa_cons pe_int (pa_cons pe_int (pa_cons pe_int pa_nil)))) (pa_cons (pe_tup (pa_cons pe_int (pa_cons pe_int (pa_cons pe_int pa_nil)))) (pa_cons (pe_tup (pa_cons pe_int (pa_cons pe_int (pa_cons pe_int pa_nil)))) (pa_cons (pe_tup (pa_cons pe_int (pa_cons pe_int (pa_cons pe_int pa_nil)))) (pa_cons (pe_tup (pa_cons pe_int (pa_cons pe_int (pa_cons pe_int pa_nil)))) pa_nil)))))))) (pss_cons (ps_set (i := 2) sc__law_judge.nd rfl (Or.inl rfl) (pe_op op_cat (pv 2) (pe_lst (pa_cons (pe_tup (pa_cons pe_int (pa_cons pe_int (pa_cons pe_int pa_nil)))) (pa_cons (pe_tup (pa_cons pe_int (pa_cons pe_int (pa_cons pe_int pa_nil)))) (pa_cons (pe_tup (pa_cons pe_int (pa_cons pe_int (pa_cons pe_int pa_nil)))) (pa_cons (pe_tup (pa_cons pe_int (pa_cons pe_int (pa_cons pe_int pa_nil)))) (pa_cons (pe_tup (pa_cons pe_int (pa_cons pe_int (pa_cons pe_int pa_nil)))) (pa_cons (pe_tup (pa_cons pe_int (pa_cons pe_int (pa_cons pe_int pa_nil)))) (pa_cons (pe_tup (pa_cons pe_int (pa_cons pe_int (pa_cons pe_int pa_nil)))) (pa_cons (pe_tup (pa_cons pe_int (pa_cons pe_int (pa_cons pe_int pa_nil)))) (pa_cons (pe_tup (pa_cons pe_int (pa_cons pe_int (pa_cons pe_int pa_nil)))) pa_nil)))))))))))) (pss_cons (ps_set (i := 2) sc__law_judge.nd rfl (Or.inl rfl) (pe_op op_cat (pv 2) (pe_lst (pa_cons (pe_tup (pa_cons pe_int (pa_cons pe_int (pa_cons pe_int pa_nil)))) (pa_cons (pe_tup (pa_cons pe_int (pa_cons pe_int (pa_cons pe_int pa_nil)))) (pa_cons (pe_tup (pa_cons pe_int (pa_cons pe_int (pa_cons pe_int pa_nil)))) pa_nil)))))) (pss_cons (ps_asg (pe_ix ix_list (pv 2) (pe_call G__law_take (hr.mono (by omega)) (by rfl) T.m__law_take T.F__law_take.kp T.b__law_take .nil pass0 (pa_cons (pv 0) (pa_cons (pe_ix ix_list (pe_lst (pa_cons pe_int (pa_cons pe_int pa_nil))) (pe_callTy call_int1 (by rfl) T.z_int (by decide +kernel) (pa_cons (pv 1) pa_nil)) (fun _ _ => rfl)) pa_nil))) (fun _ _ => rfl)) (pg_tup rfl (pgs_cons (pg_name (i := 3) sc__law_judge.nd rfl (Or.inl rfl)) (pgs_cons (pg_name (i := 4) sc__law_judge.nd rfl (Or.inl rfl)) (pgs_cons (pg_name (i := 5) sc__law_judge.nd rfl (Or.inl rfl)) pgs_nil))))) (pss_cons (ps_set (i := 6) sc__law_judge.nd rfl (Or.inl rfl) (pe_call G__law_letters (hr.mono (by omega)) (by rfl) T.m__law_letters T.F__law_letters.kp T.b__law_letters .nil pass0 (pa_cons (pv 0) pa_nil))) (pss_cons (ps_set (i := 7) sc__law_judge.nd rfl (Or.inl rfl) (pe_call G__law_classes (hr.mono (by omega)) (by rfl) T.m__law_classes T.F__law_classes.kp T.b__law_classes .nil pass0 (pa_cons (pe_op op_add (pv 4) (pv 5)) (pa_cons (pv 3) pa_nil)))) (pss_cons (ps_while PassesOwn.never (pt_cmpR op_gt (pe_op op_mul (pe_callB call_len_str (by rfl) T.z_len PySem.boot_len (pa_cons (pv 6) pa_nil)) (pe_callB call_len_seq (by rfl) T.z_len PySem.boot_len (pa_cons (pv 7) pa_nil))) pe_int (nomark _)) (pss_one (ps_set (i := 6) sc__law_judge.nd rfl (Or.inl rfl) (pe_slice sl_str (pv 6) po_none (po_some (pe_un un_neg pe_int)))))) (pss_cons (ps_set (i := 8) sc__law_judge.nd rfl (Or.inl rfl) pe_dnewN) (pss_cons (ps_for PassesOwn.never rfl (pi_str (pv 6)) (pg_name (i := 9) sc__law_judge.nd rfl (Or.inl rfl)) (pss_cons (ps_set (i := 10) sc__law_judge.nd rfl (Or.inl rfl) (pe_call G__law_take (hr.mono (by omega)) (by rfl) T.m__law_take T.F__law_take.kp T.b__law_take .nil pass0 (pa_cons (pv 0) (pa_cons pe_int pa_nil)))) (pss_one (ps_for PassesOwn.never rfl (pi_list (pv 7)) (pg_name (i := 11) sc__law_judge.nd rfl (Or.inl rfl)) (pss_one (ps_dputN (roomN hr) (pv 8) (pe_tup (pa_cons (pv 9) (pa_cons (pv 11) pa_nil))) (pe_ix ix_list (pe_lst (pa_cons (pe_call G__law_take (hr.mono (by omega)) (by rfl) T.m__law_take T.F__law_take.kp T.b__law_take .nil pass0 (pa_cons (pv 0) (pa_cons (pv 3) pa_nil))) (pa_cons (pe_op op_mod (pe_callB (cr_sumT rfl) (by rfl) T.z_sum (by decide +kernel) (pa_cons (pv 11) pa_nil)) (pv 3)) (pa_cons (pe_callB (call_min2 rfl) (by rfl) T.z_min (by decide +kernel) (pa_cons (pe_op op_sub (pv 3) pe_int) (pa_cons (pe_callB (cr_sumT rfl) (by rfl) T.z_sum (by decide +kernel) (pa_cons (pv 11) pa_nil)) pa_nil))) pa_nil)))) (pv 10) (fun _ _ => rfl)) rfl)))))) (pss_cons (ps_setLc (i := 12) (own := [("state", 13)]) (g := gName 13) (te := tVar 13) (tt := tTest (tOp rEq (tCall sp__law_take [] E0 (tCons (tVar 0) (tCons (tC (.int 2)) tNil))) (tC (.int 0)))) rfl sc__law_judge.nd rfl rfl (sw_true rfl rfl rfl (by decide +kernel)) (pi_range1 (by rfl) T.z_range (pa_cons (pv 3) pa_nil)) (blkOk_by (own := [("state", 13)]) (N := ["store", "small", "sizes", "states", "few", "turn", "letters", "rows", "table", "letter", "kind", "row", "good", "state"]) (sc := (defScope s__law_judge)) (by decide +kernel)) (fun _ _ _ _ _ => (pg_name (i := 13) sc__law_judge.nd rfl (Or.inl rfl))) (fun _ _ _ _ _ => pts_one (pt_cmpR op_eq (pe_call G__law_take (hr.mono (by omega)) (by rfl) T.m__law_take T.F__law_take.kp T.b__law_take .nil pass0 (pa_cons (pv 0) (pa_cons pe_int pa_nil))) pe_int (nomark _))) (fun _ _ _ _ _ => (pv 13))) (pss_one (ps_ret (pe_tup (pa_cons (pv 6) (pa_cons (pv 3) (pa_cons (pv 4) (pa_cons (pv 5) (pa_cons (pv 8) (pa_cons (pv 12) pa_nil)))))))))))))))))))), ?_⟩
  have g0 : GdS H [] := fun _ h => by cases h
  have S0 : Same H H := Same.refl H
  refine ⟨(by show 3 ≤ sizeLine; decide), fun t1 h1 => ?_⟩
  have g1 := g0.put (n := 2) (few := 1) (turn := 1) h1 ⟨by decide, by decide, by decide, by decide, by decide, by decide⟩
  have s1 := same_new h1 (o := (.tup [V.int 2, V.int 1, V.int 1]))
  have S1 := S0.trans s1
  replace g1 : GdS (upd H t1 (.tup [V.int 2, V.int 1, V.int 1])) ([t1]) := g1
  generalize upd H t1 (.tup [V.int 2, V.int 1, V.int 1]) = H1 at *
  clear g0 s1 S0
  refine ⟨(by show 3 ≤ sizeLine; decide), fun t2 h2 => ?_⟩
  have g2 := g1.put (n := 3) (few := 1) (turn := 1) h2 ⟨by decide, by decide, by decide, by decide, by decide, by decide⟩
  have s2 := same_new h2 (o := (.tup [V.int 3, V.int 1, V.int 1]))
  have S2 := S1.trans s2
  replace g2 : GdS (upd H1 t2 (.tup [V.int 3, V.int 1, V.int 1])) ([t1, t2]) := g2
  generalize upd H1 t2 (.tup [V.int 3, V.int 1, V.int 1]) = H2 at *
  clear g1 s2 S1
  refine ⟨(by show 3 ≤ sizeLine; decide), fun t3 h3 => ?_⟩
  have g3 := g2.put (n := 2) (few := 0) (turn := 2) h3 ⟨by decide, by decide, by decide, by decide, by decide, by decide⟩
  have s3 := same_new h3 (o := (.tup [V.int 2, V.int 0, V.int 2]))
  have S3 := S2.trans s3
  replace g3 : GdS (upd H2 t3 (.tup [V.int 2, V.int 0, V.int 2])) ([t1, t2, t3]) := g3
  generalize upd H2 t3 (.tup [V.int 2, V.int 0, V.int 2]) = H3 at *
  clear g2 s3 S2
  refine ⟨(by show 3 ≤ sizeLine; decide), fun t4 h4 => ?_⟩
  have g4 := g3.put (n := 1) (few := 0) (turn := 1) h4 ⟨by decide, by decide, by decide, by decide, by decide, by decide⟩
  have s4 := same_new h4 (o := (.tup [V.int 1, V.int 0, V.int 1]))
  have S4 := S3.trans s4
  replace g4 : GdS (upd H3 t4 (.tup [V.int 1, V.int 0, V.int 1])) ([t1, t2, t3, t4]) := g4
  generalize upd H3 t4 (.tup [V.int 1, V.int 0, V.int 1]) = H4 at *
  clear g3 s4 S3
  refine ⟨(by show 3 ≤ sizeLine; decide), fun t5 h5 => ?_⟩
  have g5 := g4.put (n := 2) (few := 2) (turn := 1) h5 ⟨by decide, by decide, by decide, by decide, by decide, by decide⟩
  have s5 := same_new h5 (o := (.tup [V.int 2, V.int 2, V.int 1]))
  have S5 := S4.trans s5
  replace g5 : GdS (upd H4 t5 (.tup [V.int 2, V.int 2, V.int 1])) ([t1, t2, t3, t4, t5]) := g5
  generalize upd H4 t5 (.tup [V.int 2, V.int 2, V.int 1]) = H5 at *
  clear g4 s5 S4
  refine ⟨(by show 5 ≤ sizeLine; decide), fun l6 h6 => ?_⟩
  have s6 := same_new h6 (o := .lst [V.ref t1, V.ref t2, V.ref t3, V.ref t4, V.ref t5])
  have g6 := g5.same s6
  have S6 := S5.trans s6
  have u6 := upd_same (H := H5) (a := l6) (o := .lst [V.ref t1, V.ref t2, V.ref t3, V.ref t4, V.ref t5])
  generalize upd H5 l6 (.lst [V.ref t1, V.ref t2, V.ref t3, V.ref t4, V.ref t5]) = H6 at *
  clear g5 s6 S5
  have e1 := u6
  refine ⟨_, rfl, ?_⟩
  refine ⟨(by show 3 ≤ sizeLine; decide), fun t7 h7 => ?_⟩
  have g7 := g6.put (n := 3) (few := 0) (turn := 2) h7 ⟨by decide, by decide, by decide, by decide, by decide, by decide⟩
  have s7 := same_new h7 (o := (.tup [V.int 3, V.int 0, V.int 2]))
  have S7 := S6.trans s7
  have e1 := s7 _ _ e1
  replace g7 : GdS (upd H6 t7 (.tup [V.int 3, V.int 0, V.int 2])) ([t1, t2, t3, t4, t5, t7]) := g7
  generalize upd H6 t7 (.tup [V.int 3, V.int 0, V.int 2]) = H7 at *
  clear g6 s7 S6
  refine ⟨(by show 3 ≤ sizeLine; decide), fun t8 h8 => ?_⟩
  have g8 := g7.put (n := 2) (few := 1) (turn := 2) h8 ⟨by decide, by decide, by decide, by decide, by decide, by decide⟩
  have s8 := same_new h8 (o := (.tup [V.int 2, V.int 1, V.int 2]))
  have S8 := S7.trans s8
  have e1 := s8 _ _ e1
  replace g8 : GdS (upd H7 t8 (.tup [V.int 2, V.int 1, V.int 2])) ([t1, t2, t3, t4, t5, t7, t8]) := g8
  generalize upd H7 t8 (.tup [V.int 2, V.int 1, V.int 2]) = H8 at *
  clear g7 s8 S7
  refine ⟨(by show 3 ≤ sizeLine; decide), fun t9 h9 => ?_⟩
  have g9 := g8.put (n := 1) (few := 4) (turn := 4) h9 ⟨by decide, by decide, by decide, by decide, by decide, by decide⟩
  have s9 := same_new h9 (o := (.tup [V.int 1, V.int 4, V.int 4]))
  have S9 := S8.trans s9
  have e1 := s9 _ _ e1
  replace g9 : GdS (upd H8 t9 (.tup [V.int 1, V.int 4, V.int 4])) ([t1, t2, t3, t4, t5, t7, t8, t9]) := g9
  generalize upd H8 t9 (.tup [V.int 1, V.int 4, V.int 4]) = H9 at *
  clear g8 s9 S8
  refine ⟨(by show 3 ≤ sizeLine; decide), fun t10 h10 => ?_⟩
  have g10 := g9.put (n := 3) (few := 0) (turn := 1) h10 ⟨by decide, by decide, by decide, by decide, by decide, by decide⟩
  have s10 := same_new h10 (o := (.tup [V.int 3, V.int 0, V.int 1]))
  have S10 := S9.trans s10
  have e1 := s10 _ _ e1
  replace g10 : GdS (upd H9 t10 (.tup [V.int 3, V.int 0, V.int 1])) ([t1, t2, t3, t4, t5, t7, t8, t9, t10]) := g10
  generalize upd H9 t10 (.tup [V.int 3, V.int 0, V.int 1]) = H10 at *
  clear g9 s10 S9
  refine ⟨(by show 3 ≤ sizeLine; decide), fun t11 h11 => ?_⟩
  have g11 := g10.put (n := 2) (few := 4) (turn := 1) h11 ⟨by decide, by decide, by decide, by decide, by decide, by decide⟩
  have s11 := same_new h11 (o := (.tup [V.int 2, V.int 4, V.int 1]))
  have S11 := S10.trans s11
  have e1 := s11 _ _ e1
  replace g11 : GdS (upd H10 t11 (.tup [V.int 2, V.int 4, V.int 1])) ([t1, t2, t3, t4, t5, t7, t8, t9, t10, t11]) := g11
  generalize upd H10 t11 (.tup [V.int 2, V.int 4, V.int 1]) = H11 at *
  clear g10 s11 S10
  refine ⟨(by show 5 ≤ sizeLine; decide), fun l12 h12 => ?_⟩
  have s12 := same_new h12 (o := .lst [V.ref t7, V.ref t8, V.ref t9, V.ref t10, V.ref t11])
  have g12 := g11.same s12
  have S12 := S11.trans s12
  have u12 := upd_same (H := H11) (a := l12) (o := .lst [V.ref t7, V.ref t8, V.ref t9, V.ref t10, V.ref t11])
  have e1 := s12 _ _ e1
  generalize upd H11 l12 (.lst [V.ref t7, V.ref t8, V.ref t9, V.ref t10, V.ref t11]) = H12 at *
  clear g11 s12 S11
  refine ⟨l6, l12, _, _, rfl, rfl, e1, u12, (by show 10 ≤ sizeLine; decide), fun l13 h13 => ?_⟩
  have s13 := same_new h13 (o := .lst [V.ref t1, V.ref t2, V.ref t3, V.ref t4, V.ref t5, V.ref t7, V.ref t8, V.ref t9, V.ref t10, V.ref t11])
  have g13 := g12.same s13
  have S13 := S12.trans s13
  have e2 : (upd H12 l13 (.lst [V.ref t1, V.ref t2, V.ref t3, V.ref t4, V.ref t5, V.ref t7, V.ref t8, V.ref t9, V.ref t10, V.ref t11])) l13 = some (.lst [V.ref t1, V.ref t2, V.ref t3, V.ref t4, V.ref t5, V.ref t7, V.ref t8, V.ref t9, V.ref t10, V.ref t11]) := upd_same
  show gName 2 (.ref l13) _ (upd H12 l13 (.lst [V.ref t1, V.ref t2, V.ref t3, V.ref t4, V.ref t5, V.ref t7, V.ref t8, V.ref t9, V.ref t10, V.ref t11])) _
  generalize upd H12 l13 (.lst [V.ref t1, V.ref t2, V.ref t3, V.ref t4, V.ref t5, V.ref t7, V.ref t8, V.ref t9, V.ref t10, V.ref t11]) = H13 at *
  clear g12 s13 S12
  refine ⟨_, rfl, ?_⟩
  refine ⟨(by show 3 ≤ sizeLine; decide), fun t14 h14 => ?_⟩
  have g14 := g13.put (n := 3) (few := 2) (turn := 1) h14 ⟨by decide, by decide, by decide, by decide, by decide, by decide⟩
  have s14 := same_new h14 (o := (.tup [V.int 3, V.int 2, V.int 1]))
  have S14 := S13.trans s14
  have e2 := s14 _ _ e2
  replace g14 : GdS (upd H13 t14 (.tup [V.int 3, V.int 2, V.int 1])) ([t1, t2, t3, t4, t5, t7, t8, t9, t10, t11, t14]) := g14
  generalize upd H13 t14 (.tup [V.int 3, V.int 2, V.int 1]) = H14 at *
  clear g13 s14 S13
  refine ⟨(by show 3 ≤ sizeLine; decide), fun t15 h15 => ?_⟩
  have g15 := g14.put (n := 4) (few := 1) (turn := 1) h15 ⟨by decide, by decide, by decide, by decide, by decide, by decide⟩
  have s15 := same_new h15 (o := (.tup [V.int 4, V.int 1, V.int 1]))
  have S15 := S14.trans s15
  have e2 := s15 _ _ e2
  replace g15 : GdS (upd H14 t15 (.tup [V.int 4, V.int 1, V.int 1])) ([t1, t2, t3, t4, t5, t7, t8, t9, t10, t11, t14, t15]) := g15
  generalize upd H14 t15 (.tup [V.int 4, V.int 1, V.int 1]) = H15 at *
  clear g14 s15 S14
  refine ⟨(by show 3 ≤ sizeLine; decide), fun t16 h16 => ?_⟩
  have g16 := g15.put (n := 5) (few := 1) (turn := 1) h16 ⟨by decide, by decide, by decide, by decide, by decide, by decide⟩
  have s16 := same_new h16 (o := (.tup [V.int 5, V.int 1, V.int 1]))
  have S16 := S15.trans s16
  have e2 := s16 _ _ e2
  replace g16 : GdS (upd H15 t16 (.tup [V.int 5, V.int 1, V.int 1])) ([t1, t2, t3, t4, t5, t7, t8, t9, t10, t11, t14, t15, t16]) := g16
  generalize upd H15 t16 (.tup [V.int 5, V.int 1, V.int 1]) = H16 at *
  clear g15 s16 S15
  refine ⟨(by show 3 ≤ sizeLine; decide), fun t17 h17 => ?_⟩
  have g17 := g16.put (n := 6) (few := 1) (turn := 1) h17 ⟨by decide, by decide, by decide, by decide, by decide, by decide⟩
  have s17 := same_new h17 (o := (.tup [V.int 6, V.int 1, V.int 1]))
  have S17 := S16.trans s17
  have e2 := s17 _ _ e2
  replace g17 : GdS (upd H16 t17 (.tup [V.int 6, V.int 1, V.int 1])) ([t1, t2, t3, t4, t5, t7, t8, t9, t10, t11, t14, t15, t16, t17]) := g17
  generalize upd H16 t17 (.tup [V.int 6, V.int 1, V.int 1]) = H17 at *
  clear g16 s17 S16
  refine ⟨(by show 3 ≤ sizeLine; decide), fun t18 h18 => ?_⟩
  have g18 := g17.put (n := 4) (few := 0) (turn := 2) h18 ⟨by decide, by decide, by decide, by decide, by decide, by decide⟩
  have s18 := same_new h18 (o := (.tup [V.int 4, V.int 0, V.int 2]))
  have S18 := S17.trans s18
  have e2 := s18 _ _ e2
  replace g18 : GdS (upd H17 t18 (.tup [V.int 4, V.int 0, V.int 2])) ([t1, t2, t3, t4, t5, t7, t8, t9, t10, t11, t14, t15, t16, t17, t18]) := g18
  generalize upd H17 t18 (.tup [V.int 4, V.int 0, V.int 2]) = H18 at *
  clear g17 s18 S17
  refine ⟨(by show 3 ≤ sizeLine; decide), fun t19 h19 => ?_⟩
  have g19 := g18.put (n := 3) (few := 1) (turn := 2) h19 ⟨by decide, by decide, by decide, by decide, by decide, by decide⟩
  have s19 := same_new h19 (o := (.tup [V.int 3, V.int 1, V.int 2]))
  have S19 := S18.trans s19
  have e2 := s19 _ _ e2
  replace g19 : GdS (upd H18 t19 (.tup [V.int 3, V.int 1, V.int 2])) ([t1, t2, t3, t4, t5, t7, t8, t9, t10, t11, t14, t15, t16, t17, t18, t19]) := g19
  generalize upd H18 t19 (.tup [V.int 3, V.int 1, V.int 2]) = H19 at *
  clear g18 s19 S18
  refine ⟨(by show 3 ≤ sizeLine; decide), fun t20 h20 => ?_⟩
  have g20 := g19.put (n := 2) (few := 4) (turn := 4) h20 ⟨by decide, by decide, by decide, by decide, by decide, by decide⟩
  have s20 := same_new h20 (o := (.tup [V.int 2, V.int 4, V.int 4]))
  have S20 := S19.trans s20
  have e2 := s20 _ _ e2
  replace g20 : GdS (upd H19 t20 (.tup [V.int 2, V.int 4, V.int 4])) ([t1, t2, t3, t4, t5, t7, t8, t9, t10, t11, t14, t15, t16, t17, t18, t19, t20]) := g20
  generalize upd H19 t20 (.tup [V.int 2, V.int 4, V.int 4]) = H20 at *
  clear g19 s20 S19
  refine ⟨(by show 3 ≤ sizeLine; decide), fun t21 h21 => ?_⟩
  have g21 := g20.put (n := 4) (few := 2) (turn := 2) h21 ⟨by decide, by decide, by decide, by decide, by decide, by decide⟩
  have s21 := same_new h21 (o := (.tup [V.int 4, V.int 2, V.int 2]))
  have S21 := S20.trans s21
  have e2 := s21 _ _ e2
  replace g21 : GdS (upd H20 t21 (.tup [V.int 4, V.int 2, V.int 2])) ([t1, t2, t3, t4, t5, t7, t8, t9, t10, t11, t14, t15, t16, t17, t18, t19, t20, t21]) := g21
  generalize upd H20 t21 (.tup [V.int 4, V.int 2, V.int 2]) = H21 at *
  clear g20 s21 S20
  refine ⟨(by show 3 ≤ sizeLine; decide), fun t22 h22 => ?_⟩
  have g22 := g21.put (n := 3) (few := 4) (turn := 4) h22 ⟨by decide, by decide, by decide, by decide, by decide, by decide⟩
  have s22 := same_new h22 (o := (.tup [V.int 3, V.int 4, V.int 4]))
  have S22 := S21.trans s22
  have e2 := s22 _ _ e2
  replace g22 : GdS (upd H21 t22 (.tup [V.int 3, V.int 4, V.int 4])) ([t1, t2, t3, t4, t5, t7, t8, t9, t10, t11, t14, t15, t16, t17, t18, t19, t20, t21, t22]) := g22
  generalize upd H21 t22 (.tup [V.int 3, V.int 4, V.int 4]) = H22 at *
  clear g21 s22 S21
  refine ⟨(by show 9 ≤ sizeLine; decide), fun l23 h23 => ?_⟩
  have s23 := same_new h23 (o := .lst [V.ref t14, V.ref t15, V.ref t16, V.ref t17, V.ref t18, V.ref t19, V.ref t20, V.ref t21, V.ref t22])
  have g23 := g22.same s23
  have S23 := S22.trans s23
  have u23 := upd_same (H := H22) (a := l23) (o := .lst [V.ref t14, V.ref t15, V.ref t16, V.ref t17, V.ref t18, V.ref t19, V.ref t20, V.ref t21, V.ref t22])
  have e2 := s23 _ _ e2
  generalize upd H22 l23 (.lst [V.ref t14, V.ref t15, V.ref t16, V.ref t17, V.ref t18, V.ref t19, V.ref t20, V.ref t21, V.ref t22]) = H23 at *
  clear g22 s23 S22
  refine ⟨l13, l23, _, _, rfl, rfl, e2, u23, (by show 19 ≤ sizeLine; decide), fun l24 h24 => ?_⟩
  have s24 := same_new h24 (o := .lst [V.ref t1, V.ref t2, V.ref t3, V.ref t4, V.ref t5, V.ref t7, V.ref t8, V.ref t9, V.ref t10, V.ref t11, V.ref t14, V.ref t15, V.ref t16, V.ref t17, V.ref t18, V.ref t19, V.ref t20, V.ref t21, V.ref t22])
  have g24 := g23.same s24
  have S24 := S23.trans s24
  have e3 : (upd H23 l24 (.lst [V.ref t1, V.ref t2, V.ref t3, V.ref t4, V.ref t5, V.ref t7, V.ref t8, V.ref t9, V.ref t10, V.ref t11, V.ref t14, V.ref t15, V.ref t16, V.ref t17, V.ref t18, V.ref t19, V.ref t20, V.ref t21, V.ref t22])) l24 = some (.lst [V.ref t1, V.ref t2, V.ref t3, V.ref t4, V.ref t5, V.ref t7, V.ref t8, V.ref t9, V.ref t10, V.ref t11, V.ref t14, V.ref t15, V.ref t16, V.ref t17, V.ref t18, V.ref t19, V.ref t20, V.ref t21, V.ref t22]) := upd_same
  show gName 2 (.ref l24) _ (upd H23 l24 (.lst [V.ref t1, V.ref t2, V.ref t3, V.ref t4, V.ref t5, V.ref t7, V.ref t8, V.ref t9, V.ref t10, V.ref t11, V.ref t14, V.ref t15, V.ref t16, V.ref t17, V.ref t18, V.ref t19, V.ref t20, V.ref t21, V.ref t22])) _
  generalize upd H23 l24 (.lst [V.ref t1, V.ref t2, V.ref t3, V.ref t4, V.ref t5, V.ref t7, V.ref t8, V.ref t9, V.ref t10, V.ref t11, V.ref t14, V.ref t15, V.ref t16, V.ref t17, V.ref t18, V.ref t19, V.ref t20, V.ref t21, V.ref t22]) = H24 at *
  clear g23 s24 S23
  refine ⟨_, rfl, ?_⟩
  refine ⟨(by show 3 ≤ sizeLine; decide), fun t25 h25 => ?_⟩
  have g25 := g24.put (n := 2) (few := 0) (turn := 3) h25 ⟨by decide, by decide, by decide, by decide, by decide, by decide⟩
  have s25 := same_new h25 (o := (.tup [V.int 2, V.int 0, V.int 3]))
  have S25 := S24.trans s25
  have e3 := s25 _ _ e3
  replace g25 : GdS (upd H24 t25 (.tup [V.int 2, V.int 0, V.int 3])) ([t1, t2, t3, t4, t5, t7, t8, t9, t10, t11, t14, t15, t16, t17, t18, t19, t20, t21, t22, t25]) := g25
  generalize upd H24 t25 (.tup [V.int 2, V.int 0, V.int 3]) = H25 at *
  clear g24 s25 S24
  refine ⟨(by show 3 ≤ sizeLine; decide), fun t26 h26 => ?_⟩
  have g26 := g25.put (n := 2) (few := 3) (turn := 1) h26 ⟨by decide, by decide, by decide, by decide, by decide, by decide⟩
  have s26 := same_new h26 (o := (.tup [V.int 2, V.int 3, V.int 1]))
  have S26 := S25.trans s26
  have e3 := s26 _ _ e3
  replace g26 : GdS (upd H25 t26 (.tup [V.int 2, V.int 3, V.int 1])) ([t1, t2, t3, t4, t5, t7, t8, t9, t10, t11, t14, t15, t16, t17, t18, t19, t20, t21, t22, t25, t26]) := g26
  generalize upd H25 t26 (.tup [V.int 2, V.int 3, V.int 1]) = H26 at *
  clear g25 s26 S25
  refine ⟨(by show 3 ≤ sizeLine; decide), fun t27 h27 => ?_⟩
  have g27 := g26.put (n := 1) (few := 3) (turn := 3) h27 ⟨by decide, by decide, by decide, by decide, by decide, by decide⟩
  have s27 := same_new h27 (o := (.tup [V.int 1, V.int 3, V.int 3]))
  have S27 := S26.trans s27
  have e3 := s27 _ _ e3
  replace g27 : GdS (upd H26 t27 (.tup [V.int 1, V.int 3, V.int 3])) ([t1, t2, t3, t4, t5, t7, t8, t9, t10, t11, t14, t15, t16, t17, t18, t19, t20, t21, t22, t25, t26, t27]) := g27
  generalize upd H26 t27 (.tup [V.int 1, V.int 3, V.int 3]) = H27 at *
  clear g26 s27 S26
  refine ⟨(by show 3 ≤ sizeLine; decide), fun l28 h28 => ?_⟩
  have s28 := same_new h28 (o := .lst [V.ref t25, V.ref t26, V.ref t27])
  have g28 := g27.same s28
  have S28 := S27.trans s28
  have u28 := upd_same (H := H27) (a := l28) (o := .lst [V.ref t25, V.ref t26, V.ref t27])
  have e3 := s28 _ _ e3
  generalize upd H27 l28 (.lst [V.ref t25, V.ref t26, V.ref t27]) = H28 at *
  clear g27 s28 S27
  refine ⟨l24, l28, _, _, rfl, rfl, e3, u28, (by show 22 ≤ sizeLine; decide), fun l29 h29 => ?_⟩
  have s29 := same_new h29 (o := .lst [V.ref t1, V.ref t2, V.ref t3, V.ref t4, V.ref t5, V.ref t7, V.ref t8, V.ref t9, V.ref t10, V.ref t11, V.ref t14, V.ref t15, V.ref t16, V.ref t17, V.ref t18, V.ref t19, V.ref t20, V.ref t21, V.ref t22, V.ref t25, V.ref t26, V.ref t27])
  have g29 := g28.same s29
  have S29 := S28.trans s29
  have e4 : (upd H28 l29 (.lst [V.ref t1, V.ref t2, V.ref t3, V.ref t4, V.ref t5, V.ref t7, V.ref t8, V.ref t9, V.ref t10, V.ref t11, V.ref t14, V.ref t15, V.ref t16, V.ref t17, V.ref t18, V.ref t19, V.ref t20, V.ref t21, V.ref t22, V.ref t25, V.ref t26, V.ref t27])) l29 = some (.lst [V.ref t1, V.ref t2, V.ref t3, V.ref t4, V.ref t5, V.ref t7, V.ref t8, V.ref t9, V.ref t10, V.ref t11, V.ref t14, V.ref t15, V.ref t16, V.ref t17, V.ref t18, V.ref t19, V.ref t20, V.ref t21, V.ref t22, V.ref t25, V.ref t26, V.ref t27]) := upd_same
  show gName 2 (.ref l29) _ (upd H28 l29 (.lst [V.ref t1, V.ref t2, V.ref t3, V.ref t4, V.ref t5, V.ref t7, V.ref t8, V.ref t9, V.ref t10, V.ref t11, V.ref t14, V.ref t15, V.ref t16, V.ref t17, V.ref t18, V.ref t19, V.ref t20, V.ref t21, V.ref t22, V.ref t25, V.ref t26, V.ref t27])) _
  generalize upd H28 l29 (.lst [V.ref t1, V.ref t2, V.ref t3, V.ref t4, V.ref t5, V.ref t7, V.ref t8, V.ref t9, V.ref t10, V.ref t11, V.ref t14, V.ref t15, V.ref t16, V.ref t17, V.ref t18, V.ref t19, V.ref t20, V.ref t21, V.ref t22, V.ref t25, V.ref t26, V.ref t27]) = H29 at *
  clear g28 s29 S28
  have hlen : [t1, t2, t3, t4, t5, t7, t8, t9, t10, t11, t14, t15, t16, t17, t18, t19, t20, t21, t22, t25, t26, t27].length = 22 := rfl
  have eL : H29 l29 = some (.lst ([t1, t2, t3, t4, t5, t7, t8, t9, t10, t11, t14, t15, t16, t17, t18, t19, t20, t21, t22, t25, t26, t27].map V.ref)) := e4
  clear e4
  generalize [t1, t2, t3, t4, t5, t7, t8, t9, t10, t11, t14, t15, t16, t17, t18, t19, t20, t21, t22, t25, t26, t27] = as at *
  rename GdS H29 as => gA
  rename Same H H29 => sA
  generalize l29 = lA at *
  generalize H29 = HA at *
  have hStA := hSt.keep sA
  refine ⟨_, rfl, _, rfl, (by show 2 ≤ sizeLine; decide), fun l2 hl2 => ⟨_, rfl, .inr ⟨b, rfl, ?_⟩⟩⟩
  have s2 := same_new hl2 (o := .lst [V.int 22, V.int 10])
  have hSt2 := hStA.keep s2
  have u2 := upd_same (H := HA) (a := l2) (o := .lst [V.int 22, V.int 10])
  have F2 : Fr p H (upd HA l2 (.lst [V.int 22, V.int 10])) := Fr.same (sA.trans s2)
  have gA2 := gA.same s2
  have eL2 := s2 _ _ eL
  generalize upd HA l2 (.lst [V.int 22, V.int 10]) = HB at *
  obtain ⟨z, hat, z1, z2⟩ : ∃ z : Int, atI [V.int 22, V.int 10] (if b then 1 else 0) = some (V.int z) ∧ 0 < z ∧ z ≤ 22 := by
    cases b
    · exact ⟨22, atI_nat (j := 0) rfl, by decide, by decide⟩
    · exact ⟨10, atI_nat (j := 1) rfl, by decide, by decide⟩
  have nl : lA ≠ p := fun e => by
    obtain ⟨g, m', s', e2, _⟩ := hSt2
    rw [← e, eL2] at e2
    have e3 := HO.lst.inj (Option.some.inj e2)
    cases as with
    | nil => cases e3
    | cons a t => cases e3
  refine ⟨l2, _, _, _, rfl, rfl, SqL.of u2, hat, p, z, m, rfl, hSt2, by omega, z1, by omega, fun x H3 x0 x1 c3 St3 => ?_⟩
  obtain ⟨j, rfl, hj2⟩ : ∃ j : Nat, x = (j : Int) ∧ j < 22 := ⟨x.toNat, by omega, by omega⟩
  have hb : as[j]? = some (as[j]'(by omega)) := List.getElem?_eq_getElem _
  obtain ⟨aj, hb⟩ : ∃ aj, as[j]? = some aj := ⟨_, hb⟩
  obtain ⟨n, few, turn, ea, o1, o2, o3, o4, o5, o6⟩ := gA2 aj (List.mem_of_getElem? hb)
  have eL3 : H3 lA = some (.lst (as.map V.ref)) := by rw [c3 lA nl]; exact eL2
  have naj : aj ≠ p := fun e => by
    obtain ⟨g, m', s', e2, _⟩ := hSt2
    rw [← e, ea] at e2
    cases e2
  have ea3 : H3 aj = some (.tup [nI n, nI few, nI turn]) := by rw [c3 aj naj]; exact ea
  refine ⟨lA, _, (j : Int), _, rfl, rfl, SqL.of eL3, atI_nat (show _ = some (V.ref aj) by rw [List.getElem?_map, hb]; rfl), aj, _, rfl, SqT.of ea3, rfl, _, _, rfl, _, _, rfl, _, _, rfl, rfl, ?_⟩
  have F3 := F2.trans (Fr.of_chg c3)
  refine ⟨_, rfl, p, m + 1, rfl, St3, by omega, fun L H4 hL hri f4 St4 => ?_⟩
  have F4 := F3.trans f4
  refine ⟨_, rfl, _, rfl, _, _, rfl, rfl, _, rfl, n, few + turn, rfl, o2, by omega, by omega, o6, fun r bs H5 s5 r50 r51 hrows => ?_⟩
  have F5 := F4.trans (Fr.same s5)
  have St5 := St4.keep s5
  have la : bs.length = (few + turn) ^ n := by rw [Paired.length hrows, rowsTo_len]
  clear F2 F3 F4 c3 f4 St3 St4 hSt2 hStA gA gA2 eL eL2 eL3 u2 hat s2 sA
  refine ⟨fun k σ' H' => ∃ L : Str, k = L.length ∧ σ' = [some (.ref p), some (.bl b), some (.ref lA), some (nI n), some (nI few), some (nI turn), some (.str L), some (.ref r), none, none, none, none, none, none] ∧ Lets L ∧ Rises L ∧ H' = H5, ⟨_, L, rfl, rfl, hL, hri, rfl⟩, ?_⟩
  clear hL hri
  rintro k σ' H5' ⟨L, rfl, rfl, hL, hri, rfl⟩
  obtain ⟨l1, l26, _⟩ := id hL
  refine ⟨_, rfl, L, rfl, Nat.le_trans l26 (by decide), _, rfl, r, _, rfl, .inl (SqL.of r51), _, _, rfl, rfl, .inl ⟨by omega, by omega⟩, _, _, rfl, rfl, _, rfl, ite2 (fun k7 => ?_) (fun k7 => ?_)⟩
  · have k7 := of_decide_eq_true k7
    rw [List.length_map, la] at k7
    have l2 : 2 ≤ L.length := by
      rcases Nat.lt_or_ge L.length 2 with h | h
      · have : L.length = 1 := by omega
        rw [this] at k7
        have k8 : 600 < 1 * (few + turn) ^ n := by exact_mod_cast k7
        omega
      · exact h
    obtain ⟨d1, d2, d3⟩ := cut_last l2 hL hri
    refine ⟨fun σ' H' => ∃ m', m' < L.length ∧ ∃ L : Str, m' = L.length ∧ σ' = [some (.ref p), some (.bl b), some (.ref lA), some (nI n), some (nI few), some (nI turn), some (.str L), some (.ref r), none, none, none, none, none, none] ∧ Lets L ∧ Rises L ∧ H' = H5', fun _ _ h => h, ?_⟩
    exact ⟨_, rfl, _, rfl, _, rfl, L, rfl, Nat.le_trans l26 (by decide), _, by omega, _, rfl, rfl, d2, d3, rfl⟩
  have h600 : L.length * (few + turn) ^ n ≤ 600 := by
    have k7 : ¬ ((600 : Int) < (L.length : Int) * ((bs.map V.ref).length : Int)) := fun h => k7 (decide_eq_true h)
    rw [List.length_map, la] at k7
    have : ¬ (600 < L.length * (few + turn) ^ n) := fun h => k7 (by exact_mod_cast h)
    omega
  refine fun dl hdl => ?_
  have sd := same_new hdl (o := DictN P w dl [])
  have kd0 := upd_same (H := H5') (a := dl) (o := DictN P w dl [])
  have ndl : dl ≠ p := St5.ne hdl
  have St6 := St5.keep sd
  have hdl0 : H dl = none := F5.free St5.some hdl
  obtain ⟨H6, hH6⟩ : ∃ H6, upd H5' dl (DictN P w dl []) = H6 := ⟨_, rfl⟩
  rw [hH6] at sd kd0 St6
  have F6 := F5.trans (Fr.same sd)
  have r6 := sd _ _ r51
  have hrows6 : RowsAt H6 bs (rowsTo n (few + turn)) := hrows.keep fun b xs e => sd _ _ e
  have nrp : r ≠ p := fun e => by
    obtain ⟨g, m', s', e2, _⟩ := St5
    rw [← e, r51] at e2
    have e3 := HO.lst.inj (Option.some.inj e2)
    cases bs with
    | nil => cases e3
    | cons a t => cases e3
  have ndr : r ≠ dl := fun e => by rw [e, hdl] at r51; cases r51
  clear sd hrows r51 St5 F5 k7
  generalize hW : (few + turn) ^ n = W at *
  have hlen : ∀ l : List Nat, (l.flatMap fun c => (rowsTo n (few + turn)).map fun r => (c, r)).length = l.length * W := by
    intro l
    induction l with
    | nil => simp
    | cons a t ih => rw [List.flatMap_cons, List.length_append, List.length_map, ih, List.length_cons, Nat.succ_mul, Nat.add_comm, rowsTo_len, hW]
  have hLl : L.cps.toList.length = L.length := Array.length_toList
  refine ⟨_, rfl, L, rfl, for_it (walk_str (z := L)) (fun i σ H' => ∃ (xs : List NRow) (y9 y10 y11 : Option V), σ = [some (.ref p), some (.bl b), some (.ref lA), some (nI n), some (nI few), some (nI turn), some (.str L), some (.ref r), some (.ref dl), y9, y10, y11, none, none] ∧ H' dl = some (DictN P w dl xs) ∧ RowsN H' xs ∧ RowsB n xs ((L.cps.toList.take i).flatMap fun c => (rowsTo n (few + turn)).map fun r => (c, r)) ∧ Sto H' p (m + 41 + i + i * W) ∧ ∀ b o, b ≠ p → b ≠ dl → H6 b = some o → H' b = some o) ⟨[], _, _, _, rfl, by rw [← hH6] at kd0; exact kd0, (fun x h => by cases h), .nil, by rw [← hH6] at St6; exact St6.mono (by omega), fun b o _ _ e => by rw [← hH6] at e; exact e⟩ (fun _ _ _ _ _ => trivial) ?_ ?_⟩
  · rintro i x σ H7 H7' hi ⟨xs, y9, y10, y11, rfl, g1, g2, g3, g4, g5⟩ ⟨rfl, c, hc, rfl⟩
    have hc2 : L.cps.toList[i]? = some c := by rw [Array.getElem?_toList]; exact hc
    have hi2 : i < L.length := hi
    have hiW : i * W + W ≤ 600 := by
      have := Nat.mul_le_mul_right W (show i + 1 ≤ L.length by omega)
      rw [Nat.succ_mul] at this
      omega
    refine ⟨_, rfl, p, 3, _, rfl, g4, by omega, by decide, by decide, fun kd H8 kk0 kk1 c8 St8 => ?_⟩
    have nt7 : ∀ (q : Addr) (ys : List V), H7' q = some (.tup ys) → q ≠ p := fun q ys e z => by
      obtain ⟨_, _, _, e2, _⟩ := g4
      rw [z, e2] at e
      cases e
    have g1' : H8 dl = some (DictN P w dl xs) := by rw [c8 dl ndl]; exact g1
    have g2' : RowsN H8 xs := g2.keep fun b ys e => by rw [c8 b (nt7 _ _ e)]; exact e
    have g5' : ∀ b o, b ≠ p → b ≠ dl → H6 b = some o → H8 b = some o := fun b o n1 n2 e => by rw [c8 b n1]; exact g5 b o n1 n2 e
    refine ⟨_, rfl, r, rfl, ⟨_, SqL.of (g5' _ _ nrp ndr r6)⟩, for_list (xs := bs.map V.ref) (fun j σ H' => ∃ (xs : List NRow) (y11 : Option V), σ = [some (.ref p), some (.bl b), some (.ref lA), some (nI n), some (nI few), some (nI turn), some (.str L), some (.ref r), some (.ref dl), some (.str (ch c)), some (.int kd), y11, none, none] ∧ H' dl = some (DictN P w dl xs) ∧ RowsN H' xs ∧ RowsB n xs (((L.cps.toList.take i).flatMap fun c => (rowsTo n (few + turn)).map fun r => (c, r)) ++ ((rowsTo n (few + turn)).take j).map fun r => (c, r)) ∧ Sto H' p (m + 41 + i + i * W + 1 + j) ∧ ∀ b o, b ≠ p → b ≠ dl → H6 b = some o → H' b = some o) ⟨xs, _, rfl, g1', g2', by simpa using g3, St8, g5'⟩ (fun j σ H' _ ⟨_, _, _, _, _, _, _, g⟩ => SqL.of (g _ _ nrp ndr r6)) ?_ ?_⟩
    · clear g1 g2 g3 g4 g5 g1' g2' g5' St8 c8 nt7 xs
      rintro j x σ H9 hx ⟨xs, y11, rfl, g1, g2, g3, g4, g5⟩
      rw [List.getElem?_map] at hx
      cases haj : bs[j]? with
      | none => rw [haj] at hx; cases hx
      | some ab =>
      rw [haj] at hx
      cases hx
      obtain ⟨row, hrow, kaj⟩ := prd_at hrows6 haj
      have hj := (List.getElem?_eq_some_iff.mp haj).1
      have nap : ab ≠ p := fun e => by
        obtain ⟨_, _, _, e2, _⟩ := St6
        rw [← e, kaj] at e2
        cases e2
      have nad : ab ≠ dl := fun e => by rw [e, kd0] at kaj; unfold DictN at kaj; cases kaj
      have kaj9 := g5 _ _ nap nad kaj
      have nt9 : ∀ (q : Addr) (ys : List V), H9 q = some (.tup ys) → q ≠ p := fun q ys e z => by
        obtain ⟨_, _, _, e2, _⟩ := g4
        rw [z, e2] at e
        cases e
      refine ⟨_, rfl, _, rfl, p, n, _, rfl, g4, by omega, by omega, by omega, fun x H10 x0 x1 c10 St10 => ?_⟩
      have k10 : H10 ab = some (.tup (row.map nI)) := by rw [c10 ab nap]; exact kaj9
      have kI : row.map nI = (row.map fun x : Nat => (x : Int)).map V.int := nI_map row
      have kT : SqT K H10 ab ((row.map fun x : Nat => (x : Int)).map V.int) := by rw [← kI]; exact SqT.of k10
      have sum0 : 0 ≤ (row.map fun x : Nat => (x : Int)).sum := by
        clear kT kI k10 hrow kaj kaj9
        induction row with
        | nil => simp
        | cons a t ih => rw [List.map_cons, List.sum_cons]; omega
      have hd1 : H10 dl = some (DictN P w dl xs) := by rw [c10 dl ndl]; exact g1
      have rn1 : RowsN H10 xs := g2.keep fun b ys e => by rw [c10 b (nt9 _ _ e)]; exact e
      have g51 : ∀ b o, b ≠ p → b ≠ dl → H6 b = some o → H10 b = some o := fun b o n1 n2 e => by rw [c10 b n1]; exact g5 b o n1 n2 e
      obtain ⟨v, hvn, hat⟩ : ∃ v : Nat, v < n ∧ atI [V.int x, V.int ((row.map fun x : Nat => (x : Int)).sum % (n : Int)), V.int (if (row.map fun x : Nat => (x : Int)).sum < (n : Int) - 1 then (row.map fun x : Nat => (x : Int)).sum else (n : Int) - 1)] kd = some (nI v) := by
        generalize (row.map fun x : Nat => (x : Int)).sum = sm at *
        have m0 : 0 ≤ sm % (n : Int) := Int.emod_nonneg _ (by omega)
        have m1 : sm % (n : Int) < (n : Int) := Int.emod_lt_of_pos _ (by omega)
        have pick : ∀ y : Int, 0 ≤ y → y < (n : Int) → ∃ v : Nat, v < n ∧ y = (v : Int) := fun y h1 h2 => ⟨y.toNat, by omega, by omega⟩
        rcases (by omega : kd = 0 ∨ kd = 1 ∨ kd = 2) with rfl | rfl | rfl
        · obtain ⟨v, h1, h2⟩ := pick x x0 x1
          exact ⟨v, h1, by rw [h2]; exact atI_nat (j := 0) rfl⟩
        · obtain ⟨v, h1, h2⟩ := pick _ m0 m1
          exact ⟨v, h1, by rw [h2]; exact atI_nat (j := 1) rfl⟩
        · obtain ⟨v, h1, h2⟩ := pick (if sm < (n : Int) - 1 then sm else (n : Int) - 1) (by split <;> omega) (by split <;> omega)
          exact ⟨v, h1, by rw [h2]; exact atI_nat (j := 2) rfl⟩
      refine ⟨_, rfl, ab, _, rfl, kT, _, rfl, _, _, rfl, rfl, by omega, _, rfl, _, _, rfl, rfl, _, rfl, ab, _, rfl, kT, _, _, rfl, (by show 3 ≤ sizeLine; decide), fun l hl => ?_⟩
      refine ⟨_, rfl, l, _, kd, nI v, rfl, rfl, SqL.of upd_same, hat, ?_⟩
      have sl := same_new hl (o := .lst [V.int x, V.int ((row.map fun x : Nat => (x : Int)).sum % (n : Int)), V.int (if (row.map fun x : Nat => (x : Int)).sum < (n : Int) - 1 then (row.map fun x : Nat => (x : Int)).sum else (n : Int) - 1)])
      have St11 := St10.keep sl
      have hd2 := sl _ _ hd1
      have rn2 : RowsN _ xs := rn1.keep fun b ys e => sl b _ e
      have k11 := sl _ _ k10
      have g52 : ∀ b o, b ≠ p → b ≠ dl → H6 b = some o → upd H10 l (.lst [V.int x, V.int ((row.map fun x : Nat => (x : Int)).sum % (n : Int)), V.int (if (row.map fun x : Nat => (x : Int)).sum < (n : Int) - 1 then (row.map fun x : Nat => (x : Int)).sum else (n : Int) - 1)]) b = some o := fun b o n1 n2 e => sl _ _ (g51 b o n1 n2 e)
      generalize upd H10 l (.lst [V.int x, V.int ((row.map fun x : Nat => (x : Int)).sum % (n : Int)), V.int (if (row.map fun x : Nat => (x : Int)).sum < (n : Int) - 1 then (row.map fun x : Nat => (x : Int)).sum else (n : Int) - 1)]) = H11 at *
      clear hat sum0 kT kI hd1 rn1 k10 g51 St10 sl hl
      refine ⟨_, rfl, _, rfl, _, rfl, (by show 2 ≤ sizeLine; decide), fun b2 hb2 => ?_⟩
      have s2 := same_new (o := .tup [.str (ch c), V.ref ab]) hb2
      have kb2 := upd_same (H := H11) (a := b2) (o := .tup [.str (ch c), V.ref ab])
      have St12 := St11.keep s2
      have hd3 := s2 _ _ hd2
      have rn3 : RowsN _ xs := rn2.keep fun b ys e => s2 b _ e
      have k12 := s2 _ _ k11
      have g53 : ∀ b o, b ≠ p → b ≠ dl → H6 b = some o → upd H11 b2 (.tup [.str (ch c), V.ref ab]) b = some o := fun b o n1 n2 e => s2 _ _ (g52 b o n1 n2 e)
      generalize upd H11 b2 (.tup [.str (ch c), V.ref ab]) = H12 at *
      have lx := keys_len g3
      rw [List.length_append, hlen, List.length_map, List.length_take, List.length_take, rowsTo_len, hW, hLl] at lx
      have jW : min j W ≤ 600 := Nat.le_trans (Nat.min_le_right _ _) (by omega)
      have iW : min i L.length * W ≤ 600 := Nat.le_trans (Nat.mul_le_mul_right W (Nat.min_le_right _ _)) h600
      have fresh : ∀ x ∈ xs, x.1 ≠ keyN c row := fun x hx e => by
        obtain ⟨key, hm, e1, _⟩ := prd_mem g3 hx
        rw [e1] at e
        obtain ⟨e2, e3⟩ := keyN_inj e
        rcases List.mem_append.mp hm with hm | hm
        · simp only [List.mem_flatMap, List.mem_map] at hm
          obtain ⟨c0, hc0, r0, _, rfl⟩ := hm
          exact ahead_ne (hri.imp fun h => Nat.ne_of_lt h) hc2 c0 hc0 e2
        · simp only [List.mem_map] at hm
          obtain ⟨r0, hr0, rfl⟩ := hm
          exact ahead_ne (rowsTo_nd (few + turn) n) hrow r0 hr0 e3
      have tk := fun b ys e => upd_tupN (o := DictN P w dl (storedN xs (keyN c row) b2 (nI v))) hd3 b ys e
      refine ⟨dl, b2, xs, keyN c row, rfl, rfl, hd3, rn3, nk_key kb2 k12, keyN_depth c row, Nat.lt_of_le_of_lt (show _ ≤ 1000000 by omega) (by decide), ?_⟩
      show ∃ (zs1 : List NRow) (y11 : Option V), _ ∧ (upd H12 dl (DictN P w dl (storedN xs (keyN c row) b2 (nI v)))) dl = some (DictN P w dl zs1) ∧ _
      rw [storedN_new fresh] at tk ⊢
      refine ⟨_, _, rfl, upd_same, ?_, ?_, ?_, fun b o n1 n2 e => by rw [upd_ne n2]; exact g53 b o n1 n2 e⟩
      · intro x hx
        rcases List.mem_append.mp hx with hx | hx
        · exact (rn3.keep tk) x hx
        · rw [List.mem_singleton.mp hx]
          exact ⟨nk_key (tk _ _ kb2) (tk _ _ k12), keyN_depth c row⟩
      · rw [take_succ_of hrow, List.map_append, ← List.append_assoc]
        exact prd_app g3 (.cons ⟨rfl, v, hvn, rfl⟩ .nil)
      · obtain ⟨g, x', s', a1, a2, a3, a4, a5⟩ := St12
        exact ⟨g, x', s', by rw [upd_ne ndl.symm]; exact a1, a2, a3, a4, by omega⟩
    · rintro σ H9 ⟨xs, y11, rfl, g1, g2, g3, g4, g5⟩
      rw [List.length_map, la, ← hW, ← rowsTo_len (few + turn) n, List.take_length] at g3
      refine ⟨xs, _, _, _, rfl, g1, g2, ?_, ?_, g5⟩
      · rw [flat_take _ hc2]
        exact g3
      · rw [List.length_map, la] at g4
        refine g4.mono ?_
        rw [Nat.succ_mul]
        omega
  rintro σ H7 ⟨xs, y9, y10, y11, rfl, g1, g2, g3, g4, g5⟩
  have whole : L.cps.toList.take L.cps.size = L.cps.toList := by rw [← Array.length_toList, List.take_length]
  rw [whole] at g3
  have g3 : RowsB n xs (keysOf L n (few + turn)) := g3
  have knd := keysOf_nd hri n (few + turn)
  obtain ⟨fs, rj, flt⟩ := rows_fun g3 knd
  have F7 : Fr p H H7 := fun b o nb e => g5 b o nb (fun z => by rw [z, hdl0] at e; cases e) (F6 b o nb e)
  have iW : L.cps.size * W ≤ 600 := h600
  have i26 : L.cps.size ≤ 26 := l26
  have St7 : Sto H7 p (m + 41 + 26 + 600) := g4.mono (by omega)
  clear g3 g4 g5 iW F6 kd0 r6 hrows6
  refine ⟨_, rfl, n, rfl, by omega, by omega, fun D3 hD3 => ?_⟩
  have nD3 : D3 ≠ p := St7.ne hD3
  have hD30 : H D3 = none := F7.free St7.some hD3
  refine lc_range (lo := 0) (n := n) (fun i H' => ∃ gs : List Nat, H' D3 = some (.lst (gs.map nI)) ∧ gs.Pairwise (· < ·) ∧ (∀ g ∈ gs, g < i) ∧ gs.length ≤ i ∧ Fr p H7 H' ∧ Sto H' p (m + 41 + 26 + 600 + i)) ⟨[], upd_same, .nil, (fun _ h => by cases h), Nat.le_refl _, Fr.same (same_new hD3), (St7.new hD3).mono (by omega)⟩ ?_ ?_
  · rintro i H22 hi ⟨gs, k1, k2, k3, k4, k5, k6⟩
    refine ⟨rfl, _, rfl, p, 2, _, rfl, k6, by omega, by decide, by decide, fun y H23 y0 y1 c23 p23 => ⟨rfl, _, rfl, ite2 (fun hh => ?_) (fun hh => ?_)⟩⟩
    · have e0 : V.int (0 + (i : Int)) = nI i := by rw [Int.zero_add]
      refine ⟨_, rfl, _, by rw [c23 D3 nD3]; exact k1, ?_, gs ++ [i], ?_, ?_, ?_, by rw [List.length_append]; simp; omega, (k5.trans (Fr.of_chg c23)).new hD3, ?_⟩
      · rw [List.length_map]
        exact Nat.lt_of_le_of_lt (show _ ≤ 1000000 by omega) (by decide)
      · rw [upd_same, e0, List.map_append]
        rfl
      · rw [List.pairwise_append]
        refine ⟨k2, List.pairwise_singleton _ _, fun a ha b hb => ?_⟩
        rw [List.mem_singleton.mp hb]
        exact k3 a ha
      · intro g hg
        rcases List.mem_append.mp hg with hg | hg
        · have := k3 g hg; omega
        · rw [List.mem_singleton.mp hg]; omega
      · obtain ⟨g, x', s', a1, a2, a3, a4, a5⟩ := p23
        exact ⟨g, x', s', by rw [upd_ne nD3.symm]; exact a1, a2, a3, a4, by omega⟩
    · exact ⟨gs, by rw [c23 D3 nD3]; exact k1, k2, (fun g hg => by have := k3 g hg; omega), by omega, k5.trans (Fr.of_chg c23), p23.mono (by omega)⟩
  rintro H8 ⟨gs, k1, k2, k3, k4, k5, k6⟩
  have hd8 := k5 _ _ ndl g1
  have rn8 : RowsN H8 xs := g2.keep fun b ys e => k5 b _ (fun z => by
    obtain ⟨_, _, _, e2, _⟩ := St7
    rw [z, e2] at e
    cases e) e
  refine ⟨_, rfl, _, rfl, _, rfl, _, rfl, _, rfl, _, rfl, (by show 6 ≤ sizeLine; decide), fun j hj => ?_⟩
  have sj := same_new hj (o := .tup [.str L, nI n, nI few, nI turn, .ref dl, .ref D3])
  have hok : (JD.mk L n few turn fs gs).ok := ⟨hL, o1, o2, o3, o4, o5, by show L.length * (few + turn) ^ n ≤ 600; rw [hW]; exact h600, fun key hk => flt key hk, by show gs.length ≤ 6; omega, fun g hg => k3 g hg⟩
  exact q _ ⟨L, n, few, turn, fs, gs⟩ _ ((F7.trans k5).trans (Fr.same sj)) ((k6.keep sj).mono (by omega)) hok hri k2 ⟨j, dl, D3, xs, rfl, upd_same, sj _ _ hd8, rn8.keep fun b ys e => sj _ _ e, rj, sj _ _ k1, nD3, hD30⟩
end


theorem digit {v : Nat} (h : v < 7) : V.str (toString ((v : Nat) : Int)) = V.str (ch (48 + v)) := by
  rcases (by omega : v = 0 ∨ v = 1 ∨ v = 2 ∨ v = 3 ∨ v = 4 ∨ v = 5 ∨ v = 6) with rfl | rfl | rfl | rfl | rfl | rfl | rfl <;> rfl
theorem dig_len {v : Nat} (h : v < 7) : (toString ((v : Nat) : Int) : Str).length = 1 := by
  have := V.str.inj (digit h)
  rw [this]
  rfl
theorem dig_lens : ∀ gs : List Nat, (∀ g ∈ gs, g < 7) → ((gs.map fun s => (toString ((s : Nat) : Int) : Str)).map (·.length)).sum = gs.length
  | [], _ => rfl
  | a :: t, h => by
    rw [List.map_cons, List.map_cons, List.sum_cons, dig_lens t fun g hg => h g (List.mem_cons_of_mem _ hg), dig_len (h a List.mem_cons_self), List.length_cons]
    omega
theorem foldl_len (g : Str) : ∀ (ps : List Str) (a : Array Nat), (ps.foldl (fun acc p => acc ++ g.cps ++ p.cps) a).size = a.size + ps.length * g.cps.size + (ps.map fun s : Str => s.length).sum
  | [], a => by simp
  | p :: r, a => by
    rw [List.foldl_cons, foldl_len g r, Array.size_append, Array.size_append, List.length_cons, List.map_cons, List.sum_cons, Nat.succ_mul]
    show a.size + g.cps.size + p.cps.size + r.length * g.cps.size + (r.map fun s : Str => s.length).sum = a.size + (r.length * g.cps.size + g.cps.size) + (p.cps.size + (r.map fun s : Str => s.length).sum)
    omega
theorem join_len (g : Str) : ∀ ps : List Str, (Txt.join g ps).length ≤ ps.length * g.cps.size + (ps.map fun s : Str => s.length).sum
  | [] => Nat.zero_le _
  | p :: r => by
    show ((r.foldl (fun acc p => acc ++ g.cps ++ p.cps) p.cps)).size ≤ _
    rw [foldl_len, List.length_cons, List.map_cons, List.sum_cons, Nat.succ_mul]
    show p.cps.size + r.length * g.cps.size + (r.map fun s : Str => s.length).sum ≤ r.length * g.cps.size + g.cps.size + (p.cps.size + (r.map fun s : Str => s.length).sum)
    omega
theorem log2_small {v : Nat} (h : v < 7) : ((v : Nat) : Int).natAbs.log2 < 1920 := by
  rcases (by omega : v = 0 ∨ v = 1 ∨ v = 2 ∨ v = 3 ∨ v = 4 ∨ v = 5 ∨ v = 6) with rfl | rfl | rfl | rfl | rfl | rfl | rfl <;> decide
def figC (J : JD) (cs : List Nat) : List Nat := cs.flatMap fun c => (rowsTo J.n (J.few + J.turn)).map fun r => 48 + J.fs c r
def gtx (gs : List Nat) : Str := if gs = [] then Str.ofString "-" else Txt.join (Str.ofString ",") (gs.map fun g => (toString ((g : Nat) : Int)))
def shownJ (J : JD) : Str := Txt.join (Str.ofString " ") [J.L, toString ((J.n : Nat) : Int), toString ((J.few : Nat) : Int), toString ((J.turn : Nat) : Int), gtx J.good, ⟨(figC J J.L.cps.toList).toArray⟩]
def sp__law_shown (P : Program) (w : World) : Sp := fun vs H Q _ => ∃ (v : V) (J : JD), vs = [v] ∧ JAt P w H v J ∧ J.ok ∧ ∀ H', Same H H' → Q (.str (shownJ J)) H'
section
variable {P : Program} {w : World} {K : PySem.W.Frag} {mg : Str → Option Value} {base : Heap}
theorem ok__law_shown (T : Txt K mg) : FnOk P w K mg base CX0 2 T.f__law_shown T.d__law_shown ["judge"] (sp__law_shown P w) := by
  have G__law_classes : FnOk P w K mg base CX0 1 T.f__law_classes T.d__law_classes ["many", "states"] sp__law_classes := ok__law_classes T
  refine T.F__law_shown.ok sc__law_shown (fun vs H Q E h => ?_) (fun cdv A outer s H vs Q E hr h => ?_)
  · obtain ⟨v, J, rfl, _⟩ := h
    rfl
  obtain ⟨v, J, rfl, hJ, hok, q⟩ := h
  refine ⟨_, (pss_cons (ps_asg (pv 0) (pg_tup rfl (pgs_cons (pg_name (i := 1) sc__law_shown.nd rfl (Or.inl rfl)) (pgs_cons (pg_name (i := 2) sc__law_shown.nd rfl (Or.inl rfl)) (pgs_cons (pg_name (i := 3) sc__law_shown.nd rfl (Or.inl rfl)) (pgs_cons (pg_name (i := 4) sc__law_shown.nd rfl (Or.inl rfl)) (pgs_cons (pg_name (i := 5) sc__law_shown.nd rfl (Or.inr rfl)) (pgs_cons (pg_name (i := 6) sc__law_shown.nd rfl (Or.inl rfl)) pgs_nil)))))))) (pss_cons (ps_set (i := 7) sc__law_shown.nd rfl (Or.inl rfl) pe_str) (pss_cons (ps_for PassesOwn.never rfl (pi_str (pv 1)) (pg_name (i := 8) sc__law_shown.nd rfl (Or.inr rfl)) (pss_one (ps_set (i := 7) sc__law_shown.nd rfl (Or.inl rfl) (pe_op op_add_str (pv 7) (pe_join pe_str (pe_lc (own := [("row", 10)]) (g := gName 10) (te := tCB (fun xs H Q => ∃ i, xs = [V.int i] ∧ i.natAbs.log2 < 1920 ∧ Q (.str (toString i)) H) (tCons (tDGetN P w (tVar 5) (tTup (tCons (tVar 8) (tCons (tVar 10) tNil)))) tNil)) (tt := tYes) rfl sc__law_shown.nd (pi_list (pe_call G__law_classes (hr.mono (by omega)) (by rfl) T.m__law_classes T.F__law_classes.kp T.b__law_classes .nil pass0 (pa_cons (pe_op op_add (pv 3) (pv 4)) (pa_cons (pv 2) pa_nil)))) (blkOk_by (own := [("row", 10)]) (N := ["judge", "letters", "states", "few", "turn", "table", "good", "told", "letter", "some", "row", "state"]) (sc := (defScope s__law_shown)) (by decide +kernel)) (fun _ _ _ _ _ => (pg_name (i := 10) sc__law_shown.nd rfl (Or.inl rfl))) (fun _ _ _ _ _ => pts_nil) (fun _ _ _ _ _ => (pe_callTy call_str_int (by rfl) T.z_str (by decide +kernel) (pa_cons (pe_dgetN (roomN hr) (pv 5) (pe_tup (pa_cons (pv 8) (pa_cons (pv 10) pa_nil))) (fun _ _ => rfl)) pa_nil))))))))) (pss_cons (ps_set (i := 9) sc__law_shown.nd rfl (Or.inl rfl) (pe_ix ix_list (pe_lst (pa_cons (pe_lst (pa_cons pe_str pa_nil)) (pa_cons (pe_lst (pa_cons (pe_join pe_str (pe_lc (own := [("state", 11)]) (g := gName 11) (te := tCB (fun xs H Q => ∃ i, xs = [V.int i] ∧ i.natAbs.log2 < 1920 ∧ Q (.str (toString i)) H) (tCons (tVar 11) tNil)) (tt := tYes) rfl sc__law_shown.nd (pi_list (pv 6)) (blkOk_by (own := [("state", 11)]) (N := ["judge", "letters", "states", "few", "turn", "table", "good", "told", "letter", "some", "row", "state"]) (sc := (defScope s__law_shown)) (by decide +kernel)) (fun _ _ _ _ _ => (pg_name (i := 11) sc__law_shown.nd rfl (Or.inl rfl))) (fun _ _ _ _ _ => pts_nil) (fun _ _ _ _ _ => (pe_callTy call_str_int (by rfl) T.z_str (by decide +kernel) (pa_cons (pv 11) pa_nil))))) pa_nil)) pa_nil))) (pe_callTy call_int1 (by rfl) T.z_int (by decide +kernel) (pa_cons (pe_cmpR (op_neD hr.units) (pv 6) (pe_lst pa_nil) (nomark _)) pa_nil)) (fun _ _ => rfl))) (pss_one (ps_ret (pe_join pe_str (pe_lst (pa_cons (pv 1) (pa_cons (pe_callTy call_str_int (by rfl) T.z_str (by decide +kernel) (pa_cons (pv 2) pa_nil)) (pa_cons (pe_callTy call_str_int (by rfl) T.z_str (by decide +kernel) (pa_cons (pv 3) pa_nil)) (pa_cons (pe_callTy call_str_int (by rfl) T.z_str (by decide +kernel) (pa_cons (pv 4) pa_nil)) (pa_cons (pe_ix ix_list (pv 9) pe_int (fun _ _ => rfl)) (pa_cons (pv 7) pa_nil)))))))))))))), ?_⟩
  obtain ⟨j, d, g, xs, keys, rfl, hj, hd, hrn, hrj, hper, hg⟩ := hJ
  have n6 := hok.n6
  have t1 := hok.t1
  have t4 := hok.t4
  have f4 := hok.f4
  have l1 := hok.L.1
  have pow : (J.few + J.turn) ^ J.n ≤ 600 := Nat.le_trans (Nat.le_mul_of_pos_left _ l1) hok.h600
  refine ⟨_, rfl, j, _, rfl, SqT.of hj, rfl, _, _, rfl, _, _, rfl, _, _, rfl, _, _, rfl, _, _, rfl, _, _, rfl, rfl, ?_⟩
  refine ⟨_, rfl, J.L, rfl, for_it (walk_str (z := J.L)) (fun i σ H' => ∃ (y8 : Option V), σ = [some (.ref j), some (.str J.L), some (nI J.n), some (nI J.few), some (nI J.turn), some (.ref d), some (.ref g), some (.str ⟨(figC J (J.L.cps.toList.take i)).toArray⟩), y8, none, none, none] ∧ Same H H') ⟨_, rfl, Same.refl H⟩ (fun _ _ _ _ _ => trivial) ?_ ?_⟩
  · rintro i x σ H1 H1' hi ⟨y8, rfl, s1⟩ ⟨rfl, c, hc, rfl⟩
    have hc2 : J.L.cps.toList[i]? = some c := by rw [Array.getElem?_toList]; exact hc
    have hcm := List.mem_of_getElem? hc2
    refine ⟨_, rfl, ⟨_, rfl⟩, _, rfl, _, rfl, _, _, rfl, rfl, _, rfl, J.n, J.few + J.turn, rfl, n6, by omega, by omega, pow, fun r as H2 s2 r0 r1 hrows => ⟨r, rfl, ⟨_, SqL.of r1⟩, fun D hD => ?_⟩⟩
    have la : as.length = (rowsTo J.n (J.few + J.turn)).length := Paired.length hrows
    refine lc_list (xs := as.map V.ref) (fun i H' => H' D = some (.lst (((rowsTo J.n (J.few + J.turn)).take i).map fun row => V.str (ch (48 + J.fs c row)))) ∧ Same H2 H') ⟨upd_same, same_new hD⟩ (fun i H' _ ⟨_, s⟩ => SqL.of (s _ _ r1)) ?_ ?_
    · rintro i x H3 hx ⟨g1, g2⟩
      rw [List.getElem?_map] at hx
      cases haj : as[i]? with
      | none => rw [haj] at hx; cases hx
      | some ab =>
      rw [haj] at hx
      cases hx
      obtain ⟨row, hrow, kaj⟩ := prd_at hrows haj
      have hkey : (c, row) ∈ J.keys := List.mem_flatMap.mpr ⟨c, hcm, List.mem_map.mpr ⟨row, List.mem_of_getElem? hrow, rfl⟩⟩
      have hlt : J.fs c row < J.n := hok.lt _ hkey
      have S3 := (s1.trans s2).trans g2
      have kd := S3 _ _ hd
      have rn := hrn.keep fun b ys e => S3 b _ e
      refine ⟨rfl, _, rfl, _, rfl, _, rfl, (by show 2 ≤ sizeLine; decide), fun b hb => ?_⟩
      have sb := same_new hb (o := .tup [.str ⟨#[c]⟩, V.ref ab])
      have kb := upd_same (H := H3) (a := b) (o := .tup [.str ⟨#[c]⟩, V.ref ab])
      refine ⟨d, b, xs, keyN c row, nI (J.fs c row), rfl, rfl, sb _ _ kd, rn.keep fun b ys e => sb b _ e, nk_key (c := c) kb (sb _ _ (g2 _ _ kaj)), keyN_depth _ _, atN_rows hrj (hper.mem_iff.mpr hkey), (J.fs c row : Int), rfl, ?_, _, sb _ _ g1, ?_, ?_, same_add (g2.trans sb) hD⟩
      · exact log2_small (by omega)
      · have : (rowsTo J.n (J.few + J.turn)).length ≤ 600 := by rw [rowsTo_len]; exact pow
        rw [List.length_map, List.length_take]
        exact Nat.lt_of_le_of_lt (show _ ≤ 1000000 by omega) (by decide)
      · rw [upd_same, take_succ_of hrow, List.map_append, digit (by omega)]
        rfl
    rintro H3 ⟨g1, g2⟩
    rw [List.length_map, la, List.take_length] at g1
    have lr : (rowsTo J.n (J.few + J.turn)).length ≤ 600 := by rw [rowsTo_len]; exact pow
    have lens : ∀ l : List Nat, ((l.map ch).map fun s : Str => s.length).sum = l.length := by
      intro l
      induction l with
      | nil => rfl
      | cons a t ih =>
        rw [List.map_cons, List.map_cons, List.sum_cons, ih]
        show 1 + t.length = t.length + 1
        omega
    refine ⟨Str.ofString "", D, ((rowsTo J.n (J.few + J.turn)).map fun row => 48 + J.fs c row).map ch, rfl, rfl, .inl (SqL.of (by rw [List.map_map, List.map_map]; exact g1)), ?_, ?_⟩
    · rw [lens, List.length_map, List.length_map]
      show (rowsTo J.n (J.few + J.turn)).length + (rowsTo J.n (J.few + J.turn)).length * 0 ≤ _
      omega
    rw [join_chs]
    have fl : ∀ l : List Nat, (figC J l).length = l.length * (rowsTo J.n (J.few + J.turn)).length := by
      intro l
      induction l with
      | nil => simp [figC]
      | cons a t ih =>
        unfold figC at ih ⊢
        rw [List.flatMap_cons, List.length_append, List.length_map, ih, List.length_cons, Nat.succ_mul, Nat.add_comm]
    refine ⟨_, _, rfl, rfl, ?_, ⟨some (V.str ⟨#[c]⟩), ?_, (s1.trans s2).trans g2⟩⟩
    · show (figC J (J.L.cps.toList.take i)).toArray.size + (((rowsTo J.n (J.few + J.turn)).map fun row => 48 + J.fs c row).toArray).size ≤ sizeLine
      rw [List.size_toArray, List.size_toArray, fl, List.length_map, List.length_take]
      have l26 : J.L.cps.toList.length ≤ 26 := by rw [Array.length_toList]; exact hok.L.2.1
      have := Nat.mul_le_mul (show min i J.L.cps.toList.length ≤ 26 by omega) lr
      exact Nat.le_trans (show _ ≤ 1000000 by omega) (by decide)
    · have e : figC J (J.L.cps.toList.take (i + 1)) = figC J (J.L.cps.toList.take i) ++ (rowsTo J.n (J.few + J.turn)).map fun row => 48 + J.fs c row := by
        rw [take_succ_of hc2]
        unfold figC
        rw [List.flatMap_append]
        simp
      rw [e]
      have e2 : (⟨(figC J (J.L.cps.toList.take i)).toArray⟩ : Str) ++ ⟨((rowsTo J.n (J.few + J.turn)).map fun row => 48 + J.fs c row).toArray⟩ = ⟨(figC J (J.L.cps.toList.take i) ++ (rowsTo J.n (J.few + J.turn)).map fun row => 48 + J.fs c row).toArray⟩ := by
        show Str.mk (_ ++ _) = _
        simp
      rw [← e2]
      rfl
  rintro σ H1 ⟨y8, rfl, s1⟩
  have whole : J.L.cps.toList.take J.L.cps.size = J.L.cps.toList := by rw [← Array.length_toList, List.take_length]
  rw [whole]
  have kg := s1 _ _ hg
  have gn := hok.gn
  have g6 := hok.g6
  refine ⟨(by show 1 ≤ sizeLine; decide), fun l0 hl0 => ?_⟩
  have s2 := same_new hl0 (o := .lst [V.str (Str.ofString "-")])
  have k0 := upd_same (H := H1) (a := l0) (o := .lst [V.str (Str.ofString "-")])
  generalize upd H1 l0 (.lst [V.str (Str.ofString "-")]) = H2 at *
  refine ⟨⟨_, rfl⟩, _, rfl, g, rfl, ⟨_, SqL.of (s2 _ _ kg)⟩, fun D hD => ?_⟩
  refine lc_list (xs := J.good.map nI) (fun i H' => H' D = some (.lst ((J.good.take i).map fun s => V.str (toString ((s : Nat) : Int)))) ∧ Same H2 H') ⟨upd_same, same_new hD⟩ (fun i H' _ ⟨_, s⟩ => SqL.of (s _ _ (s2 _ _ kg))) ?_ ?_
  · rintro i x H3 hx ⟨g1, g2⟩
    rw [List.getElem?_map] at hx
    cases hb : J.good[i]? with
    | none => rw [hb] at hx; cases hx
    | some s0 =>
    rw [hb] at hx
    cases hx
    have hs0 := gn _ (List.mem_of_getElem? hb)
    refine ⟨rfl, _, rfl, (s0 : Int), rfl, log2_small (by omega), _, g1, ?_, ?_, same_add g2 hD⟩
    · rw [List.length_map, List.length_take]
      exact Nat.lt_of_le_of_lt (show _ ≤ 1000000 by omega) (by decide)
    · rw [upd_same, take_succ_of hb, List.map_append]
      rfl
  rintro H3 ⟨g1, g2⟩
  rw [List.length_map, List.take_length] at g1
  refine ⟨Str.ofString ",", D, J.good.map fun s => toString ((s : Nat) : Int), rfl, rfl, .inl (SqL.of (by rw [List.map_map]; exact g1)), ?_, (by show 1 ≤ sizeLine; decide), fun l1 hl1 => ?_⟩
  · rw [dig_lens J.good fun g hg => by have := gn g hg; omega, List.length_map]
    show J.good.length + J.good.length * 1 ≤ _
    omega
  have s3 := same_new hl1 (o := .lst [V.str (Txt.join (Str.ofString ",") (J.good.map fun s => toString ((s : Nat) : Int)))])
  have k1 := upd_same (H := H3) (a := l1) (o := .lst [V.str (Txt.join (Str.ofString ",") (J.good.map fun s => toString ((s : Nat) : Int)))])
  generalize upd H3 l1 (.lst [V.str (Txt.join (Str.ofString ",") (J.good.map fun s => toString ((s : Nat) : Int)))]) = H4 at *
  refine ⟨(by show 2 ≤ sizeLine; decide), fun l2 hl2 => ?_⟩
  have s4 := same_new hl2 (o := .lst [V.ref l0, V.ref l1])
  have k2 := upd_same (H := H4) (a := l2) (o := .lst [V.ref l0, V.ref l1])
  have k04 := s4 _ _ (s3 _ _ (g2 _ _ k0))
  have k14 := s4 _ _ k1
  have S4 : Same H _ := (((s1.trans s2).trans g2).trans s3).trans s4
  generalize upd H4 l2 (.lst [V.ref l0, V.ref l1]) = H5 at *
  refine ⟨_, rfl, (by show 0 ≤ sizeLine; decide), fun e he => ?_⟩
  have s5 := same_new he (o := .lst [])
  have kg5 := s5 _ _ (S4 _ _ hg)
  rw [nI_map] at kg5
  refine ⟨_, _, dp_intsL (SqL.of kg5), dp_nil upd_same, shaped_ints _, shaped_nil, .inr ⟨_, rfl, ?_⟩⟩
  have S5 := S4.trans s5
  have k25 := s5 _ _ k2
  have k05 := s5 _ _ k04
  have k15 := s5 _ _ k14
  generalize upd H5 e (.lst []) = H6 at *
  obtain ⟨ls, hat, kls⟩ : ∃ ls : Addr, atI [V.ref l0, V.ref l1] (if (!PyData.eqv (.list ((J.good.map fun n : Nat => (n : Int)).map PyData.int)) (.list [])) = true then 1 else 0) = some (V.ref ls) ∧ H6 ls = some (.lst [V.str (gtx J.good)]) := by
    unfold gtx
    cases hgd : J.good with
    | nil =>
      refine ⟨l0, ?_, by rw [if_pos rfl]; exact k05⟩
      have : PyData.eqv (.list (([] : List Nat).map (fun n : Nat => (n : Int)) |>.map PyData.int)) (.list []) = true := (eqv_nil _).trans (by simp)
      rw [this]
      exact atI_nat (j := 0) rfl
    | cons a t =>
      refine ⟨l1, ?_, by rw [if_neg (by simp), ← hgd]; exact k15⟩
      have : PyData.eqv (.list (((a :: t).map (fun n : Nat => (n : Int))).map PyData.int)) (.list []) = false := (eqv_nil _).trans (by simp)
      rw [this]
      exact atI_nat (j := 1) rfl
  refine ⟨l2, _, _, _, rfl, rfl, SqL.of k25, hat, ?_⟩
  have kj := S5 _ _ hj
  refine ⟨⟨_, rfl⟩, _, rfl, _, rfl, (J.n : Int), rfl, log2_small (by omega), _, rfl, (J.few : Int), rfl, log2_small (by omega), _, rfl, (J.turn : Int), rfl, log2_small (by omega), _, rfl, ls, _, 0, _, rfl, rfl, SqL.of kls, atI_nat (j := 0) rfl, _, rfl, (by show 6 ≤ sizeLine; decide), fun l3 hl3 => ?_⟩
  have s6 := same_new hl3 (o := .lst [V.str J.L, V.str (toString ((J.n : Nat) : Int)), V.str (toString ((J.few : Nat) : Int)), V.str (toString ((J.turn : Nat) : Int)), V.str (gtx J.good), V.str ⟨(figC J J.L.cps.toList).toArray⟩])
  refine ⟨Str.ofString " ", l3, [J.L, toString ((J.n : Nat) : Int), toString ((J.few : Nat) : Int), toString ((J.turn : Nat) : Int), gtx J.good, ⟨(figC J J.L.cps.toList).toArray⟩], rfl, rfl, .inl (SqL.of upd_same), ?_, q _ (S5.trans s6)⟩
  have z1 : (gtx J.good).length ≤ 100 := by
    unfold gtx
    split
    · decide
    · have := join_len (Str.ofString ",") (J.good.map fun s => (toString ((s : Nat) : Int) : Str))
      rw [dig_lens J.good fun g hg => by have := gn g hg; omega, List.length_map] at this
      have : (Txt.join (Str.ofString ",") (J.good.map fun s => (toString ((s : Nat) : Int) : Str))).length ≤ J.good.length * 1 + J.good.length := this
      omega
  have lr : (rowsTo J.n (J.few + J.turn)).length ≤ 600 := by rw [rowsTo_len]; exact pow
  have fl : ∀ l : List Nat, (figC J l).length = l.length * (rowsTo J.n (J.few + J.turn)).length := by
    intro l
    induction l with
    | nil => simp [figC]
    | cons a t ih =>
      unfold figC at ih ⊢
      rw [List.flatMap_cons, List.length_append, List.length_map, ih, List.length_cons, Nat.succ_mul, Nat.add_comm]
  have z2 : (⟨(figC J J.L.cps.toList).toArray⟩ : Str).length ≤ 26 * 600 := by
    show (figC J J.L.cps.toList).toArray.size ≤ _
    rw [List.size_toArray, fl]
    exact Nat.mul_le_mul (by rw [Array.length_toList]; exact hok.L.2.1) lr
  have z3 := hok.L.2.1
  have e1 : (toString ((J.n : Nat) : Int) : Str).length = 1 := dig_len (by omega)
  have e2 : (toString ((J.few : Nat) : Int) : Str).length = 1 := dig_len (by omega)
  have e3 : (toString ((J.turn : Nat) : Int) : Str).length = 1 := dig_len (by omega)
  simp only [List.map_cons, List.map_nil, List.sum_cons, List.sum_nil, List.length_cons, List.length_nil, e1, e2, e3]
  show _ + _ * 1 ≤ _
  omega
end


theorem figs_keys (J : JD) : figC J J.L.cps.toList = J.keys.map fun key => 48 + J.fs key.1 key.2 := by
  unfold figC JD.keys keysOf
  rw [List.map_flatMap]
  congr 1
  funext c
  rw [List.map_map]
  rfl
theorem app_len (a b : Str) : (a ++ b).length = a.length + b.length := by
  show (a.cps ++ b.cps).size = _
  rw [Array.size_append]
  rfl
theorem six_join (a b c d e f s : Str) : ((((((((((Str.empty ++ a) ++ s) ++ b) ++ s) ++ c) ++ s) ++ d) ++ s) ++ e) ++ s) ++ f = Txt.join s [a, b, c, d, e, f] := by
  show Str.mk (((((((((((#[] ++ a.cps) ++ s.cps) ++ b.cps) ++ s.cps) ++ c.cps) ++ s.cps) ++ d.cps) ++ s.cps) ++ e.cps) ++ s.cps) ++ f.cps) = Str.mk (((((a.cps ++ s.cps ++ b.cps) ++ s.cps ++ c.cps) ++ s.cps ++ d.cps) ++ s.cps ++ e.cps) ++ s.cps ++ f.cps)
  rw [Array.empty_append]
theorem gtx_len {J : JD} (hok : J.ok) : (gtx J.good).length ≤ 100 := by
  have gn := hok.gn
  have g6 := hok.g6
  have n6 := hok.n6
  unfold gtx
  split
  · decide
  · have := join_len (Str.ofString ",") (J.good.map fun s => (toString ((s : Nat) : Int) : Str))
    rw [dig_lens J.good fun g hg => by have := gn g hg; omega, List.length_map] at this
    have : (Txt.join (Str.ofString ",") (J.good.map fun s => (toString ((s : Nat) : Int) : Str))).length ≤ J.good.length * 1 + J.good.length := this
    omega
def sp_show_judge (P : Program) (w : World) : Sp := fun vs H Q _ => ∃ (v : V) (J : JD), vs = [v] ∧ JAt P w H v J ∧ J.ok ∧ ∀ H', Same H H' → Q (.str (shownJ J)) H'
section
variable {P : Program} {w : World} {K : PySem.W.Frag} {mg : Str → Option Value} {base : Heap}
theorem ok_show_judge (T : Txt K mg) : FnOk P w K mg base CX0 3 T.f_show_judge T.d_show_judge ["judge"] (sp_show_judge P w) := by
  have G_keys_due : FnOk P w K mg base CX0 2 T.f_keys_due T.d_keys_due ["letters", "states", "classes"] sp_keys_due := ok_keys_due T
  refine T.F_show_judge.ok sc_show_judge (fun vs H Q E h => ?_) (fun cdv A outer s H vs Q E hr h => ?_)
  · obtain ⟨v, J, rfl, _⟩ := h
    rfl
  obtain ⟨v, J, rfl, hJ, hok, q⟩ := h
  refine ⟨_, (pss_cons (ps_asg (pv 0) (pg_tup rfl (pgs_cons (pg_name (i := 1) sc_show_judge.nd rfl (Or.inl rfl)) (pgs_cons (pg_name (i := 2) sc_show_judge.nd rfl (Or.inl rfl)) (pgs_cons (pg_name (i := 3) sc_show_judge.nd rfl (Or.inl rfl)) (pgs_cons (pg_name (i := 4) sc_show_judge.nd rfl (Or.inl rfl)) (pgs_cons (pg_name (i := 5) sc_show_judge.nd rfl (Or.inr rfl)) (pgs_cons (pg_name (i := 6) sc_show_judge.nd rfl (Or.inl rfl)) pgs_nil)))))))) (pss_cons (ps_set (i := 7) sc_show_judge.nd rfl (Or.inl rfl) (pe_orT (pe_join pe_str (pe_lc (own := [("state", 9)]) (g := gName 9) (te := tCB (fun xs H Q => ∃ i, xs = [V.int i] ∧ i.natAbs.log2 < 1920 ∧ Q (.str (toString i)) H) (tCons (tVar 9) tNil)) (tt := tYes) rfl sc_show_judge.nd (pi_list (pv 6)) (blkOk_by (own := [("state", 9)]) (N := ["judge", "letters", "states", "few", "turn", "table", "good", "good_text", "figures", "state", "key"]) (sc := (defScope s_show_judge)) (by decide +kernel)) (fun _ _ _ _ _ => (pg_name (i := 9) sc_show_judge.nd rfl (Or.inl rfl))) (fun _ _ _ _ _ => pts_nil) (fun _ _ _ _ _ => (pe_callTy call_str_int (by rfl) T.z_str (by decide +kernel) (pa_cons (pv 9) pa_nil))))) (pe_one pe_str))) (pss_cons (ps_set (i := 8) sc_show_judge.nd rfl (Or.inl rfl) (pe_join pe_str (pe_lc (own := [("key", 10)]) (g := gName 10) (te := tCB (fun xs H Q => ∃ i, xs = [V.int i] ∧ i.natAbs.log2 < 1920 ∧ Q (.str (toString i)) H) (tCons (tDGetN P w (tVar 5) (tVar 10)) tNil)) (tt := tYes) rfl sc_show_judge.nd (pi_list (pe_call G_keys_due (hr.mono (by omega)) (by rfl) T.m_keys_due T.F_keys_due.kp T.b_keys_due .nil pass0 (pa_cons (pv 1) (pa_cons (pv 2) (pa_cons (pe_op op_add (pv 3) (pv 4)) pa_nil))))) (blkOk_by (own := [("key", 10)]) (N := ["judge", "letters", "states", "few", "turn", "table", "good", "good_text", "figures", "state", "key"]) (sc := (defScope s_show_judge)) (by decide +kernel)) (fun _ _ _ _ _ => (pg_name (i := 10) sc_show_judge.nd rfl (Or.inl rfl))) (fun _ _ _ _ _ => pts_nil) (fun _ _ _ _ _ => (pe_callTy call_str_int (by rfl) T.z_str (by decide +kernel) (pa_cons (pe_dgetN (roomN hr) (pv 5) (pv 10) (fun _ _ => rfl)) pa_nil)))))) (pss_one (ps_ret (pe_joined (.cons (pe_fmt (pv 1)) (.cons pe_str (.cons (pe_fmt (pv 2)) (.cons pe_str (.cons (pe_fmt (pv 3)) (.cons pe_str (.cons (pe_fmt (pv 4)) (.cons pe_str (.cons (pe_fmt (pv 7)) (.cons pe_str (.cons (pe_fmt (pv 8)) .nil))))))))))))))))), ?_⟩
  obtain ⟨j, d, g, xs, keys, rfl, hj, hd, hrn, hrj, hper, hg⟩ := hJ
  have n6 := hok.n6
  have t1 := hok.t1
  have t4 := hok.t4
  have f4 := hok.f4
  have gn := hok.gn
  have g6 := hok.g6
  have zl := hok.L.2.1
  have zg := gtx_len hok
  have zf : (⟨(figC J J.L.cps.toList).toArray⟩ : Str).length ≤ 600 := by
    show (figC J J.L.cps.toList).toArray.size ≤ _
    rw [List.size_toArray, figs_keys, List.length_map]
    unfold JD.keys
    rw [keysOf_len]
    exact hok.h600
  have e1 : (toString ((J.n : Nat) : Int) : Str).length = 1 := dig_len (by omega)
  have e2 : (toString ((J.few : Nat) : Int) : Str).length = 1 := dig_len (by omega)
  have e3 : (toString ((J.turn : Nat) : Int) : Str).length = 1 := dig_len (by omega)
  have spl : (Str.ofString " ").length = 1 := by decide +kernel
  have emp : Str.empty.length = 0 := rfl
  refine ⟨_, rfl, j, _, rfl, SqT.of hj, rfl, _, _, rfl, _, _, rfl, _, _, rfl, _, _, rfl, _, _, rfl, _, _, rfl, rfl, ?_⟩
  refine ⟨⟨_, rfl⟩, _, rfl, g, rfl, ⟨_, SqL.of hg⟩, fun D hD => ?_⟩
  refine lc_list (xs := J.good.map nI) (fun i H' => H' D = some (.lst ((J.good.take i).map fun s => V.str (toString ((s : Nat) : Int)))) ∧ Same H H') ⟨upd_same, same_new hD⟩ (fun i H' _ ⟨_, s⟩ => SqL.of (s _ _ hg)) ?_ ?_
  · rintro i x H3 hx ⟨g1, g2⟩
    rw [List.getElem?_map] at hx
    cases hb : J.good[i]? with
    | none => rw [hb] at hx; cases hx
    | some s0 =>
    rw [hb] at hx
    cases hx
    have hs0 := gn _ (List.mem_of_getElem? hb)
    refine ⟨rfl, _, rfl, (s0 : Int), rfl, log2_small (by omega), _, g1, ?_, ?_, same_add g2 hD⟩
    · rw [List.length_map, List.length_take]
      exact Nat.lt_of_le_of_lt (show _ ≤ 1000000 by omega) (by decide)
    · rw [upd_same, take_succ_of hb, List.map_append]
      rfl
  rintro H1 ⟨g1, g2⟩
  rw [List.length_map, List.take_length] at g1
  refine ⟨Str.ofString ",", D, J.good.map fun s => toString ((s : Nat) : Int), rfl, rfl, .inl (SqL.of (by rw [List.map_map]; exact g1)), ?_, ?_⟩
  · rw [dig_lens J.good fun g hg => by have := gn g hg; omega, List.length_map]
    show J.good.length + J.good.length * 1 ≤ _
    omega
  rcases Decidable.em (J.good = []) with h | h
  · refine ⟨false, ⟨?_, ?_⟩, iteF ?_⟩
    · rw [h]; decide
    · rw [h]; rfl
    have eg : Str.ofString "-" = gtx J.good := by unfold gtx; rw [if_pos h]
    rw [eg]
    refine ⟨⟨_, rfl⟩, _, rfl, _, rfl, _, rfl, _, rfl, _, _, rfl, rfl, J.L, J.n, J.few + J.turn, rfl, hok.L, n6, by omega, by omega, hok.h600, fun r bs H2 s2 r0 r1 hks => ⟨r, rfl, ⟨_, SqL.of r1⟩, fun D2 hD2 => ?_⟩⟩
    have S2 := g2.trans s2
    have lb : bs.length = J.keys.length := Paired.length hks
    have lk : J.keys.length ≤ 600 := by unfold JD.keys; rw [keysOf_len]; exact hok.h600
    refine lc_list (xs := bs.map V.ref) (fun i H' => H' D2 = some (.lst ((J.keys.take i).map fun key => V.str (ch (48 + J.fs key.1 key.2)))) ∧ Same H2 H') ⟨upd_same, same_new hD2⟩ (fun i H' _ ⟨_, s⟩ => SqL.of (s _ _ r1)) ?_ ?_
    · rintro i x H3 hx ⟨k1, k2⟩
      rw [List.getElem?_map] at hx
      cases haj : bs[i]? with
      | none => rw [haj] at hx; cases hx
      | some ab =>
      rw [haj] at hx
      cases hx
      obtain ⟨⟨c, row⟩, hkey, a, kb, ka⟩ := prd_at hks haj
      have hkey : J.keys[i]? = some (c, row) := hkey
      have hm := List.mem_of_getElem? hkey
      have hlt : J.fs c row < J.n := hok.lt _ hm
      have S3 := S2.trans k2
      refine ⟨rfl, _, rfl, _, rfl, d, ab, xs, keyN c row, nI (J.fs c row), rfl, rfl, S3 _ _ hd, hrn.keep fun b ys e => S3 b _ e, nk_key (k2 _ _ kb) (k2 _ _ ka), keyN_depth _ _, atN_rows hrj (hper.mem_iff.mpr hm), (J.fs c row : Int), rfl, log2_small (by omega), _, k1, ?_, ?_, same_add k2 hD2⟩
      · rw [List.length_map, List.length_take]
        exact Nat.lt_of_le_of_lt (show _ ≤ 1000000 by omega) (by decide)
      · rw [upd_same, take_succ_of hkey, List.map_append, digit (by omega)]
        rfl
    rintro H3 ⟨k1, k2⟩
    rw [List.length_map, lb, List.take_length] at k1
    refine ⟨Str.ofString "", D2, (J.keys.map fun key => 48 + J.fs key.1 key.2).map ch, rfl, rfl, .inl (SqL.of (by rw [List.map_map, List.map_map]; exact k1)), ?_, ?_⟩
    · have lens : ∀ l : List Nat, ((l.map ch).map fun s : Str => s.length).sum = l.length := by
        intro l
        induction l with
        | nil => rfl
        | cons a t ih =>
          rw [List.map_cons, List.map_cons, List.sum_cons, ih]
          show 1 + t.length = t.length + 1
          omega
      rw [lens, List.length_map, List.length_map]
      show J.keys.length + J.keys.length * 0 ≤ _
      omega
    rw [join_chs, ← figs_keys]
    refine ⟨_, rfl, .inl ⟨_, rfl, Nat.le_trans (show J.L.length ≤ 1000000 by omega) (by decide), _, rfl, (by simp only [app_len, e1, e2, e3, spl, emp]; exact Nat.le_trans (show _ ≤ 1000000 by omega) (by decide)), _, rfl, (by simp only [app_len, e1, e2, e3, spl, emp]; exact Nat.le_trans (show _ ≤ 1000000 by omega) (by decide)), _, rfl, .inr ⟨(J.n : Int), rfl, log2_small (by omega), _, rfl, (by simp only [app_len, e1, e2, e3, spl, emp]; exact Nat.le_trans (show _ ≤ 1000000 by omega) (by decide)), _, rfl, (by simp only [app_len, e1, e2, e3, spl, emp]; exact Nat.le_trans (show _ ≤ 1000000 by omega) (by decide)), _, rfl, .inr ⟨(J.few : Int), rfl, log2_small (by omega), _, rfl, (by simp only [app_len, e1, e2, e3, spl, emp]; exact Nat.le_trans (show _ ≤ 1000000 by omega) (by decide)), _, rfl, (by simp only [app_len, e1, e2, e3, spl, emp]; exact Nat.le_trans (show _ ≤ 1000000 by omega) (by decide)), _, rfl, .inr ⟨(J.turn : Int), rfl, log2_small (by omega), _, rfl, (by simp only [app_len, e1, e2, e3, spl, emp]; exact Nat.le_trans (show _ ≤ 1000000 by omega) (by decide)), _, rfl, (by simp only [app_len, e1, e2, e3, spl, emp]; exact Nat.le_trans (show _ ≤ 1000000 by omega) (by decide)), _, rfl, .inl ⟨_, rfl, Nat.le_trans (show (gtx J.good).length ≤ 1000000 by omega) (by decide), _, rfl, (by simp only [app_len, e1, e2, e3, spl, emp]; exact Nat.le_trans (show _ ≤ 1000000 by omega) (by decide)), _, rfl, (by simp only [app_len, e1, e2, e3, spl, emp]; exact Nat.le_trans (show _ ≤ 1000000 by omega) (by decide)), _, rfl, .inl ⟨_, rfl, Nat.le_trans (show (⟨(figC J J.L.cps.toList).toArray⟩ : Str).length ≤ 1000000 by omega) (by decide), _, rfl, (by simp only [app_len, e1, e2, e3, spl, emp]; exact Nat.le_trans (show _ ≤ 1000000 by omega) (by decide)), ?_⟩⟩⟩⟩⟩⟩⟩
    rw [six_join]
    exact q _ (S2.trans k2)
  · refine ⟨true, ⟨?_, ?_⟩, iteT ?_⟩
    · have := join_len (Str.ofString ",") (J.good.map fun s => (toString ((s : Nat) : Int) : Str))
      rw [dig_lens J.good fun g hg => by have := gn g hg; omega, List.length_map] at this
      have : (Txt.join (Str.ofString ",") (J.good.map fun s => (toString ((s : Nat) : Int) : Str))).length ≤ J.good.length * 1 + J.good.length := this
      exact Nat.le_trans (show _ ≤ 1000000 by omega) (by decide)
    · cases hgd : J.good with
      | nil => exact absurd hgd h
      | cons a t =>
        have e : (Txt.join (Str.ofString ",") ((a :: t).map fun s => (toString ((s : Nat) : Int) : Str))).length = (toString ((a : Nat) : Int) : Str).cps.size + (t.map fun s => (toString ((s : Nat) : Int) : Str)).length * (Str.ofString ",").cps.size + ((t.map fun s => (toString ((s : Nat) : Int) : Str)).map fun s : Str => s.length).sum := foldl_len _ _ _
        have e1 : (toString ((a : Nat) : Int) : Str).cps.size = 1 := dig_len (by have := gn a (by rw [hgd]; exact List.mem_cons_self); omega)
        have : (Txt.join (Str.ofString ",") ((a :: t).map fun s => (toString ((s : Nat) : Int) : Str))).length ≠ 0 := by rw [e, e1]; omega
        symm
        simpa using this
    have eg : Txt.join (Str.ofString ",") (J.good.map fun s => (toString ((s : Nat) : Int) : Str)) = gtx J.good := by unfold gtx; rw [if_neg h]
    rw [eg]
    refine ⟨⟨_, rfl⟩, _, rfl, _, rfl, _, rfl, _, rfl, _, _, rfl, rfl, J.L, J.n, J.few + J.turn, rfl, hok.L, n6, by omega, by omega, hok.h600, fun r bs H2 s2 r0 r1 hks => ⟨r, rfl, ⟨_, SqL.of r1⟩, fun D2 hD2 => ?_⟩⟩
    have S2 := g2.trans s2
    have lb : bs.length = J.keys.length := Paired.length hks
    have lk : J.keys.length ≤ 600 := by unfold JD.keys; rw [keysOf_len]; exact hok.h600
    refine lc_list (xs := bs.map V.ref) (fun i H' => H' D2 = some (.lst ((J.keys.take i).map fun key => V.str (ch (48 + J.fs key.1 key.2)))) ∧ Same H2 H') ⟨upd_same, same_new hD2⟩ (fun i H' _ ⟨_, s⟩ => SqL.of (s _ _ r1)) ?_ ?_
    · rintro i x H3 hx ⟨k1, k2⟩
      rw [List.getElem?_map] at hx
      cases haj : bs[i]? with
      | none => rw [haj] at hx; cases hx
      | some ab =>
      rw [haj] at hx
      cases hx
      obtain ⟨⟨c, row⟩, hkey, a, kb, ka⟩ := prd_at hks haj
      have hkey : J.keys[i]? = some (c, row) := hkey
      have hm := List.mem_of_getElem? hkey
      have hlt : J.fs c row < J.n := hok.lt _ hm
      have S3 := S2.trans k2
      refine ⟨rfl, _, rfl, _, rfl, d, ab, xs, keyN c row, nI (J.fs c row), rfl, rfl, S3 _ _ hd, hrn.keep fun b ys e => S3 b _ e, nk_key (k2 _ _ kb) (k2 _ _ ka), keyN_depth _ _, atN_rows hrj (hper.mem_iff.mpr hm), (J.fs c row : Int), rfl, log2_small (by omega), _, k1, ?_, ?_, same_add k2 hD2⟩
      · rw [List.length_map, List.length_take]
        exact Nat.lt_of_le_of_lt (show _ ≤ 1000000 by omega) (by decide)
      · rw [upd_same, take_succ_of hkey, List.map_append, digit (by omega)]
        rfl
    rintro H3 ⟨k1, k2⟩
    rw [List.length_map, lb, List.take_length] at k1
    refine ⟨Str.ofString "", D2, (J.keys.map fun key => 48 + J.fs key.1 key.2).map ch, rfl, rfl, .inl (SqL.of (by rw [List.map_map, List.map_map]; exact k1)), ?_, ?_⟩
    · have lens : ∀ l : List Nat, ((l.map ch).map fun s : Str => s.length).sum = l.length := by
        intro l
        induction l with
        | nil => rfl
        | cons a t ih =>
          rw [List.map_cons, List.map_cons, List.sum_cons, ih]
          show 1 + t.length = t.length + 1
          omega
      rw [lens, List.length_map, List.length_map]
      show J.keys.length + J.keys.length * 0 ≤ _
      omega
    rw [join_chs, ← figs_keys]
    refine ⟨_, rfl, .inl ⟨_, rfl, Nat.le_trans (show J.L.length ≤ 1000000 by omega) (by decide), _, rfl, (by simp only [app_len, e1, e2, e3, spl, emp]; exact Nat.le_trans (show _ ≤ 1000000 by omega) (by decide)), _, rfl, (by simp only [app_len, e1, e2, e3, spl, emp]; exact Nat.le_trans (show _ ≤ 1000000 by omega) (by decide)), _, rfl, .inr ⟨(J.n : Int), rfl, log2_small (by omega), _, rfl, (by simp only [app_len, e1, e2, e3, spl, emp]; exact Nat.le_trans (show _ ≤ 1000000 by omega) (by decide)), _, rfl, (by simp only [app_len, e1, e2, e3, spl, emp]; exact Nat.le_trans (show _ ≤ 1000000 by omega) (by decide)), _, rfl, .inr ⟨(J.few : Int), rfl, log2_small (by omega), _, rfl, (by simp only [app_len, e1, e2, e3, spl, emp]; exact Nat.le_trans (show _ ≤ 1000000 by omega) (by decide)), _, rfl, (by simp only [app_len, e1, e2, e3, spl, emp]; exact Nat.le_trans (show _ ≤ 1000000 by omega) (by decide)), _, rfl, .inr ⟨(J.turn : Int), rfl, log2_small (by omega), _, rfl, (by simp only [app_len, e1, e2, e3, spl, emp]; exact Nat.le_trans (show _ ≤ 1000000 by omega) (by decide)), _, rfl, (by simp only [app_len, e1, e2, e3, spl, emp]; exact Nat.le_trans (show _ ≤ 1000000 by omega) (by decide)), _, rfl, .inl ⟨_, rfl, Nat.le_trans (show (gtx J.good).length ≤ 1000000 by omega) (by decide), _, rfl, (by simp only [app_len, e1, e2, e3, spl, emp]; exact Nat.le_trans (show _ ≤ 1000000 by omega) (by decide)), _, rfl, (by simp only [app_len, e1, e2, e3, spl, emp]; exact Nat.le_trans (show _ ≤ 1000000 by omega) (by decide)), _, rfl, .inl ⟨_, rfl, Nat.le_trans (show (⟨(figC J J.L.cps.toList).toArray⟩ : Str).length ≤ 1000000 by omega) (by decide), _, rfl, (by simp only [app_len, e1, e2, e3, spl, emp]; exact Nat.le_trans (show _ ≤ 1000000 by omega) (by decide)), ?_⟩⟩⟩⟩⟩⟩⟩
    rw [six_join]
    exact q _ (S2.trans k2)
end


def sp__figure : Sp := fun vs H Q _ => ∃ c : Nat, vs = [.str (ch (48 + c))] ∧ c < 7 ∧ Q (nI c) H
section
variable {P : Program} {w : World} {K : PySem.W.Frag} {mg : Str → Option Value} {base : Heap}
theorem ok__figure (T : Txt K mg) : FnOk P w K mg base CX0 1 T.f__figure T.d__figure ["word"] sp__figure := by
  refine T.F__figure.ok sc__figure (fun vs H Q E h => ?_) (fun cdv A outer s H vs Q E hr h => ?_)
  · obtain ⟨c, rfl, _⟩ := h
    rfl
  obtain ⟨c, rfl, hc, q⟩ := h
  refine ⟨_, (pss_one (ps_ret (pe_ifExp (pt_cmpR op_eq (pe_callB call_len_str (by rfl) T.z_len PySem.boot_len (pa_cons (pv 0) pa_nil)) pe_int (nomark _)) (pe_bm PySem.F.plainAttrs_str PySem.F.slot_str_find PySem.F.type_str_find mt_find (pe_glob (v := .str (Str.ofString "0123456789")) rfl T.g_FIGURES ⟨_, rfl⟩) (pa_cons (pv 0) pa_nil)) (pe_un un_neg pe_int)))), ?_⟩
  refine ⟨_, rfl, _, rfl, by show 1 ≤ sizeLine; decide, rfl, _, rfl, ?_⟩
  refine iteT ⟨rfl, _, rfl, Str.ofString "0123456789", ch (48 + c), rfl, rfl, ?_⟩
  have e : Txt.find (Str.ofString "0123456789") (ch (48 + c)) = (c : Int) := by
    rcases (by omega : c = 0 ∨ c = 1 ∨ c = 2 ∨ c = 3 ∨ c = 4 ∨ c = 5 ∨ c = 6) with rfl | rfl | rfl | rfl | rfl | rfl | rfl <;> decide +kernel
  rw [e]
  exact q
end

theorem roomZ {k : Nat} {A : Around} (r : Room k A) : A.units + 12 < cLine := by have := r.un; omega
theorem apart_new {n a b : Nat} (ha : a < n) (hb : b < n) : ZipApart (n + 4) (n + 2) (n + 3) n (n + 1) a b := by constructor <;> (show @Ne Nat _ _; omega)
theorem off_new {n c : Nat} (h : c < n) : c ∉ [n + 4, n + 3, n, n + 1] := fun hm => by
  simp only [List.mem_cons, List.not_mem_nil, or_false] at hm
  omega
section
variable {X : Cx}
def tDZ (P : Program) (w : World) (ta : TA) : TE := fun σ H Q => ta σ H fun vs H1 => ∃ (a b : Addr) (ps : List NRow), vs = [.ref a, .ref b] ∧ H1 a = some (.lst (ps.map fun p => V.ref p.2.1)) ∧ H1 b = some (.lst (ps.map fun p => p.2.2)) ∧ RowsN H1 ps ∧ (ps.map (·.1)).Nodup ∧ ps.length ≤ sizeLine ∧
  ∀ d, H1 d = none → Q (.ref d) (upd H1 d (DictN P w d ps))
theorem zip_keys : ∀ (ps : List NRow) (its : List Value), Vals (ps.map fun p => V.ref p.2.1) its → its = ps.map fun p => Value.ref p.2.1
  | [], its, h => by cases h; rfl
  | p :: r, its, h => by
    cases h with
    | cons h1 h2 => cases h1; rw [zip_keys r _ h2]; rfl
theorem zip_pick : ∀ (ps : List NRow) (its : List Value), Vals (ps.map fun p => p.2.2) its → ∃ us : List (NestedKey × Addr × Value), RowsP ps us ∧ us.map (fun u => u.2.2) = its
  | [], its, h => by cases h; exact ⟨[], .nil, rfl⟩
  | p :: r, its, h => by
    cases h with
    | @cons _ u _ _ h1 h2 =>
      obtain ⟨us, a1, a2⟩ := zip_pick r _ h2
      exact ⟨(p.1, p.2.1, u) :: us, .cons ⟨rfl, rfl, h1⟩ a1, by rw [← a2]; rfl⟩
theorem pe_dictZip {e e2 : PySem.Expr} {ta : TA} {p p0 pos pos0 : Pos} (hc : X.calm = true) (hu : X.A.units + 12 < cLine) (hg0 : Gl X "dict") (hm0 : X.mg "dict" = none) (hg : Gl X "zip") (hm : X.mg "zip" = none) (ha : PA X [e, e2] ta)
    (hs : starEach [e, e2] X.env = (false, eval e X.env) :: starEach [e2] X.env := by rfl) (hpl : (backTo pos (starEach [e2] X.env)).any (·.1) = false := by rfl)
    (hs0 : starEach [.Call (.Name "zip" p) [e, e2] [] pos] X.env = (false, eval (.Call (.Name "zip" p) [e, e2] [] pos) X.env) :: starEach [] X.env := by rfl) (hpl0 : (backTo pos0 (starEach [] X.env)).any (·.1) = false := by rfl) :
    PE X (.Call (.Name "dict" p0) [.Call (.Name "zip" p) [e, e2] [] pos] [] pos0) (tDZ X.prog X.w ta) := by
  refine ⟨fun pins s σ H R I h => Call_ (ld_blt I hg0 hm0 PyProof.Rows.boot_dict (PyProof.Rows.callWith_type1 ?_ hs0 hpl0))⟩
  rw [hs0]
  show wpAny _ _ (spliced ((false, eval (.Call (.Name "zip" p) [e, e2] [] pos) X.env) :: backTo pos0 (starEach [] X.env))) _ _ s
  refine Calls.spliced_cons (Call_ (ld_blt I hg hm PyProof.Rows.boot_zip (PyProof.Rows.callWith_type1 (thn (ha.run pos pins s σ H _ I h) ?_) hs hpl)))
  rintro us0 s1 ⟨_, H1, I1, r1, a, b, ps, rfl, hka, hkb, hr, nd, hz, q⟩
  obtain ⟨u1, u2, rfl, e1, e2⟩ := Vals.two r1
  cases e1
  cases e2
  obtain ⟨its, rv, p1, _⟩ := I1.list (SqL.of hka)
  obtain ⟨its2, rv2, p2, _⟩ := I1.list (SqL.of hkb)
  have la : a < s1.heap.objs.size := p1.lt
  have lb : b < s1.heap.objs.size := p2.lt
  have ei := zip_keys ps its rv
  obtain ⟨us, a1, a2⟩ := zip_pick ps its2 rv2
  have lp : ps.length = us.length := Paired.length a1
  have keys : ps.map (·.1) = us.map (·.1) := by
    have : ∀ (ps : List NRow) (us : List (NestedKey × Addr × Value)), RowsP ps us → ps.map (·.1) = us.map (·.1) := by
      intro ps us p
      induction p with
      | nil => rfl
      | cons r t ih => rw [List.map_cons, List.map_cons, r.1, ih]
    exact this _ _ a1
  have nds : ((us.map (·.1))).Nodup := by rw [← keys]; exact nd
  have isk : ∀ x ∈ us, (nestedKind X.prog X.w).is s1.heap x.1 x.2.1 := by
    have : ∀ (xs : List NRow) (us : List (NestedKey × Addr × Value)), RowsP xs us → RowsN H1 xs → ∀ u ∈ us, (nestedKind X.prog X.w).is s1.heap u.1 u.2.1 := by
      intro xs us p
      induction p with
      | nil => intro _ u hu; cases hu
      | cons r t ih =>
        intro hk u hu
        rcases List.mem_cons.mp hu with rfl | hu
        · obtain ⟨n1, n2⟩ := hk _ List.mem_cons_self
          refine ⟨?_, ?_⟩
          · rw [← r.1, ← r.2.1]
            exact NK.is I1 n1 rfl
          · rw [← r.1]
            exact n2
        · exact ih (fun x hx => hk x (List.mem_cons_of_mem _ hx)) u hu
    exact this _ _ a1 hr
  refine zip_begins2 (begins_list a its.toArray) (begins_list b its2.toArray) p1.isList p2.isList fun h' hz1 hTI hTO g1 g2 hsz keep => ?_
  refine Calls.spliced_nil ?_
  have le : s1.heap.objs.size ≤ h'.objs.size := by rw [hsz]; exact Nat.le_add_right _ _
  have lo : h'.objs.size ≠ sysModules := Ne.symm (Nat.ne_of_lt (Nat.lt_of_lt_of_le I1.big le))
  have D : ZipApart (s1.heap.objs.size + 4) (s1.heap.objs.size + 2) (s1.heap.objs.size + 3) s1.heap.objs.size (s1.heap.objs.size + 1) a b := apart_new la lb
  have off : ∀ c o, s1.heap.get? c = some o → c ∉ [s1.heap.objs.size + 4, s1.heap.objs.size + 3, s1.heap.objs.size, s1.heap.objs.size + 1] := fun c o e => off_new (Heap.lt_size e)
  have hat : ∀ i : Nat, us[i]? = none ∨ ∃ u, us[i]? = some u ∧ its.toArray[i]? = some (.ref u.2.1) ∧ its2.toArray[i]? = some u.2.2 := fun i => by
    cases hui : us[i]? with
    | none => exact .inl rfl
    | some u =>
      refine .inr ⟨u, rfl, ?_, ?_⟩
      · rw [List.getElem?_toArray, ei, List.getElem?_map]
        have hi := (List.getElem?_eq_some_iff.mp hui).1
        have hp : ps[i]? = some ps[i] := List.getElem?_eq_getElem (by omega)
        obtain ⟨u2, hu2, k1, k2, _⟩ := prd_at a1 hp
        have e2 := Option.some.inj (hu2.symm.trans hui)
        subst e2
        rw [hp, ← k2]
        rfl
      · rw [List.getElem?_toArray, ← a2, List.getElem?_map, hui]
        rfl
  have li : its.toArray.size = us.length := by rw [List.size_toArray, ei, List.length_map, lp]
  have li2 : its2.toArray.size = us.length := by rw [List.size_toArray, ← a2, List.length_map]
  refine call_dict_pairsH (s := { s1 with heap := h' }) (knd := nestedKind X.prog X.w) (ps := us) (PairArg.zip (s1.heap.objs.size + 4) (s1.heap.objs.size + 2) (s1.heap.objs.size + 3) s1.heap.objs.size (s1.heap.objs.size + 1) a b D its.toArray its2.toArray) (I.ok.hd hc) (show X.A.units + 1 + 1 + 8 < cLine by omega) ⟨hz1, hTI, ⟨_, _, hTO⟩, ⟨_, g1, rfl, rfl⟩, ⟨_, g2, rfl, rfl⟩, ?_, ?_⟩ ?_ (fun h3 hk x hx => ?_) (by rw [li, li2, Nat.min_self, ← lp]; exact hz) fun h3 tk hd' hk => ?_
  · exact p1.isList.at fun o e => keep _ o e
  · exact p2.isList.at fun o e => keep _ o e
  · refine ⟨by rw [li, li2, Nat.min_self], fun i key v hi => ?_⟩
    obtain ⟨h1, h2⟩ := hi
    rcases hat i with hn | ⟨u, hu1, hu2, hu3⟩
    · exfalso
      have := (Array.getElem?_eq_some_iff.mp h1).1
      have := List.getElem?_eq_none_iff.mp hn
      omega
    · rw [hu2] at h1
      rw [hu3] at h2
      cases h1
      cases h2
      exact ⟨u.1, u.2.1, hu1, rfl⟩
  · refine nestedKind_stays.stays (fun b o vs m e q => ?_) (isk x hx)
    exact hk b o (Nat.ne_of_lt (Nat.lt_of_lt_of_le (Heap.lt_size e) le)) (off b o e) (keep b o e)
  · rw [storedAll_new nds] at hd'
    obtain ⟨ob, es, ep, e1, e2, e3, e4, _, e5⟩ := hd'
    exact ⟨.ref h'.objs.size, _, I1.laid (t' := tk) (fun b o e => hk b o (off b o e) (keep b o e)) le (dictN_ok (beq_eq_false_iff_ne.mpr lo) hz a1 ⟨ob, es, ep, e1, e2, e3, e4, e5⟩), rfl, q _ (I1.hok.fresh le)⟩
end

def ItzS (x y : Str) : It := ⟨fun n _ => n < x.cps.size ∧ n < y.cps.size,
  fun n H v H' => ∃ (p : Addr) (c d : Nat), v = .ref p ∧ H p = none ∧ H' = upd H p (.tup [.str (ch c), .str (ch d)]) ∧ x.cps[n]? = some c ∧ y.cps[n]? = some d,
  fun n _ => n ≤ x.cps.size ∧ n ≤ y.cps.size ∧ (n = x.cps.size ∨ n = y.cps.size)⟩
theorem five {z TI TO i1 i2 b : Addr} (h : b ∈ [z, TI, TO, i1, i2]) : b = z ∨ b = TI ∨ b = TO ∨ b = i1 ∨ b = i2 := by simpa using h
theorem turn_zipS {P : Program} {w : World} {K : PySem.W.Frag} {parts : List PySem.Expr} {many : Nat} {at_ : Pos} {z TI TO i1 i2 : Addr} (S : ZipSep2 z TI TO i1 i2 [i1] [i2]) (x y : Str) (t u : Tok) :
    Turn P w K (.Tuple parts many at_) (ItzS x y) [z, TI, TO, i1, i2] z (fun n h => IsZip h z TI TO .none ∧ IsTupOf2 h TI (.ref i1) (.ref i2) ∧ (∃ a b, IsTupOf2 h TO a b) ∧ h.IsStrIter i1 (strIterType x) x t n ∧ h.IsStrIter i2 (strIterType y) y u n) where
  mem := List.mem_cons_self
  obj := by
    rintro n h ⟨hz, hTI, ⟨a, b, hTO⟩, ⟨o1, e1, _, d1⟩, ⟨o2, e2, _, d2⟩⟩ c hc
    rcases five hc with rfl | rfl | rfl | rfl | rfl
    · exact ⟨_, hz, fun v q => nomatch q⟩
    · exact ⟨_, hTI, fun v q => nomatch q⟩
    · exact ⟨_, hTO, fun v q => nomatch q⟩
    · exact ⟨o1, e1, fun v q => by rw [d1] at q; cases q⟩
    · exact ⟨o2, e2, fun v q => by rw [d2] at q; cases q⟩
  keep := by
    rintro n h h' ⟨hz, hTI, ⟨a, b, hTO⟩, ⟨o1, e1, r1⟩, ⟨o2, e2, r2⟩⟩ k
    exact ⟨k z (by simp) _ hz, k TI (by simp) _ hTI, ⟨a, b, k TO (by simp) _ hTO⟩, ⟨o1, k i1 (by simp) _ e1, r1⟩, ⟨o2, k i2 (by simp) _ e2, r2⟩⟩
  item := by
    rintro X rfl rfl rfl calm n pins s σ H E I free ⟨hz, hTI, ⟨a, b, hTO⟩, h1, h2⟩ ⟨lt1, lt2⟩
    have D1 := Draws.text (prog := X.prog) (w := X.w) (A := X.A.in1) (I.ok.hd calm) i1 x t
    have D2 := Draws.text (prog := X.prog) (w := X.w) (A := X.A.in1) (I.ok.hd calm) i2 y u
    have low : z < s.heap.objs.size := Heap.lt_size hz
    refine wpAny_pyNext_zipD2_item S D1 D2 hz hTI hTO h1 h2 lt1 lt2 ?_
    rintro _ _ h3 tk ⟨c, tc, hc, rfl⟩ ⟨d, td, hd, rfl⟩ out pair n1 n2 made _ stays
    refine ⟨_, rfl, wpAny_letOwnedTupleGo_zip (s := { s with heap := h3, toks := tk }) out fun h4 back but => ?_⟩
    have made4 : h4.get? s.heap.objs.size = some { cls := .type "tuple", data := .seq #[.str ⟨#[c]⟩ tc, .str ⟨#[d]⟩ td] } := (but.2 _ (Nat.ne_of_gt low)).trans made
    have new : ObjOk X.prog X.w (upd H s.heap.objs.size (.tup [.str (ch c), .str (ch d)])) h4 s.heap.objs.size (.tup [.str (ch c), .str (ch d)]) :=
      ⟨by show 2 ≤ sizeLine; decide, [.str ⟨#[c]⟩ tc, .str ⟨#[d]⟩ td], .cons ⟨_, rfl⟩ (.cons ⟨_, rfl⟩ .nil), _, made4, rfl, _, rfl⟩
    have J : Inv X pins σ (upd H s.heap.objs.size (.tup [.str (ch c), .str (ch d)])) { s with heap := h4, toks := tk } :=
      I.turnedNew (t' := tk) (ch := [z, TI, TO, i1, i2]) (fun b ob hb e => by
        have ne : b ≠ z ∧ b ≠ TO ∧ b ≠ i1 ∧ b ≠ i2 := ⟨fun q => hb (by simp [q]), fun q => hb (by simp [q]), fun q => hb (by simp [q]), fun q => hb (by simp [q])⟩
        exact (but.2 b ne.1).trans (stays b ob ne.1 ne.2.1 ne.2.2.1 ne.2.2.2 e)) free (Nat.le_refl _) new
    refine ⟨.ref s.heap.objs.size, _, J, rfl, ⟨_, c, d, rfl, I.hok.fresh (Nat.le_refl _), rfl, hc, hd⟩, ⟨back, ?_, ⟨_, _, (but.2 _ S.TOz).trans pair⟩, D1.over n1 but S.zf1, D2.over n2 but S.zf2⟩, fun b hb => ?_⟩
    · exact (but.2 _ S.TIz).trans (stays _ _ S.TIz S.TITO S.TIi1 S.TIi2 hTI)
    · have lt : b < s.heap.objs.size := by
        rcases five hb with rfl | rfl | rfl | rfl | rfl
        · exact low
        · exact Heap.lt_size hTI
        · exact Heap.lt_size hTO
        · obtain ⟨_, e, _⟩ := h1; exact Heap.lt_size e
        · obtain ⟨_, e, _⟩ := h2; exact Heap.lt_size e
      rw [upd_ne (Nat.ne_of_lt lt)]
      exact (free b hb).1
  done := by
    rintro X rfl rfl rfl calm n pins s σ H E I free ⟨hz, hTI, ⟨a, b, hTO⟩, h1, h2⟩ ⟨le1, le2, over⟩
    have D1 := Draws.text (prog := X.prog) (w := X.w) (A := X.A.in1) (I.ok.hd calm) i1 x t
    have D2 := Draws.text (prog := X.prog) (w := X.w) (A := X.A.in1) (I.ok.hd calm) i2 y u
    exact wpAny_pyNext_zipD2_end S D1 D2 hz hTI hTO h1 h2 le1 le2 over fun h' tk stays => ⟨rfl, I.turnedL (t' := tk) (ch := [z, TI, TO, i1, i2]) (fun b ob hb e =>
      stays b ob (fun q => hb (by simp [q])) (fun q => hb (by simp [q])) (fun q => hb (by simp [q])) (fun q => hb (by simp [q])) e) free⟩
  self := fun A n s Q E st h => wpAny_pyIter_zip st.1 h
def iZipS (ta : TA) : TI := fun σ H R => ta σ H fun vs H1 => ∃ x y, vs = [.str x, .str y] ∧ R (ItzS x y) H1
theorem sep_new (n : Nat) : ZipSep2 (n + 4) (n + 2) (n + 3) n (n + 1) [n] [n + 1] := by
  constructor <;> simp <;> omega
theorem pi_zipS {X : Cx} {e e2 : PySem.Expr} {ta : TA} {p pos at_ : Pos} {parts : List PySem.Expr} {many : Nat} (hg : Gl X "zip") (hm : X.mg "zip" = none) (ha : PA X [e, e2] ta)
    (hs : starEach [e, e2] X.env = (false, eval e X.env) :: starEach [e2] X.env := by rfl) (hpl : (backTo pos (starEach [e2] X.env)).any (·.1) = false := by rfl) :
    PI X (.Tuple parts many at_) (.Call (.Name "zip" p) [e, e2] [] pos) (iZipS ta) := by
  refine ⟨fun pins s σ H R I h => Call_ (ld_blt I hg hm PyProof.Rows.boot_zip (PyProof.Rows.callWith_type1 (thn (ha.run pos pins s σ H _ I h) ?_) hs hpl))⟩
  rintro us s1 ⟨_, H1, I1, r1, x, y, rfl, q⟩
  obtain ⟨_, _, rfl, ⟨t, rfl⟩, u, rfl⟩ := Vals.two r1
  refine zip_begins2 (begins_text x t) (begins_text y u) trivial trivial fun h' hz hTI hTO g1 g2 _ keep => wpAny_pyIter_zip hz ?_
  refine ⟨s1.heap.objs.size + 4, [s1.heap.objs.size + 4, s1.heap.objs.size + 2, s1.heap.objs.size + 3, s1.heap.objs.size, s1.heap.objs.size + 1], _, _, H1, rfl, I1.kept (t' := s1.toks) keep, turn_zipS (sep_new _) x y t u, ⟨hz, hTI, ⟨_, _, hTO⟩, ⟨_, g1, rfl, rfl⟩, ⟨_, g2, rfl, rfl⟩⟩, fun b hb => ?_, q⟩
  have hle : s1.heap.objs.size ≤ b := by rcases five hb with rfl | rfl | rfl | rfl | rfl <;> omega
  exact I1.fpOk hle (I1.hok.fresh hle)
theorem walk_zipS {x y : Str} {n : Nat} (hn : n = min x.cps.size y.cps.size) : Walk (ItzS x y) n (fun _ => True) (fun i H v H' => ∃ (p : Addr) (c d : Nat), v = .ref p ∧ H p = none ∧ H' = upd H p (.tup [.str (ch c), .str (ch d)]) ∧ x.cps[i]? = some c ∧ y.cps[i]? = some d) :=
  ⟨fun i _ hi _ => ⟨by omega, by omega⟩, fun _ _ => ⟨by omega, by omega, by omega⟩, fun _ _ _ _ _ _ y => y⟩

def sp_is_letter : Sp := fun vs H Q _ => ∃ c : Nat, vs = [.str (ch c)] ∧ 97 ≤ c ∧ c ≤ 122 ∧ Q (.bl true) H
theorem le_a {c : Nat} (h : 97 ≤ c) : (!decide ((ch c).cps.toList < (Str.ofString "a").cps.toList)) = true := by
  have e : (Str.ofString "a").cps.toList = [97] := by decide +kernel
  rw [e]
  show (!decide (([c] : List Nat) < [97])) = true
  have : ¬ (([c] : List Nat) < [97]) := by
    intro q
    have := List.cons_lt_cons_iff.mp q
    rcases this with z | ⟨z, y⟩
    · omega
    · exact absurd y (by decide)
  simp [this]
theorem le_z {c : Nat} (h : c ≤ 122) : (!decide ((Str.ofString "z").cps.toList < (ch c).cps.toList)) = true := by
  have e : (Str.ofString "z").cps.toList = [122] := by decide +kernel
  rw [e]
  show (!decide (([122] : List Nat) < [c])) = true
  have : ¬ (([122] : List Nat) < [c]) := by
    intro q
    have := List.cons_lt_cons_iff.mp q
    rcases this with z | ⟨z, y⟩
    · omega
    · exact absurd y (by decide)
  simp [this]
section
variable {P : Program} {w : World} {K : PySem.W.Frag} {mg : Str → Option Value} {base : Heap}
theorem ok_is_letter (T : Txt K mg) : FnOk P w K mg base CX0 1 T.f_is_letter T.d_is_letter ["thing"] sp_is_letter := by
  refine T.F_is_letter.ok sc_is_letter (fun vs H Q E h => ?_) (fun cdv A outer s H vs Q E hr h => ?_)
  · obtain ⟨c, rfl, _⟩ := h
    rfl
  obtain ⟨c, rfl, h0, h1, q⟩ := h
  refine ⟨_, (pss_one (ps_ret (pe_and (pe_callB call_isi (by rfl) T.z_isinstance (by decide +kernel) (pa_cons (pv 0) (pa_cons (pe_bltn (v := .ty "str") (by rfl) T.z_str (by decide +kernel) rfl) pa_nil))) (pe_and (pe_cmpR op_eq (pe_callB call_len_str (by rfl) T.z_len PySem.boot_len (pa_cons (pv 0) pa_nil)) pe_int (nomark _)) (pe_one (pe_chain op_le_str op_le_str pe_str (pv 0) pe_str)))))), ?_⟩
  refine ⟨_, rfl, _, _, _, _, true, rfl, .ty "str", .base (.str _), kit_ty (by decide +kernel), _, rfl, iteT ?_⟩
  refine ⟨_, rfl, _, rfl, (by show 1 ≤ sizeLine; decide), rfl, _, rfl, iteT ?_⟩
  refine ⟨_, rfl, _, _, rfl, rfl, _, rfl, ?_⟩
  rw [if_pos (le_a h0)]
  refine ⟨_, _, rfl, rfl, ?_⟩
  rw [le_z h1]
  exact q
end



def sp_is_whole : Sp := fun vs H Q _ => ∃ i : Int, vs = [.int i] ∧ Q (.bl true) H
def sp_is_whole_within : Sp := fun vs H Q _ => ∃ i lo hi : Int, vs = [.int i, .int lo, .int hi] ∧ lo ≤ i ∧ i ≤ hi ∧ Q (.bl true) H
def sp__rises_str : Sp := fun vs H Q _ => ∃ L : Str, vs = [.str L] ∧ Lets L ∧ Rises L ∧ ∀ H', Same H H' → Q (.bl true) H'
def sp__rises_lst (K : PySem.W.Frag) : Sp := fun vs H Q _ => ∃ (a : Addr) (g : List Nat), vs = [.ref a] ∧ H a = some (.lst (g.map nI)) ∧ g.Pairwise (· < ·) ∧ g.length ≤ 100 ∧ ∀ H', Same H H' → Q (.bl true) H'
def sp_are_letters : Sp := fun vs H Q _ => ∃ L : Str, vs = [.str L] ∧ Lets L ∧ Rises L ∧ ∀ H', Same H H' → Q (.bl true) H'
def sp_are_rising_states : Sp := fun vs H Q _ => ∃ (a : Addr) (g : List Nat) (n : Nat), vs = [.ref a, nI n] ∧ H a = some (.lst (g.map nI)) ∧ g.Pairwise (· < ·) ∧ g.length ≤ 100 ∧ (∀ x ∈ g, x < n) ∧ ∀ H', Same H H' → Q (.bl true) H'
theorem rep_succ {α : Type} (n : Nat) (x : α) : List.replicate (n + 1) x = List.replicate n x ++ [x] := by
  rw [List.replicate_succ']
theorem all_rep (n : Nat) : (List.replicate n true).all id = true := by
  rw [List.all_eq_true]
  intro x hx
  rw [List.eq_of_mem_replicate hx]
  rfl
theorem cut_str {L : Str} (h : 1 ≤ L.length) : (cutS L (some 1) none).cps = (L.cps.toList.drop 1).toArray := by
  have h1 : HT.sIx L.length 0 (some 1) = 1 := by
    have := HT.sIx_nat L.length 0 1
    rw [show ((1 : Nat) : Int) = 1 from rfl] at this
    rw [this]
    omega
  unfold cutS
  rw [h1, HT.sIx_none]
  have : (L.cps.toList.drop 1).take (L.length - 1) = L.cps.toList.drop 1 := List.take_of_length_le (by rw [List.length_drop, Array.length_toList]; exact Nat.le_refl _)
  rw [this]
theorem cut_one {L : Str} (h : 1 ≤ L.length) (j : Nat) : (cutS L (some 1) none).cps[j]? = L.cps[j + 1]? := by
  rw [cut_str h, List.getElem?_toArray, List.getElem?_drop, Array.getElem?_toList, Nat.add_comm]
theorem cut_size {L : Str} (h : 1 ≤ L.length) : (cutS L (some 1) none).cps.size = L.cps.size - 1 := by
  rw [cut_str h, List.size_toArray, List.length_drop, Array.length_toList]
section
variable {P : Program} {w : World} {K : PySem.W.Frag} {mg : Str → Option Value} {base : Heap}
theorem ok_is_whole (T : Txt K mg) : FnOk P w K mg base CX0 1 T.f_is_whole T.d_is_whole ["thing"] sp_is_whole := by
  refine T.F_is_whole.ok sc_is_whole (fun vs H Q E h => ?_) (fun cdv A outer s H vs Q E hr h => ?_)
  · obtain ⟨i, rfl, _⟩ := h
    rfl
  obtain ⟨i, rfl, q⟩ := h
  refine ⟨_, (pss_one (ps_ret (pe_and (pe_callB call_isi (by rfl) T.z_isinstance (by decide +kernel) (pa_cons (pv 0) (pa_cons (pe_bltn (v := .ty "int") (by rfl) T.z_int (by decide +kernel) rfl) pa_nil))) (pe_one (pe_not (pe_callB call_isi (by rfl) T.z_isinstance (by decide +kernel) (pa_cons (pv 0) (pa_cons (pe_bltn (v := .ty "bool") (by rfl) T.z_bool (by decide +kernel) rfl) pa_nil)))))))), ?_⟩
  refine ⟨_, rfl, _, _, _, _, true, rfl, .ty "int", .base (.int _), kit_ty (by decide +kernel), _, rfl, iteT ?_⟩
  exact ⟨_, rfl, _, _, _, _, false, rfl, .ty "bool", .base (.int _), kit_ty (by decide +kernel), _, rfl, q⟩
theorem ok_is_whole_within (T : Txt K mg) : FnOk P w K mg base CX0 2 T.f_is_whole_within T.d_is_whole_within ["thing", "low", "high"] sp_is_whole_within := by
  have G_is_whole : FnOk P w K mg base CX0 1 T.f_is_whole T.d_is_whole ["thing"] sp_is_whole := ok_is_whole T
  refine T.F_is_whole_within.ok sc_is_whole_within (fun vs H Q E h => ?_) (fun cdv A outer s H vs Q E hr h => ?_)
  · obtain ⟨i, lo, hi, rfl, _⟩ := h
    rfl
  obtain ⟨i, lo, hi, rfl, h1, h2, q⟩ := h
  refine ⟨_, (pss_one (ps_ret (pe_and (pe_call G_is_whole (hr.mono (by omega)) (by rfl) T.m_is_whole T.F_is_whole.kp T.b_is_whole .nil pass0 (pa_cons (pv 0) pa_nil)) (pe_one (pe_chain op_le op_le (pv 1) (pv 0) (pv 2)))))), ?_⟩
  refine ⟨_, rfl, i, rfl, _, rfl, iteT ?_⟩
  refine ⟨_, rfl, _, rfl, _, _, rfl, rfl, _, rfl, dT h1 ?_⟩
  refine ⟨_, rfl, _, _, rfl, rfl, ?_⟩
  show Q (V.bl (decide (i ≤ hi))) H
  rw [decide_eq_true h2]
  exact q
theorem ok__rises_str (T : Txt K mg) : FnOk P w K mg base CX0 1 T.f__rises T.d__rises ["row"] sp__rises_str := by
  refine T.F__rises.ok sc__rises (fun vs H Q E h => ?_) (fun cdv A outer s H vs Q E hr h => ?_)
  · obtain ⟨L, rfl, _⟩ := h
    rfl
  obtain ⟨L, rfl, hL, hR, q⟩ := h
  refine ⟨_, (pss_one (ps_ret (pe_callB (cr_all rfl) (by rfl) T.z_all (by decide +kernel) (pa_cons (pe_lc (own := [("low", 1), ("high", 2)]) (g := gTup K 2 (gCons (gName 1) (gCons (gName 2) gNil))) (tt := tYes) rfl sc__rises.nd (pi_zipS (by rfl) T.z_zip (pa_cons (pv 0) (pa_cons (pe_slice sl_str (pv 0) (po_some pe_int) po_none) pa_nil))) (blkOk_by (own := [("low", 1), ("high", 2)]) (N := ["row", "low", "high"]) (sc := (defScope s__rises)) (by decide +kernel)) (fun _ _ _ _ _ => (pg_tup rfl (pgs_cons (pg_name (i := 1) sc__rises.nd rfl (Or.inl rfl)) (pgs_cons (pg_name (i := 2) sc__rises.nd rfl (Or.inl rfl)) pgs_nil)))) (fun _ _ _ _ _ => pts_nil) (fun _ _ _ _ _ => (pe_cmpR op_lt_str (pv 1) (pv 2) (nomark _)))) pa_nil)))), ?_⟩
  have lsz : L.cps.size = L.cps.toList.length := (Array.length_toList).symm
  have l26 : L.cps.toList.length ≤ 26 := by rw [← lsz]; exact hL.2.1
  have hcut : ∀ j : Nat, (cutS L (some 1) none).cps[j]? = L.cps[j + 1]? := cut_one hL.1
  have hsz : (cutS L (some 1) none).cps.size = L.cps.size - 1 := cut_size hL.1
  refine ⟨_, rfl, _, rfl, 1, rfl, L, rfl, Nat.le_of_lt (Nat.lt_of_le_of_lt (show _ ≤ 1000000 by have := hL.2.1; omega) (by decide)), L, _, rfl, fun D hD => ?_⟩
  refine lc_it (n := L.cps.size - 1) (walk_zipS (by rw [hsz]; omega)) (fun i H2 => H2 D = some (.lst ((List.replicate i true).map V.bl)) ∧ Same H H2) ⟨upd_same, same_new hD⟩ (fun _ _ _ _ => trivial) ?_ ?_
  · rintro i x H2 H3 hi ⟨g1, g2⟩ ⟨p, c, d, rfl, hp, rfl, hc, hd⟩
    rw [hcut] at hd
    have lt : c < d := by
      have h1 := Array.getElem?_eq_some_iff.mp hc
      have h2 := Array.getElem?_eq_some_iff.mp hd
      have := (List.pairwise_iff_getElem.mp hR) i (i + 1) (by rw [← lsz]; exact h1.1) (by rw [← lsz]; exact h2.1) (by omega)
      simpa [h1.2, h2.2] using this
    have sp := same_new (o := .tup [.str (ch c), .str (ch d)]) hp
    have kp := upd_same (H := H2) (a := p) (o := .tup [.str (ch c), .str (ch d)])
    generalize upd H2 p (.tup [.str (ch c), .str (ch d)]) = H4 at *
    refine ⟨p, _, rfl, SqT.of kp, rfl, _, _, rfl, _, _, rfl, rfl, rfl, _, rfl, _, rfl, _, _, rfl, rfl, ?_⟩
    have e : decide ((ch c).cps.toList < (ch d).cps.toList) = true := decide_eq_true (List.cons_lt_cons_iff.mpr (.inl lt))
    rw [e]
    refine ⟨_, sp _ _ g1, ?_, ?_, same_add (g2.trans sp) hD⟩
    · rw [List.length_map, List.length_replicate]
      exact Nat.lt_of_le_of_lt (show _ ≤ 1000000 by omega) (by decide)
    · rw [upd_same, rep_succ, List.map_append]
      rfl
  · rintro H2 ⟨g1, g2⟩
    refine ⟨D, _, rfl, SqL.of g1, ?_⟩
    rw [all_rep]
    exact q H2 g2
end

theorem tru_str {K : PySem.W.Frag} {H : Hp} {L : Str} (h : 1 ≤ L.length) (h2 : L.length ≤ 26) : TruV K (.str L) H true := by
  refine ⟨Nat.le_of_lt (Nat.lt_of_le_of_lt (show _ ≤ 1000000 by omega) (by decide)), ?_⟩
  have : (L.length : Int) ≠ 0 := by omega
  have h3 : ¬ L.length = 0 := by omega
  simp [h3]
section
variable {P : Program} {w : World} {K : PySem.W.Frag} {mg : Str → Option Value} {base : Heap}
theorem ok__rises_lst (T : Txt K mg) : FnOk P w K mg base CX0 1 T.f__rises T.d__rises ["row"] (sp__rises_lst K) := by
  refine T.F__rises.ok sc__rises (fun vs H Q E h => ?_) (fun cdv A outer s H vs Q E hr h => ?_)
  · obtain ⟨a, g, rfl, _⟩ := h
    rfl
  obtain ⟨a, g, rfl, ha, hR, h100, q⟩ := h
  refine ⟨_, (pss_one (ps_ret (pe_callB (cr_all rfl) (by rfl) T.z_all (by decide +kernel) (pa_cons (pe_lc (own := [("low", 1), ("high", 2)]) (g := gTup K 2 (gCons (gName 1) (gCons (gName 2) gNil))) (tt := tYes) rfl sc__rises.nd (pi_zip (by rfl) T.z_zip (pa_cons (pv 0) (pa_cons (pe_slice sl_list (pv 0) (po_some pe_int) po_none) pa_nil))) (blkOk_by (own := [("low", 1), ("high", 2)]) (N := ["row", "low", "high"]) (sc := (defScope s__rises)) (by decide +kernel)) (fun _ _ _ _ _ => (pg_tup rfl (pgs_cons (pg_name (i := 1) sc__rises.nd rfl (Or.inl rfl)) (pgs_cons (pg_name (i := 2) sc__rises.nd rfl (Or.inl rfl)) pgs_nil)))) (fun _ _ _ _ _ => pts_nil) (fun _ _ _ _ _ => (pe_cmpR op_lt (pv 1) (pv 2) (nomark _)))) pa_nil)))), ?_⟩
  have hcut : cutV (g.map nI) (some 1) none = (g.drop 1).map nI := by
    cases g with
    | nil => rfl
    | cons x r => rw [List.map_cons, cut1]; rfl
  refine ⟨_, rfl, _, rfl, 1, rfl, a, _, rfl, SqL.of ha, fun p hp => ?_⟩
  rw [hcut]
  have sp := same_new (o := .lst ((g.drop 1).map nI)) hp
  have kp := upd_same (H := H) (a := p) (o := .lst ((g.drop 1).map nI))
  have ka := sp _ _ ha
  generalize upd H p (.lst ((g.drop 1).map nI)) = H1 at *
  refine ⟨a, p, _, _, rfl, SqL.of ka, SqL.of kp, fun D hD => ?_⟩
  refine lc_it (n := g.length - 1) (walk_zip (K := K) (a := a) (b := p) (xs := g.map nI) (ys := (g.drop 1).map nI) (by rw [List.length_map, List.length_map, List.length_drop]; omega)) (fun i H2 => H2 D = some (.lst ((List.replicate i true).map V.bl)) ∧ Same H1 H2) ⟨upd_same, same_new hD⟩ (fun i H2 _ h => ⟨SqL.of (h.2 _ _ ka), SqL.of (h.2 _ _ kp)⟩) ?_ ?_
  · rintro i x H2 H3 hi ⟨g1, g2⟩ ⟨T, u, v, rfl, hT, rfl, hu, hv⟩
    dsimp only at hu hv
    rw [List.getElem?_map] at hu hv
    rw [List.getElem?_drop] at hv
    cases hc : g[i]? with
    | none => rw [hc] at hu; cases hu
    | some c =>
    cases hd : g[1 + i]? with
    | none => rw [hd] at hv; cases hv
    | some d =>
    rw [hc] at hu
    rw [hd] at hv
    cases hu
    cases hv
    have lt : c < d := by
      have h1 := List.getElem?_eq_some_iff.mp hc
      have h2 := List.getElem?_eq_some_iff.mp hd
      have := (List.pairwise_iff_getElem.mp hR) i (1 + i) h1.1 h2.1 (by omega)
      simpa [h1.2, h2.2] using this
    have sT := same_new (o := .tup [nI c, nI d]) hT
    have kT := upd_same (H := H2) (a := T) (o := .tup [nI c, nI d])
    generalize upd H2 T (.tup [nI c, nI d]) = H4 at *
    refine ⟨T, _, rfl, SqT.of kT, rfl, _, _, rfl, _, _, rfl, rfl, rfl, _, rfl, _, rfl, _, _, rfl, rfl, ?_⟩
    have e : decide ((c : Int) < (d : Int)) = true := decide_eq_true (by omega)
    refine ⟨_, sT _ _ g1, ?_, ?_, same_add (g2.trans sT) hD⟩
    · rw [List.length_map, List.length_replicate]
      exact Nat.lt_of_le_of_lt (show _ ≤ 1000000 by omega) (by decide)
    · show (upd H4 D (.lst ((List.replicate i true).map V.bl ++ [V.bl (decide ((c : Int) < (d : Int)))]))) D = _
      rw [upd_same, e, rep_succ, List.map_append]
      rfl
  · rintro H2 ⟨g1, g2⟩
    refine ⟨D, _, rfl, SqL.of g1, ?_⟩
    rw [all_rep]
    exact q H2 (sp.trans g2)
theorem ok_are_letters (T : Txt K mg) : FnOk P w K mg base CX0 2 T.f_are_letters T.d_are_letters ["thing"] sp_are_letters := by
  have G_is_letter : FnOk P w K mg base CX0 1 T.f_is_letter T.d_is_letter ["thing"] sp_is_letter := ok_is_letter T
  have G__rises : FnOk P w K mg base CX0 1 T.f__rises T.d__rises ["row"] sp__rises_str := ok__rises_str T
  refine T.F_are_letters.ok sc_are_letters (fun vs H Q E h => ?_) (fun cdv A outer s H vs Q E hr h => ?_)
  · obtain ⟨L, rfl, _⟩ := h
    rfl
  obtain ⟨L, rfl, hL, hR, q⟩ := h
  refine ⟨_, (pss_cons (ps_if (PW.pt (pw_or (pt_not (pt_val (pe_callB call_isi (by rfl) T.z_isinstance (by decide +kernel) (pa_cons (pv 0) (pa_cons (pe_bltn (v := .ty "str") (by rfl) T.z_str (by decide +kernel) rfl) pa_nil))))) (pw_or1 (pt_not (pt_truth (pv 0) (by intro _; rfl)))))) (pss_one (ps_ret pe_bl)) pss_nil) (pss_one (ps_ret (pe_and (pe_callB (cr_all rfl) (by rfl) T.z_all (by decide +kernel) (pa_cons (pe_lc (own := [("sign", 1)]) (g := gName 1) (tt := tYes) rfl sc_are_letters.nd (pi_str (pv 0)) (blkOk_by (own := [("sign", 1)]) (N := ["thing", "sign"]) (sc := (defScope s_are_letters)) (by decide +kernel)) (fun _ _ _ _ _ => (pg_name (i := 1) sc_are_letters.nd rfl (Or.inl rfl))) (fun _ _ _ _ _ => pts_nil) (fun _ _ _ _ _ => (pe_call G_is_letter (hr.mono (by omega)) (by rfl) T.m_is_letter T.F_is_letter.kp T.b_is_letter .nil pass0 (pa_cons (pv 1) pa_nil)))) pa_nil)) (pe_one (pe_call G__rises (hr.mono (by omega)) (by rfl) T.m__rises T.F__rises.kp T.b__rises .nil pass0 (pa_cons (pv 0) pa_nil))))))), ?_⟩
  have lsz : L.cps.size = L.cps.toList.length := (Array.length_toList).symm
  have l26 : L.cps.toList.length ≤ 26 := by rw [← lsz]; exact hL.2.1
  refine ⟨_, rfl, _, _, _, _, true, rfl, .ty "str", .base (.str _), kit_ty (by decide +kernel), _, rfl, iteF ?_⟩
  refine ⟨_, rfl, true, tru_str hL.1 hL.2.1, iteF ?_⟩
  refine ⟨_, rfl, L, rfl, fun D hD => ?_⟩
  refine lc_it (n := L.cps.size) walk_str (fun i H2 => H2 D = some (.lst ((List.replicate i true).map V.bl)) ∧ Same H H2) ⟨upd_same, same_new hD⟩ (fun _ _ _ _ => trivial) ?_ ?_
  · rintro i x H2 H3 hi ⟨g1, g2⟩ ⟨rfl, c, hc, rfl⟩
    have hm := hL.2.2 c (by have := Array.getElem?_eq_some_iff.mp hc; rw [← this.2]; exact Array.mem_toList_iff.mpr (Array.getElem_mem this.1))
    refine ⟨rfl, _, rfl, c, rfl, hm.1, hm.2, _, g1, ?_, ?_, same_add g2 hD⟩
    · rw [List.length_map, List.length_replicate]
      exact Nat.lt_of_le_of_lt (show _ ≤ 1000000 by omega) (by decide)
    · rw [upd_same, rep_succ, List.map_append]
      rfl
  · rintro H2 ⟨g1, g2⟩
    refine ⟨D, _, rfl, SqL.of g1, ?_⟩
    rw [all_rep]
    exact ⟨_, rfl, iteT ⟨_, rfl, L, rfl, hL, hR, fun H3 s3 => q H3 (g2.trans s3)⟩⟩
theorem ok_are_rising_states (T : Txt K mg) : FnOk P w K mg base CX0 3 T.f_are_rising_states T.d_are_rising_states ["thing", "states"] sp_are_rising_states := by
  have G_is_whole_within : FnOk P w K mg base CX0 2 T.f_is_whole_within T.d_is_whole_within ["thing", "low", "high"] sp_is_whole_within := ok_is_whole_within T
  have G__rises : FnOk P w K mg base CX0 1 T.f__rises T.d__rises ["row"] (sp__rises_lst K) := ok__rises_lst T
  refine T.F_are_rising_states.ok sc_are_rising_states (fun vs H Q E h => ?_) (fun cdv A outer s H vs Q E hr h => ?_)
  · obtain ⟨a, g, n, rfl, _⟩ := h
    rfl
  obtain ⟨a, g, n, rfl, ha, hR, h100, hn, q⟩ := h
  refine ⟨_, (pss_cons (ps_if (pt_not (pt_val (pe_callB call_isi (by rfl) T.z_isinstance (by decide +kernel) (pa_cons (pv 0) (pa_cons (pe_bltn (v := .ty "list") (by rfl) T.z_list (by decide +kernel) rfl) pa_nil))))) (pss_one (ps_ret pe_bl)) pss_nil) (pss_one (ps_ret (pe_and (pe_callB (cr_all rfl) (by rfl) T.z_all (by decide +kernel) (pa_cons (pe_lc (own := [("state", 2)]) (g := gName 2) (tt := tYes) rfl sc_are_rising_states.nd (pi_list (pv 0)) (blkOk_by (own := [("state", 2)]) (N := ["thing", "states", "state"]) (sc := (defScope s_are_rising_states)) (by decide +kernel)) (fun _ _ _ _ _ => (pg_name (i := 2) sc_are_rising_states.nd rfl (Or.inl rfl))) (fun _ _ _ _ _ => pts_nil) (fun _ _ _ _ _ => (pe_call G_is_whole_within (hr.mono (by omega)) (by rfl) T.m_is_whole_within T.F_is_whole_within.kp T.b_is_whole_within .nil pass0 (pa_cons (pv 2) (pa_cons pe_int (pa_cons (pe_op op_sub (pv 1) pe_int) pa_nil)))))) pa_nil)) (pe_one (pe_call G__rises (hr.mono (by omega)) (by rfl) T.m__rises T.F__rises.kp T.b__rises .nil pass0 (pa_cons (pv 0) pa_nil))))))), ?_⟩
  refine ⟨_, rfl, _, _, _, _, true, rfl, .ty "list", .base (.lst ha), kit_ty (by decide +kernel), _, rfl, iteF ?_⟩
  refine ⟨_, rfl, a, rfl, ⟨_, SqL.of ha⟩, fun D hD => ?_⟩
  refine lc_list (xs := g.map nI) (fun i H2 => H2 D = some (.lst ((List.replicate i true).map V.bl)) ∧ Same H H2) ⟨upd_same, same_new hD⟩ (fun i H2 _ ⟨_, s⟩ => SqL.of (s _ _ ha)) ?_ ?_
  · rintro i x H2 hx ⟨g1, g2⟩
    rw [List.getElem?_map] at hx
    cases hc : g[i]? with
    | none => rw [hc] at hx; cases hx
    | some z =>
    rw [hc] at hx
    cases hx
    have hz := hn z (List.mem_of_getElem? hc)
    have hi := (List.getElem?_eq_some_iff.mp hc).1
    refine ⟨rfl, _, rfl, _, rfl, _, _, rfl, rfl, z, 0, n - 1, rfl, by omega, by omega, _, g1, ?_, ?_, same_add g2 hD⟩
    · rw [List.length_map, List.length_replicate]
      exact Nat.lt_of_le_of_lt (show _ ≤ 1000000 by omega) (by decide)
    · rw [upd_same, rep_succ, List.map_append]
      rfl
  · rintro H2 ⟨g1, g2⟩
    refine ⟨D, _, rfl, SqL.of g1, ?_⟩
    rw [all_rep]
    exact ⟨_, rfl, iteT ⟨_, rfl, a, g, rfl, g2 _ _ ha, hR, h100, fun H3 s3 => q H3 (g2.trans s3)⟩⟩
end

/- may_have_table of letters and numbers within a judge's bounds: whether the tuples due are not too many. -/
def sp_may_have_table : Sp := fun vs H Q _ => ∃ (L : Str) (n few turn : Nat), vs = [.str L, nI n, nI few, nI turn] ∧ Lets L ∧ Rises L ∧ 1 ≤ n ∧ n ≤ 6 ∧ few ≤ 4 ∧ 1 ≤ turn ∧ turn ≤ 4 ∧ ∀ H', Same H H' → Q (.bl (decide (L.length * (few + turn) ^ n ≤ 600))) H'
section
variable {P : Program} {w : World} {K : PySem.W.Frag} {mg : Str → Option Value} {base : Heap}
theorem ok_may_have_table (T : Txt K mg) : FnOk P w K mg base CX0 4 T.f_may_have_table T.d_may_have_table ["letters", "states", "few", "turn"] sp_may_have_table := by
  have G_are_letters : FnOk P w K mg base CX0 2 T.f_are_letters T.d_are_letters ["thing"] sp_are_letters := ok_are_letters T
  have G_is_whole_within : FnOk P w K mg base CX0 2 T.f_is_whole_within T.d_is_whole_within ["thing", "low", "high"] sp_is_whole_within := ok_is_whole_within T
  have G_tuples_due : FnOk P w K mg base CX0 1 T.f_tuples_due T.d_tuples_due ["letters", "states", "classes"] sp_tuples_due := ok_tuples_due T
  refine T.F_may_have_table.ok sc_may_have_table (fun vs H Q E h => ?_) (fun cdv A outer s H vs Q E hr h => ?_)
  · obtain ⟨L, n, few, turn, rfl, _⟩ := h
    rfl
  obtain ⟨L, n, few, turn, rfl, hL, hR, n1, n6, f4, t1, t4, q⟩ := h
  refine ⟨_, (pss_cons (ps_if (PW.pt (pw_or (pt_not (pt_val (pe_call G_are_letters (hr.mono (by omega)) (by rfl) T.m_are_letters T.F_are_letters.kp T.b_are_letters .nil pass0 (pa_cons (pv 0) pa_nil)))) (pw_or1 (pt_not (pt_val (pe_call G_is_whole_within (hr.mono (by omega)) (by rfl) T.m_is_whole_within T.F_is_whole_within.kp T.b_is_whole_within .nil pass0 (pa_cons (pv 1) (pa_cons pe_int (pa_cons (pe_glob (v := .int (6)) rfl T.g_MOST_STATES ⟨_, rfl⟩) pa_nil))))))))) (pss_one (ps_ret pe_bl)) pss_nil) (pss_cons (ps_if (PW.pt (pw_or (pt_not (pt_val (pe_call G_is_whole_within (hr.mono (by omega)) (by rfl) T.m_is_whole_within T.F_is_whole_within.kp T.b_is_whole_within .nil pass0 (pa_cons (pv 2) (pa_cons pe_int (pa_cons (pe_glob (v := .int (4)) rfl T.g_MOST_FEW ⟨_, rfl⟩) pa_nil)))))) (pw_or1 (pt_not (pt_val (pe_call G_is_whole_within (hr.mono (by omega)) (by rfl) T.m_is_whole_within T.F_is_whole_within.kp T.b_is_whole_within .nil pass0 (pa_cons (pv 3) (pa_cons pe_int (pa_cons (pe_glob (v := .int (4)) rfl T.g_MOST_TURN ⟨_, rfl⟩) pa_nil))))))))) (pss_one (ps_ret pe_bl)) pss_nil) (pss_one (ps_ret (pe_cmpR op_le (pe_call G_tuples_due (hr.mono (by omega)) (by rfl) T.m_tuples_due T.F_tuples_due.kp T.b_tuples_due .nil pass0 (pa_cons (pv 0) (pa_cons (pv 1) (pa_cons (pe_op op_add (pv 2) (pv 3)) pa_nil)))) (pe_glob (v := .int (600)) rfl T.g_MOST_TUPLES ⟨_, rfl⟩) (nomark _)))))), ?_⟩
  refine ⟨_, rfl, L, rfl, hL, hR, fun H1 s1 => ⟨_, rfl, iteF ?_⟩⟩
  refine ⟨_, rfl, n, 1, 6, rfl, by omega, by omega, _, rfl, iteF ?_⟩
  refine ⟨_, rfl, few, 0, 4, rfl, by omega, by omega, _, rfl, iteF ?_⟩
  refine ⟨_, rfl, turn, 1, 4, rfl, by omega, by omega, _, rfl, iteF ?_⟩
  refine ⟨_, rfl, _, rfl, _, rfl, _, rfl, _, _, rfl, rfl, L, n, few + turn, rfl, hL.2.1, n6, by omega, ?_⟩
  have e : decide (((L.length * (few + turn) ^ n : Nat) : Int) ≤ 600) = decide (L.length * (few + turn) ^ n ≤ 600) := by
    by_cases h : L.length * (few + turn) ^ n ≤ 600
    · rw [decide_eq_true h, decide_eq_true (by omega)]
    · rw [decide_eq_false h, decide_eq_false (by omega)]
  have q1 := q H1 s1
  rw [← e] at q1
  exact ⟨_, _, rfl, rfl, q1⟩
end

def sp__is_key : Sp := fun vs H Q _ => ∃ (b a : Addr) (L : Str) (n k c : Nat) (row : List Nat), vs = [.ref b, .str L, nI n, nI k] ∧ H b = some (.tup [.str (ch c), .ref a]) ∧ H a = some (.tup (row.map nI)) ∧ Lets L ∧ c ∈ L.cps.toList ∧ row.length = n ∧ n ≤ 6 ∧ (∀ x ∈ row, x < k) ∧ ∀ H', Same H H' → Q (.bl true) H'
def sp__is_table (P : Program) (w : World) : Sp := fun vs H Q _ => ∃ (d : Addr) (L : Str) (n k : Nat) (xs : List NRow) (keys : List (Nat × List Nat)) (fs : Nat → List Nat → Nat), vs = [.ref d, .str L, nI n, nI k] ∧ H d = some (DictN P w d xs) ∧ RowsN H xs ∧ RowsJ xs keys fs ∧ keys.Perm (keysOf L n k) ∧ Lets L ∧ n ≤ 6 ∧ k ≤ 20 ∧ L.length * k ^ n ≤ 600 ∧ (∀ key ∈ keysOf L n k, fs key.1 key.2 < n) ∧ ∀ H', Same H H' → Q (.bl true) H'
def sp_is_judge (P : Program) (w : World) : Sp := fun vs H Q _ => ∃ (j d g : Addr) (L : Str) (n few turn : Nat) (xs : List NRow) (keys : List (Nat × List Nat)) (fs : Nat → List Nat → Nat) (good : List Nat), vs = [.ref j] ∧ H j = some (.tup [.str L, nI n, nI few, nI turn, .ref d, .ref g]) ∧ H d = some (DictN P w d xs) ∧ RowsN H xs ∧ RowsJ xs keys fs ∧ keys.Perm (keysOf L n (few + turn)) ∧ Lets L ∧ Rises L ∧ 1 ≤ n ∧ n ≤ 6 ∧ few ≤ 4 ∧ 1 ≤ turn ∧ turn ≤ 4 ∧ L.length * (few + turn) ^ n ≤ 600 ∧
  (∀ key ∈ keysOf L n (few + turn), fs key.1 key.2 < n) ∧ H g = some (.lst (good.map nI)) ∧ good.Pairwise (· < ·) ∧ good.length ≤ 100 ∧ (∀ x ∈ good, x < n) ∧ ∀ H', Same H H' → Q (.bl true) H'
section
variable {P : Program} {w : World} {K : PySem.W.Frag} {mg : Str → Option Value} {base : Heap}
theorem ok__is_key (T : Txt K mg) : FnOk P w K mg base CX0 3 T.f__is_key T.d__is_key ["thing", "letters", "states", "classes"] sp__is_key := by
  have G_is_letter : FnOk P w K mg base CX0 1 T.f_is_letter T.d_is_letter ["thing"] sp_is_letter := ok_is_letter T
  have G_is_whole_within : FnOk P w K mg base CX0 2 T.f_is_whole_within T.d_is_whole_within ["thing", "low", "high"] sp_is_whole_within := ok_is_whole_within T
  refine T.F__is_key.ok sc__is_key (fun vs H Q E h => ?_) (fun cdv A outer s H vs Q E hr h => ?_)
  · obtain ⟨b, a, L, n, k, c, row, rfl, _⟩ := h
    rfl
  obtain ⟨b, a, L, n, k, c, row, rfl, hb, ha, hL, hc, hl, h6, hk, q⟩ := h
  refine ⟨_, (pss_cons (ps_if (PW.pt (pw_or (pt_not (pt_val (pe_callB call_isi (by rfl) T.z_isinstance (by decide +kernel) (pa_cons (pv 0) (pa_cons (pe_bltn (v := .ty "tuple") (by rfl) T.z_tuple (by decide +kernel) rfl) pa_nil))))) (pw_or1 (pt_cmpR op_ne (pe_callB call_len_seq (by rfl) T.z_len PySem.boot_len (pa_cons (pv 0) pa_nil)) pe_int (nomark _))))) (pss_one (ps_ret pe_bl)) pss_nil) (pss_cons (ps_asg (pv 0) (pg_tup rfl (pgs_cons (pg_name (i := 4) sc__is_key.nd rfl (Or.inl rfl)) (pgs_cons (pg_name (i := 5) sc__is_key.nd rfl (Or.inl rfl)) pgs_nil)))) (pss_cons (ps_if (PW.pt (pw_or (pt_not (pt_val (pe_call G_is_letter (hr.mono (by omega)) (by rfl) T.m_is_letter T.F_is_letter.kp T.b_is_letter .nil pass0 (pa_cons (pv 4) pa_nil)))) (pw_or1 (pt_cmpR op_notInS (pv 4) (pv 1) (by rfl))))) (pss_one (ps_ret pe_bl)) pss_nil) (pss_cons (ps_if (PW.pt (pw_or (pt_not (pt_val (pe_callB call_isi (by rfl) T.z_isinstance (by decide +kernel) (pa_cons (pv 5) (pa_cons (pe_bltn (v := .ty "tuple") (by rfl) T.z_tuple (by decide +kernel) rfl) pa_nil))))) (pw_or1 (pt_cmpR op_ne (pe_callB call_len_seq (by rfl) T.z_len PySem.boot_len (pa_cons (pv 5) pa_nil)) (pv 2) (nomark _))))) (pss_one (ps_ret pe_bl)) pss_nil) (pss_one (ps_ret (pe_callB (cr_all rfl) (by rfl) T.z_all (by decide +kernel) (pa_cons (pe_lc (own := [("number", 6)]) (g := gName 6) (tt := tYes) rfl sc__is_key.nd (pi_tup (pv 5)) (blkOk_by (own := [("number", 6)]) (N := ["thing", "letters", "states", "classes", "letter", "row", "number"]) (sc := (defScope s__is_key)) (by decide +kernel)) (fun _ _ _ _ _ => (pg_name (i := 6) sc__is_key.nd rfl (Or.inl rfl))) (fun _ _ _ _ _ => pts_nil) (fun _ _ _ _ _ => (pe_call G_is_whole_within (hr.mono (by omega)) (by rfl) T.m_is_whole_within T.F_is_whole_within.kp T.b_is_whole_within .nil pass0 (pa_cons (pv 6) (pa_cons pe_int (pa_cons (pe_op op_sub (pv 3) pe_int) pa_nil)))))) pa_nil)))))))), ?_⟩
  have hm := hL.2.2 c hc
  refine ⟨_, rfl, _, _, _, _, true, rfl, .ty "tuple", .base (.tup hb), kit_ty (by decide +kernel), _, rfl, iteF ?_⟩
  refine ⟨_, rfl, b, _, rfl, .inr (SqT.of hb), rfl, _, rfl, neS rfl ?_⟩
  refine ⟨_, rfl, b, _, rfl, SqT.of hb, rfl, _, _, rfl, _, _, rfl, rfl, ?_⟩
  refine ⟨_, rfl, c, rfl, hm.1, hm.2, _, rfl, iteF ?_⟩
  refine ⟨_, rfl, _, rfl, c, L, rfl, rfl, _, rfl, ?_⟩
  rw [decide_eq_true hc]
  refine iteF ?_
  refine ⟨_, rfl, _, _, _, _, true, rfl, .ty "tuple", .base (.tup ha), kit_ty (by decide +kernel), _, rfl, iteF ?_⟩
  refine ⟨_, rfl, a, _, rfl, .inr (SqT.of ha), _, rfl, rfl, _, rfl, neS (by rw [List.length_map, hl]) ?_⟩
  refine ⟨_, rfl, a, rfl, ⟨_, SqT.of ha⟩, fun D hD => ?_⟩
  refine lc_tup (xs := row.map nI) (fun i H2 => H2 D = some (.lst ((List.replicate i true).map V.bl)) ∧ Same H H2) ⟨upd_same, same_new hD⟩ (fun i H2 _ ⟨_, s⟩ => SqT.of (s _ _ ha)) ?_ ?_
  · rintro i x H2 hx ⟨g1, g2⟩
    rw [List.getElem?_map] at hx
    cases hz : row[i]? with
    | none => rw [hz] at hx; cases hx
    | some z =>
    rw [hz] at hx
    cases hx
    have hk1 := hk z (List.mem_of_getElem? hz)
    have hi := (List.getElem?_eq_some_iff.mp hz).1
    refine ⟨rfl, _, rfl, _, rfl, _, _, rfl, rfl, z, 0, k - 1, rfl, by omega, by omega, _, g1, ?_, ?_, same_add g2 hD⟩
    · rw [List.length_map, List.length_replicate]
      exact Nat.lt_of_le_of_lt (show _ ≤ 1000000 by omega) (by decide)
    · rw [upd_same, rep_succ, List.map_append]
      rfl
  · rintro H2 ⟨g1, g2⟩
    refine ⟨D, _, rfl, SqL.of g1, ?_⟩
    rw [all_rep]
    exact q H2 g2
theorem ok__is_table (T : Txt K mg) : FnOk P w K mg base CX0 4 T.f__is_table T.d__is_table ["thing", "letters", "states", "classes"] (sp__is_table P w) := by
  have G_tuples_due : FnOk P w K mg base CX0 1 T.f_tuples_due T.d_tuples_due ["letters", "states", "classes"] sp_tuples_due := ok_tuples_due T
  have G__is_key : FnOk P w K mg base CX0 3 T.f__is_key T.d__is_key ["thing", "letters", "states", "classes"] sp__is_key := ok__is_key T
  have G_is_whole_within : FnOk P w K mg base CX0 2 T.f_is_whole_within T.d_is_whole_within ["thing", "low", "high"] sp_is_whole_within := ok_is_whole_within T
  refine T.F__is_table.ok sc__is_table (fun vs H Q E h => ?_) (fun cdv A outer s H vs Q E hr h => ?_)
  · obtain ⟨d, L, n, k, xs, keys, fs, rfl, _⟩ := h
    rfl
  obtain ⟨d, L, n, k, xs, keys, fs, rfl, hd, hrn, hrj, hper, hL, h6, k20, h600, hfs, q⟩ := h
  refine ⟨_, (pss_cons (ps_if (PW.pt (pw_or (pt_not (pt_val (pe_callB call_isN (by rfl) T.z_isinstance (by decide +kernel) (pa_cons (pv 0) (pa_cons (pe_bltn (v := .ty "dict") (by rfl) T.z_dict (by decide +kernel) rfl) pa_nil))))) (pw_or1 (pt_cmpR op_ne (pe_callB call_lenN (by rfl) T.z_len PySem.boot_len (pa_cons (pv 0) pa_nil)) (pe_call G_tuples_due (hr.mono (by omega)) (by rfl) T.m_tuples_due T.F_tuples_due.kp T.b_tuples_due .nil pass0 (pa_cons (pv 1) (pa_cons (pv 2) (pa_cons (pv 3) pa_nil)))) (nomark _))))) (pss_one (ps_ret pe_bl)) pss_nil) (pss_cons (ps_lock (ps_for PassesOwn.never rfl (pi_itemsN (pv 0)) (pg_tup rfl (pgs_cons (pg_name (i := 4) sc__is_table.nd rfl (Or.inl rfl)) (pgs_cons (pg_name (i := 5) sc__is_table.nd rfl (Or.inl rfl)) pgs_nil))) (pss_one (ps_if (PW.pt (pw_or (pt_not (pt_val (pe_call G__is_key (hr.mono (by omega)) (by rfl) T.m__is_key T.F__is_key.kp T.b__is_key .nil pass0 (pa_cons (pv 4) (pa_cons (pv 1) (pa_cons (pv 2) (pa_cons (pv 3) pa_nil))))))) (pw_or1 (pt_not (pt_val (pe_call G_is_whole_within (hr.mono (by omega)) (by rfl) T.m_is_whole_within T.F_is_whole_within.kp T.b_is_whole_within .nil pass0 (pa_cons (pv 5) (pa_cons pe_int (pa_cons (pe_op op_sub (pv 2) pe_int) pa_nil))))))))) (pss_one (ps_ret pe_bl)) pss_nil)))) (pss_one (ps_ret pe_bl)))), ?_⟩
  have lk : xs.length = L.length * k ^ n := by rw [Paired.length hrj, hper.length_eq, keysOf_len]
  refine ⟨_, rfl, d, xs, _, _, true, rfl, hd, .ty "dict", kit_ty (by decide +kernel), _, rfl, iteF ?_⟩
  refine ⟨_, rfl, d, xs, rfl, hd, hrn, _, rfl, _, rfl, _, rfl, L, n, k, rfl, hL.2.1, h6, k20, rfl, _, rfl, neS (by rw [lk]) ?_⟩
  refine ⟨d, _, hd, trivial, fun od => ?_⟩
  refine ⟨_, rfl, d, od, xs, rfl, upd_same, ?_⟩
  have base0 : FrD d H (upd H d (.frz od (DictN P w d xs))) := fun b o ne e => by rw [upd_ne ne]; exact e
  refine for_it walk_itemsN (fun i σ H' => (∃ y5 y6, σ = [some (.ref d), some (.str L), some (nI n), some (nI k), y5, y6]) ∧ H' d = some (.frz od (DictN P w d xs)) ∧ FrD d H H') ⟨⟨_, _, rfl⟩, upd_same, base0⟩ (fun i σ H' _ h => h.2.1) ?_ ?_
  · rintro i x σ H2 H3 hi ⟨⟨y5, y6, rfl⟩, g1, g2⟩ ⟨p, row, hrow, rfl, hp, rfl⟩
    obtain ⟨⟨c, rw0⟩, hkey, e1, e2⟩ := prd_at hrj hrow
    have hm := hper.mem_iff.mp (List.mem_of_getElem? hkey)
    obtain ⟨hc, hlen, hkk⟩ := keysOf_mem hm
    have hv : fs c rw0 < n := hfs _ hm
    obtain ⟨hn1, _⟩ := hrn row (List.mem_of_getElem? hrow)
    rw [e1] at hn1
    obtain ⟨a, kb, ka⟩ := nk_inv hn1
    have ntup : ∀ (q : Addr) (ys : List V), H q = some (.tup ys) → q ≠ d := fun q ys e z => by rw [z, hd] at e; unfold DictN at e; cases e
    have sp := same_new (o := .tup [.ref row.2.1, row.2.2]) hp
    have kp := upd_same (H := H2) (a := p) (o := .tup [.ref row.2.1, row.2.2])
    have g1' := sp _ _ g1
    generalize upd H2 p (.tup [.ref row.2.1, row.2.2]) = H4 at *
    rw [e2] at kp
    refine ⟨p, _, rfl, SqT.of kp, rfl, _, _, rfl, _, _, rfl, rfl, ?_⟩
    have G4 : FrD d H H4 := fun b o ne e => sp _ _ (g2 b o ne e)
    refine ⟨_, rfl, _, rfl, _, rfl, _, rfl, row.2.1, a, L, n, k, c, rw0, rfl, G4 _ _ (ntup _ _ kb) kb, G4 _ _ (ntup _ _ ka) ka, hL, hc, hlen, h6, hkk, fun H5 s5 => ⟨_, rfl, iteF ?_⟩⟩
    refine ⟨_, rfl, _, rfl, _, _, rfl, rfl, fs c rw0, 0, n - 1, rfl, by omega, by omega, _, rfl, iteF ?_⟩
    exact ⟨⟨_, _, rfl⟩, s5 _ _ g1', fun b o ne e => s5 _ _ (G4 b o ne e)⟩
  · rintro σ H2 ⟨⟨y5, y6, rfl⟩, g1, g2⟩
    refine ⟨g1, q _ fun b o e => ?_⟩
    by_cases hb : b = d
    · rw [hb, upd_same, ← e, hb]; exact hd.symm
    · rw [upd_ne hb]; exact g2 b o hb e
theorem ok_is_judge (T : Txt K mg) : FnOk P w K mg base CX0 5 T.f_is_judge T.d_is_judge ["thing"] (sp_is_judge P w) := by
  have G_may_have_table : FnOk P w K mg base CX0 4 T.f_may_have_table T.d_may_have_table ["letters", "states", "few", "turn"] sp_may_have_table := ok_may_have_table T
  have G__is_table : FnOk P w K mg base CX0 4 T.f__is_table T.d__is_table ["thing", "letters", "states", "classes"] (sp__is_table P w) := ok__is_table T
  have G_are_rising_states : FnOk P w K mg base CX0 3 T.f_are_rising_states T.d_are_rising_states ["thing", "states"] sp_are_rising_states := ok_are_rising_states T
  refine T.F_is_judge.ok sc_is_judge (fun vs H Q E h => ?_) (fun cdv A outer s H vs Q E hr h => ?_)
  · obtain ⟨j, d, g, L, n, few, turn, xs, keys, fs, good, rfl, _⟩ := h
    rfl
  obtain ⟨j, d, g, L, n, few, turn, xs, keys, fs, good, rfl, hj, hd, hrn, hrj, hper, hL, hR, n1, n6, f4, t1, t4, h600, hfs, hg, hup, h100, hgn, q⟩ := h
  refine ⟨_, (pss_cons (ps_if (PW.pt (pw_or (pt_not (pt_val (pe_callB call_isi (by rfl) T.z_isinstance (by decide +kernel) (pa_cons (pv 0) (pa_cons (pe_bltn (v := .ty "tuple") (by rfl) T.z_tuple (by decide +kernel) rfl) pa_nil))))) (pw_or1 (pt_cmpR op_ne (pe_callB call_len_seq (by rfl) T.z_len PySem.boot_len (pa_cons (pv 0) pa_nil)) pe_int (nomark _))))) (pss_one (ps_ret pe_bl)) pss_nil) (pss_cons (ps_asg (pv 0) (pg_tup rfl (pgs_cons (pg_name (i := 1) sc_is_judge.nd rfl (Or.inl rfl)) (pgs_cons (pg_name (i := 2) sc_is_judge.nd rfl (Or.inl rfl)) (pgs_cons (pg_name (i := 3) sc_is_judge.nd rfl (Or.inl rfl)) (pgs_cons (pg_name (i := 4) sc_is_judge.nd rfl (Or.inl rfl)) (pgs_cons (pg_name (i := 5) sc_is_judge.nd rfl (Or.inl rfl)) (pgs_cons (pg_name (i := 6) sc_is_judge.nd rfl (Or.inl rfl)) pgs_nil)))))))) (pss_cons (ps_if (pt_not (pt_val (pe_call G_may_have_table (hr.mono (by omega)) (by rfl) T.m_may_have_table T.F_may_have_table.kp T.b_may_have_table .nil pass0 (pa_cons (pv 1) (pa_cons (pv 2) (pa_cons (pv 3) (pa_cons (pv 4) pa_nil))))))) (pss_one (ps_ret pe_bl)) pss_nil) (pss_one (ps_ret (pe_and (pe_call G__is_table (hr.mono (by omega)) (by rfl) T.m__is_table T.F__is_table.kp T.b__is_table .nil pass0 (pa_cons (pv 5) (pa_cons (pv 1) (pa_cons (pv 2) (pa_cons (pe_op op_add (pv 3) (pv 4)) pa_nil))))) (pe_one (pe_call G_are_rising_states (hr.mono (by omega)) (by rfl) T.m_are_rising_states T.F_are_rising_states.kp T.b_are_rising_states .nil pass0 (pa_cons (pv 6) (pa_cons (pv 2) pa_nil)))))))))), ?_⟩
  refine ⟨_, rfl, _, _, _, _, true, rfl, .ty "tuple", .base (.tup hj), kit_ty (by decide +kernel), _, rfl, iteF ?_⟩
  refine ⟨_, rfl, j, _, rfl, .inr (SqT.of hj), rfl, _, rfl, neS rfl ?_⟩
  refine ⟨_, rfl, j, _, rfl, SqT.of hj, rfl, _, _, rfl, _, _, rfl, _, _, rfl, _, _, rfl, _, _, rfl, _, _, rfl, rfl, ?_⟩
  refine ⟨_, rfl, _, rfl, _, rfl, _, rfl, L, n, few, turn, rfl, hL, hR, n1, n6, f4, t1, t4, fun H1 s1 => ?_⟩
  rw [decide_eq_true h600]
  refine ⟨_, rfl, iteF ?_⟩
  refine ⟨_, rfl, _, rfl, _, rfl, _, rfl, _, rfl, _, _, rfl, rfl, d, L, n, few + turn, xs, keys, fs, rfl, s1 _ _ hd, hrn.keep fun b ys e => s1 _ _ e, hrj, hper, hL, n6, by omega, h600, hfs, fun H2 s2 => ⟨_, rfl, iteT ?_⟩⟩
  have s12 := s1.trans s2
  exact ⟨_, rfl, _, rfl, g, good, n, rfl, s12 _ _ hg, hup, h100, hgn, fun H3 s3 => q H3 (s12.trans s3)⟩
end


def wordsJ (J : JD) : List Str := [J.L, toString ((J.n : Nat) : Int), toString ((J.few : Nat) : Int), toString ((J.turn : Nat) : Int), gtx J.good, ⟨(figC J J.L.cps.toList).toArray⟩]
def NewJ (P : Program) (w : World) (H H' : Hp) (v : V) (J : JD) : Prop := ∃ (j d g : Addr) (xs : List NRow), v = .ref j ∧ H j = none ∧ H d = none ∧ H g = none ∧ d ≠ g ∧ H' j = some (.tup [.str J.L, nI J.n, nI J.few, nI J.turn, .ref d, .ref g]) ∧ H' d = some (DictN P w d xs) ∧ RowsN H' xs ∧ RowsJ xs J.keys J.fs ∧ H' g = some (.lst (J.good.map nI))
def sp__judge_read (P : Program) (w : World) : Sp := fun vs H Q _ => ∃ (r : Addr) (J : JD), vs = [.ref r] ∧ H r = some (.lst ((wordsJ J).map V.str)) ∧ J.ok ∧ Rises J.L ∧ ∀ v H', Same H H' → NewJ P w H H' v J → Q v H'
theorem rows_of {H : Hp} {fs : Nat → List Nat → Nat} : ∀ {bs : List Addr} {keys : List (Nat × List Nat)}, KeysAt H bs keys → ∃ ps : List NRow, ps.map (fun p => V.ref p.2.1) = bs.map V.ref ∧ ps.map (fun p => p.2.2) = keys.map (fun key => nI (fs key.1 key.2)) ∧ RowsN H ps ∧ RowsJ ps keys fs ∧ ps.map (·.1) = keys.map fun key => keyN key.1 key.2 := by
  intro bs keys h
  unfold KeysAt at h
  induction h with
  | nil => exact ⟨[], rfl, rfl, (fun x h => by cases h), .nil, rfl⟩
  | @cons b key bs keys h1 h2 ih =>
    obtain ⟨ps, a1, a2, a3, a4, a5⟩ := ih
    obtain ⟨a, kb, ka⟩ := h1
    refine ⟨(keyN key.1 key.2, b, nI (fs key.1 key.2)) :: ps, by rw [List.map_cons, List.map_cons, a1], by rw [List.map_cons, List.map_cons, a2], ?_, .cons ⟨rfl, rfl⟩ a4, by rw [List.map_cons, List.map_cons, a5]⟩
    intro x hx
    rcases List.mem_cons.mp hx with rfl | hx
    · exact ⟨nk_key kb ka, keyN_depth _ _⟩
    · exact a3 x hx
theorem keysN_nd {L : Str} (h : Rises L) (n k : Nat) : ((keysOf L n k).map fun key => keyN key.1 key.2).Nodup := by
  unfold List.Nodup
  rw [List.pairwise_map]
  refine (keysOf_nd h n k).imp fun {a b} hab e => hab ?_
  obtain ⟨e1, e2⟩ := keyN_inj e
  exact Prod.ext e1 e2
theorem gtx_ne {gs : List Nat} (h : gs ≠ []) (hg : ∀ g ∈ gs, g < 7) : gtx gs ≠ Str.ofString "-" ∧ Txt.split (gtx gs) (Str.ofString ",") = gs.map (fun g => ch (48 + g)) := by
  have e : gs.map (fun g => (toString ((g : Nat) : Int) : Str)) = gs.map fun g => ch (48 + g) := List.map_congr_left fun g hm => V.str.inj (digit (hg g hm))
  have es : Txt.split (gtx gs) (Str.ofString ",") = gs.map (fun g => ch (48 + g)) := by
    unfold gtx
    rw [if_neg h, e]
    refine TL.split_join (s := 44) (S := []) (by decide +kernel) (by decide +kernel) (by simpa using h) fun p hp => ?_
    obtain ⟨g, hm, rfl⟩ := List.mem_map.mp hp
    have := hg g hm
    show 44 ∉ [48 + g]
    simp
    omega
  refine ⟨fun z => ?_, es⟩
  rw [z] at es
  cases gs with
  | nil => exact h rfl
  | cons a t =>
    have e2 : Txt.split (Str.ofString "-") (Str.ofString ",") = [Str.ofString "-"] := by decide +kernel
    rw [e2, List.map_cons] at es
    injection es with e3 e4
    have := hg a List.mem_cons_self
    have e5 : (45 : Nat) = 48 + a := ch_inj (show ch 45 = ch (48 + a) from e3)
    omega
section
variable {P : Program} {w : World} {K : PySem.W.Frag} {mg : Str → Option Value} {base : Heap}
theorem ok__judge_read (T : Txt K mg) : FnOk P w K mg base CX0 5 T.f__judge_read T.d__judge_read ["words"] (sp__judge_read P w) := by
  have G__figure : FnOk P w K mg base CX0 1 T.f__figure T.d__figure ["word"] sp__figure := ok__figure T
  have G_may_have_table : FnOk P w K mg base CX0 4 T.f_may_have_table T.d_may_have_table ["letters", "states", "few", "turn"] sp_may_have_table := ok_may_have_table T
  have G_keys_due : FnOk P w K mg base CX0 2 T.f_keys_due T.d_keys_due ["letters", "states", "classes"] sp_keys_due := ok_keys_due T
  refine T.F__judge_read.ok sc__judge_read (fun vs H Q E h => ?_) (fun cdv A outer s H vs Q E hr h => ?_)
  · obtain ⟨r, J, rfl, _⟩ := h
    rfl
  obtain ⟨r, J, rfl, hr1, hok, hR, q⟩ := h
  refine ⟨_, (pss_cons (ps_set (i := 1) sc__judge_read.nd rfl (Or.inl rfl) (pe_ix ix_list (pv 0) pe_int (fun _ _ => rfl))) (pss_cons (ps_asg (pe_lc (own := [("word", 8)]) (g := gName 8) (tt := tYes) rfl sc__judge_read.nd (pi_list (pe_slice sl_list (pv 0) (po_some pe_int) (po_some pe_int))) (blkOk_by (own := [("word", 8)]) (N := ["words", "letters", "states", "few", "turn", "keys", "good", "table", "word", "sign"]) (sc := (defScope s__judge_read)) (by decide +kernel)) (fun _ _ _ _ _ => (pg_name (i := 8) sc__judge_read.nd rfl (Or.inl rfl))) (fun _ _ _ _ _ => pts_nil) (fun _ _ _ _ _ => (pe_call G__figure (hr.mono (by omega)) (by rfl) T.m__figure T.F__figure.kp T.b__figure .nil pass0 (pa_cons (pv 8) pa_nil)))) (pg_unl rfl (pgs_cons (pg_name (i := 2) sc__judge_read.nd rfl (Or.inl rfl)) (pgs_cons (pg_name (i := 3) sc__judge_read.nd rfl (Or.inl rfl)) (pgs_cons (pg_name (i := 4) sc__judge_read.nd rfl (Or.inl rfl)) pgs_nil))))) (pss_cons (ps_if (pt_not (pt_val (pe_call G_may_have_table (hr.mono (by omega)) (by rfl) T.m_may_have_table T.F_may_have_table.kp T.b_may_have_table .nil pass0 (pa_cons (pv 1) (pa_cons (pv 2) (pa_cons (pv 3) (pa_cons (pv 4) pa_nil))))))) (pss_one (ps_ret pe_non)) pss_nil) (pss_cons (ps_set (i := 5) sc__judge_read.nd rfl (Or.inl rfl) (pe_call G_keys_due (hr.mono (by omega)) (by rfl) T.m_keys_due T.F_keys_due.kp T.b_keys_due .nil pass0 (pa_cons (pv 1) (pa_cons (pv 2) (pa_cons (pe_op op_add (pv 3) (pv 4)) pa_nil))))) (pss_cons (ps_if (pt_cmpR op_ne (pe_callB call_len_seq (by rfl) T.z_len PySem.boot_len (pa_cons (pv 5) pa_nil)) (pe_callB call_len_str (by rfl) T.z_len PySem.boot_len (pa_cons (pe_ix ix_list (pv 0) pe_int (fun _ _ => rfl)) pa_nil)) (nomark _)) (pss_one (ps_ret pe_non)) pss_nil) (C8.pss_cut (ps_set (i := 6) sc__judge_read.nd rfl (Or.inl rfl) (pe_ifExp (pt_cmpR op_eq (pe_ix ix_list (pv 0) pe_int (fun _ _ => rfl)) pe_str (nomark _)) (pe_lst pa_nil) (pe_lc (own := [("word", 8)]) (g := gName 8) (tt := tYes) rfl sc__judge_read.nd (pi_list (pe_bm PySem.F.plainAttrs_str PySem.F.slot_str_split PySem.F.type_str_split mt_split (pe_ix ix_list (pv 0) pe_int (fun _ _ => rfl)) (pa_cons pe_str pa_nil))) (blkOk_by (own := [("word", 8)]) (N := ["words", "letters", "states", "few", "turn", "keys", "good", "table", "word", "sign"]) (sc := (defScope s__judge_read)) (by decide +kernel)) (fun _ _ _ _ _ => (pg_name (i := 8) sc__judge_read.nd rfl (Or.inl rfl))) (fun _ _ _ _ _ => pts_nil) (fun _ _ _ _ _ => (pe_call G__figure (hr.mono (by omega)) (by rfl) T.m__figure T.F__figure.kp T.b__figure .nil pass0 (pa_cons (pv 8) pa_nil)))))) (pss_cons (ps_set (i := 7) sc__judge_read.nd rfl (Or.inl rfl) (pe_dictZip rfl (roomZ hr) (by rfl) T.z_dict (by rfl) T.z_zip (pa_cons (pv 5) (pa_cons (pe_lc (own := [("sign", 9)]) (g := gName 9) (tt := tYes) rfl sc__judge_read.nd (pi_str (pe_ix ix_list (pv 0) pe_int (fun _ _ => rfl))) (blkOk_by (own := [("sign", 9)]) (N := ["words", "letters", "states", "few", "turn", "keys", "good", "table", "word", "sign"]) (sc := (defScope s__judge_read)) (by decide +kernel)) (fun _ _ _ _ _ => (pg_name (i := 9) sc__judge_read.nd rfl (Or.inl rfl))) (fun _ _ _ _ _ => pts_nil) (fun _ _ _ _ _ => (pe_call G__figure (hr.mono (by omega)) (by rfl) T.m__figure T.F__figure.kp T.b__figure .nil pass0 (pa_cons (pv 9) pa_nil)))) pa_nil)))) (pss_one (ps_ret (pe_tup (pa_cons (pv 1) (pa_cons (pv 2) (pa_cons (pv 3) (pa_cons (pv 4) (pa_cons (pv 7) (pa_cons (pv 6) pa_nil)))))))))))))))), ?_⟩
  have n6 := hok.n6
  have t1 := hok.t1
  have t4 := hok.t4
  have f4 := hok.f4
  have gn := hok.gn
  have g6 := hok.g6
  have zl := hok.L.2.1
  have figs : ∀ cs : List Nat, (∀ c ∈ cs, c < 7) → cs.map (fun c => V.str (toString ((c : Nat) : Int))) = cs.map fun c => V.str (ch (48 + c)) := fun cs h => List.map_congr_left fun c hc => digit (h c hc)
  refine ⟨_, rfl, r, _, 0, .str J.L, rfl, rfl, SqL.of hr1, at_of (j := 0) rfl rfl, ?_⟩
  refine ⟨_, rfl, _, rfl, _, rfl, r, _, rfl, SqL.of hr1, fun l hl => ?_⟩
  have el : cutV ((wordsJ J).map V.str) (some 1) (some 4) = [J.n, J.few, J.turn].map fun c => V.str (ch (48 + c)) := by
    show [V.str (toString ((J.n : Nat) : Int)), V.str (toString ((J.few : Nat) : Int)), V.str (toString ((J.turn : Nat) : Int))] = _
    rw [digit (by omega), digit (by omega), digit (by omega)]
    rfl
  rw [el]
  have s1 := same_new (o := .lst ([J.n, J.few, J.turn].map fun c => V.str (ch (48 + c)))) hl
  have k1 := upd_same (H := H) (a := l) (o := .lst ([J.n, J.few, J.turn].map fun c => V.str (ch (48 + c))))
  generalize upd H l (.lst ([J.n, J.few, J.turn].map fun c => V.str (ch (48 + c)))) = H1 at *
  have h7 : ∀ c ∈ [J.n, J.few, J.turn], c < 7 := fun c hc => by simp at hc; omega
  refine ⟨l, rfl, ⟨_, SqL.of k1⟩, fun D hD => ?_⟩
  refine lc_list (xs := [J.n, J.few, J.turn].map fun c => V.str (ch (48 + c))) (fun i H' => H' D = some (.lst (([J.n, J.few, J.turn].take i).map nI)) ∧ Same H1 H') ⟨upd_same, same_new hD⟩ (fun i H' _ ⟨_, s⟩ => SqL.of (s _ _ k1)) ?_ ?_
  · rintro i x H3 hx ⟨g1, g2⟩
    rw [List.getElem?_map] at hx
    cases hb : [J.n, J.few, J.turn][i]? with
    | none => rw [hb] at hx; cases hx
    | some c =>
    rw [hb] at hx
    cases hx
    refine ⟨rfl, _, rfl, c, rfl, h7 c (List.mem_of_getElem? hb), _, g1, ?_, ?_, same_add g2 hD⟩
    · rw [List.length_map, List.length_take]
      exact Nat.lt_of_le_of_lt (show _ ≤ 3 from Nat.min_le_right _ _) (by decide)
    · rw [upd_same, take_succ_of hb, List.map_append]
      rfl
  rintro H2 ⟨g1, g2⟩
  have S2 := s1.trans g2
  refine ⟨D, _, rfl, SqL.of g1, rfl, _, _, rfl, _, _, rfl, _, _, rfl, rfl, ?_⟩
  refine ⟨_, rfl, _, rfl, _, rfl, _, rfl, J.L, J.n, J.few, J.turn, rfl, hok.L, hR, hok.n1, n6, f4, t1, t4, fun H3 s3 => ?_⟩
  have h600 := hok.h600
  rw [decide_eq_true h600]
  refine ⟨_, rfl, iteF ?_⟩
  have S3 := S2.trans s3
  refine ⟨_, rfl, _, rfl, _, rfl, _, rfl, _, _, rfl, rfl, J.L, J.n, J.few + J.turn, rfl, hok.L, n6, by omega, by omega, h600, fun rk bs H2 s6 rk0 rk1 hks => ?_⟩
  have S2 := S3.trans s6
  have lb := Paired.length hks
  rw [keysOf_len] at lb
  have lf : (figC J J.L.cps.toList).length = J.L.length * (J.few + J.turn) ^ J.n := by
    rw [figs_keys, List.length_map]
    unfold JD.keys
    rw [keysOf_len]
  have zf : (⟨(figC J J.L.cps.toList).toArray⟩ : Str).length = J.L.length * (J.few + J.turn) ^ J.n := by
    show (figC J J.L.cps.toList).toArray.size = _
    rw [List.size_toArray, lf]
  refine ⟨_, rfl, rk, _, rfl, .inl (SqL.of rk1), _, rfl, r, _, 5, .str ⟨(figC J J.L.cps.toList).toArray⟩, rfl, rfl, SqL.of (S2 _ _ hr1), at_of (j := 5) rfl rfl, _, rfl, Nat.le_trans (show (⟨(figC J J.L.cps.toList).toArray⟩ : Str).length ≤ 600 by omega) (by decide), rfl, _, rfl, neS (by rw [List.length_map, lb, zf]) ?_⟩
  refine ⟨fun σ' H' => ∃ g, σ' = [some (.ref r), some (.str J.L), some (nI J.n), some (nI J.few), some (nI J.turn), some (.ref rk), some (.ref g), none, none, none] ∧ H g = none ∧ H' g = some (.lst (J.good.map nI)) ∧ Same H H' ∧ Same H2 H', ?_, ?_⟩
  · refine ⟨_, rfl, r, _, 4, .str (gtx J.good), rfl, rfl, SqL.of (S2 _ _ hr1), at_of (j := 4) rfl rfl, ?_⟩
    rcases Decidable.em (J.good = []) with h | h
    · refine ⟨rfl, _, rfl, eqT (by unfold gtx; rw [if_pos h]) ⟨(by show 0 ≤ sizeLine; decide), fun g hg => ⟨g, rfl, S2.free hg, ?_, S2.trans (same_new hg), same_new hg⟩⟩⟩
      rw [upd_same, h]
      rfl
    obtain ⟨gne, gsp⟩ := gtx_ne h fun g hg => by have := gn g hg; omega
    refine ⟨rfl, _, rfl, eqF (fun z => gne (V.str.inj z)) ?_⟩
    refine ⟨_, rfl, r, _, 4, .str (gtx J.good), rfl, rfl, SqL.of (S2 _ _ hr1), at_of (j := 4) rfl rfl, rfl, gtx J.good, Str.ofString ",", rfl, rfl, by decide +kernel, Nat.le_trans (show (gtx J.good).length + 2 ≤ 102 from Nat.add_le_add_right (gtx_len hok) 2) (by decide), fun p hp => ?_⟩
    rw [gsp, List.map_map]
    have s3 := same_new (o := .lst (J.good.map (V.str ∘ fun g => ch (48 + g)))) hp
    have k3 := upd_same (H := H2) (a := p) (o := .lst (J.good.map (V.str ∘ fun g => ch (48 + g))))
    generalize upd H2 p (.lst (J.good.map (V.str ∘ fun g => ch (48 + g)))) = H3 at *
    refine ⟨p, rfl, ⟨_, SqL.of k3⟩, fun D2 hD2 => ?_⟩
    refine lc_list (xs := J.good.map (V.str ∘ fun g => ch (48 + g))) (fun i H' => H' D2 = some (.lst ((J.good.take i).map nI)) ∧ Same H3 H') ⟨upd_same, same_new hD2⟩ (fun i H' _ ⟨_, s⟩ => SqL.of (s _ _ k3)) ?_ ?_
    · rintro i x H4 hx ⟨e1, e2⟩
      rw [List.getElem?_map] at hx
      cases hb : J.good[i]? with
      | none => rw [hb] at hx; cases hx
      | some c =>
      rw [hb] at hx
      cases hx
      have hc := gn c (List.mem_of_getElem? hb)
      refine ⟨rfl, _, rfl, c, rfl, by omega, _, e1, ?_, ?_, same_add e2 hD2⟩
      · rw [List.length_map, List.length_take]
        exact Nat.lt_of_le_of_lt (show _ ≤ 6 from Nat.le_trans (Nat.min_le_right _ _) g6) (by decide)
      · rw [upd_same, take_succ_of hb, List.map_append]
        rfl
    rintro H4 ⟨e1, e2⟩
    rw [List.length_map, List.take_length] at e1
    exact ⟨D2, rfl, (S2.trans s3).free hD2, e1, (S2.trans s3).trans e2, s3.trans e2⟩
  · rintro σ' H4 ⟨g, rfl, ng, kg, S4, r4⟩
    obtain ⟨ps, a1, a2, a3, a4, a5⟩ := rows_of (fs := J.fs) hks
    have lps : ps.length = J.keys.length := by have := congrArg List.length a5; rwa [List.length_map, List.length_map] at this
    have lk : J.keys.length ≤ 600 := by unfold JD.keys; rw [keysOf_len]; exact h600
    refine ⟨_, rfl, _, rfl, r, _, 5, .str ⟨(figC J J.L.cps.toList).toArray⟩, rfl, rfl, SqL.of (S4 _ _ hr1), at_of (j := 5) rfl rfl, ?_⟩
    refine ⟨_, rfl, fun D hD => ?_⟩
    have ef : figC J J.L.cps.toList = J.keys.map fun key => 48 + J.fs key.1 key.2 := figs_keys J
    refine lc_it walk_str (fun i H' => H' D = some (.lst ((J.keys.take i).map fun key => nI (J.fs key.1 key.2))) ∧ Same H4 H') ⟨upd_same, same_new hD⟩ (fun _ _ _ _ => trivial) ?_ ?_
    · rintro i x H5 _ hi ⟨e1, e2⟩ ⟨rfl, c, hc, rfl⟩
      have hc : (figC J J.L.cps.toList).toArray[i]? = some c := hc
      rw [List.getElem?_toArray, ef, List.getElem?_map] at hc
      cases hb : J.keys[i]? with
      | none => rw [hb] at hc; cases hc
      | some key =>
      rw [hb] at hc
      cases hc
      have hlt := hok.lt _ (List.mem_of_getElem? hb)
      refine ⟨rfl, _, rfl, J.fs key.1 key.2, rfl, by omega, _, e1, ?_, ?_, same_add e2 hD⟩
      · rw [List.length_map, List.length_take]
        have := (List.getElem?_eq_some_iff.mp hb).1
        have e3 : J.keys.length = J.L.length * (J.few + J.turn) ^ J.n := by unfold JD.keys; rw [keysOf_len]
        exact Nat.lt_of_le_of_lt (show _ ≤ 600 by omega) (by decide)
      · rw [upd_same, take_succ_of hb, List.map_append]
        rfl
    rintro H5 ⟨e1, e2⟩
    have ek : J.keys.take (⟨(figC J J.L.cps.toList).toArray⟩ : Str).cps.size = J.keys := by
      show J.keys.take (figC J J.L.cps.toList).toArray.size = _
      rw [List.size_toArray, ef, List.length_map, List.take_length]
    rw [ek] at e1
    have S5 := S4.trans e2
    have r5 := r4.trans e2
    refine ⟨rk, D, ps, rfl, by rw [a1]; exact r5 _ _ rk1, by rw [a2]; exact e1, a3.keep fun b ys e => r5 _ _ e, by rw [a5]; exact keysN_nd hR _ _, Nat.le_trans (show ps.length ≤ 600 by omega) (by decide), fun d hd => ?_⟩
    have S6 := S5
    have s7 := same_new (o := DictN P w d ps) hd
    have k7 := upd_same (H := H5) (a := d) (o := DictN P w d ps)
    refine ⟨_, rfl, _, rfl, _, rfl, _, rfl, _, rfl, _, rfl, (by show 6 ≤ sizeLine; decide), fun j hj => ?_⟩
    have s8 := same_new (o := .tup [.str J.L, nI J.n, nI J.few, nI J.turn, .ref d, .ref g]) hj
    refine q _ _ ((S6.trans s7).trans s8) ⟨j, d, g, ps, rfl, (S6.trans s7).free hj, S6.free hd, ng, fun z => ?_, upd_same, s8 _ _ k7, a3.keep fun b ys e => s8 _ _ (s7 _ _ (r5 _ _ e)), a4, s8 _ _ (s7 _ _ (e2 _ _ kg))⟩
    rw [z] at hd
    rw [e2 _ _ kg] at hd
    cases hd
end


def sp_read_judge (P : Program) (w : World) : Sp := fun vs H Q _ => ∃ J : JD, vs = [.str (shownJ J)] ∧ J.ok ∧ Rises J.L ∧ J.good.Pairwise (· < ·) ∧ ∀ v H', Same H H' → NewJ P w H H' v J → Q v H'
theorem digC {v : Nat} (h : v < 7) : (toString ((v : Nat) : Int) : Str) = ch (48 + v) := V.str.inj (digit h)
theorem words_free {J : JD} (hok : J.ok) : ∀ p ∈ wordsJ J, 32 ∉ TL.tl p := by
  have n6 := hok.n6
  have t4 := hok.t4
  have f4 := hok.f4
  have one : ∀ v : Nat, v < 7 → 32 ∉ TL.tl (toString ((v : Nat) : Int)) := fun v hv => by
    rw [digC hv]
    show 32 ∉ [48 + v]
    simp
    omega
  intro p hp
  unfold wordsJ at hp
  simp only [List.mem_cons, List.not_mem_nil, or_false] at hp
  rcases hp with rfl | rfl | rfl | rfl | rfl | rfl
  · exact fun h => by have := hok.L.2.2 32 h; omega
  · exact one _ (by omega)
  · exact one _ (by omega)
  · exact one _ (by omega)
  · have gn := hok.gn
    unfold gtx
    split
    · decide +kernel
    · have e : J.good.map (fun g => (toString ((g : Nat) : Int) : Str)) = J.good.map fun g => ch (48 + g) := List.map_congr_left fun g hm => digC (by have := gn g hm; omega)
      rw [e, TL.join_eq, TL.tl_join]
      intro h
      have : ∀ ps : List (List Nat), (∀ p ∈ ps, 32 ∉ p) → 32 ∉ TL.joinL (TL.tl (Str.ofString ",")) ps := by
        intro ps
        induction ps with
        | nil => intro _; simp [TL.joinL]
        | cons a t ih =>
          intro h1 h2
          cases t with
          | nil => exact h1 a List.mem_cons_self h2
          | cons b u =>
            have h2 : 32 ∈ a ++ (TL.tl (Str.ofString ",") ++ TL.joinL (TL.tl (Str.ofString ",")) (b :: u)) := h2
            rw [List.mem_append, List.mem_append] at h2
            rcases h2 with h2 | h2 | h2
            · exact h1 a List.mem_cons_self h2
            · exact absurd h2 (by decide +kernel)
            · exact ih (fun p hp => h1 p (List.mem_cons_of_mem _ hp)) h2
      refine this _ (fun p hp => ?_) h
      obtain ⟨z, hz, rfl⟩ := List.mem_map.mp hp
      obtain ⟨g, hg, rfl⟩ := List.mem_map.mp hz
      have := gn g hg
      show 32 ∉ [48 + g]
      simp
      omega
  · show 32 ∉ (figC J J.L.cps.toList).toArray.toList
    rw [figs_keys]
    intro h
    have h : 32 ∈ J.keys.map fun key => 48 + J.fs key.1 key.2 := by simpa using h
    obtain ⟨key, _, e⟩ := List.mem_map.mp h
    omega
theorem words_split {J : JD} (hok : J.ok) : Txt.split (shownJ J) (Str.ofString " ") = wordsJ J :=
  TL.split_join (s := 32) (S := []) (by decide +kernel) (by decide +kernel) (by simp [wordsJ]) (words_free hok)
theorem shown_len {J : JD} (hok : J.ok) : (shownJ J).length ≤ 1000 := by
  have n6 := hok.n6
  have t4 := hok.t4
  have f4 := hok.f4
  have zl := hok.L.2.1
  have zg := gtx_len hok
  have zf : (⟨(figC J J.L.cps.toList).toArray⟩ : Str).length ≤ 600 := by
    show (figC J J.L.cps.toList).toArray.size ≤ _
    rw [List.size_toArray, figs_keys, List.length_map]
    unfold JD.keys
    rw [keysOf_len]
    exact hok.h600
  have h := join_len (Str.ofString " ") (wordsJ J)
  have e1 : (toString ((J.n : Nat) : Int) : Str).length = 1 := dig_len (by omega)
  have e2 : (toString ((J.few : Nat) : Int) : Str).length = 1 := dig_len (by omega)
  have e3 : (toString ((J.turn : Nat) : Int) : Str).length = 1 := dig_len (by omega)
  have e4 : (Str.ofString " ").cps.size = 1 := by decide +kernel
  have e5 : ((wordsJ J).map fun s : Str => s.length).sum ≤ 26 + 1 + 1 + 1 + 100 + 600 := by
    show J.L.length + ((toString ((J.n : Nat) : Int) : Str).length + ((toString ((J.few : Nat) : Int) : Str).length + ((toString ((J.turn : Nat) : Int) : Str).length + ((gtx J.good).length + ((⟨(figC J J.L.cps.toList).toArray⟩ : Str).length + 0))))) ≤ _
    omega
  rw [e4] at h
  have h : (shownJ J).length ≤ 6 * 1 + ((wordsJ J).map fun s : Str => s.length).sum := h
  omega
section
variable {P : Program} {w : World} {K : PySem.W.Frag} {mg : Str → Option Value} {base : Heap}
theorem ok_read_judge (T : Txt K mg) : FnOk P w K mg base CX0 6 T.f_read_judge T.d_read_judge ["text"] (sp_read_judge P w) := by
  have G__judge_read : FnOk P w K mg base CX0 5 T.f__judge_read T.d__judge_read ["words"] (sp__judge_read P w) := ok__judge_read T
  have G_is_judge : FnOk P w K mg base CX0 5 T.f_is_judge T.d_is_judge ["thing"] (sp_is_judge P w) := ok_is_judge T
  refine T.F_read_judge.ok sc_read_judge (fun vs H Q E h => ?_) (fun cdv A outer s H vs Q E hr h => ?_)
  · obtain ⟨J, rfl, _⟩ := h
    rfl
  obtain ⟨J, rfl, hok, hR, hup, q⟩ := h
  refine ⟨_, (pss_cons (ps_set (i := 1) sc_read_judge.nd rfl (Or.inl rfl) (pe_ifExp (pt_val (pe_callB call_isi (by rfl) T.z_isinstance (by decide +kernel) (pa_cons (pv 0) (pa_cons (pe_bltn (v := .ty "str") (by rfl) T.z_str (by decide +kernel) rfl) pa_nil)))) (pe_bm PySem.F.plainAttrs_str PySem.F.slot_str_split PySem.F.type_str_split mt_split (pv 0) (pa_cons pe_str pa_nil)) (pe_lst pa_nil))) (pss_cons (ps_set (i := 2) sc_read_judge.nd rfl (Or.inl rfl) (pe_ifExp (pt_cmpR op_eq (pe_callB call_len_seq (by rfl) T.z_len PySem.boot_len (pa_cons (pv 1) pa_nil)) pe_int (nomark _)) (pe_call G__judge_read (hr.mono (by omega)) (by rfl) T.m__judge_read T.F__judge_read.kp T.b__judge_read .nil pass0 (pa_cons (pv 1) pa_nil)) pe_non)) (pss_cons (ps_if (pt_not (pt_val (pe_call G_is_judge (hr.mono (by omega)) (by rfl) T.m_is_judge T.F_is_judge.kp T.b_is_judge .nil pass0 (pa_cons (pv 2) pa_nil)))) (pss_one ps_never) pss_nil) (pss_one (ps_ret (pv 2)))))), ?_⟩
  have n6 := hok.n6
  refine ⟨_, rfl, _, _, _, _, true, rfl, .ty "str", .base (.str _), kit_ty (by decide +kernel), _, rfl, iteT ?_⟩
  refine ⟨_, rfl, rfl, shownJ J, Str.ofString " ", rfl, rfl, by decide +kernel, Nat.le_trans (show (shownJ J).length + 2 ≤ 1002 from Nat.add_le_add_right (shown_len hok) 2) (by decide), fun r hr1 => ?_⟩
  rw [words_split hok]
  have s1 := same_new (o := .lst ((wordsJ J).map V.str)) hr1
  have k1 := upd_same (H := H) (a := r) (o := .lst ((wordsJ J).map V.str))
  generalize upd H r (.lst ((wordsJ J).map V.str)) = H1 at *
  refine ⟨_, rfl, r, _, rfl, .inl (SqL.of k1), rfl, _, rfl, eqT rfl ?_⟩
  refine ⟨_, rfl, r, J, rfl, k1, hok, hR, fun v H2 s2 N => ?_⟩
  have N0 := N
  obtain ⟨j, d, g, xs, rfl, nj, nd, ng, ndg, hj, hd, hrn, hrj, hg⟩ := N
  refine ⟨_, rfl, j, d, g, J.L, J.n, J.few, J.turn, xs, J.keys, J.fs, J.good, rfl, hj, hd, hrn, hrj, List.Perm.refl _, hok.L, hR, hok.n1, hok.n6, hok.f4, hok.t1, hok.t4, hok.h600, fun key hk => hok.lt key hk, hg, hup, Nat.le_trans hok.g6 (by decide), hok.gn, fun H3 s3 => ?_⟩
  refine ⟨_, rfl, iteF ?_⟩
  refine ⟨_, rfl, q _ _ ((s1.trans s2).trans s3) ⟨j, d, g, xs, rfl, s1.free nj, s1.free nd, s1.free ng, ndg, s3 _ _ hj, s3 _ _ hd, hrn.keep fun b ys e => s3 _ _ e, hrj, s3 _ _ hg⟩⟩
end


def sp__law_shuffled (P : Program) (w : World) : Sp := fun vs H Q _ => ∃ (p : Addr) (m : Nat) (v : V) (J : JD), vs = [.ref p, v] ∧ Sto H p m ∧ m < 900000 ∧ JAtO P w (fun b => b ≠ p) H v J ∧ J.ok ∧ Rises J.L ∧ ∀ u H', Fr p H H' → Sto H' p (m + 700) → JAt P w H' u J → Q u H'
theorem rowsJ_nd {fs : Nat → List Nat → Nat} : ∀ {xs : List NRow} {keys : List (Nat × List Nat)}, RowsJ xs keys fs → keys.Pairwise (· ≠ ·) → (xs.map (·.1)).Nodup := by
  intro xs keys h nd
  have e : xs.map (·.1) = keys.map fun key => keyN key.1 key.2 := by
    unfold RowsJ at h
    induction h with
    | nil => rfl
    | cons h1 _ ih => rw [List.map_cons, List.map_cons, h1.1, ih (List.pairwise_cons.mp nd).2]
  rw [e]
  unfold List.Nodup
  rw [List.pairwise_map]
  refine nd.imp fun {a b} hab e => hab ?_
  obtain ⟨e1, e2⟩ := keyN_inj e
  exact Prod.ext e1 e2
theorem erase_perm {α : Type} : ∀ {l : List α} {k : Nat} {x : α}, l[k]? = some x → (x :: l.eraseIdx k).Perm l
  | [], k, x, h => by cases h
  | a :: r, 0, x, h => by cases h; exact .refl _
  | a :: r, k + 1, x, h => by
    rw [List.getElem?_cons_succ] at h
    exact (List.Perm.swap _ _ _).trans ((erase_perm h).cons a)
theorem perm_move {α : Type} {zs rem xs : List α} {k : Nat} {x : α} (hx : rem[k]? = some x) (h : (zs ++ rem).Perm xs) : ((zs ++ [x]) ++ rem.eraseIdx k).Perm xs := by
  refine List.Perm.trans ?_ h
  rw [List.append_assoc]
  refine List.Perm.append_left zs ?_
  exact erase_perm hx
section
variable {P : Program} {w : World} {K : PySem.W.Frag} {mg : Str → Option Value} {base : Heap}
theorem ok__law_shuffled (T : Txt K mg) : FnOk P w K mg base CX0 2 T.f__law_shuffled T.d__law_shuffled ["store", "judge"] (sp__law_shuffled P w) := by
  have G__law_take : FnOk P w K mg base CX0 1 T.f__law_take T.d__law_take ["store", "many"] sp__law_take := ok__law_take T
  refine T.F__law_shuffled.ok sc__law_shuffled (fun vs H Q E h => ?_) (fun cdv A outer s H vs Q E hr h => ?_)
  · obtain ⟨p, m, v, J, rfl, _⟩ := h
    rfl
  obtain ⟨p, m, v, J, rfl, hSt, hm, hJ, hok, hR, q⟩ := h
  refine ⟨_, (pss_cons (ps_set (i := 2) sc__law_shuffled.nd rfl (Or.inl rfl) (pe_callTy (call_listN rfl) (by rfl) T.z_list (by decide +kernel) (pa_cons (pe_ix ix_tup (pv 1) pe_int (fun _ _ => rfl)) pa_nil))) (pss_cons (ps_set (i := 3) sc__law_shuffled.nd rfl (Or.inl rfl) (pe_call G__law_take (hr.mono (by omega)) (by rfl) T.m__law_take T.F__law_take.kp T.b__law_take .nil pass0 (pa_cons (pv 0) (pa_cons pe_int pa_nil)))) (C8.pss_cut (ps_if (pt_cmpR op_eq (pv 3) pe_int (nomark _)) (pss_one (ps_expr (pe_bm0 PySem.F.plainAttrs_list PySem.F.slot_list_reverse PySem.F.type_list_reverse mt_reverse (pv 2)))) pss_nil) (pss_cons (ps_set (i := 4) sc__law_shuffled.nd rfl (Or.inl rfl) pe_dnewN) (pss_cons (ps_for PassesOwn.never rfl (pi_range1 (by rfl) T.z_range (pa_cons (pe_op op_mul (pe_callB call_len_seq (by rfl) T.z_len PySem.boot_len (pa_cons (pv 2) pa_nil)) (pe_callTy call_int1 (by rfl) T.z_int (by decide +kernel) (pa_cons (pe_cmpR op_eq (pv 3) pe_int (nomark _)) pa_nil))) pa_nil)) (pg_name (i := 5) sc__law_shuffled.nd rfl (Or.inl rfl)) (pss_cons (ps_set (i := 6) sc__law_shuffled.nd rfl (Or.inl rfl) (pe_bm PySem.F.plainAttrs_list PySem.F.slot_list_pop PySem.F.type_list_pop mt_popAt (pv 2) (pa_cons (pe_call G__law_take (hr.mono (by omega)) (by rfl) T.m__law_take T.F__law_take.kp T.b__law_take .nil pass0 (pa_cons (pv 0) (pa_cons (pe_callB call_len_seq (by rfl) T.z_len PySem.boot_len (pa_cons (pv 2) pa_nil)) pa_nil))) pa_nil))) (pss_one (ps_dputN (roomN hr) (pv 4) (pv 6) (pe_dgetN (roomN hr) (pe_ix ix_tup (pv 1) pe_int (fun _ _ => rfl)) (pv 6) (fun _ _ => rfl)) rfl)))) (pss_cons (ps_for PassesOwn.never rfl (pi_list (pv 2)) (pg_name (i := 6) sc__law_shuffled.nd rfl (Or.inl rfl)) (pss_one (ps_dputN (roomN hr) (pv 4) (pv 6) (pe_dgetN (roomN hr) (pe_ix ix_tup (pv 1) pe_int (fun _ _ => rfl)) (pv 6) (fun _ _ => rfl)) rfl))) (pss_one (ps_ret (pe_op op_catT (pe_slice sl_tup (pv 1) po_none (po_some pe_int)) (pe_tup (pa_cons (pv 4) (pa_cons (pe_callTy call_list_of (by rfl) T.z_list (by decide +kernel) (pa_cons (pe_ix ix_tup (pv 1) pe_int (fun _ _ => rfl)) pa_nil)) pa_nil)))))))))))), ?_⟩
  obtain ⟨j, d, g, xs, keys, rfl, hj, hd, hrn, hrj, hper, hg, ngp⟩ := hJ
  have knd : keys.Pairwise (· ≠ ·) := (hper.pairwise_iff (fun {a b} h e => h e.symm)).mpr (keysOf_nd hR _ _)
  have xnd := rowsJ_nd hrj knd
  have lx : xs.length ≤ 600 := by
    rw [Paired.length hrj, hper.length_eq]
    unfold JD.keys
    rw [keysOf_len]
    exact hok.h600
  have njp : j ≠ p := fun e => by
    obtain ⟨_, _, _, ep, _⟩ := hSt
    rw [e, ep] at hj
    cases hj
  have ndp : d ≠ p := fun e => by
    obtain ⟨_, _, _, ep, _⟩ := hSt
    rw [e, ep] at hd
    unfold DictN at hd
    cases hd
  have ntp : ∀ (q : Addr) (us : List V), H q = some (.tup us) → q ≠ p := fun q us e z => by
    obtain ⟨_, _, _, ep, _⟩ := hSt
    rw [z, ep] at e
    cases e
  refine ⟨_, rfl, j, _, 4, .ref d, rfl, rfl, SqT.of hj, at_of (j := 4) rfl rfl, d, xs, rfl, hd, fun ql hql => ?_⟩
  have sq := same_new hql (o := .lst (xs.map fun x => V.ref x.2.1))
  have kq := upd_same (H := H) (a := ql) (o := .lst (xs.map fun x => V.ref x.2.1))
  have nqp : ql ≠ p := hSt.ne hql
  have S1 := hSt.keep sq
  generalize upd H ql (.lst (xs.map fun x => V.ref x.2.1)) = H1 at *
  refine ⟨_, rfl, p, 3, m, rfl, S1, by omega, by decide, by decide, fun way H2 w0 w1 c2 S2 => ?_⟩
  have F2 : Fr p H H2 := (Fr.same sq).trans (Fr.of_chg c2)
  have kq2 : H2 ql = some (.lst (xs.map fun x => V.ref x.2.1)) := by rw [c2 ql nqp]; exact kq
  refine ⟨fun σ' H' => ∃ ys : List NRow, σ' = [some (.ref p), some (.ref j), some (.ref ql), some (.int way), none, none, none] ∧ H' ql = some (.lst (ys.map fun x => V.ref x.2.1)) ∧ ys.Perm xs ∧ Fr p H H' ∧ Sto H' p (m + 1), ?_, ?_⟩
  · refine ⟨_, rfl, rfl, _, rfl, ite2 (fun k1 => ?_) (fun k1 => ?_)⟩
    · refine ⟨_, rfl, .inl ⟨rfl, _, SqL.of kq2⟩, ql, _, rfl, rfl, kq2, xs.reverse, rfl, by rw [upd_same, List.map_reverse], List.reverse_perm _, F2.new hql, ?_⟩
      obtain ⟨g', x', s', a1, a2, a3, a4, a5⟩ := S2
      exact ⟨g', x', s', by rw [upd_ne nqp.symm]; exact a1, a2, a3, a4, a5⟩
    · exact ⟨xs, rfl, kq2, List.Perm.refl _, F2, S2⟩
  rintro σ' H3 ⟨ys, rfl, kq3, py, F3, S3⟩
  clear S1 S2 kq kq2 F2 sq
  refine fun D hD => ?_
  have s4 := same_new hD (o := DictN P w D [])
  have nDp : D ≠ p := S3.ne hD
  have nDq : D ≠ ql := fun e => by rw [e, kq3] at hD; cases hD
  have kq4 : (upd H3 D (DictN P w D [])) ql = some (.lst (ys.map fun x => V.ref x.2.1)) := s4 _ _ kq3
  have kD4 := upd_same (H := H3) (a := D) (o := DictN P w D [])
  have F4 := F3.trans (Fr.same s4)
  have hD0 : H D = none := F3.free S3.some hD
  have ly : ys.length = xs.length := py.length_eq
  have S4 := S3.keep s4
  clear s4 hD
  obtain ⟨n, hn, n600⟩ : ∃ n : Nat, ((ys.map fun x => V.ref x.2.1).length : Int) * (if (decide (V.int way = V.int 2)) = true then 1 else 0) = (n : Int) ∧ n ≤ ys.length := by
    rcases Decidable.em (V.int way = V.int 2) with h | h
    · exact ⟨ys.length, by rw [decide_eq_true h, if_pos rfl, Int.mul_one, List.length_map], Nat.le_refl _⟩
    · exact ⟨0, by rw [decide_eq_false h, if_neg (by decide), Int.mul_zero]; rfl, Nat.zero_le _⟩
  refine ⟨_, rfl, ql, _, rfl, .inl (SqL.of kq4), _, rfl, rfl, .inr ⟨_, rfl, _, _, rfl, rfl, .inr (by split <;> exact ⟨by decide, by decide⟩), n, congrArg (fun z => [V.int z]) hn, by omega, by omega, ?_⟩⟩
  refine for_range (lo := 0) (n := n) (fun i σ H' => ∃ (y5 y6 : Option V) (rem zs : List NRow), σ = [some (.ref p), some (.ref j), some (.ref ql), some (.int way), some (.ref D), y5, y6] ∧ H' ql = some (.lst (rem.map fun x => V.ref x.2.1)) ∧ H' D = some (DictN P w D zs) ∧ (zs ++ rem).Perm xs ∧ rem.length + i = ys.length ∧ Fr p H H' ∧ Sto H' p (m + 1 + i)) ⟨none, none, ys, [], rfl, kq4, kD4, py, rfl, F4, S4⟩ ?_ ?_
  · rintro i σ H5 hi ⟨y5, y6, rem, zs, rfl, kq5, kD5, pz, lr, F5, S5⟩
    have hrn5 := hrn.keep fun b ys e => F5 _ _ (ntp _ _ e) e
    refine ⟨_, rfl, .inl ⟨rfl, _, SqL.of kq5⟩, _, rfl, _, rfl, ql, _, rfl, .inl (SqL.of kq5), p, _, m + 1 + i, rfl, S5, by omega, by rw [List.length_map]; omega, by rw [List.length_map]; omega, fun x H6 x0 x1 c6 S6 => ?_⟩
    rw [List.length_map] at x1
    obtain ⟨k, rfl, hk⟩ : ∃ k : Nat, x = (k : Int) ∧ k < rem.length := ⟨x.toNat, by omega, by omega⟩
    have hx : rem[k]? = some rem[k] := List.getElem?_eq_getElem hk
    generalize rem[k] = row at hx
    have kq6 : H6 ql = some (.lst (rem.map fun x => V.ref x.2.1)) := by rw [c6 ql nqp]; exact kq5
    have kD6 : H6 D = some (DictN P w D zs) := by rw [c6 D nDp]; exact kD5
    have F6 := F5.trans (Fr.of_chg c6)
    have mrow : row ∈ xs := pz.mem_iff.mp (List.mem_append_right _ (List.mem_of_getElem? hx))
    have pz2 := perm_move hx pz
    have nd2 : ((zs ++ [row]).map (·.1)).Nodup := by
      have := (pz2.map (·.1)).nodup_iff.mpr xnd
      rw [List.map_append] at this
      exact (List.nodup_append.mp this).1
    have fresh : ∀ x ∈ zs, x.1 ≠ row.1 := by
      rw [List.map_append] at nd2
      exact fun x hx e => (List.nodup_append.mp nd2).2.2 x.1 (List.mem_map_of_mem hx) row.1 (by simp) e
    have lz : zs.length ≤ 600 := by
      have := pz.length_eq
      rw [List.length_append] at this
      omega
    refine ⟨ql, _, (k : Int), k, _, rfl, rfl, kq6, by omega, by omega, ?_, by rw [List.getElem?_map, hx]; rfl, ?_⟩
    · rw [List.length_map]
      unfold seqIndex?
      simp
      omega
    have F7 := F6.new (o := .lst ((rem.map fun x => V.ref x.2.1).eraseIdx k)) hql
    have kD7 : (upd H6 ql (.lst ((rem.map fun x => V.ref x.2.1).eraseIdx k))) D = some (DictN P w D zs) := by rw [upd_ne nDq]; exact kD6
    have kq7 : (upd H6 ql (.lst ((rem.map fun x => V.ref x.2.1).eraseIdx k))) ql = some (.lst ((rem.eraseIdx k).map fun x => V.ref x.2.1)) := by rw [upd_same, map_erase7]
    have S7 : Sto (upd H6 ql (.lst ((rem.map fun x => V.ref x.2.1).eraseIdx k))) p (m + 1 + i + 1) := by
      obtain ⟨g', x', s', a1, a2, a3, a4, a5⟩ := S6
      exact ⟨g', x', s', by rw [upd_ne nqp.symm]; exact a1, a2, a3, a4, a5⟩
    generalize upd H6 ql (.lst ((rem.map fun x => V.ref x.2.1).eraseIdx k)) = H7 at *
    have hrn7 := hrn.keep fun b ys e => F7 _ _ (ntp _ _ e) e
    obtain ⟨hn1, hn2⟩ := hrn7 row mrow
    refine ⟨_, rfl, j, _, 4, .ref d, rfl, rfl, SqT.of (F7 _ _ njp hj), at_of (j := 4) rfl rfl, _, rfl, d, row.2.1, xs, row.1, row.2.2, rfl, rfl, F7 _ _ ndp hd, hrn7, hn1, hn2, atN_self xnd mrow, _, rfl, _, rfl, D, row.2.1, zs, row.1, rfl, rfl, kD7, ?_, hn1, hn2, Nat.lt_of_le_of_lt lz (by decide), ?_⟩
    · exact fun r hr => hrn7 r (pz.mem_iff.mp (List.mem_append_left _ hr))
    rw [storedN_new fresh]
    refine ⟨_, _, rem.eraseIdx k, zs ++ [row], rfl, by rw [upd_ne nDq.symm]; exact kq7, upd_same, pz2, ?_, F7.new hD0, ?_⟩
    · rw [List.length_eraseIdx_of_lt hk]; omega
    · obtain ⟨g', x', s', a1, a2, a3, a4, a5⟩ := S7
      exact ⟨g', x', s', by rw [upd_ne nDp.symm]; exact a1, a2, a3, a4, by omega⟩
  rintro σ H5 ⟨y5, y6, rem, zs, rfl, kq5, kD5, pz, lr, F5, S5⟩
  have lz : zs.length + rem.length ≤ 600 := by
    have := pz.length_eq
    rw [List.length_append] at this
    omega
  have nds : ((zs ++ rem).map (·.1)).Nodup := (pz.map (·.1)).nodup_iff.mpr xnd
  refine ⟨_, rfl, ql, rfl, ⟨_, SqL.of kq5⟩, ?_⟩
  refine for_list (xs := rem.map fun x => V.ref x.2.1) (fun i σ H' => ∃ y6 : Option V, σ = [some (.ref p), some (.ref j), some (.ref ql), some (.int way), some (.ref D), y5, y6] ∧ H' ql = some (.lst (rem.map fun x => V.ref x.2.1)) ∧ H' D = some (DictN P w D (zs ++ rem.take i)) ∧ Fr p H H' ∧ Sto H' p (m + 1 + n)) ⟨y6, rfl, kq5, by rw [List.take_zero, List.append_nil]; exact kD5, F5, S5⟩ (fun i σ H' _ ⟨_, _, h, _⟩ => SqL.of h) ?_ ?_
  · rintro i x σ H6 hx ⟨y6, rfl, kq6, kD6, F6, S6⟩
    rw [List.getElem?_map] at hx
    cases hb : rem[i]? with
    | none => rw [hb] at hx; cases hx
    | some row =>
    rw [hb] at hx
    cases hx
    have hrn6 := hrn.keep fun b ys e => F6 _ _ (ntp _ _ e) e
    have mrow : row ∈ xs := pz.mem_iff.mp (List.mem_append_right _ (List.mem_of_getElem? hb))
    obtain ⟨hn1, hn2⟩ := hrn6 row mrow
    have fresh : ∀ x ∈ zs ++ rem.take i, x.1 ≠ row.1 := by
      have e : (zs ++ rem.take (i + 1)).map (·.1) = (zs ++ rem.take i).map (·.1) ++ [row.1] := by rw [take_succ_of hb, ← List.append_assoc, List.map_append (l₂ := [row])]; rfl
      have nd3 : ((zs ++ rem.take (i + 1)).map (·.1)).Nodup := nds.sublist (List.Sublist.map _ (List.Sublist.append_left (List.take_sublist _ _) _))
      rw [e] at nd3
      exact fun x hx e => (List.nodup_append.mp nd3).2.2 x.1 (List.mem_map_of_mem hx) row.1 (by simp) e
    refine ⟨_, rfl, j, _, 4, .ref d, rfl, rfl, SqT.of (F6 _ _ njp hj), at_of (j := 4) rfl rfl, _, rfl, d, row.2.1, xs, row.1, row.2.2, rfl, rfl, F6 _ _ ndp hd, hrn6, hn1, hn2, atN_self xnd mrow, _, rfl, _, rfl, D, row.2.1, zs ++ rem.take i, row.1, rfl, rfl, kD6, ?_, hn1, hn2, ?_, ?_⟩
    · refine fun r hr => hrn6 r (pz.mem_iff.mp ?_)
      rcases List.mem_append.mp hr with h | h
      · exact List.mem_append_left _ h
      · exact List.mem_append_right _ (List.mem_of_mem_take h)
    · rw [List.length_append, List.length_take]
      exact Nat.lt_of_le_of_lt (show _ ≤ 600 by omega) (by decide)
    rw [storedN_new fresh]
    refine ⟨_, rfl, by rw [upd_ne nDq.symm]; exact kq6, ?_, F6.new hD0, ?_⟩
    · rw [upd_same, take_succ_of hb, ← List.append_assoc]
      rfl
    · obtain ⟨g', x', s', a1, a2, a3, a4, a5⟩ := S6
      exact ⟨g', x', s', by rw [upd_ne nDp.symm]; exact a1, a2, a3, a4, by omega⟩
  rintro σ H6 ⟨y6, rfl, kq6, kD6, F6, S6⟩
  rw [List.length_map, List.take_length] at kD6
  have hrn6 := hrn.keep fun b ys e => F6 _ _ (ntp _ _ e) e
  obtain ⟨keys2, pk, rj2⟩ := prd_perm pz.symm hrj
  refine ⟨_, rfl, _, rfl, j, _, rfl, SqT.of (F6 _ _ njp hj), fun h => absurd h.2 (by show ¬ (4 = 6); decide), fun a ha => ?_⟩
  have s7 := same_new ha (o := .tup [.str J.L, nI J.n, nI J.few, nI J.turn])
  have k7 := upd_same (H := H6) (a := a) (o := .tup [.str J.L, nI J.n, nI J.few, nI J.turn])
  have F7 := F6.trans (Fr.same s7)
  refine ⟨_, rfl, _, rfl, j, _, 5, .ref g, rfl, rfl, SqT.of (F7 _ _ njp hj), at_of (j := 5) rfl rfl, g, _, rfl, .inl (SqL.of (F7 _ _ ngp hg)), fun l hl => ?_⟩
  have s8 := same_new hl (o := .lst (J.good.map nI))
  have k8 := upd_same (H := upd H6 a (.tup [.str J.L, nI J.n, nI J.few, nI J.turn])) (a := l) (o := .lst (J.good.map nI))
  refine ⟨(by show 2 ≤ sizeLine; decide), fun b hb => ?_⟩
  have s9 := same_new hb (o := .tup [.ref D, .ref l])
  have k9 := upd_same (H := upd (upd H6 a (.tup [.str J.L, nI J.n, nI J.few, nI J.turn])) l (.lst (J.good.map nI))) (a := b) (o := .tup [.ref D, .ref l])
  refine ⟨a, b, _, _, rfl, rfl, SqT.of (s9 _ _ (s8 _ _ k7)), SqT.of k9, (fun e => nomatch e), (by show 6 ≤ sizeLine; decide), (fun e => nomatch e), fun _ r hr => ?_⟩
  have s10 := same_new hr (o := .tup [.str J.L, nI J.n, nI J.few, nI J.turn, .ref D, .ref l])
  have S := ((s7.trans s8).trans s9).trans s10
  refine q _ _ (F6.trans (Fr.same S)) ((S6.keep S).mono (by omega)) ⟨r, D, l, zs ++ rem, keys2, rfl, upd_same, S _ _ kD6, fun x hx => ?_, rj2, pk.symm.trans hper, s10 _ _ (s9 _ _ k8)⟩
  exact (hrn6.keep fun b ys e => S _ _ e) x (pz.mem_iff.mp hx)
end

def keyD (c : Nat) (row : List Nat) : PyData := .tuple [.str (ch c), .tuple (row.map fun x : Nat => .int (x : Int))]
def leK (a b : Nat × List Nat) : Bool := PySem.W.dataLe false (fun key : Nat × List Nat => keyD key.1 key.2) a b
theorem ints_alike : ∀ a b : List Nat, PySem.W.alikeAll (a.map fun x : Nat => PyData.int (x : Int)) (b.map fun x : Nat => .int (x : Int)) = true
  | [], _ => by simp [PySem.W.alikeAll]
  | _ :: _, [] => by simp [PySem.W.alikeAll]
  | a :: r, b :: t => by simp only [List.map_cons, PySem.W.alikeAll, PySem.W.alike, ints_alike r t, Bool.and_self]
theorem key_alike (c c' : Nat) (r r' : List Nat) : PySem.W.alike (keyD c r) (keyD c' r') = true := by
  simp only [keyD, PySem.W.alike, PySem.W.alikeAll, ints_alike r r', Bool.and_self]
theorem depth_ints : ∀ r : List Nat, PyData.depthAll (r.map fun x : Nat => PyData.int (x : Int)) ≤ 1
  | [] => by simp [PyData.depthAll]
  | a :: r => by simp only [List.map_cons, PyData.depthAll, PyData.depth]; have := depth_ints r; omega
theorem keyD_depth (c : Nat) (row : List Nat) : (keyD c row).depth ≤ 8 := by
  have := depth_ints row
  simp only [keyD, PyData.depth, PyData.depthAll]
  omega
theorem nkr_inv {H : Hp} {c : Nat} {row : List Nat} {b : Addr} (h : NK H (keyN c row) (.ref b)) : ∃ a, H b = some (.tup [.str (ch c), .ref a]) ∧ H a = some (.tup (row.map nI)) := by
  unfold keyN at h
  cases h with
  | tup h1 h2 =>
    cases h2 with
    | cons k1 k2 =>
      cases k1
      cases k2 with
      | cons k3 k4 =>
        cases k4
        cases k3 with
        | tup h3 h4 =>
          refine ⟨_, h1, ?_⟩
          have : ∀ (row : List Nat) (vs : List V), NKs H (row.map fun x : Nat => NestedKey.num (x : Int)) vs → vs = row.map nI := by
            intro row
            induction row with
            | nil => intro vs h; cases h; rfl
            | cons x r ih =>
              intro vs h
              cases h with
              | cons h1 h2 => cases h1; rw [ih _ h2]; rfl
          rw [h3, this _ _ h4]
theorem key_reads {X : Cx} {pins : List (Addr × Obj)} {σ : L2.St} {H : Hp} {s : Shared} (I : Inv X pins σ H s) {c : Nat} {row : List Nat} {b : Addr} (h : NK H (keyN c row) (.ref b)) : Reads s.heap (.ref b) (keyD c row) [] := by
  obtain ⟨a, hb, ha⟩ := nkr_inv h
  obtain ⟨its, rv, ⟨o, ho, hc, n, hd⟩, _⟩ := I.tuple (SqT.of hb)
  obtain ⟨its2, rv2, ⟨o2, ho2, hc2, n2, hd2⟩, _⟩ := I.tuple (SqT.of ha)
  have ri : ∀ (row : List Nat) (its : List Value), Vals (row.map nI) its → ReadsAll s.heap its (row.map fun x : Nat => PyData.int (x : Int)) [] := by
    intro row
    induction row with
    | nil => intro its h; cases h; exact .nil
    | cons x r ih =>
      intro its h
      cases h with
      | cons h1 h2 =>
        obtain ⟨t, rfl⟩ := h1
        exact .cons (as := []) (bs := []) (.int _ t) (ih _ h2)
  cases rv with
  | cons r1 r2 =>
    cases r2 with
    | cons r3 r4 =>
      cases r4
      cases r3
      obtain ⟨t, rfl⟩ := r1
      exact .tuple ho hc hd (.cons (as := []) (bs := []) (.str _ t) (.cons (as := []) (bs := []) (.tuple ho2 hc2 hd2 (ri row its2 rv2)) .nil))
def rSortN (P : Program) (w : World) : List V → Hp → VK → Prop := fun xs H Q => ∃ (a : Addr) (rows : List NRow) (keys : List (Nat × List Nat)) (fs : Nat → List Nat → Nat), xs = [.ref a] ∧ H a = some (DictN P w a rows) ∧ RowsN H rows ∧ RowsJ rows keys fs ∧
  ∀ (r : Addr) (cs : List Addr), H r = none → Paired (fun b key => NK H (keyN key.1 key.2) (.ref b)) cs (keys.mergeSort leK) → Q (.ref r) (upd H r (.lst (cs.map V.ref)))
theorem call_sortedN {X : Cx} (hc : X.calm = true) (hu : X.A.units + 200 < cLine) : CallR X (.builtin "sorted") (rSortN X.prog X.w) := by
  intro pins s σ H xs us0 Q I r h
  obtain ⟨a, rows, keys, fs, rfl, hd, hrn, hrj, q⟩ := h
  obtain ⟨u, rfl, rx⟩ := vals1 r
  cases rx
  obtain ⟨⟨h1, h2, us, h3, o, es, ep, e1, e2, e3, e4, e5⟩, _, _⟩ := I.hok _ _ hd
  have hl : us.length = es.size := by
    have := congrArg List.length e4
    rw [List.length_map, Array.length_toList] at this
    exact this.symm
  have ln : rows.length = us.length := Paired.length h3
  have lk : rows.length = keys.length := Paired.length hrj
  refine Calls.call_function_entry (PyProof.Rows.kind_sorted) (PyProof.Rows.plain_sorted) (PyProof.Rows.entry_sorted) (PyProof.Rows.args_sorted1 _) (show _ from ?_)
  unfold Builtin.«sorted»
  refine wpAny_bind (m := checkCount "sorted" 1 1 _) (wpAny_pure (wpAny_bind ?_))
  refine (PySem.W.kdu_collect (A := X.A.in1) (kdl_raw h1 e2 e3) (I.ok.hd hc) e1 (by omega) fun kh tm got kp gotten => ?_)
  have J1 : Inv X pins σ H { s with heap := kh, toks := tm } := I.kept kp
  have la : got.toList.length = rows.length := by rw [Array.length_toList, gotten.1, ← hl, ln]
  refine wpAny_bind (wpAny_newList ?_ (by rw [la]; exact h2))
  have stood : (kh.push (seqObj "list" got.toList.toArray 0)).get? kh.objs.size = some (seqObj "list" got.toList.toArray 0) := Heap.get?_push_size _ rfl
  show wpAny _ _ _ _ _ { s with heap := kh.push (seqObj "list" got.toList.toArray 0), toks := tm }
  have gots : ∀ (j : Nat) (v : Value), got.toList[j]? = some v → ∃ row, rows[j]? = some row ∧ v = .ref row.2.1 := fun j v e => by
    obtain ⟨en, hen, hw⟩ := gotten.2 j v (by rw [← Array.getElem?_toList]; exact e)
    have hj : j < rows.length := by rw [← la]; exact (List.getElem?_eq_some_iff.mp e).1
    have hx : rows[j]? = some rows[j] := List.getElem?_eq_getElem hj
    obtain ⟨u, hu, k1, k2, k3⟩ := prd_at h3 hx
    rw [← Array.getElem?_toList, e4, List.getElem?_map, hu] at hen
    cases hen
    exact ⟨_, hx, by rw [hw, k2]; rfl⟩
  have E : PySem.W.EachIs (fun v (b : NRow × (Nat × List Nat)) => v = .ref b.1.2.1 ∧ NK H (keyN b.2.1 b.2.2) (.ref b.1.2.1)) got.toList (rows.zip keys) := by
    have : ∀ (vs : List Value) (rows : List NRow) (keys : List (Nat × List Nat)), vs.length = rows.length → (∀ (j : Nat) (v : Value), vs[j]? = some v → ∃ row, rows[j]? = some row ∧ v = .ref row.2.1) → RowsN H rows → RowsJ rows keys fs →
        PySem.W.EachIs (fun v (b : NRow × (Nat × List Nat)) => v = .ref b.1.2.1 ∧ NK H (keyN b.2.1 b.2.2) (.ref b.1.2.1)) vs (rows.zip keys) := by
      intro vs rows keys few hat hrn hrj
      unfold RowsJ at hrj
      induction hrj generalizing vs with
      | nil => cases vs with
        | nil => exact .nil
        | cons _ _ => cases few
      | @cons row key rows keys hf _ ih => cases vs with
        | nil => cases few
        | cons v vs =>
          obtain ⟨row', hr', hv⟩ := hat 0 v rfl
          cases hr'
          refine .cons ⟨hv, ?_⟩ (ih vs (by simpa using few) (fun j v e => hat (j + 1) v e) fun x hx => hrn x (List.mem_cons_of_mem _ hx))
          have := (hrn row List.mem_cons_self).1
          rw [hf.1] at this
          exact this
    exact this _ _ _ la gots hrn hrj
  have still : ∀ b o, kh.get? b = some o → (kh.push (seqObj "list" got.toList.toArray 0)).get? b = some o := fun b o e => Heap.get?_push_of_some _ e
  have J2 : Inv X pins σ H { s with heap := kh.push (seqObj "list" got.toList.toArray 0), toks := tm } := J1.kept (t' := tm) still
  refine wpAny_bind (wpAny_holding (PySem.W.list_sort_data (s := { s with heap := kh.push (seqObj "list" got.toList.toArray 0), toks := tm }) (vs := got.toList) (bs := rows.zip keys) (enc := fun b => keyD b.2.1 b.2.2) (R := fun v b => v = .ref b.1.2.1 ∧ NK H (keyN b.2.1 b.2.2) (.ref b.1.2.1)) stood E (E.mono fun v b low => ⟨[], by rw [low.1]; exact key_reads J2 low.2, by simp⟩) (PySem.W.AllAlike.of fun b b' => key_alike _ _ _ _) (PySem.W.Sortable.tuples fun b => ⟨_, _, rfl⟩) ?_ ?_ fun out ho he => ?_))
  · rw [List.length_zip, lk, Nat.min_self, ← lk]; exact h2
  · intro b _
    have := keyD_depth b.2.1 b.2.2
    show X.A.units + 1 + 1 + _ < cLine
    omega
  obtain ⟨e', he'⟩ := PyProof.Rows.sortedHeap_at (vs := got.toList) (out := out.toArray) stood
  have back : ∀ (bs : List (NRow × (Nat × List Nat))) (vs : List Value), PySem.W.EachIs (fun v (b : NRow × (Nat × List Nat)) => v = .ref b.1.2.1 ∧ NK H (keyN b.2.1 b.2.2) (.ref b.1.2.1)) vs bs →
      Vals ((bs.map fun b => b.1.2.1).map V.ref) vs ∧ Paired (fun b key => NK H (keyN key.1 key.2) (.ref b)) (bs.map fun b => b.1.2.1) (bs.map Prod.snd) := by
    intro bs
    induction bs with
    | nil => intro vs h; cases h; exact ⟨.nil, .nil⟩
    | cons b r ih =>
      intro vs h
      cases h with
      | cons g1 g2 =>
        obtain ⟨i1, i2⟩ := ih _ g2
        obtain ⟨rfl, g3⟩ := g1
        exact ⟨.cons rfl i1, .cons g3 i2⟩
  obtain ⟨v1, v2⟩ := back _ _ he
  have ez : ((rows.zip keys).mergeSort (PySem.W.dataLe false fun b => keyD b.2.1 b.2.2)).map Prod.snd = keys.mergeSort leK := by
    rw [PySem.W.sort_maps (r := PySem.W.dataLe false fun b : NRow × (Nat × List Nat) => keyD b.2.1 b.2.2) (s := leK) Prod.snd (fun _ _ _ _ => rfl), List.map_snd_zip (by omega)]
  rw [ez] at v2
  have few : ((((rows.zip keys).mergeSort (PySem.W.dataLe false fun b => keyD b.2.1 b.2.2)).map fun b => b.1.2.1).map V.ref).length ≤ sizeLine := by
    rw [List.length_map, List.length_map, List.length_mergeSort, List.length_zip, lk, Nat.min_self, ← lk]; exact h2
  refine wpAny_pure ⟨_, rfl, .ref kh.objs.size, _, J1.laid (t' := tm) (fun b u e => ?_) (Nat.le_refl _)
    (show ObjOk X.prog X.w _ _ _ (.lst ((((rows.zip keys).mergeSort (PySem.W.dataLe false fun b => keyD b.2.1 b.2.2)).map fun b => b.1.2.1).map V.ref)) from ⟨few, out, e', v1, he'⟩), rfl, q _ _ (J1.hok.fresh (Nat.le_refl _)) v2⟩
  have low : b < kh.objs.size := Heap.lt_size e
  rw [PyProof.Rows.sortedHeap_old (Nat.ne_of_lt low) (by rw [size_push']; exact Nat.lt_succ_of_lt low)]
  exact Heap.get?_push_of_some _ e

theorem look_nd {α β : Type} [BEq α] [LawfulBEq α] {a : α} {b : β} : ∀ {l : List (α × β)}, (l.map (·.1)).Nodup → (a, b) ∈ l → l.lookup a = some b
  | (x, y) :: r, nd, h => by
    rw [List.map_cons, List.nodup_cons] at nd
    rcases List.mem_cons.mp h with h | h
    · cases h
      simp [List.lookup]
    · have ne : ¬ a = x := fun e => nd.1 (by rw [← e]; exact List.mem_map.mpr ⟨_, h, rfl⟩)
      have : (a == x) = false := by simpa using ne
      simp only [List.lookup, this]
      exact look_nd nd.2 h

section
open AutoSeq1 (wpAny_loadPart')
open MeetsSeq MeetsSeq2 MeetsSeq3 SeqRoads2
variable {P : Program} {w : World}
theorem agree_from (a b : Addr) (us vs : Array Value) (m m2 : Nat) (o o2 : Option Addr) (f f2 : Array (Option Value)) (same : us.size = vs.size) (left : Nat) :
    ∀ at_ : Nat, us.size - at_ = left → MeetsIn P w (Builtin.«list.__eq__.loop» ⟨[.ref a, .ref b, rawInt at_, rawInt 3], []⟩)
      (fun A R s => (s.heap.get? a = some { cls := .type "list", data := .seq us m, dict := o, slots := f } ∧ s.heap.get? b = some { cls := .type "list", data := .seq vs m2, dict := o2, slots := f2 }) ∧
        (∀ k (q1 : k < us.size) (q2 : k < vs.size), SeqAt.EqIn P w A.in1 s us[k] vs[k] true) ∧ R (.ok (.ret (.bool false))) s) := by
  induction left with
  | zero =>
    rintro at_ hl A R ⟨h, g, ds, ts, ou⟩ ⟨⟨x1, x2⟩, x3, x4⟩
    have n1 : us[((at_ : Nat) : Int).toNat]? = none := by simp; omega
    have n2 : vs[((at_ : Nat) : Int).toNat]? = none := by simp; omega
    wp_walk using wpAny_loadPart' x1, wpAny_loadPart' x2
    rw [n1, n2]
    wp_walk using wpAny_loadPart' x1, wpAny_loadPart' x2
    show R (.ok (.ret (.bool (us.size != vs.size)))) _
    rw [same]
    simpa using x4
  | succ left ih =>
    rintro at_ hl A R ⟨h, g, ds, ts, ou⟩ ⟨⟨x1, x2⟩, x3, x4⟩
    have l1 : at_ < us.size := by omega
    have l2 : at_ < vs.size := by omega
    have n1 : us[((at_ : Nat) : Int).toNat]? = some us[at_] := by simp [l1]
    have n2 : vs[((at_ : Nat) : Int).toNat]? = some vs[at_] := by simp [l2]
    have next : ((at_ : Int) + 1) = ((at_ + 1 : Nat) : Int) := by push_cast; rfl
    wp_walk using wpAny_loadPart' x1, wpAny_loadPart' x2
    rw [n1, n2]
    refine wpAny_bind (x3 at_ l1 l2 _ _ ?_)
    wp_walk
    rw [next]
    refine ⟨plainId_quiet plain_eq_loop _, codeAny_builtin entry_eq_loop ?_⟩
    rw [Around.under_plainId plain_eq_loop _]
    exact ih (at_ + 1) (by omega) A R _ ⟨⟨x1, x2⟩, x3, x4⟩
theorem agree_lists (a b : Addr) (us vs : Array Value) (m m2 : Nat) (o o2 : Option Addr) (f f2 : Array (Option Value)) (same : us.size = vs.size) :
    MeetsIn P w (Builtin.«list.__ne__» ⟨[.ref a, .ref b], []⟩)
      (fun A R s => (s.heap.get? a = some { cls := .type "list", data := .seq us m, dict := o, slots := f } ∧ s.heap.get? b = some { cls := .type "list", data := .seq vs m2, dict := o2, slots := f2 }) ∧
        (∀ k (q1 : k < us.size) (q2 : k < vs.size), SeqAt.EqIn P w A.in1 s us[k] vs[k] true) ∧ R (.ok (.ret (.bool false))) s) := by
  rintro A R ⟨h, g, ds, ts, ou⟩ ⟨⟨x1, x2⟩, x3, x4⟩
  have sub := AutoSeq1.sub_list_list
  have nn : ¬ (us.size != vs.size) = true := by simp [same]
  wp_walk using wpAny_loadPart' x1, wpAny_loadPart' x2
  refine ⟨plainId_quiet plain_eq_loop _, codeAny_builtin entry_eq_loop ?_⟩
  rw [Around.under_plainId plain_eq_loop _]
  exact agree_from a b us vs m m2 o o2 f f2 same _ 0 rfl A R _ ⟨⟨x1, x2⟩, x3, x4⟩
theorem agree_tuples (a b : Addr) (us vs : Array Value) (m m2 : Nat) (o o2 : Option Addr) (f f2 : Array (Option Value)) (same : us.size = vs.size) :
    MeetsIn P w (Builtin.«tuple.__ne__» ⟨[.ref a, .ref b], []⟩)
      (fun A R s => (s.heap.get? a = some { cls := .type "tuple", data := .seq us m, dict := o, slots := f } ∧ s.heap.get? b = some { cls := .type "tuple", data := .seq vs m2, dict := o2, slots := f2 }) ∧
        (∀ k (q1 : k < us.size) (q2 : k < vs.size), SeqAt.EqIn P w A.in1 s us[k] vs[k] true) ∧ R (.ok (.ret (.bool false))) s) :=
  .of_wp fun A R s full => by
    obtain ⟨h, g, ds, ts, ou⟩ := s
    obtain ⟨⟨x1, x2⟩, x3, x4⟩ := full
    have sub := AutoSeq1.sub_tuple_tuple
    have both : (us.toList.zip vs.toList).length = us.size := by simp [same]
    wp_walk using wpAny_loadPart' x1, wpAny_loadPart' x2, wpAny_forIn_list _ (fun rest c s' => c.1 = none ∧ s' = ⟨h, g, ds, ts, ou⟩ ∧ ∃ k, rest = (us.toList.zip vs.toList).drop k) _
    case turn =>
      rintro ⟨y, x⟩ rest c s' ⟨none_, rfl, k, left⟩
      have lt : k < (us.toList.zip vs.toList).length := by
        rcases Nat.lt_or_ge k (us.toList.zip vs.toList).length with z | z
        · exact z
        · rw [List.drop_of_length_le z] at left; cases left
      have l1 : k < us.size := both ▸ lt
      have l2 : k < vs.size := same ▸ l1
      rw [List.drop_eq_getElem_cons lt] at left
      injection left with pair tail
      obtain rfl : y = us[k] := by have := congrArg Prod.fst pair; simpa using this
      obtain rfl : x = vs[k] := by have := congrArg Prod.snd pair; simpa using this
      refine wpAny_bind (x3 k l1 l2 _ _ ?_)
      wp_walk
      exact ⟨rfl, rfl, k + 1, tail⟩
    case fin =>
      rintro ⟨c1, c2⟩ s' ⟨none_, rfl, k, left⟩
      simp only at none_
      subst none_
      wp_walk
      exact ⟨_, rfl, by simpa [Builtin.Tuple.tupleCompareSizes, bne, same] using x4⟩
    case h => exact ⟨rfl, rfl, 0, rfl⟩
theorem ne_agreeT {A : Around} {E Q : Value → Shared → Prop} {s : Shared} {a b : Addr} {us vs : Array Value} (x : s.heap.IsTuple a us) (y : s.heap.IsTuple b vs) (same : us.size = vs.size) (hu : A.units < cLine)
    (each : ∀ k (q1 : k < us.size) (q2 : k < vs.size), SeqAt.EqIn P w A.in1 s us[k] vs[k] true) (q : Q (.bool false) s) : wpAny (model P w) A (compareOp .NotEq (.ref a) (.ref b)) Q E s := by
  obtain ⟨⟨c1, o, t1, f⟩, x1, rfl, m, rfl⟩ := x
  obtain ⟨⟨c2, o2, t2, f2⟩, y1, rfl, m2, rfl⟩ := y
  refine wpAny_richCompare_same_room (T := "tuple") (op := .NotEq) ⟨_, x1, rfl⟩ ⟨_, y1, rfl⟩ F.slot_tuple_ne (call_meetsIn F.slot_tuple_ne ⟨_, x1, rfl⟩ F.entry_tuple_ne (F.args_tuple_ne_2 _ _) (agree_tuples a b us vs m m2 o o2 f f2 same) ⟨⟨x1, y1⟩, each, ?_⟩) hu
  exact show Value.bool false ≠ Value.notImplemented ∧ Q (.bool false) s from ⟨(fun e => nomatch e), q⟩
theorem ne_agree {A : Around} {E Q : Value → Shared → Prop} {s : Shared} {a b : Addr} {us vs : Array Value} (x : s.heap.IsList a us) (y : s.heap.IsList b vs) (same : us.size = vs.size) (hu : A.units < cLine)
    (each : ∀ k (q1 : k < us.size) (q2 : k < vs.size), SeqAt.EqIn P w A.in1 s us[k] vs[k] true) (q : Q (.bool false) s) : wpAny (model P w) A (compareOp .NotEq (.ref a) (.ref b)) Q E s := by
  obtain ⟨⟨c1, o, t1, f⟩, x1, rfl, m, rfl⟩ := x
  obtain ⟨⟨c2, o2, t2, f2⟩, y1, rfl, m2, rfl⟩ := y
  refine wpAny_richCompare_same_room (T := "list") (op := .NotEq) ⟨_, x1, rfl⟩ ⟨_, y1, rfl⟩ F.slot_list_ne (call_meetsIn F.slot_list_ne ⟨_, x1, rfl⟩ F.entry_list_ne (F.args_list_ne_2 _ _) (agree_lists a b us vs m m2 o o2 f f2 same) ⟨⟨x1, y1⟩, each, ?_⟩) hu
  exact show Value.bool false ≠ Value.notImplemented ∧ Q (.bool false) s from ⟨(fun e => nomatch e), q⟩
end
inductive EqH (K : PySem.W.Frag) (H : Hp) : Nat → V → V → Prop
  | dat {n : Nat} {x y : V} {d : PyData} : Dp K H x d → Dp K H y d → d.canLay0 = true → d.depth ≤ n → EqH K H n x y
  | lst {n : Nat} {a b : Addr} {xs ys : List V} : H a = some (.lst xs) → H b = some (.lst ys) → xs.length = ys.length → (∀ (j : Nat) (x y : V), xs[j]? = some x → ys[j]? = some y → EqH K H n x y) → EqH K H (n + 1) (.ref a) (.ref b)
  | tup {n : Nat} {a b : Addr} {xs ys : List V} : H a = some (.tup xs) → H b = some (.tup ys) → xs.length = ys.length → (∀ (j : Nat) (x y : V), xs[j]? = some x → ys[j]? = some y → EqH K H n x y) → EqH K H (n + 1) (.ref a) (.ref b)
  | dic {n : Nat} {a b : Addr} {es fs : List (Key × V)} : H a = some (.dK es) → H b = some (.dK fs) → es.length = fs.length → (∀ k v, (k, v) ∈ es → (valV fs k).isSome = true) → (∀ k v u, (k, v) ∈ es → valV fs k = some u → EqH K H n v u) → EqH K H (n + 1) (.ref a) (.ref b)
theorem all_true (n : Nat) : ((List.range n).all fun _ => true) = true := by
  rw [List.all_eq_true]
  intro _ _
  rfl
theorem pairs_mem : ∀ {es : List (Key × V)} {vs : List (Key × Value)} {k : Key} {u : Value}, KV es vs → (k, u) ∈ vs → ∃ v, (k, v) ∈ es ∧ RelV v u
  | _, _, _, _, .nil, h => by cases h
  | (_, v) :: _, _, _, _, .cons r t, h => by
    rcases List.mem_cons.mp h with e | e
    · cases e
      obtain ⟨e1, e2⟩ := r
      exact ⟨v, List.mem_cons.mpr (.inl (congrArg (fun z => (z, v)) (show _ = _ from e1.symm))), e2⟩
    · obtain ⟨x, e1, e2⟩ := pairs_mem t e
      exact ⟨x, List.mem_cons_of_mem _ e1, e2⟩
theorem vals_at {xs : List V} {us : List Value} (r : Vals xs us) {k : Nat} (hk : k < us.toArray.size) : ∃ x, xs[k]? = some x ∧ RelV x us.toArray[k] := by
  have hx : k < xs.length := by rw [r.length]; simpa using hk
  obtain ⟨u, hu, ru⟩ := r.get (List.getElem?_eq_getElem hx)
  refine ⟨_, List.getElem?_eq_getElem hx, ?_⟩
  have : us.toArray[k] = u := by
    have := List.getElem?_eq_some_iff.mp hu
    simpa using this.2
  rw [this]
  exact ru
section
variable {X : Cx} {pins : List (Addr × Obj)} {σ : List (Option V)} {H : Hp} {s : Shared}
theorem EqH.tree (I : Inv X pins σ H s) {n : Nat} {x y : V} (h : EqH X.K H n x y) : ∀ {v u : Value}, RelV x v → RelV y u → PySem.W.EqTree X.prog X.w s n v u true := by
  induction h with
  | @dat n x y d h1 h2 hl hd =>
    intro v u rx ry
    obtain ⟨as, r1⟩ := Dp.reads I d x v h1 rx
    obtain ⟨bs, r2⟩ := Dp.reads I d y u h2 ry
    have pl := PyData.plain_of_canLay0 d hl
    refine .leaf fun A hu => ?_
    have := SeqAt.eqAt_plain d d A s v u as bs r1 r2 pl pl (by rw [Nat.min_self]; omega)
    rw [SeqAt.eqv_refl_plain d pl] at this
    exact this
  | @lst n a b xs ys h1 h2 hl hi ih =>
    intro v u rx ry
    cases rx
    cases ry
    by_cases e : a = b
    · subst e
      exact .same
    obtain ⟨us, r1, ⟨o1, m1, g1, g2, _, g3⟩, _⟩ := I.list (SqL.of h1)
    obtain ⟨vs, r2, ⟨o2, m2, k1, k2, _, k3⟩, _⟩ := I.list (SqL.of h2)
    have := PySem.W.EqTree.lists (prog := X.prog) (w := X.w) (n := n) (e := fun _ => true) e ⟨o1, g1, g2, m1, g3⟩ ⟨o2, k1, k2, m2, k3⟩ (by simp only [List.size_toArray]; rw [← r1.length, ← r2.length, hl]) fun j q1 q2 => by
      obtain ⟨x, hx, rx⟩ := vals_at r1 q1
      obtain ⟨y, hy, ry⟩ := vals_at r2 q2
      exact ih j x y hx hy rx ry
    rw [all_true] at this
    exact this
  | @tup n a b xs ys h1 h2 hl hi ih =>
    intro v u rx ry
    cases rx
    cases ry
    by_cases e : a = b
    · subst e
      exact .same
    obtain ⟨us, r1, k1, _⟩ := I.tuple (SqT.of h1)
    obtain ⟨vs, r2, k2, _⟩ := I.tuple (SqT.of h2)
    have := PySem.W.EqTree.tuples (prog := X.prog) (w := X.w) (n := n) (e := fun _ => true) e k1 k2 fun j q1 q2 => by
      obtain ⟨x, hx, rx⟩ := vals_at r1 q1
      obtain ⟨y, hy, ry⟩ := vals_at r2 q2
      exact ih j x y hx hy rx ry
    have len : us.length = vs.length := by rw [← r1.length, ← r2.length, hl]
    rw [all_true] at this
    simpa [len] using this
  | @dic n a b es fs h1 h2 hl hs hi ih =>
    intro v u rx ry
    cases rx
    cases ry
    by_cases e : a = b
    · subst e
      exact .same
    obtain ⟨_, n1, vs, r1, d1⟩ := (show ObjOk X.prog X.w H s.heap a (.dK es) from I.hok a _ h1)
    obtain ⟨_, n2, us, r2, d2⟩ := (show ObjOk X.prog X.w H s.heap b (.dK fs) from I.hok b _ h2)
    have := PySem.W.EqTree.dicts (prog := X.prog) (w := X.w) (n := n) (e := fun _ => true) e n1 n2 d1 d2 fun k v y hm hy => by
      obtain ⟨x, hx, rx⟩ := pairs_mem r1 hm
      have rl := r2.val k
      rw [hy] at rl
      cases hq : valV fs k with
      | none => rw [hq] at rl; exact (show False from rl).elim
      | some z =>
        rw [hq] at rl
        exact ih k x z hx hq rx rl
    have all : (vs.all fun p => (PySem.valueAt us p.1).isSome && true) = true := by
      rw [List.all_eq_true]
      rintro ⟨k, v⟩ hm
      obtain ⟨x, hx, _⟩ := pairs_mem r1 hm
      have rl := r2.val k
      have := hs k x hx
      cases hq : valV fs k with
      | none => rw [hq] at this; cases this
      | some z =>
        rw [hq] at rl
        cases hp : PySem.valueAt us k with
        | none => rw [hp] at rl; exact (show False from rl).elim
        | some _ => simp [hp]
    have len : vs.length = us.length := by rw [← r1.length, ← r2.length, hl]
    rw [all, len] at this
    simpa using this
end
theorem roomH {k : Nat} {A : Around} (r : Room k A) : A.units + 200 < cLine := by have := r.un; omega
def rNeH (K : PySem.W.Frag) : R2 := fun x y H Q => ∃ (a b : Addr) (xs ys : List V) (n : Nat), x = .ref a ∧ y = .ref b ∧ H a = some (.lst xs) ∧ H b = some (.lst ys) ∧ xs.length = ys.length ∧ (∀ (j : Nat) (x y : V), xs[j]? = some x → ys[j]? = some y → EqH K H n x y) ∧ n ≤ 190 ∧ Q (.bl false) H
theorem op_neH {X : Cx} (hu : X.A.units + 200 < cLine) : OpR X (compareOp .NotEq) (rNeH X.K) := by
  intro pins s σ H x y v u Q I rx ry h
  obtain ⟨a, b, xs, ys, n, rfl, rfl, h1, h2, hl, hi, hn, q⟩ := h
  cases rx
  cases ry
  obtain ⟨us, r1, ⟨o1, m1, g1, g2, _, g3⟩, _⟩ := I.list (SqL.of h1)
  obtain ⟨vs, r2, ⟨o2, m2, k1, k2, _, k3⟩, _⟩ := I.list (SqL.of h2)
  refine ne_agree ⟨o1, g1, g2, m1, g3⟩ ⟨o2, k1, k2, m2, k3⟩ (by simp only [List.size_toArray]; rw [← r1.length, ← r2.length, hl]) (by omega) (fun j q1 q2 => ?_) ⟨.bl _, H, I, rfl, q⟩
  obtain ⟨x, hx, rx⟩ := vals_at r1 q1
  obtain ⟨y, hy, ry⟩ := vals_at r2 q2
  exact ((hi j x y hx hy).tree I rx ry).at _ (by show X.A.units + 1 + n < cLine; omega)
def rNeHT (K : PySem.W.Frag) : R2 := fun x y H Q => ∃ (a b : Addr) (xs ys : List V) (n : Nat), x = .ref a ∧ y = .ref b ∧ H a = some (.tup xs) ∧ H b = some (.tup ys) ∧ xs.length = ys.length ∧ (∀ (j : Nat) (x y : V), xs[j]? = some x → ys[j]? = some y → EqH K H n x y) ∧ n ≤ 190 ∧ Q (.bl false) H
theorem op_neHT {X : Cx} (hu : X.A.units + 200 < cLine) : OpR X (compareOp .NotEq) (rNeHT X.K) := by
  intro pins s σ H x y v u Q I rx ry h
  obtain ⟨a, b, xs, ys, n, rfl, rfl, h1, h2, hl, hi, hn, q⟩ := h
  cases rx
  cases ry
  obtain ⟨us, r1, k1, _⟩ := I.tuple (SqT.of h1)
  obtain ⟨vs, r2, k2, _⟩ := I.tuple (SqT.of h2)
  refine ne_agreeT k1 k2 (by simp only [List.size_toArray]; rw [← r1.length, ← r2.length, hl]) (by omega) (fun j q1 q2 => ?_) ⟨.bl _, H, I, rfl, q⟩
  obtain ⟨x, hx, rx⟩ := vals_at r1 q1
  obtain ⟨y, hy, ry⟩ := vals_at r2 q2
  exact ((hi j x y hx hy).tree I rx ry).at _ (by show X.A.units + 1 + n < cLine; omega)
theorem lets_ok {L : Str} (h : Lets L) : PyData.strOk L = true := by
  unfold PyData.strOk
  rw [Array.all_eq_true_iff_forall_mem]
  intro c hc
  have := h.2.2 c (by simpa using hc)
  simp
  omega

section
variable {P : Program} {w : World} {A : Around} {E : Value → Shared → Prop} {s : Shared}
theorem range_head {m i j : Nat} {rest : List Nat} (h : j :: rest = List.range' i (m - i)) : i < m ∧ j = i ∧ rest = List.range' (i + 1) (m - (i + 1)) := by
  have lt : i < m := by
    rcases Nat.lt_or_ge i m with z | z
    · exact z
    · rw [Nat.sub_eq_zero_of_le z] at h
      simp at h
  rw [show m - i = (m - (i + 1)) + 1 by omega, List.range'_succ] at h
  injection h with a b
  exact ⟨lt, a, b⟩
theorem agree_pairs {nm : String} {a b : Addr} {us vs : List (NestedKey × Addr × Value)} {Q : Bool → Shared → Prop} (na : (a == sysModules) = false) (nb : (b == sysModules) = false) (room : A.units + 8 < cLine)
    (x : s.heap.DictOfH (nestedKind P w) a us) (y : s.heap.DictOfH (nestedKind P w) b vs) (len : us.length = vs.length)
    (hit : ∀ k c v, (k, c, v) ∈ us → ∃ e u, (k, e, u) ∈ vs ∧ SeqAt.EqIn P w A s v u true) (q : Q true s) : wpAny (model P w) A (Builtin.Dict.samePairs nm a b) Q E s := by
  obtain ⟨o1, e1, p1, g1, _, d1, l1, i1, n1⟩ := x
  obtain ⟨o2, e2, p2, g2, _, d2, l2, i2, n2⟩ := y
  have z1 : e1.size = us.length := size_of_entries l1
  have z2 : e2.size = vs.length := size_of_entries l2
  unfold Builtin.Dict.samePairs Builtin.Dict.showsAll
  rw [na, nb]
  simp only [Bool.false_eq_true, if_false]
  refine wpAny_bind (wpAny_pure (wpAny_bind (wpAny_pure (wpAny_bind (wpAny_dictEntries g1 d1 ?_)))))
  refine wpAny_bind (wpAny_dictEntries g2 d2 ?_)
  rw [if_neg (by rw [z1, z2, len]; simp)]
  refine wpAny_bind (wpAny_dictEpoch g1 d1 (wpAny_bind ?_))
  rw [Std.Legacy.Range.forIn_eq_forIn_range']
  simp only [Nat.div_one, Nat.add_sub_cancel, Nat.sub_zero, Std.Legacy.Range.size]
  refine wpAny_forIn_list _ (fun rest c s' => s' = s ∧ c = (none, ()) ∧ ∃ i, rest = List.range' i (e1.size - i)) _ ?_ ?_ _ _ ⟨rfl, rfl, 0, by simp⟩
  · rintro j rest c s' ⟨rfl, rfl, i, hr⟩
    obtain ⟨lt, rfl, tail⟩ := range_head hr
    have lu : j < us.length := z1 ▸ lt
    obtain ⟨k, c, v, row⟩ : ∃ k c v, us[j] = (k, c, v) := ⟨_, _, _, rfl⟩
    have mem : (k, c, v) ∈ us := row ▸ List.getElem_mem lu
    obtain ⟨e, u, hm, he⟩ := hit k c v mem
    refine wpAny_bind (wpAny_dictEntries g1 d1 ?_)
    rw [entry_at l1 j, List.getElem?_eq_getElem lu, row]
    show wpAny _ _ (holding [Value.ref c, v] (dictFind b (.ref c) ((nestedKind P w).hash k) >>= _) >>= _) _ _ _
    refine wpAny_bind (wpAny_holding (wpAny_bind (wpAny_dictFind_heap room (i1 _ mem) g2 d2 l2 i2 n2 (fun no => ?_) fun m p hp => ?_)))
    · obtain ⟨m, hm⟩ := List.getElem?_of_mem hm
      exact absurd hm (no m (e, u))
    · have same : p = (e, u) := Option.some.inj ((look_nd n2 (List.mem_of_getElem? hp)).symm.trans (look_nd n2 hm))
      subst same
      refine wpAny_bind (wpAny_dictEntries g2 d2 ?_)
      rw [entry_at l2 m, hp]
      refine wpAny_holding (he _ _ ?_)
      show wpAny _ _ (if (!true) = true then _ else _) _ _ _
      rw [if_neg (by decide)]
      refine wpAny_bind (wpAny_dictEpoch g1 d1 ?_)
      rw [if_neg (by simp)]
      exact wpAny_pure ⟨rfl, rfl, j + 1, tail⟩
  · rintro c s' ⟨rfl, rfl, _, _⟩
    exact wpAny_pure q
theorem agree_tables {a b : Addr} {us vs : List (NestedKey × Addr × Value)} (na : (a == sysModules) = false) (nb : (b == sysModules) = false) (room : A.units + 9 < cLine)
    (x : s.heap.DictOfH (nestedKind P w) a us) (y : s.heap.DictOfH (nestedKind P w) b vs) (len : us.length = vs.length)
    (hit : ∀ k c v, (k, c, v) ∈ us → ∃ e u, (k, e, u) ∈ vs ∧ SeqAt.EqIn P w A.in1 s v u true) : SeqAt.EqIn P w A s (.ref a) (.ref b) true := by
  by_cases e : a = b
  · subst e
    exact (SeqAt.EqAt.same _).inModel P w
  refine SeqAt.EqIn.of_refs e fun E Q q => ?_
  refine wpAny_richCompare_same_room (T := "dict") (op := .Eq) x.typeIs y.typeIs F.slot_dict_eq (wpAny_call_entry F.slot_dict_eq x.typeIs F.entry_dict_eq ?_ (F.args_dict_eq_2 _ _)) (by omega)
  show wpAny _ _ (Builtin.Dict.dictSlotArgs "__eq__" ⟨[.ref a, .ref b], []⟩ >>= _) _ _ s
  unfold Builtin.Dict.dictSlotArgs
  refine wpAny_bind (wpAny_bind (wpAny_notOrdered_dict x.typeIs ?_))
  show wpAny _ _ (pure (f := Sem) ((Value.ref a : Value), (Value.ref b : Value))) _ _ s
  refine wpAny_pure (wpAny_bind (wpAny_isInstance (T := "dict") y.typeIs F.sub_dict_dict ?_))
  rw [if_neg (by decide)]
  refine wpAny_bind (wpAny_pure (wpAny_bind (wpAny_pure (wpAny_bind (agree_pairs na nb (by show A.units + 1 + 8 < cLine; omega) x y len hit ?_)))))
  exact wpAny_pure ⟨_, rfl, (fun z => nomatch z), q⟩
end
def SameT (xs ys : List NRow) : Prop := xs.length = ys.length ∧ ∀ k c v, (k, c, v) ∈ xs → ∃ (e : Addr) (n : Int), v = .int n ∧ (k, e, v) ∈ ys
theorem rows_left {xs : List NRow} {us : List (NestedKey × Addr × Value)} (p : Paired (fun (p : NRow) (q : NestedKey × Addr × Value) => p.1 = q.1 ∧ p.2.1 = q.2.1 ∧ RelV p.2.2 q.2.2) xs us) {k : NestedKey} {c : Addr} {u : Value} (h : (k, c, u) ∈ us) : ∃ v, (k, c, v) ∈ xs ∧ RelV v u := by
  induction p with
  | nil => cases h
  | cons r t ih =>
    rename_i x y xs us
    rcases List.mem_cons.mp h with e | e
    · subst e
      obtain ⟨x1, x2, x3⟩ := x
      obtain ⟨r1, r2, r3⟩ := r
      dsimp only at r1 r2 r3
      subst r1 r2
      exact ⟨x3, List.mem_cons_self, r3⟩
    · obtain ⟨v, h1, h2⟩ := ih e
      exact ⟨v, List.mem_cons_of_mem _ h1, h2⟩
theorem rows_right {xs : List NRow} {us : List (NestedKey × Addr × Value)} (p : Paired (fun (p : NRow) (q : NestedKey × Addr × Value) => p.1 = q.1 ∧ p.2.1 = q.2.1 ∧ RelV p.2.2 q.2.2) xs us) {k : NestedKey} {c : Addr} {v : V} (h : (k, c, v) ∈ xs) : ∃ u, (k, c, u) ∈ us ∧ RelV v u := by
  induction p with
  | nil => cases h
  | cons r t ih =>
    rename_i x y xs us
    rcases List.mem_cons.mp h with e | e
    · subst e
      obtain ⟨x1, x2, x3⟩ := y
      obtain ⟨r1, r2, r3⟩ := r
      dsimp only at r1 r2 r3
      subst r1 r2
      exact ⟨x3, List.mem_cons_self, r3⟩
    · obtain ⟨v, h1, h2⟩ := ih e
      exact ⟨v, List.mem_cons_of_mem _ h1, h2⟩
def EqHN (K : PySem.W.Frag) (P : Program) (w : World) (H : Hp) (n : Nat) (x y : V) : Prop := EqH K H n x y ∨ ∃ (a b : Addr) (xs ys : List NRow), x = .ref a ∧ y = .ref b ∧ H a = some (DictN P w a xs) ∧ RowsN H xs ∧ H b = some (DictN P w b ys) ∧ RowsN H ys ∧ SameT xs ys
theorem EqHN.at {X : Cx} {pins : List (Addr × Obj)} {σ : List (Option V)} {H : Hp} {s : Shared} (I : Inv X pins σ H s) {n : Nat} {x y : V} (h : EqHN X.K X.prog X.w H n x y) (hn : n ≤ 190) {v u : Value} (rx : RelV x v) (ry : RelV y u) {A : Around} (hu : A.units + 199 < cLine) : SeqAt.EqIn X.prog X.w A s v u true := by
  rcases h with h | ⟨a, b, xs, ys, rfl, rfl, h1, k1, h2, k2, len, each⟩
  · exact (h.tree I rx ry).at _ (by omega)
  cases rx
  cases ry
  obtain ⟨na, us, p1, d1⟩ := dictN_of I h1 k1
  obtain ⟨nb, vs, p2, d2⟩ := dictN_of I h2 k2
  refine agree_tables na nb (by omega) d1 d2 (by rw [← Paired.length p1, ← Paired.length p2, len]) fun k c v hm => ?_
  obtain ⟨x, hx, rx⟩ := rows_left p1 hm
  obtain ⟨e, n, rfl, hy⟩ := each k c x hx
  obtain ⟨u, hu2, ru⟩ := rows_right p2 hy
  refine ⟨e, u, hu2, ?_⟩
  have dx : Dp X.K H (.int n) (.int n) := .int n
  have t : EqH X.K H 1 (V.int n) (V.int n) := .dat dx dx (by simp only [PyData.canLay0]) (Nat.zero_le _)
  exact (t.tree I rx ru).at _ (by show A.units + 1 + 1 < cLine; omega)
def rNeHN (K : PySem.W.Frag) (P : Program) (w : World) : R2 := fun x y H Q => ∃ (a b : Addr) (xs ys : List V) (n : Nat), x = .ref a ∧ y = .ref b ∧ H a = some (.tup xs) ∧ H b = some (.tup ys) ∧ xs.length = ys.length ∧ (∀ (j : Nat) (x y : V), xs[j]? = some x → ys[j]? = some y → EqHN K P w H n x y) ∧ n ≤ 190 ∧ Q (.bl false) H
theorem op_neHN {X : Cx} (hu : X.A.units + 200 < cLine) : OpR X (compareOp .NotEq) (rNeHN X.K X.prog X.w) := by
  intro pins s σ H x y v u Q I rx ry h
  obtain ⟨a, b, xs, ys, n, rfl, rfl, h1, h2, hl, hi, hn, q⟩ := h
  cases rx
  cases ry
  obtain ⟨us, r1, k1, _⟩ := I.tuple (SqT.of h1)
  obtain ⟨vs, r2, k2, _⟩ := I.tuple (SqT.of h2)
  refine ne_agreeT k1 k2 (by simp only [List.size_toArray]; rw [← r1.length, ← r2.length, hl]) (by omega) (fun j q1 q2 => ?_) ⟨.bl _, H, I, rfl, q⟩
  obtain ⟨x, hx, rx⟩ := vals_at r1 q1
  obtain ⟨y, hy, ry⟩ := vals_at r2 q2
  exact (hi j x y hx hy).at I hn rx ry (by show X.A.units + 1 + 199 < cLine; omega)

theorem sameT_perm {xs ys : List NRow} {k1 k2 : List (Nat × List Nat)} {fs : Nat → List Nat → Nat} (x : RowsJ xs k1 fs) (y : RowsJ ys k2 fs) (p : k1.Perm k2) : SameT xs ys := by
  refine ⟨by rw [Paired.length x, Paired.length y, p.length_eq], fun k c v hm => ?_⟩
  obtain ⟨key, hk, e1, e2⟩ := prd_mem x hm
  obtain ⟨i, hi⟩ := List.getElem?_of_mem (p.mem_iff.mp hk)
  have hl : i < ys.length := by rw [Paired.length y]; exact (List.getElem?_eq_some_iff.mp hi).1
  have hy : ys[i]? = some ys[i] := List.getElem?_eq_getElem hl
  obtain ⟨key2, hk2, f1, f2⟩ := prd_at y hy
  rw [hi] at hk2
  cases hk2
  dsimp only at e1 e2
  refine ⟨ys[i].2.1, _, e2, ?_⟩
  have : ys[i] = (k, ys[i].2.1, v) := Prod.ext (f1.trans e1.symm) (Prod.ext rfl (f2.trans e2.symm))
  rw [← this]
  exact List.mem_of_getElem? hy
theorem judges_eq {P : Program} {w : World} {K : PySem.W.Frag} {H : Hp} {v u : V} {J : JD} (hL : Lets J.L) (x : JAt P w H v J) (y : JAt P w H u J) : ∃ (a b : Addr) (xs ys : List V), v = .ref a ∧ u = .ref b ∧ H a = some (.tup xs) ∧ H b = some (.tup ys) ∧ xs.length = ys.length ∧ ∀ (j : Nat) (x y : V), xs[j]? = some x → ys[j]? = some y → EqHN K P w H 90 x y := by
  obtain ⟨a, d, g, xs, k1, rfl, a1, a2, a3, a4, a5, a6⟩ := x
  obtain ⟨b, e, f, ys, k2, rfl, b1, b2, b3, b4, b5, b6⟩ := y
  refine ⟨_, _, _, _, rfl, rfl, a1, b1, rfl, ?_⟩
  have i1 : ∀ m : Nat, EqH K H 90 (nI m) (nI m) := fun m => .dat (.int _) (.int _) (by simp only [PyData.canLay0]) (by simp [PyData.depth])
  intro j x y h1 h2
  rcases j with _ | _ | _ | _ | _ | _ | j
  · cases h1; cases h2
    exact .inl (.dat (.str _) (.str _) (by simp only [PyData.canLay0]; exact lets_ok hL) (by simp [PyData.depth]))
  · cases h1; cases h2; exact .inl (i1 _)
  · cases h1; cases h2; exact .inl (i1 _)
  · cases h1; cases h2; exact .inl (i1 _)
  · cases h1; cases h2
    exact .inr ⟨d, e, xs, ys, rfl, rfl, a2, a3, b2, b3, sameT_perm a4 b4 (a5.trans b5.symm)⟩
  · cases h1; cases h2
    refine .inl (.lst a6 b6 rfl fun j x y h1 h2 => ?_)
    rw [h1] at h2
    cases h2
    rw [List.getElem?_map] at h1
    cases hm : J.good[j]? with
    | none => rw [hm] at h1; cases h1
    | some m =>
      rw [hm] at h1
      cases h1
      exact .dat (.int _) (.int _) (by simp only [PyData.canLay0]) (by simp [PyData.depth])
  · cases h1

def TyN (P : Program) (w : World) (K : PySem.W.Frag) (H : Hp) (x : V) (t : String) : Prop := TyX K H x (.type t) ∨ ∃ (a : Addr) (rows : List NRow), x = .ref a ∧ H a = some (DictN P w a rows) ∧ t = "dict"
def rIsA (P : Program) (w : World) (K : PySem.W.Frag) : List V → Hp → VK → Prop := fun xs H Q => ∃ (x c : V) (t : String) (u : Value) (b : Bool), xs = [x, c] ∧ ClsV c u ∧ TyN P w K H x t ∧ PySem.W.kitOne K (.type t) u = some b ∧ Q (.bl b) H
def rIsAT (P : Program) (w : World) (K : PySem.W.Frag) : List V → Hp → VK → Prop := fun xs H Q => ∃ (x : V) (tp : Addr) (cs : List V) (t : String) (us : List Value) (b : Bool), xs = [x, .ref tp] ∧ H tp = some (.tup cs) ∧ Paired ClsV cs us ∧ TyN P w K H x t ∧ PySem.W.kitAny K (.type t) us = some b ∧ Q (.bl b) H
def rIxA (K : PySem.W.Frag) : R2 := fun x y H Q => rIxL K x y H Q ∨ rIxT K x y H Q
section
variable {X : Cx}
theorem ix_any : IxR X (rIxA X.K) := fun value slice pins s σ H x y v u Q I rx ry h hs => h.elim (fun h => ix_list value slice pins s σ H x y v u Q I rx ry h hs) (fun h => ix_tup value slice pins s σ H x y v u Q I rx ry h hs)
theorem call_isA : CallR X (.builtin "isinstance") (rIsA X.prog X.w X.K) := by
  intro pins s σ H xs us Q I r h
  obtain ⟨x, c, t, u, b, rfl, k, ty, e, q⟩ := h
  rcases ty with ty | ⟨a, rows, rfl, ha, rfl⟩
  · exact call_isi pins s σ H _ us Q I r ⟨x, c, _, u, b, rfl, k, ty, e, q⟩
  · exact call_isN pins s σ H _ us Q I r ⟨a, rows, c, u, b, rfl, ha, k, e, q⟩
theorem call_isAT : CallR X (.builtin "isinstance") (rIsAT X.prog X.w X.K) := by
  intro pins s σ H xs us Q I r h
  obtain ⟨x, tp, cs, t, ws, b, rfl, hT, k, ty, e, q⟩ := h
  rcases ty with ty | ⟨a, rows, rfl, ha, rfl⟩
  · exact call_isiT pins s σ H _ us Q I r ⟨x, tp, cs, _, ws, b, rfl, hT, k, ty, e, q⟩
  obtain ⟨u1, u2, rfl, r1, r2⟩ := vals2 r
  cases (show u2 = Value.ref tp from r2)
  cases r1
  obtain ⟨⟨_, _, _, _, oo, _, _, e1, e2, _⟩, _, _⟩ := I.hok a _ ha
  obtain ⟨_, its, rv, o, h1, h2, n, h3⟩ := (show ObjOk X.prog X.w H s.heap tp (.tup cs) from I.hok tp _ hT)
  have e3 := ClsV.all k rv
  subst e3
  obtain ⟨oc, od, dt, sl⟩ := o
  simp only at h2 h3
  subst h2 h3
  exact PySem.W.kia_tup PySem.W.kitx_dict I.kIn ⟨oo, e1, e2.1⟩ h1 e (fun z => nomatch z) fun tk => ⟨.bl b, H, I.tok tk, rfl, q⟩
end
def rNeN (P : Program) (w : World) : R2 := fun x y H Q => ∃ (a b : Addr) (xs ys : List NRow), x = .ref a ∧ y = .ref b ∧ H a = some (DictN P w a xs) ∧ RowsN H xs ∧ H b = some (DictN P w b ys) ∧ RowsN H ys ∧ SameT xs ys ∧ Q (.bl false) H
theorem op_neN {X : Cx} (hu : X.A.units + 200 < cLine) : OpR X (compareOp .NotEq) (rNeN X.prog X.w) := by
  intro pins s σ H x y v u Q I rx ry h
  obtain ⟨a, b, xs, ys, rfl, rfl, h1, k1, h2, k2, ⟨len, each⟩, q⟩ := h
  cases rx
  cases ry
  obtain ⟨na, us, p1, d1⟩ := dictN_of I h1 k1
  obtain ⟨nb, vs, p2, d2⟩ := dictN_of I h2 k2
  refine wpAny_richCompare_same_room (T := "dict") (op := .NotEq) d1.typeIs d2.typeIs PySem.F.slot_dict_ne (wpAny_call_entry PySem.F.slot_dict_ne d1.typeIs PySem.F.entry_dict_ne ?_ (PySem.F.args_dict_ne_2 _ _)) (by omega)
  show wpAny _ _ (Builtin.Dict.dictSlotArgs "__ne__" ⟨[.ref a, .ref b], []⟩ >>= _) _ _ s
  unfold Builtin.Dict.dictSlotArgs
  refine wpAny_bind (wpAny_bind (wpAny_notOrdered_dict d1.typeIs ?_))
  show wpAny _ _ (pure (f := Sem) ((Value.ref a : Value), (Value.ref b : Value))) _ _ s
  refine wpAny_pure (wpAny_bind (wpAny_isInstance (T := "dict") d2.typeIs PySem.F.sub_dict_dict ?_))
  rw [if_neg (by decide)]
  refine wpAny_bind (wpAny_pure (wpAny_bind (wpAny_pure (wpAny_bind (agree_pairs na nb (by show X.A.units + 1 + 8 < cLine; omega) d1 d2 (by rw [← Paired.length p1, ← Paired.length p2, len]) ?_ ?_)))))
  · intro k c v hm
    obtain ⟨x, hx, rx⟩ := rows_left p1 hm
    obtain ⟨e, n, rfl, hy⟩ := each k c x hx
    obtain ⟨u, hu2, ru⟩ := rows_right p2 hy
    refine ⟨e, u, hu2, ?_⟩
    have dx : Dp X.K H (.int n) (.int n) := .int n
    have t : EqH X.K H 1 (V.int n) (V.int n) := .dat dx dx (by simp only [PyData.canLay0]) (Nat.zero_le _)
    exact (t.tree I rx ru).at _ (by show X.A.units + 1 + 1 < cLine; omega)
  · exact wpAny_pure ⟨_, rfl, (fun z => nomatch z), ⟨.bl _, H, I, rfl, q⟩⟩

def tDGetNF (P : Program) (w : World) (td ty : TE) : TE := fun σ H Q => td σ H fun x H1 => ty σ H1 fun y H2 => ∃ (a b : Addr) (xs : List NRow) (k : NestedKey) (v : V), x = .ref a ∧ y = .ref b ∧ Rd H2 a (DictN P w a xs) ∧ RowsN H2 xs ∧ NK H2 k (.ref b) ∧ k.depth ≤ 8 ∧ atN xs k = some v ∧ Q v H2
section
variable {X : Cx} {pins : List (Addr × Obj)} {σ : L2.St} {H : Hp} {s : Shared} {a : Addr} {xs : List NRow}
theorem dictN_ofR (I : Inv X pins σ H s) (h : Rd H a (DictN X.prog X.w a xs)) (hk : RowsN H xs) : (a == sysModules) = false ∧ ∃ us : List (NestedKey × Addr × Value), Paired (fun (p : NRow) (q : NestedKey × Addr × Value) => p.1 = q.1 ∧ p.2.1 = q.2.1 ∧ RelV p.2.2 q.2.2) xs us ∧ s.heap.DictOfH (nestedKind X.prog X.w) a us := by
  obtain ⟨⟨h1, h2, us, h3, o, es, ep, e1, e2, e3, e4, e5⟩, _, _⟩ := h.ok I.hok
  refine ⟨h1, us, h3, o, es, ep, e1, e2, e3, e4, fun u hu => ?_, e5⟩
  have : ∀ (xs : List NRow) (us : List (NestedKey × Addr × Value)), Paired (fun (p : NRow) (q : NestedKey × Addr × Value) => p.1 = q.1 ∧ p.2.1 = q.2.1 ∧ RelV p.2.2 q.2.2) xs us → RowsN H xs → ∀ u ∈ us, (nestedKind X.prog X.w).is s.heap u.1 u.2.1 := by
    intro xs us p
    induction p with
    | nil => intro _ u hu; cases hu
    | cons r t ih =>
      intro hk u hu
      rcases List.mem_cons.mp hu with rfl | hu
      · obtain ⟨n1, n2⟩ := hk _ List.mem_cons_self
        refine ⟨?_, ?_⟩
        · rw [← r.1, ← r.2.1]
          exact NK.is I n1 rfl
        · rw [← r.1]
          exact n2
      · exact ih (fun x hx => hk x (List.mem_cons_of_mem _ hx)) u hu
  exact this _ _ h3 hk u hu
theorem pe_dgetNF {o i : PySem.Expr} {td ty : TE} {pos : Pos} (hu : X.A.units + 9 < cLine) (ho : PE X o td) (hi : PE X i ty) (hs : NoSl i) : PE X (.Subscript o i pos) (tDGetNF X.prog X.w td ty) := by
  refine ⟨fun pins s σ H Q I h => ?_⟩
  refine subD_of PySem.F.slot_dict_getitem.lookup hs (thn (ho.run pins s σ H _ I h) fun u s1 ⟨x, H1, I1, rx, q1⟩ => thn (hi.run pins s1 σ H1 _ I1 q1) fun iv s2 ⟨y, H2, I2, ry, a, b, xs, k, v, ex, ey, g, gr, gk, gd, ga, q2⟩ => ?_)
  subst ex ey
  cases rx
  cases ry
  obtain ⟨ha, us, hp, hm⟩ := dictN_ofR I2 g gr
  rcases atN_pairs (k := k) hp with ⟨v', uv, e1, e2, rv⟩ | ⟨e1, _⟩
  · have ev := Option.some.inj (e1.symm.trans ga)
    subst ev
    exact ⟨hm.typeIs, getItem_keyed (knd := nestedKind X.prog X.w) (show X.A.units + 1 + 8 < cLine by omega) ⟨NK.is I2 gk rfl, gd⟩ ⟨us, hm, rfl⟩ e2 ⟨_, H2, I2.tok _, rv, q2⟩⟩
  · rw [ga] at e1
    cases e1
end

def DicN (P : Program) (w : World) (H : Hp) (a : Addr) (xs : List NRow) : Prop := H a = some (DictN P w a xs) ∨ ∃ o, H a = some (.frz o (DictN P w a xs))
section
variable {X : Cx} {pins : List (Addr × Obj)} {σ : L2.St} {H : Hp} {s : Shared} {a : Addr} {xs : List NRow}
theorem dicN_of (I : Inv X pins σ H s) (h : DicN X.prog X.w H a xs) (hk : RowsN H xs) : (a == sysModules) = false ∧ ∃ us : List (NestedKey × Addr × Value), RowsP xs us ∧ s.heap.DictOfH (nestedKind X.prog X.w) a us := by
  have raw : (a == sysModules) = false ∧ xs.length ≤ sizeLine ∧ ∃ us : List (NestedKey × Addr × Value), RowsP xs us ∧ ∃ o es ep, s.heap.get? a = some o ∧ o.ExactDict ∧ o.data = .dict es ep ∧ es.toList = us.map (entryOfKey (nestedKind X.prog X.w)) ∧ (us.map (·.1)).Nodup := by
    rcases h with h | ⟨o, h⟩
    · exact (I.hok _ _ h).1
    · exact (I.hok _ _ h).2.1
  obtain ⟨h1, h2, us, h3, o, es, ep, e1, e2, e3, e4, e5⟩ := raw
  refine ⟨h1, us, h3, o, es, ep, e1, e2, e3, e4, fun u hu => ?_, e5⟩
  have : ∀ (xs : List NRow) (us : List (NestedKey × Addr × Value)), RowsP xs us → RowsN H xs → ∀ u ∈ us, (nestedKind X.prog X.w).is s.heap u.1 u.2.1 := by
    intro xs us p
    induction p with
    | nil => intro _ u hu; cases hu
    | cons r t ih =>
      intro hk u hu
      rcases List.mem_cons.mp hu with rfl | hu
      · obtain ⟨n1, n2⟩ := hk _ List.mem_cons_self
        refine ⟨?_, ?_⟩
        · rw [← r.1, ← r.2.1]
          exact NK.is I n1 rfl
        · rw [← r.1]
          exact n2
      · exact ih (fun x hx => hk x (List.mem_cons_of_mem _ hx)) u hu
  exact this _ _ h3 hk u hu
def tDGetF (P : Program) (w : World) (td ty : TE) : TE := fun σ H Q => td σ H fun x H1 => ty σ H1 fun y H2 => ∃ (a b : Addr) (xs : List NRow) (k : NestedKey) (v : V), x = .ref a ∧ y = .ref b ∧ DicN P w H2 a xs ∧ RowsN H2 xs ∧ NK H2 k (.ref b) ∧ k.depth ≤ 8 ∧ atN xs k = some v ∧ Q v H2
theorem pe_dgetF {o i : PySem.Expr} {td ty : TE} {pos : Pos} (hu : X.A.units + 9 < cLine) (ho : PE X o td) (hi : PE X i ty) (hs : NoSl i) : PE X (.Subscript o i pos) (tDGetF X.prog X.w td ty) := by
  refine ⟨fun pins s σ H Q I h => ?_⟩
  refine subD_of PySem.F.slot_dict_getitem.lookup hs (thn (ho.run pins s σ H _ I h) fun u s1 ⟨x, H1, I1, rx, q1⟩ => thn (hi.run pins s1 σ H1 _ I1 q1) fun iv s2 ⟨y, H2, I2, ry, a, b, xs, k, v, ex, ey, g, gr, gk, gd, ga, q2⟩ => ?_)
  subst ex ey
  cases rx
  cases ry
  obtain ⟨ha, us, hp, hm⟩ := dicN_of I2 g gr
  rcases atN_pairs (k := k) hp with ⟨v', uv, e1, e2, rv⟩ | ⟨e1, _⟩
  · have ev := Option.some.inj (e1.symm.trans ga)
    subst ev
    exact ⟨hm.typeIs, getItem_keyed (knd := nestedKind X.prog X.w) (show X.A.units + 1 + 8 < cLine by omega) ⟨NK.is I2 gk rfl, gd⟩ ⟨us, hm, rfl⟩ e2 ⟨_, H2, I2.tok _, rv, q2⟩⟩
  · rw [ga] at e1
    cases e1
def tClrN (P : Program) (w : World) (to : TE) : TE := fun σ H Q => to σ H fun x H1 => ∃ (a : Addr) (xs : List NRow), x = .ref a ∧ H1 a = some (DictN P w a xs) ∧ RowsN H1 xs ∧ Q .non (upd H1 a (DictN P w a []))
theorem pe_clearN {o : PySem.Expr} {to : TE} {apos cpos : Pos} (ho : PE X o to) (hbase : attributeBase o "clear" X.env (eval o X.env) = eval o X.env := by rfl) (hline : (apos.endLine == cpos.line) = true := by rfl) : PE X (.Call (.Attribute o "clear" apos) [] [] cpos) (tClrN X.prog X.w to) := by
  refine ⟨fun pins s σ H Q I h => ?_⟩
  refine wpAny_Call_method0_late hbase hline (thn (ho.run pins s σ H _ I h) fun v s1 ⟨x, H1, I1, r1, a, xs, ex, g, gr, q⟩ => ?_)
  subst ex
  cases r1
  have hz : xs.length ≤ sizeLine := (I1.hok _ _ g).1.2.1
  obtain ⟨ha, us, hp, hm⟩ := dictN_of I1 g gr
  have plain : ∃ ob, s1.heap.get? a = some ob ∧ ob.dict = none := by
    obtain ⟨ob, es, ep, e1, e2, _⟩ := id hm
    exact ⟨ob, e1, e2.2.1⟩
  refine ⟨"dict", _, PySem.F.plainAttrs_dict, PySem.F.slot_dict_clear, PySem.F.type_dict_clear, hm.typeIs, fun b e => by cases e; exact plain, Calls.callWith_builtin rfl (PySem.evalArgs_none ?_)⟩
  refine clear_keyed (knd := nestedKind X.prog X.w) ⟨us, hm, rfl⟩ (fun h' hm' sb => ?_) (by rw [pairsH_length, ← Paired.length hp]; exact hz)
  obtain ⟨ys, hy, e0⟩ := hm'
  cases ys with
  | cons a b => cases e0
  | nil =>
    obtain ⟨ob, es, ep, e1, e2, e3, e4, _, e5⟩ := hy
    exact ⟨.non, _, d_write (t' := s1.toks) I1 (by rw [g]; exact True.intro) sb ⟨ob, e1⟩ (dictN_ok ha (Nat.zero_le _) .nil ⟨ob, es, ep, e1, e2, e3, e4, e5⟩), rfl, q⟩
end


inductive SV (P : Program) (w : World) (H : Hp) : Nat → V → V → Prop
  | int (n : Nat) (x : Int) : SV P w H (n + 1) (.int x) (.int x)
  | str (n : Nat) (x : Str) : x.length ≤ sizeLine → SV P w H (n + 1) (.str x) (.str x)
  | lst {n : Nat} {a b : Addr} {us vs : List V} : H a = some (.lst us) → H b = some (.lst vs) → us.length = vs.length → us.length ≤ 600 → (∀ (j : Nat) (x y : V), us[j]? = some x → vs[j]? = some y → SV P w H n x y) → SV P w H (n + 1) (.ref a) (.ref b)
  | tup {n : Nat} {a b : Addr} {us vs : List V} : H a = some (.tup us) → H b = some (.tup vs) → us.length = vs.length → us.length ≤ 600 → (∀ (j : Nat) (x y : V), us[j]? = some x → vs[j]? = some y → SV P w H n x y) → SV P w H (n + 1) (.ref a) (.ref b)
  | dic {n : Nat} {a b : Addr} {xs ys : List NRow} {keys : List (Nat × List Nat)} {fs : Nat → List Nat → Nat} : a ≠ b → H a = some (DictN P w a xs) → H b = some (DictN P w b ys) → RowsN H xs → RowsN H ys → RowsJ xs keys fs → RowsJ ys keys fs → keys.Pairwise (· ≠ ·) → keys.length ≤ 600 → (∀ key ∈ keys, 97 ≤ key.1 ∧ key.1 ≤ 122) → SV P w H (n + 2) (.ref a) (.ref b)
theorem SV.same {P : Program} {w : World} {H H' : Hp} (f : Same H H') {n : Nat} {x y : V} (h : SV P w H n x y) : SV P w H' n x y := by
  induction h with
  | int n x => exact .int n x
  | str n x h => exact .str n x h
  | lst h1 h2 h3 h4 _ ih => exact .lst (f _ _ h1) (f _ _ h2) h3 h4 ih
  | tup h1 h2 h3 h4 _ ih => exact .tup (f _ _ h1) (f _ _ h2) h3 h4 ih
  | dic h0 h1 h2 h3 h4 h5 h6 h7 h8 h9 => exact .dic h0 (f _ _ h1) (f _ _ h2) (h3.keep fun b ys e => f _ _ e) (h4.keep fun b ys e => f _ _ e) h5 h6 h7 h8 h9
theorem noneSp {sp : Sp} {P : Program} {w : World} {K : PySem.W.Frag} {mg : Str → Option Value} {base : Heap} {f : Addr} {fd : FuncData} {ps : List Str} {k : Nat} (no : ∀ vs H Q E, ¬ sp vs H Q E) : FnOk P w K mg base CX0 k f fd ps sp :=
  ⟨fun vs H Q E h => absurd h (no vs H Q E), fun A outer s H args us vs Q E _ _ _ _ h => absurd h (no vs H Q E)⟩
def sp__law_same (P : Program) (w : World) (d : Nat) : Sp := fun vs H Q _ => ∃ v u : V, vs = [v, u] ∧ SV P w H d v u ∧ ∀ H', Same H H' → Q (.bl true) H'
theorem dps_ints {K : PySem.W.Frag} {H : Hp} : ∀ row : List Nat, DpAll K H (row.map nI) (row.map fun x : Nat => PyData.int (x : Int))
  | [] => .nil
  | x :: r => .cons (.int _) (dps_ints r)
theorem key_dp {K : PySem.W.Frag} {H : Hp} {c : Nat} {row : List Nat} {b : Addr} (h : NK H (keyN c row) (.ref b)) : Dp K H (.ref b) (keyD c row) := by
  obtain ⟨a, hb, ha⟩ := nkr_inv h
  exact .tup (SqT.of hb) (.cons (.str _) (.cons (.tup (SqT.of ha) (dps_ints row)) .nil))
theorem lay_nats : ∀ row : List Nat, PyData.canLayAll0 (row.map fun x : Nat => PyData.int (x : Int)) = true
  | [] => rfl
  | x :: r => by simp only [List.map_cons, PyData.canLayAll0, PyData.canLay0, lay_nats r, Bool.and_self]
theorem keyD_lay {c : Nat} {row : List Nat} (h : c ≤ 122) : (keyD c row).canLay0 = true := by
  simp only [keyD, PyData.canLay0, PyData.canLayAll0, lay_nats row, strOk_ch h, Bool.and_self]
theorem kitAny2 {K : PySem.W.Frag} {t a b : String} {r s : Bool} (h1 : kitB t a = some r) (h2 : kitB t b = some s) : PySem.W.kitAny K (.type t) [.type a, .type b] = some (r || s) := by
  have e1 : PySem.W.kitOne K (.type t) (.type a) = some r := kit_ty h1
  have e2 : PySem.W.kitOne K (.type t) (.type b) = some s := kit_ty h2
  cases r with
  | true => exact kitAny_cons e1 (fun e => nomatch e) (fun _ => rfl)
  | false => 
    refine kitAny_cons e1 (fun _ => ?_) (fun e => nomatch e)
    cases s with
    | true => exact kitAny_cons e2 (fun e => nomatch e) (fun _ => rfl)
    | false => exact kitAny_cons e2 (fun _ => rfl) (fun e => nomatch e)
section
variable {P : Program} {w : World} {K : PySem.W.Frag} {mg : Str → Option Value} {base : Heap}
theorem ok__law_same (T : Txt K mg) : ∀ d : Nat, FnOk P w K mg base CX0 d T.f__law_same T.d__law_same ["found", "due"] (sp__law_same P w d)
  | 0 => noneSp fun vs H Q E ⟨v, u, _, h, _⟩ => by cases h
  | d + 1 => by
    have G__law_same : FnOk P w K mg base CX0 d T.f__law_same T.d__law_same ["found", "due"] (sp__law_same P w d) := ok__law_same T d
    refine T.F__law_same.ok sc__law_same (fun vs H Q E h => ?_) (fun cdv A outer s H vs Q E hr h => ?_)
    · obtain ⟨v, u, rfl, _⟩ := h
      rfl
    obtain ⟨v, u, rfl, hv, q⟩ := h
    refine ⟨_, (pss_cons (ps_if (pt_val (pe_callB call_isAT (by rfl) T.z_isinstance (by decide +kernel) (pa_cons (pv 1) (pa_cons (pe_tup (pa_cons (pe_bltn (v := .ty "list") (by rfl) T.z_list (by decide +kernel) rfl) (pa_cons (pe_bltn (v := .ty "tuple") (by rfl) T.z_tuple (by decide +kernel) rfl) pa_nil))) pa_nil)))) (pss_cons (ps_if (PW.pt (pw_or (pt_cmpR op_ne (pe_callB call_isA (by rfl) T.z_isinstance (by decide +kernel) (pa_cons (pv 0) (pa_cons (pe_bltn (v := .ty "tuple") (by rfl) T.z_tuple (by decide +kernel) rfl) pa_nil))) (pe_callB call_isA (by rfl) T.z_isinstance (by decide +kernel) (pa_cons (pv 1) (pa_cons (pe_bltn (v := .ty "tuple") (by rfl) T.z_tuple (by decide +kernel) rfl) pa_nil))) (nomark _)) (pw_or1 (pt_cmpR op_ne (pe_callB call_isA (by rfl) T.z_isinstance (by decide +kernel) (pa_cons (pv 0) (pa_cons (pe_bltn (v := .ty "list") (by rfl) T.z_list (by decide +kernel) rfl) pa_nil))) (pe_callB call_isA (by rfl) T.z_isinstance (by decide +kernel) (pa_cons (pv 1) (pa_cons (pe_bltn (v := .ty "list") (by rfl) T.z_list (by decide +kernel) rfl) pa_nil))) (nomark _))))) (pss_one (ps_ret pe_bl)) pss_nil) (pss_cons (ps_if (pt_cmpR op_ne (pe_callB call_len_seq (by rfl) T.z_len PySem.boot_len (pa_cons (pv 0) pa_nil)) (pe_callB call_len_seq (by rfl) T.z_len PySem.boot_len (pa_cons (pv 1) pa_nil)) (nomark _)) (pss_one (ps_ret pe_bl)) pss_nil) (pss_one (ps_ret (pe_cmpR (op_eqD hr.units) (pe_lc (own := [("k", 2)]) (g := gName 2) (tt := tNot (tB (tCall (sp__law_same P w d) [] E0 (tCons (tOp (rIxA K) (tVar 0) (tVar 2)) (tCons (tOp (rIxA K) (tVar 1) (tVar 2)) tNil))))) rfl sc__law_same.nd (pi_range1 (by rfl) T.z_range (pa_cons (pe_callB call_len_seq (by rfl) T.z_len PySem.boot_len (pa_cons (pv 1) pa_nil)) pa_nil)) (blkOk_by (own := [("k", 2)]) (N := ["found", "due", "k", "key"]) (sc := (defScope s__law_same)) (by decide +kernel)) (fun _ _ _ _ _ => (pg_name (i := 2) sc__law_same.nd rfl (Or.inl rfl))) (fun _ _ _ _ _ => pts_one (pt_not (pt_val (pe_call G__law_same (hr.mono (by omega)) (by rfl) T.m__law_same T.F__law_same.kp T.b__law_same .nil pass0 (pa_cons (pe_ix ix_any (pv 0) (pv 2) (fun _ _ => rfl)) (pa_cons (pe_ix ix_any (pv 1) (pv 2) (fun _ _ => rfl)) pa_nil)))))) (fun _ _ _ _ _ => (pv 2))) (pe_lst pa_nil) (nomark _)))))) pss_nil) (pss_cons (ps_if (pt_val (pe_callB call_isA (by rfl) T.z_isinstance (by decide +kernel) (pa_cons (pv 1) (pa_cons (pe_bltn (v := .ty "str") (by rfl) T.z_str (by decide +kernel) rfl) pa_nil)))) (pss_one (ps_ret (pe_and (pe_callB call_isA (by rfl) T.z_isinstance (by decide +kernel) (pa_cons (pv 0) (pa_cons (pe_bltn (v := .ty "str") (by rfl) T.z_str (by decide +kernel) rfl) pa_nil))) (pe_one (pe_cmpR op_eq (pv 0) (pv 1) (nomark _)))))) pss_nil) (pss_cons (ps_if (pt_val (pe_callB call_isA (by rfl) T.z_isinstance (by decide +kernel) (pa_cons (pv 1) (pa_cons (pe_bltn (v := .ty "dict") (by rfl) T.z_dict (by decide +kernel) rfl) pa_nil)))) (pss_cons (ps_if (PW.pt (pw_or (pt_not (pt_val (pe_callB call_isA (by rfl) T.z_isinstance (by decide +kernel) (pa_cons (pv 0) (pa_cons (pe_bltn (v := .ty "dict") (by rfl) T.z_dict (by decide +kernel) rfl) pa_nil))))) (pw_or1 (pt_cmpR (op_neH (roomH hr)) (pe_callB (call_sortedN rfl (roomH hr)) (by rfl) T.z_sorted (by decide +kernel) (pa_cons (pv 0) pa_nil)) (pe_callB (call_sortedN rfl (roomH hr)) (by rfl) T.z_sorted (by decide +kernel) (pa_cons (pv 1) pa_nil)) (nomark _))))) (pss_one (ps_ret pe_bl)) pss_nil) (pss_one (ps_ret (pe_cmpR (op_eqD hr.units) (pe_lock (pe_lc (own := [("key", 3)]) (g := gName 3) (tt := tNot (tB (tCall (sp__law_same P w d) [] E0 (tCons (tDGetNF P w (tVar 0) (tVar 3)) (tCons (tDGetNF P w (tVar 1) (tVar 3)) tNil))))) rfl sc__law_same.nd (pi_keysN (pv 1)) (blkOk_by (own := [("key", 3)]) (N := ["found", "due", "k", "key"]) (sc := (defScope s__law_same)) (by decide +kernel)) (fun _ _ _ _ _ => (pg_name (i := 3) sc__law_same.nd rfl (Or.inl rfl))) (fun _ _ _ _ _ => pts_one (pt_not (pt_val (pe_call G__law_same (hr.mono (by omega)) (by rfl) T.m__law_same T.F__law_same.kp T.b__law_same .nil pass0 (pa_cons (pe_dgetNF (roomN hr) (pv 0) (pv 3) (fun _ _ => rfl)) (pa_cons (pe_dgetNF (roomN hr) (pv 1) (pv 3) (fun _ _ => rfl)) pa_nil)))))) (fun _ _ _ _ _ => (pv 3)))) (pe_lst pa_nil) (nomark _))))) pss_nil) (pss_one (ps_ret (pe_and (pe_callB call_isA (by rfl) T.z_isinstance (by decide +kernel) (pa_cons (pv 0) (pa_cons (pe_bltn (v := .ty "int") (by rfl) T.z_int (by decide +kernel) rfl) pa_nil))) (pe_and (pe_not (pe_callB call_isA (by rfl) T.z_isinstance (by decide +kernel) (pa_cons (pv 0) (pa_cons (pe_bltn (v := .ty "bool") (by rfl) T.z_bool (by decide +kernel) rfl) pa_nil)))) (pe_one (pe_cmpR op_eq (pv 0) (pv 1) (nomark _)))))))))), ?_⟩
    refine ⟨_, rfl, (by show 2 ≤ sizeLine; decide), fun p hp => ?_⟩
    have s1 := same_new (o := .tup [V.ty "list", V.ty "tuple"]) hp
    have k1 := upd_same (H := H) (a := p) (o := .tup [V.ty "list", V.ty "tuple"])
    replace hv := hv.same s1
    replace q : ∀ H', Same (upd H p (.tup [V.ty "list", V.ty "tuple"])) H' → Q (.bl true) H' := fun H' f => q H' (s1.trans f)
    generalize upd H p (.tup [V.ty "list", V.ty "tuple"]) = H1 at *
    clear s1 hp
    cases hv with
    | int n x =>
      refine ⟨.int x, p, _, "int", _, false, rfl, k1, .cons (.ty _) (.cons (.ty _) .nil), .inl (.base (.int x)), kitAny2 (r := false) (s := false) (by decide +kernel) (by decide +kernel), _, rfl, iteF ?_⟩
      refine ⟨_, rfl, .int x, _, "int", _, false, rfl, .ty "str", .inl (.base (.int x)), kit_ty (by decide +kernel), _, rfl, iteF ?_⟩
      refine ⟨_, rfl, .int x, _, "int", _, false, rfl, .ty "dict", .inl (.base (.int x)), kit_ty (by decide +kernel), _, rfl, iteF ?_⟩
      refine ⟨_, rfl, .int x, _, "int", _, true, rfl, .ty "int", .inl (.base (.int x)), kit_ty (by decide +kernel), _, rfl, iteT ?_⟩
      refine ⟨_, rfl, .int x, _, "int", _, false, rfl, .ty "bool", .inl (.base (.int x)), kit_ty (by decide +kernel), _, rfl, _, rfl, iteT ?_⟩
      refine ⟨_, rfl, _, rfl, rfl, ?_⟩
      rw [decide_eq_true rfl]
      exact q _ (Same.refl _)
    | str n x hx =>
      refine ⟨.str x, p, _, "str", _, false, rfl, k1, .cons (.ty _) (.cons (.ty _) .nil), .inl (.base (.str x)), kitAny2 (r := false) (s := false) (by decide +kernel) (by decide +kernel), _, rfl, iteF ?_⟩
      refine ⟨_, rfl, .str x, _, "str", _, true, rfl, .ty "str", .inl (.base (.str x)), kit_ty (by decide +kernel), _, rfl, iteT ?_⟩
      refine ⟨_, rfl, .str x, _, "str", _, true, rfl, .ty "str", .inl (.base (.str x)), kit_ty (by decide +kernel), _, rfl, iteT ?_⟩
      refine ⟨_, rfl, _, rfl, rfl, ?_⟩
      rw [decide_eq_true rfl]
      exact q _ (Same.refl _)
    | @lst n a b us vs h1 h2 hl hz hi =>
      refine ⟨.ref b, p, _, "list", _, true, rfl, k1, .cons (.ty _) (.cons (.ty _) .nil), .inl (.base (.lst h2)), kitAny2 (r := true) (s := false) (by decide +kernel) (by decide +kernel), _, rfl, iteT ?_⟩
      refine ⟨_, rfl, .ref a, _, "list", _, false, rfl, .ty "tuple", .inl (.base (.lst h1)), kit_ty (by decide +kernel), _, rfl, .ref b, _, "list", _, false, rfl, .ty "tuple", .inl (.base (.lst h2)), kit_ty (by decide +kernel), rfl, _, rfl, neS rfl ?_⟩
      refine ⟨_, rfl, .ref a, _, "list", _, true, rfl, .ty "list", .inl (.base (.lst h1)), kit_ty (by decide +kernel), _, rfl, .ref b, _, "list", _, true, rfl, .ty "list", .inl (.base (.lst h2)), kit_ty (by decide +kernel), rfl, _, rfl, ?_⟩
      refine neS rfl ?_
      refine ⟨_, rfl, a, us, rfl, .inl (SqL.of h1), _, rfl, b, vs, rfl, .inl (SqL.of h2), rfl, _, rfl, neS (by rw [hl]) ?_⟩
      refine ⟨_, rfl, b, vs, rfl, .inl (SqL.of h2), (vs.length : Int), rfl, by omega, by omega, fun D hD => ?_⟩
      refine lc_range (lo := 0) (n := vs.length) (fun i H2 => H2 D = some (.lst []) ∧ Same H1 H2) ⟨upd_same, same_new hD⟩ ?_ ?_
      · rintro i H2 hlt ⟨g1, g2⟩
        have hx : us[i]? = some us[i] := List.getElem?_eq_getElem (by omega)
        have hy : vs[i]? = some vs[i] := List.getElem?_eq_getElem hlt
        refine ⟨rfl, _, rfl, _, rfl, .inl ⟨a, us, _, us[i], rfl, rfl, SqL.of (g2 _ _ h1), at_of (j := i) (by omega) hx, _, rfl, _, rfl, .inl ⟨b, vs, _, vs[i], rfl, rfl, SqL.of (g2 _ _ h2), at_of (j := i) (by omega) hy, us[i], vs[i], rfl, (hi i _ _ hx hy).same g2, fun H3 s3 => ?_⟩⟩⟩
        exact ⟨_, rfl, iteF ⟨s3 _ _ g1, g2.trans s3⟩⟩
      · rintro H2 ⟨g1, g2⟩
        refine ⟨(by show 0 ≤ sizeLine; decide), fun e he => ⟨_, _, dp_nil (by rw [upd_ne (ne_of_none g1 he)]; exact g1), dp_nil upd_same, shaped_nil, shaped_nil, ?_⟩⟩
        rw [eqv_nil]
        exact q _ (same_add g2 (g2.free he))
    | @tup n a b us vs h1 h2 hl hz hi =>
      refine ⟨.ref b, p, _, "tuple", _, true, rfl, k1, .cons (.ty _) (.cons (.ty _) .nil), .inl (.base (.tup h2)), kitAny2 (r := false) (s := true) (by decide +kernel) (by decide +kernel), _, rfl, iteT ?_⟩
      refine ⟨_, rfl, .ref a, _, "tuple", _, true, rfl, .ty "tuple", .inl (.base (.tup h1)), kit_ty (by decide +kernel), _, rfl, .ref b, _, "tuple", _, true, rfl, .ty "tuple", .inl (.base (.tup h2)), kit_ty (by decide +kernel), rfl, _, rfl, neS rfl ?_⟩
      refine ⟨_, rfl, .ref a, _, "tuple", _, false, rfl, .ty "list", .inl (.base (.tup h1)), kit_ty (by decide +kernel), _, rfl, .ref b, _, "tuple", _, false, rfl, .ty "list", .inl (.base (.tup h2)), kit_ty (by decide +kernel), rfl, _, rfl, ?_⟩
      refine neS rfl ?_
      refine ⟨_, rfl, a, us, rfl, .inr (SqT.of h1), _, rfl, b, vs, rfl, .inr (SqT.of h2), rfl, _, rfl, neS (by rw [hl]) ?_⟩
      refine ⟨_, rfl, b, vs, rfl, .inr (SqT.of h2), (vs.length : Int), rfl, by omega, by omega, fun D hD => ?_⟩
      refine lc_range (lo := 0) (n := vs.length) (fun i H2 => H2 D = some (.lst []) ∧ Same H1 H2) ⟨upd_same, same_new hD⟩ ?_ ?_
      · rintro i H2 hlt ⟨g1, g2⟩
        have hx : us[i]? = some us[i] := List.getElem?_eq_getElem (by omega)
        have hy : vs[i]? = some vs[i] := List.getElem?_eq_getElem hlt
        refine ⟨rfl, _, rfl, _, rfl, .inr ⟨a, us, _, us[i], rfl, rfl, SqT.of (g2 _ _ h1), at_of (j := i) (by omega) hx, _, rfl, _, rfl, .inr ⟨b, vs, _, vs[i], rfl, rfl, SqT.of (g2 _ _ h2), at_of (j := i) (by omega) hy, us[i], vs[i], rfl, (hi i _ _ hx hy).same g2, fun H3 s3 => ?_⟩⟩⟩
        exact ⟨_, rfl, iteF ⟨s3 _ _ g1, g2.trans s3⟩⟩
      · rintro H2 ⟨g1, g2⟩
        refine ⟨(by show 0 ≤ sizeLine; decide), fun e he => ⟨_, _, dp_nil (by rw [upd_ne (ne_of_none g1 he)]; exact g1), dp_nil upd_same, shaped_nil, shaped_nil, ?_⟩⟩
        rw [eqv_nil]
        exact q _ (same_add g2 (g2.free he))
    | @dic n a b xs ys keys fs nab h1 h2 hr1 hr2 hj1 hj2 knd k600 klet =>
      have ty1 : TyN P w K H1 (.ref a) "dict" := .inr ⟨a, xs, rfl, h1, rfl⟩
      have ty2 : TyN P w K H1 (.ref b) "dict" := .inr ⟨b, ys, rfl, h2, rfl⟩
      refine ⟨.ref b, p, _, "dict", _, false, rfl, k1, .cons (.ty _) (.cons (.ty _) .nil), ty2, kitAny2 (r := false) (s := false) (by decide +kernel) (by decide +kernel), _, rfl, iteF ?_⟩
      refine ⟨_, rfl, .ref b, _, "dict", _, false, rfl, .ty "str", ty2, kit_ty (by decide +kernel), _, rfl, iteF ?_⟩
      refine ⟨_, rfl, .ref b, _, "dict", _, true, rfl, .ty "dict", ty2, kit_ty (by decide +kernel), _, rfl, iteT ?_⟩
      refine ⟨_, rfl, .ref a, _, "dict", _, true, rfl, .ty "dict", ty1, kit_ty (by decide +kernel), _, rfl, iteF ?_⟩
      refine ⟨_, rfl, a, xs, keys, fs, rfl, h1, hr1, hj1, fun r1 cs1 hn1 pk1 => ?_⟩
      have s2 := same_new (o := .lst (cs1.map V.ref)) hn1
      have e1 := upd_same (H := H1) (a := r1) (o := .lst (cs1.map V.ref))
      generalize upd H1 r1 (.lst (cs1.map V.ref)) = H2 at *
      refine ⟨_, rfl, b, ys, keys, fs, rfl, s2 _ _ h2, hr2.keep fun b ys e => s2 _ _ e, hj2, fun r2 cs2 hn2 pk2 => ?_⟩
      have s3 := same_new (o := .lst (cs2.map V.ref)) hn2
      have e2 := upd_same (H := H2) (a := r2) (o := .lst (cs2.map V.ref))
      generalize upd H2 r2 (.lst (cs2.map V.ref)) = H3 at *
      have S3 := s2.trans s3
      refine ⟨r1, r2, _, _, 8, rfl, rfl, s3 _ _ e1, e2, by rw [List.length_map, List.length_map, Paired.length pk1, Paired.length pk2], ?_, by decide, _, rfl, iteF ?_⟩
      · intro j x y hx hy
        rw [List.getElem?_map] at hx hy
        cases hx1 : cs1[j]? with
        | none => rw [hx1] at hx; cases hx
        | some x1 =>
        cases hy1 : cs2[j]? with
        | none => rw [hy1] at hy; cases hy
        | some y1 =>
        rw [hx1] at hx
        rw [hy1] at hy
        cases hx
        cases hy
        obtain ⟨key, hk1, n1⟩ := prd_at pk1 hx1
        obtain ⟨key2, hk2, n2⟩ := prd_at pk2 hy1
        rw [hk1] at hk2
        cases hk2
        have hm := klet key (List.mem_mergeSort.mp (List.mem_of_getElem? hk1))
        exact .dat (key_dp (n1.keep fun b ys e => S3 _ _ e)) (key_dp (n2.keep fun b ys e => s3 _ _ e)) (keyD_lay hm.2) (keyD_depth _ _)
      refine ⟨b, _, S3 _ _ h2, trivial, fun od => ?_⟩
      have hr13 := hr1.keep fun b ys e => S3 _ _ e
      have hr23 := hr2.keep fun b ys e => S3 _ _ e
      have h13 := S3 _ _ h1
      have h23 := S3 _ _ h2
      have L0 : FrD b H3 (upd H3 b (.frz od (DictN P w b ys))) := fun c o ne e => by rw [upd_ne ne]; exact e
      have ntup : ∀ (q : Addr) (zs : List V), H3 q = some (.tup zs) → q ≠ b := fun q zs e z => by rw [z, h23] at e; unfold DictN at e; cases e
      refine ⟨_, rfl, b, od, ys, rfl, upd_same, fun D hD => ?_⟩
      have nDb : D ≠ b := fun e => by rw [e, upd_same] at hD; cases hD
      refine lc_it walk_keysN (fun i H' => H' D = some (.lst []) ∧ H' b = some (.frz od (DictN P w b ys)) ∧ FrD b H3 H') ⟨upd_same, by rw [upd_ne nDb.symm]; exact upd_same, fun c o ne e => by rw [upd_ne (fun z => by rw [upd_ne nDb] at hD; rw [z, hD] at e; cases e)]; exact L0 c o ne e⟩ (fun i H' _ h => h.2.1) ?_ ?_
      · rintro i x _ H4 hi ⟨g1, g2, g3⟩ ⟨rfl, row, hrow, rfl⟩
        obtain ⟨⟨c, rw0⟩, hkey, f1, f2⟩ := prd_at hj2 hrow
        have hm := List.mem_of_getElem? hkey
        have hn := (hr23 row (List.mem_of_getElem? hrow)).1
        rw [f1] at hn
        have hr14 := hr13.keep fun b ys e => g3 _ _ (ntup _ _ e) e
        have hr24 := hr23.keep fun b ys e => g3 _ _ (ntup _ _ e) e
        have hn4 : NK H4 (keyN c rw0) (.ref row.2.1) := hn.keep fun b ys e => g3 _ _ (ntup _ _ e) e
        refine ⟨rfl, _, rfl, _, rfl, a, row.2.1, xs, keyN c rw0, nI (fs c rw0), rfl, rfl, .inl (g3 _ _ nab h13), hr14, hn4, keyN_depth _ _, atN_rows hj1 hm, ?_⟩
        refine ⟨_, rfl, _, rfl, b, row.2.1, ys, keyN c rw0, nI (fs c rw0), rfl, rfl, .inr ⟨od, g2⟩, hr24, hn4, keyN_depth _ _, atN_rows hj2 hm, ?_⟩
        refine ⟨_, _, rfl, .int n _, fun H5 s5 => ⟨_, rfl, iteF ⟨s5 _ _ g1, s5 _ _ g2, fun c o ne e => s5 _ _ (g3 c o ne e)⟩⟩⟩
      · rintro H4 ⟨g1, g2, g3⟩
        refine ⟨g2, ?_⟩
        have g4 : (upd H4 b (DictN P w b ys)) D = some (.lst []) := by rw [upd_ne nDb]; exact g1
        have S4 : Same H3 (upd H4 b (DictN P w b ys)) := fun c o e => by
          by_cases hb : c = b
          · rw [hb, upd_same, ← e, hb]; exact h23.symm
          · rw [upd_ne hb]; exact g3 c o hb e
        refine ⟨(by show 0 ≤ sizeLine; decide), fun e he => ⟨_, _, dp_nil (by rw [upd_ne (ne_of_none g4 he)]; exact g4), dp_nil upd_same, shaped_nil, shaped_nil, ?_⟩⟩
        rw [eqv_nil]
        exact q _ ((S3.trans S4).trans (same_new he))
end

def spLaw (K : PySem.W.Frag) : Sp := fun vs H Q _ => ∃ (a : Addr) (ns : List Int), vs = [.ref a] ∧ SqL K H a (ns.map V.int) ∧ ns.length ≤ 63 ∧ ∀ H', Q (.bl true) H'


theorem SqL.same77 {K : PySem.W.Frag} {a : Addr} {H H' : Hp} {xs : List V} (f : Same H H') (h : SqL K H a xs) : SqL K H' a xs := by
  rcases h with (h | ⟨o, h⟩) | h
  · exact .inl (.inl (f _ _ h))
  · exact .inl (.inr ⟨o, f _ _ h⟩)
  · exact .inr h
theorem Fr.new77 {p : Addr} {H H' : Hp} (hp : H p = none) (f : Fr p H H') : Same H H' := fun b o e => f b o (fun z => by rw [z, hp] at e; cases e) e
theorem sv_judge {P : Program} {w : World} {H : Hp} {J : JD} {j d g j2 d2 g2 : Addr} {xs ys : List NRow} (hok : J.ok) (hR : Rises J.L) (h1 : H j = some (.tup [.str J.L, nI J.n, nI J.few, nI J.turn, .ref d, .ref g])) (h2 : H d = some (DictN P w d xs)) (h3 : RowsN H xs) (h4 : RowsJ xs J.keys J.fs) (h5 : H g = some (.lst (J.good.map nI)))
    (k1 : H j2 = some (.tup [.str J.L, nI J.n, nI J.few, nI J.turn, .ref d2, .ref g2])) (k2 : H d2 = some (DictN P w d2 ys)) (k3 : RowsN H ys) (k4 : RowsJ ys J.keys J.fs) (k5 : H g2 = some (.lst (J.good.map nI))) (ne : d ≠ d2) : SV P w H 3 (.ref j) (.ref j2) := by
  have lk : J.keys.length ≤ 600 := by unfold JD.keys; rw [keysOf_len]; exact hok.h600
  refine .tup h1 k1 rfl (by show 6 ≤ 600; decide) fun i x y e1 e2 => ?_
  rcases i with _ | _ | _ | _ | _ | _ | i
  · cases e1; cases e2
    exact .str _ _ (Nat.le_trans hok.L.2.1 (by decide))
  · cases e1; cases e2; exact .int _ _
  · cases e1; cases e2; exact .int _ _
  · cases e1; cases e2; exact .int _ _
  · cases e1; cases e2
    refine .dic ne h2 k2 h3 k3 h4 k4 (keysOf_nd hR _ _) lk fun key hk => ?_
    have hk : (key.1, key.2) ∈ keysOf J.L J.n (J.few + J.turn) := hk
    exact hok.L.2.2 _ (keysOf_mem hk).1
  · cases e1; cases e2
    refine .lst h5 k5 rfl (by rw [List.length_map]; exact Nat.le_trans hok.g6 (by decide)) fun i x y e1 e2 => ?_
    rw [e1] at e2
    cases e2
    rw [List.getElem?_map] at e1
    cases e : J.good[i]? with
    | none => rw [e] at e1; cases e1
    | some z => rw [e] at e1; cases e1; exact .int _ _
  · cases e1
section
variable {P : Program} {w : World} {K : PySem.W.Frag} {mg : Str → Option Value} {base : Heap}
theorem ok_law (T : Txt K mg) : FnOk P w K mg base CX0 8 T.f_law T.d_law ["script"] (spLaw K) := by
  have G__law_cell : FnOk P w K mg base CX0 1 T.f__law_cell T.d__law_cell ["script", "k"] (sp__law_cell K) := ok__law_cell T
  have G__law_store : FnOk P w K mg base CX0 1 T.f__law_store T.d__law_store ["cell"] sp__law_store := ok__law_store T
  have G__law_take : FnOk P w K mg base CX0 1 T.f__law_take T.d__law_take ["store", "many"] sp__law_take := ok__law_take T
  have G__law_judge : FnOk P w K mg base CX0 3 T.f__law_judge T.d__law_judge ["store", "small"] (sp__law_judge P w) := ok__law_judge T
  have G__law_shuffled : FnOk P w K mg base CX0 2 T.f__law_shuffled T.d__law_shuffled ["store", "judge"] (sp__law_shuffled P w) := ok__law_shuffled T
  have G__law_shown : FnOk P w K mg base CX0 2 T.f__law_shown T.d__law_shown ["judge"] (sp__law_shown P w) := ok__law_shown T
  have G_show_judge : FnOk P w K mg base CX0 3 T.f_show_judge T.d_show_judge ["judge"] (sp_show_judge P w) := ok_show_judge T
  have G_read_judge : FnOk P w K mg base CX0 6 T.f_read_judge T.d_read_judge ["text"] (sp_read_judge P w) := ok_read_judge T
  have G__law_same : FnOk P w K mg base CX0 3 T.f__law_same T.d__law_same ["found", "due"] (sp__law_same P w 3) := ok__law_same T 3
  have G_is_judge : FnOk P w K mg base CX0 5 T.f_is_judge T.d_is_judge ["thing"] (sp_is_judge P w) := ok_is_judge T
  refine T.F_law.ok sc_law (fun vs H Q E h => ?_) (fun cdv A outer s H vs Q E hr h => ?_)
  · obtain ⟨a, ns, rfl, _⟩ := h
    rfl
  obtain ⟨a, ns, rfl, hS, h63, qq⟩ := h
  refine ⟨_, (pss_cons (ps_for PassesOwn.never rfl (pi_range1 (by rfl) T.z_range (pa_cons (pe_callB (call_min2 rfl) (by rfl) T.z_min (by decide +kernel) (pa_cons (pe_callB (call_max2 rfl) (by rfl) T.z_max (by decide +kernel) (pa_cons (pe_callB call_len_seq (by rfl) T.z_len PySem.boot_len (pa_cons (pv 0) pa_nil)) (pa_cons pe_int pa_nil))) (pa_cons pe_int pa_nil))) pa_nil)) (pg_name (i := 1) sc_law.nd rfl (Or.inl rfl)) (pss_cons (ps_set (i := 2) sc_law.nd rfl (Or.inl rfl) (pe_call G__law_store (hr.mono (by omega)) (by rfl) T.m__law_store T.F__law_store.kp T.b__law_store .nil pass0 (pa_cons (pe_call G__law_cell (hr.mono (by omega)) (by rfl) T.m__law_cell T.F__law_cell.kp T.b__law_cell .nil pass0 (pa_cons (pv 0) (pa_cons (pv 1) pa_nil))) pa_nil))) (pss_cons (ps_set (i := 3) sc_law.nd rfl (Or.inl rfl) (pe_call G__law_judge (hr.mono (by omega)) (by rfl) T.m__law_judge T.F__law_judge.kp T.b__law_judge .nil pass0 (pa_cons (pv 2) (pa_cons (pe_cmpR op_eq (pe_call G__law_take (hr.mono (by omega)) (by rfl) T.m__law_take T.F__law_take.kp T.b__law_take .nil pass0 (pa_cons (pv 2) (pa_cons pe_int pa_nil))) pe_int (nomark _)) pa_nil)))) (pss_cons (ps_set (i := 4) sc_law.nd rfl (Or.inl rfl) (pe_call G__law_shuffled (hr.mono (by omega)) (by rfl) T.m__law_shuffled T.F__law_shuffled.kp T.b__law_shuffled .nil pass0 (pa_cons (pv 2) (pa_cons (pv 3) pa_nil)))) (pss_cons (ps_set (i := 5) sc_law.nd rfl (Or.inl rfl) (pe_call G__law_shown (hr.mono (by omega)) (by rfl) T.m__law_shown T.F__law_shown.kp T.b__law_shown .nil pass0 (pa_cons (pv 3) pa_nil))) (pss_cons (ps_set (i := 6) sc_law.nd rfl (Or.inl rfl) (pe_call G_show_judge (hr.mono (by omega)) (by rfl) T.m_show_judge T.F_show_judge.kp T.b_show_judge .nil pass0 (pa_cons (pv 4) pa_nil))) (pss_cons (ps_if (PW.pt (pw_or (pt_not (pt_val (pe_callB call_isi (by rfl) T.z_isinstance (by decide +kernel) (pa_cons (pv 6) (pa_cons (pe_bltn (v := .ty "str") (by rfl) T.z_str (by decide +kernel) rfl) pa_nil))))) (pw_or (pt_cmpR op_ne (pv 6) (pv 5) (nomark _)) (pw_or1 (pt_cmpR (op_neHN (roomH hr)) (pv 4) (pv 3) (nomark _)))))) (pss_one (ps_ret pe_bl)) pss_nil) (pss_cons (ps_set (i := 7) sc_law.nd rfl (Or.inl rfl) (pe_call G_read_judge (hr.mono (by omega)) (by rfl) T.m_read_judge T.F_read_judge.kp T.b_read_judge .nil pass0 (pa_cons (pv 5) pa_nil))) (pss_cons (ps_if (PW.pt (pw_or (pt_not (pt_val (pe_call G__law_same (hr.mono (by omega)) (by rfl) T.m__law_same T.F__law_same.kp T.b__law_same .nil pass0 (pa_cons (pv 7) (pa_cons (pv 3) pa_nil))))) (pw_or1 (pt_cmpR op_notBl (pe_call G_is_judge (hr.mono (by omega)) (by rfl) T.m_is_judge T.F_is_judge.kp T.b_is_judge .nil pass0 (pa_cons (pv 7) pa_nil)) pe_bl (nomark _))))) (pss_one (ps_ret pe_bl)) pss_nil) (pss_cons (ps_expr (pe_clearN (pe_ix ix_tup (pv 7) pe_int (fun _ _ => rfl)))) (pss_cons (ps_expr (pe_bm PySem.F.plainAttrs_list PySem.F.slot_list_append PySem.F.type_list_append mt_append (pe_ix ix_tup (pv 7) pe_int (fun _ _ => rfl)) (pa_cons pe_int pa_nil))) (pss_one (ps_if (PW.pt (pw_or (pt_cmpR (op_neN (roomH hr)) (pe_ix ix_tup (pv 7) pe_int (fun _ _ => rfl)) pe_dnewN (nomark _)) (pw_or1 (pt_not (pt_val (pe_call G__law_same (hr.mono (by omega)) (by rfl) T.m__law_same T.F__law_same.kp T.b__law_same .nil pass0 (pa_cons (pe_call G_read_judge (hr.mono (by omega)) (by rfl) T.m_read_judge T.F_read_judge.kp T.b_read_judge .nil pass0 (pa_cons (pv 5) pa_nil)) (pa_cons (pv 3) pa_nil)))))))) (pss_one (ps_ret pe_bl)) pss_nil))))))))))))) (pss_one (ps_ret pe_bl))), ?_⟩
  have lm : (ns.map V.int).length = ns.length := List.length_map _
  obtain ⟨j, hj, hj0, hj1⟩ : ∃ j : Int, (if 10 < (if 3 > ((ns.map V.int).length : Int) then 3 else ((ns.map V.int).length : Int)) then 10 else (if 3 > ((ns.map V.int).length : Int) then 3 else ((ns.map V.int).length : Int))) = j ∧ 0 ≤ j ∧ j ≤ 10 := ⟨_, rfl, by split <;> split <;> omega, by split <;> split <;> omega⟩
  refine ⟨_, rfl, a, _, rfl, .inl hS, _, _, rfl, _, _, rfl, j, congrArg (fun z => [V.int z]) hj, by omega, by omega, for_range (lo := 0) (n := j.toNat) (fun i σ H' => (∃ y1 y2 y3 y4 y5 y6 y7, σ = [some (.ref a), y1, y2, y3, y4, y5, y6, y7]) ∧ SqL K H' a (ns.map V.int)) ⟨⟨_, _, _, _, _, _, _, rfl⟩, hS⟩ ?_ ?_⟩
  · rintro i σ H0 hi ⟨⟨y1, y2, y3, y4, y5, y6, y7, rfl⟩, hS0⟩
    refine ⟨_, rfl, _, rfl, a, ns, _, rfl, hS0, h63, by omega, by omega, fun c => ⟨c, rfl, fun p H1 hp s1 S1 => ?_⟩⟩
    refine ⟨_, rfl, _, rfl, p, 2, _, rfl, S1, by decide, by decide, by decide, fun r H2 r0 r1 c2 S2 => ?_⟩
    refine ⟨rfl, p, 0 + 1, _, rfl, S2, by decide, fun v J H3 F3 S3 hok hR hup hK => ?_⟩
    refine ⟨_, rfl, _, rfl, p, _, v, J, rfl, S3, by decide, hK.o.weak fun b h => h.1, hok, hR, fun u H4 F4 S4 hu => ?_⟩
    obtain ⟨j, d, g, xs, rfl, hj3, hd3, hrn3, hrj, hg3, ngp, _⟩ := hK
    obtain ⟨_, _, _, hp3, _⟩ := id S3
    have hj4 := F4 _ _ (fun e => by rw [e, hp3] at hj3; cases hj3) hj3
    have hd4 := F4 _ _ (fun e => by rw [e, hp3] at hd3; unfold DictN at hd3; cases hd3) hd3
    have hg4 := F4 _ _ ngp hg3
    have hrn4 : RowsN H4 xs := hrn3.keep fun b ys e => F4 _ _ (fun z => by rw [z, hp3] at e; cases e) e
    have hJ4 : JAt P w H4 (.ref j) J := ⟨j, d, g, xs, _, rfl, hj4, hd4, hrn4, hrj, .refl _, hg4⟩
    have B4 : Same H0 H4 := Fr.new77 hp ((((Fr.same s1).trans (Fr.of_chg c2)).trans F3).trans F4)
    clear hj3 hd3 hg3 hrn3 hp3 F3 F4 c2 S2 S3 S4 s1 S1
    refine ⟨_, rfl, .ref j, J, rfl, hJ4, hok, fun H5 s5 => ?_⟩
    refine ⟨_, rfl, u, J, rfl, hu.same s5, hok, fun H6 s6 => ?_⟩
    have S6 := s5.trans s6
    refine ⟨_, rfl, _, _, _, _, true, rfl, .ty "str", .base (.str _), kit_ty (by decide +kernel), _, rfl, iteF ?_⟩
    refine ⟨_, rfl, _, rfl, rfl, _, rfl, neS rfl ?_⟩
    obtain ⟨a1, b1, us, vs, e1, e2, k1, k2, kl, ke⟩ := judges_eq (K := K) hok.L (hu.same S6) (hJ4.same S6)
    refine ⟨_, rfl, _, rfl, a1, b1, us, vs, 90, e1, e2, k1, k2, kl, ke, by decide, _, rfl, iteF ?_⟩
    refine ⟨_, rfl, J, rfl, hok, hR, hup, fun t H7 s7 N => ?_⟩
    obtain ⟨j', d', g', xs', rfl, nj, nd, ng, ndg, tj, td, trn, trj, tg⟩ := N
    have S7 := S6.trans s7
    have nd4 := S6.free nd
    have ng4 := S6.free ng
    have ndd : d' ≠ d := fun e => by rw [e, hd4] at nd4; cases nd4
    refine ⟨_, rfl, _, rfl, .ref j', .ref j, rfl, sv_judge hok hR tj td trn trj tg (S7 _ _ hj4) (S7 _ _ hd4) (hrn4.keep fun b ys e => S7 _ _ e) hrj (S7 _ _ hg4) ndd, fun H8 s8 => ⟨_, rfl, iteF ?_⟩⟩
    refine ⟨_, rfl, j', d', g', J.L, J.n, J.few, J.turn, xs', J.keys, J.fs, J.good, rfl, s8 _ _ tj, s8 _ _ td, trn.keep fun b ys e => s8 _ _ e, trj, .refl _, hok.L, hR, hok.n1, hok.n6, hok.f4, hok.t1, hok.t4, hok.h600, fun key hk => hok.lt key hk, s8 _ _ tg, hup, Nat.le_trans hok.g6 (by decide), hok.gn, fun H9 s9 => ?_⟩
    have s89 := s8.trans s9
    have S9 := S7.trans s89
    refine ⟨true, true, rfl, rfl, _, rfl, iteF ?_⟩
    have tj9 := s89 _ _ tj
    have td9 := s89 _ _ td
    have trn9 := trn.keep fun b ys e => s89 _ _ e
    have tg9 := s89 _ _ tg
    refine ⟨_, rfl, j', _, 4, .ref d', rfl, rfl, SqT.of tj9, at_of (j := 4) rfl rfl, d', xs', rfl, td9, trn9, ?_⟩
    have X0 := same_add (o := DictN P w d' []) S9 nd4
    have nj'd : j' ≠ d' := fun e => by rw [e, td9] at tj9; unfold DictN at tj9; cases tj9
    have tj10 : (upd H9 d' (DictN P w d' [])) j' = some (.tup [.str J.L, nI J.n, nI J.few, nI J.turn, .ref d', .ref g']) := by rw [upd_ne nj'd]; exact tj9
    have tg10 : (upd H9 d' (DictN P w d' [])) g' = some (.lst (J.good.map nI)) := by rw [upd_ne ndg.symm]; exact tg9
    have td10 := upd_same (H := H9) (a := d') (o := DictN P w d' [])
    refine ⟨_, rfl, j', _, 5, .ref g', rfl, rfl, SqT.of tj10, at_of (j := 5) rfl rfl, .inl ⟨rfl, _, SqL.of tg10⟩, g', _, _, rfl, rfl, tg10, Nat.lt_of_le_of_lt (show (J.good.map nI).length ≤ 6 by rw [List.length_map]; exact hok.g6) (by decide), ?_⟩
    have X1 := same_add (o := .lst (J.good.map nI ++ [.int 0])) X0 ng4
    have tj11 : (upd (upd H9 d' (DictN P w d' [])) g' (.lst (J.good.map nI ++ [.int 0]))) j' = some (.tup [.str J.L, nI J.n, nI J.few, nI J.turn, .ref d', .ref g']) := by rw [upd_ne (fun e => by rw [e, tg10] at tj10; cases tj10)]; exact tj10
    have td11 : (upd (upd H9 d' (DictN P w d' [])) g' (.lst (J.good.map nI ++ [.int 0]))) d' = some (DictN P w d' []) := by rw [upd_ne ndg]; exact td10
    refine ⟨_, rfl, j', _, 4, .ref d', rfl, rfl, SqT.of tj11, at_of (j := 4) rfl rfl, fun e he => ?_⟩
    have se := same_new (o := DictN P w e []) he
    refine ⟨d', e, [], [], rfl, rfl, se _ _ td11, (fun x h => by cases h), upd_same, (fun x h => by cases h), ⟨rfl, fun _ _ _ h => by cases h⟩, _, rfl, iteF ?_⟩
    have X2 := X1.trans se
    refine ⟨_, rfl, J, rfl, hok, hR, hup, fun t2 H13 s13 N2 => ?_⟩
    obtain ⟨j2, d2, g2, ys, rfl, mj, md, mg2, mdg, uj, ud, urn, urj, ug⟩ := N2
    have S13 := X2.trans s13
    refine ⟨_, rfl, .ref j2, .ref j, rfl, sv_judge hok hR uj ud urn urj ug (S13 _ _ hj4) (S13 _ _ hd4) (hrn4.keep fun b ys e => S13 _ _ e) hrj (S13 _ _ hg4) (fun z => by rw [z] at md; exact absurd (md.symm.trans (X2 _ _ hd4)) (by simp)), fun H14 s14 => ⟨_, rfl, iteF ?_⟩⟩
    exact ⟨⟨_, _, _, _, _, _, _, rfl⟩, SqL.same77 ((B4.trans S13).trans s14) hS0⟩
  · rintro σ H' ⟨_, _⟩
    exact qq H'
end

theorem all_mk {l : PySem.W.OpenLaw} {w : World} {K : PySem.W.Frag} {h : Heap} {mg : Str → Option Value} {fa f0 f1 f2 f3 f4 f5 f6 f7 f8 f9 f10 f11 f12 f13 f14 f15 f16 f17 f18 f19 f20 f21 f22 f23 f24 f25 f26 : Addr} (X : K.In h) (G : h.Ns mainGlobals mg) (hfa : mg "law" = some (.ref fa))
    {od0 an0 od1 an1 od2 an2 od3 an3 od4 an4 od5 an5 od6 an6 od7 an7 od8 an8 od9 an9 od10 an10 od11 an11 od12 an12 od13 an13 od14 an14 od15 an15 od16 an16 od17 an17 od18 an18 od19 an19 od20 an20 od21 an21 od22 an22 od23 an23 od24 an24 od25 an25 od26 an26 : Option Addr} {sl0 sl1 sl2 sl3 sl4 sl5 sl6 sl7 sl8 sl9 sl10 sl11 sl12 sl13 sl14 sl15 sl16 sl17 sl18 sl19 sl20 sl21 sl22 sl23 sl24 sl25 sl26 : Array (Option Value)} {oc0 kV0 dc0 pm0 cd0 ct0 oc1 kV1 dc1 pm1 cd1 ct1 oc2 kV2 dc2 pm2 cd2 ct2 oc3 kV3 dc3 pm3 cd3 ct3 oc4 kV4 dc4 pm4 cd4 ct4 oc5 kV5 dc5 pm5 cd5 ct5 oc6 kV6 dc6 pm6 cd6 ct6 oc7 kV7 dc7 pm7 cd7 ct7 oc8 kV8 dc8 pm8 cd8 ct8 oc9 kV9 dc9 pm9 cd9 ct9 oc10 kV10 dc10 pm10 cd10 ct10 oc11 kV11 dc11 pm11 cd11 ct11 oc12 kV12 dc12 pm12 cd12 ct12 oc13 kV13 dc13 pm13 cd13 ct13 oc14 kV14 dc14 pm14 cd14 ct14 oc15 kV15 dc15 pm15 cd15 ct15 oc16 kV16 dc16 pm16 cd16 ct16 oc17 kV17 dc17 pm17 cd17 ct17 oc18 kV18 dc18 pm18 cd18 ct18 oc19 kV19 dc19 pm19 cd19 ct19 oc20 kV20 dc20 pm20 cd20 ct20 oc21 kV21 dc21 pm21 cd21 ct21 oc22 kV22 dc22 pm22 cd22 ct22 oc23 kV23 dc23 pm23 cd23 ct23 oc24 kV24 dc24 pm24 cd24 ct24 oc25 kV25 dc25 pm25 cd25 ct25 oc26 kV26 dc26 pm26 cd26 ct26 : Value}
    {tk_MOST_STATES : Tok}
    {tk_MOST_FEW : Tok}
    {tk_MOST_TURN : Tok}
    {tk_MOST_TUPLES : Tok}
    {tk_FIGURES : Tok}
    (ak_MOST_STATES : PySem.W.nsIn K mainGlobals "MOST_STATES" = some (some (.int 6 tk_MOST_STATES)))
    (ak_MOST_FEW : PySem.W.nsIn K mainGlobals "MOST_FEW" = some (some (.int 4 tk_MOST_FEW)))
    (ak_MOST_TURN : PySem.W.nsIn K mainGlobals "MOST_TURN" = some (some (.int 4 tk_MOST_TURN)))
    (ak_MOST_TUPLES : PySem.W.nsIn K mainGlobals "MOST_TUPLES" = some (some (.int 600 tk_MOST_TUPLES)))
    (ak_FIGURES : PySem.W.nsIn K mainGlobals "FIGURES" = some (some (.str (Str.ofString "0123456789") tk_FIGURES)))
    (a0 : PySem.W.nsIn K mainGlobals "is_whole" = some (some (.ref f0))) (l0 : K.lookup f0 = some ⟨oc0, od0, .func (PySem.W.fnOf "is_whole" "is_whole" (defArgs s_is_whole) (defBody s_is_whole) (defScope s_is_whole) .none kV0 dc0 pm0 an0 cd0 ct0), sl0⟩) (c0 : PySem.W.codeIn K cd0 "is_whole" = true) (k0 : PySem.W.keepIn K (.ref f0) = true)
    (a1 : PySem.W.nsIn K mainGlobals "is_whole_within" = some (some (.ref f1))) (l1 : K.lookup f1 = some ⟨oc1, od1, .func (PySem.W.fnOf "is_whole_within" "is_whole_within" (defArgs s_is_whole_within) (defBody s_is_whole_within) (defScope s_is_whole_within) .none kV1 dc1 pm1 an1 cd1 ct1), sl1⟩) (c1 : PySem.W.codeIn K cd1 "is_whole_within" = true) (k1 : PySem.W.keepIn K (.ref f1) = true)
    (a2 : PySem.W.nsIn K mainGlobals "is_letter" = some (some (.ref f2))) (l2 : K.lookup f2 = some ⟨oc2, od2, .func (PySem.W.fnOf "is_letter" "is_letter" (defArgs s_is_letter) (defBody s_is_letter) (defScope s_is_letter) .none kV2 dc2 pm2 an2 cd2 ct2), sl2⟩) (c2 : PySem.W.codeIn K cd2 "is_letter" = true) (k2 : PySem.W.keepIn K (.ref f2) = true)
    (a3 : PySem.W.nsIn K mainGlobals "is_judge" = some (some (.ref f3))) (l3 : K.lookup f3 = some ⟨oc3, od3, .func (PySem.W.fnOf "is_judge" "is_judge" (defArgs s_is_judge) (defBody s_is_judge) (defScope s_is_judge) .none kV3 dc3 pm3 an3 cd3 ct3), sl3⟩) (c3 : PySem.W.codeIn K cd3 "is_judge" = true) (k3 : PySem.W.keepIn K (.ref f3) = true)
    (a4 : PySem.W.nsIn K mainGlobals "may_have_table" = some (some (.ref f4))) (l4 : K.lookup f4 = some ⟨oc4, od4, .func (PySem.W.fnOf "may_have_table" "may_have_table" (defArgs s_may_have_table) (defBody s_may_have_table) (defScope s_may_have_table) .none kV4 dc4 pm4 an4 cd4 ct4), sl4⟩) (c4 : PySem.W.codeIn K cd4 "may_have_table" = true) (k4 : PySem.W.keepIn K (.ref f4) = true)
    (a5 : PySem.W.nsIn K mainGlobals "are_letters" = some (some (.ref f5))) (l5 : K.lookup f5 = some ⟨oc5, od5, .func (PySem.W.fnOf "are_letters" "are_letters" (defArgs s_are_letters) (defBody s_are_letters) (defScope s_are_letters) .none kV5 dc5 pm5 an5 cd5 ct5), sl5⟩) (c5 : PySem.W.codeIn K cd5 "are_letters" = true) (k5 : PySem.W.keepIn K (.ref f5) = true)
    (a6 : PySem.W.nsIn K mainGlobals "are_rising_states" = some (some (.ref f6))) (l6 : K.lookup f6 = some ⟨oc6, od6, .func (PySem.W.fnOf "are_rising_states" "are_rising_states" (defArgs s_are_rising_states) (defBody s_are_rising_states) (defScope s_are_rising_states) .none kV6 dc6 pm6 an6 cd6 ct6), sl6⟩) (c6 : PySem.W.codeIn K cd6 "are_rising_states" = true) (k6 : PySem.W.keepIn K (.ref f6) = true)
    (a7 : PySem.W.nsIn K mainGlobals "_rises" = some (some (.ref f7))) (l7 : K.lookup f7 = some ⟨oc7, od7, .func (PySem.W.fnOf "_rises" "_rises" (defArgs s__rises) (defBody s__rises) (defScope s__rises) .none kV7 dc7 pm7 an7 cd7 ct7), sl7⟩) (c7 : PySem.W.codeIn K cd7 "_rises" = true) (k7 : PySem.W.keepIn K (.ref f7) = true)
    (a8 : PySem.W.nsIn K mainGlobals "tuples_due" = some (some (.ref f8))) (l8 : K.lookup f8 = some ⟨oc8, od8, .func (PySem.W.fnOf "tuples_due" "tuples_due" (defArgs s_tuples_due) (defBody s_tuples_due) (defScope s_tuples_due) .none kV8 dc8 pm8 an8 cd8 ct8), sl8⟩) (c8 : PySem.W.codeIn K cd8 "tuples_due" = true) (k8 : PySem.W.keepIn K (.ref f8) = true)
    (a9 : PySem.W.nsIn K mainGlobals "_is_table" = some (some (.ref f9))) (l9 : K.lookup f9 = some ⟨oc9, od9, .func (PySem.W.fnOf "_is_table" "_is_table" (defArgs s__is_table) (defBody s__is_table) (defScope s__is_table) .none kV9 dc9 pm9 an9 cd9 ct9), sl9⟩) (c9 : PySem.W.codeIn K cd9 "_is_table" = true) (k9 : PySem.W.keepIn K (.ref f9) = true)
    (a10 : PySem.W.nsIn K mainGlobals "_is_key" = some (some (.ref f10))) (l10 : K.lookup f10 = some ⟨oc10, od10, .func (PySem.W.fnOf "_is_key" "_is_key" (defArgs s__is_key) (defBody s__is_key) (defScope s__is_key) .none kV10 dc10 pm10 an10 cd10 ct10), sl10⟩) (c10 : PySem.W.codeIn K cd10 "_is_key" = true) (k10 : PySem.W.keepIn K (.ref f10) = true)
    (a11 : PySem.W.nsIn K mainGlobals "class_rows" = some (some (.ref f11))) (l11 : K.lookup f11 = some ⟨oc11, od11, .func (PySem.W.fnOf "class_rows" "class_rows" (defArgs s_class_rows) (defBody s_class_rows) (defScope s_class_rows) .none kV11 dc11 pm11 an11 cd11 ct11), sl11⟩) (c11 : PySem.W.codeIn K cd11 "class_rows" = true) (k11 : PySem.W.keepIn K (.ref f11) = true)
    (a12 : PySem.W.nsIn K mainGlobals "keys_due" = some (some (.ref f12))) (l12 : K.lookup f12 = some ⟨oc12, od12, .func (PySem.W.fnOf "keys_due" "keys_due" (defArgs s_keys_due) (defBody s_keys_due) (defScope s_keys_due) .none kV12 dc12 pm12 an12 cd12 ct12), sl12⟩) (c12 : PySem.W.codeIn K cd12 "keys_due" = true) (k12 : PySem.W.keepIn K (.ref f12) = true)
    (a13 : PySem.W.nsIn K mainGlobals "show_judge" = some (some (.ref f13))) (l13 : K.lookup f13 = some ⟨oc13, od13, .func (PySem.W.fnOf "show_judge" "show_judge" (defArgs s_show_judge) (defBody s_show_judge) (defScope s_show_judge) .none kV13 dc13 pm13 an13 cd13 ct13), sl13⟩) (c13 : PySem.W.codeIn K cd13 "show_judge" = true) (k13 : PySem.W.keepIn K (.ref f13) = true)
    (a14 : PySem.W.nsIn K mainGlobals "read_judge" = some (some (.ref f14))) (l14 : K.lookup f14 = some ⟨oc14, od14, .func (PySem.W.fnOf "read_judge" "read_judge" (defArgs s_read_judge) (defBody s_read_judge) (defScope s_read_judge) .none kV14 dc14 pm14 an14 cd14 ct14), sl14⟩) (c14 : PySem.W.codeIn K cd14 "read_judge" = true) (k14 : PySem.W.keepIn K (.ref f14) = true)
    (a15 : PySem.W.nsIn K mainGlobals "_judge_read" = some (some (.ref f15))) (l15 : K.lookup f15 = some ⟨oc15, od15, .func (PySem.W.fnOf "_judge_read" "_judge_read" (defArgs s__judge_read) (defBody s__judge_read) (defScope s__judge_read) .none kV15 dc15 pm15 an15 cd15 ct15), sl15⟩) (c15 : PySem.W.codeIn K cd15 "_judge_read" = true) (k15 : PySem.W.keepIn K (.ref f15) = true)
    (a16 : PySem.W.nsIn K mainGlobals "_figure" = some (some (.ref f16))) (l16 : K.lookup f16 = some ⟨oc16, od16, .func (PySem.W.fnOf "_figure" "_figure" (defArgs s__figure) (defBody s__figure) (defScope s__figure) .none kV16 dc16 pm16 an16 cd16 ct16), sl16⟩) (c16 : PySem.W.codeIn K cd16 "_figure" = true) (k16 : PySem.W.keepIn K (.ref f16) = true)
    (a17 : PySem.W.nsIn K mainGlobals "_law_cell" = some (some (.ref f17))) (l17 : K.lookup f17 = some ⟨oc17, od17, .func (PySem.W.fnOf "_law_cell" "_law_cell" (defArgs s__law_cell) (defBody s__law_cell) (defScope s__law_cell) .none kV17 dc17 pm17 an17 cd17 ct17), sl17⟩) (c17 : PySem.W.codeIn K cd17 "_law_cell" = true) (k17 : PySem.W.keepIn K (.ref f17) = true)
    (a18 : PySem.W.nsIn K mainGlobals "_law_store" = some (some (.ref f18))) (l18 : K.lookup f18 = some ⟨oc18, od18, .func (PySem.W.fnOf "_law_store" "_law_store" (defArgs s__law_store) (defBody s__law_store) (defScope s__law_store) .none kV18 dc18 pm18 an18 cd18 ct18), sl18⟩) (c18 : PySem.W.codeIn K cd18 "_law_store" = true) (k18 : PySem.W.keepIn K (.ref f18) = true)
    (a19 : PySem.W.nsIn K mainGlobals "_law_take" = some (some (.ref f19))) (l19 : K.lookup f19 = some ⟨oc19, od19, .func (PySem.W.fnOf "_law_take" "_law_take" (defArgs s__law_take) (defBody s__law_take) (defScope s__law_take) .none kV19 dc19 pm19 an19 cd19 ct19), sl19⟩) (c19 : PySem.W.codeIn K cd19 "_law_take" = true) (k19 : PySem.W.keepIn K (.ref f19) = true)
    (a20 : PySem.W.nsIn K mainGlobals "_law_classes" = some (some (.ref f20))) (l20 : K.lookup f20 = some ⟨oc20, od20, .func (PySem.W.fnOf "_law_classes" "_law_classes" (defArgs s__law_classes) (defBody s__law_classes) (defScope s__law_classes) .none kV20 dc20 pm20 an20 cd20 ct20), sl20⟩) (c20 : PySem.W.codeIn K cd20 "_law_classes" = true) (k20 : PySem.W.keepIn K (.ref f20) = true)
    (a21 : PySem.W.nsIn K mainGlobals "_law_letters" = some (some (.ref f21))) (l21 : K.lookup f21 = some ⟨oc21, od21, .func (PySem.W.fnOf "_law_letters" "_law_letters" (defArgs s__law_letters) (defBody s__law_letters) (defScope s__law_letters) .none kV21 dc21 pm21 an21 cd21 ct21), sl21⟩) (c21 : PySem.W.codeIn K cd21 "_law_letters" = true) (k21 : PySem.W.keepIn K (.ref f21) = true)
    (a22 : PySem.W.nsIn K mainGlobals "_law_judge" = some (some (.ref f22))) (l22 : K.lookup f22 = some ⟨oc22, od22, .func (PySem.W.fnOf "_law_judge" "_law_judge" (defArgs s__law_judge) (defBody s__law_judge) (defScope s__law_judge) .none kV22 dc22 pm22 an22 cd22 ct22), sl22⟩) (c22 : PySem.W.codeIn K cd22 "_law_judge" = true) (k22 : PySem.W.keepIn K (.ref f22) = true)
    (a23 : PySem.W.nsIn K mainGlobals "_law_shown" = some (some (.ref f23))) (l23 : K.lookup f23 = some ⟨oc23, od23, .func (PySem.W.fnOf "_law_shown" "_law_shown" (defArgs s__law_shown) (defBody s__law_shown) (defScope s__law_shown) .none kV23 dc23 pm23 an23 cd23 ct23), sl23⟩) (c23 : PySem.W.codeIn K cd23 "_law_shown" = true) (k23 : PySem.W.keepIn K (.ref f23) = true)
    (a24 : PySem.W.nsIn K mainGlobals "_law_same" = some (some (.ref f24))) (l24 : K.lookup f24 = some ⟨oc24, od24, .func (PySem.W.fnOf "_law_same" "_law_same" (defArgs s__law_same) (defBody s__law_same) (defScope s__law_same) .none kV24 dc24 pm24 an24 cd24 ct24), sl24⟩) (c24 : PySem.W.codeIn K cd24 "_law_same" = true) (k24 : PySem.W.keepIn K (.ref f24) = true)
    (a25 : PySem.W.nsIn K mainGlobals "_law_shuffled" = some (some (.ref f25))) (l25 : K.lookup f25 = some ⟨oc25, od25, .func (PySem.W.fnOf "_law_shuffled" "_law_shuffled" (defArgs s__law_shuffled) (defBody s__law_shuffled) (defScope s__law_shuffled) .none kV25 dc25 pm25 an25 cd25 ct25), sl25⟩) (c25 : PySem.W.codeIn K cd25 "_law_shuffled" = true) (k25 : PySem.W.keepIn K (.ref f25) = true)
    (a26 : PySem.W.nsIn K mainGlobals "law" = some (some (.ref f26))) (l26 : K.lookup f26 = some ⟨oc26, od26, .func (PySem.W.fnOf "law" "law" (defArgs s_law) (defBody s_law) (defScope s_law) .none kV26 dc26 pm26 an26 cd26 ct26), sl26⟩) (c26 : PySem.W.codeIn K cd26 "law" = true) (k26 : PySem.W.keepIn K (.ref f26) = true)
    (z_all : PySem.W.nsIn K mainGlobals "all" = some none)
    (z_bool : PySem.W.nsIn K mainGlobals "bool" = some none)
    (z_dict : PySem.W.nsIn K mainGlobals "dict" = some none)
    (z_int : PySem.W.nsIn K mainGlobals "int" = some none)
    (z_isinstance : PySem.W.nsIn K mainGlobals "isinstance" = some none)
    (z_len : PySem.W.nsIn K mainGlobals "len" = some none)
    (z_list : PySem.W.nsIn K mainGlobals "list" = some none)
    (z_max : PySem.W.nsIn K mainGlobals "max" = some none)
    (z_min : PySem.W.nsIn K mainGlobals "min" = some none)
    (z_range : PySem.W.nsIn K mainGlobals "range" = some none)
    (z_sorted : PySem.W.nsIn K mainGlobals "sorted" = some none)
    (z_str : PySem.W.nsIn K mainGlobals "str" = some none)
    (z_sum : PySem.W.nsIn K mainGlobals "sum" = some none)
    (z_tuple : PySem.W.nsIn K mainGlobals "tuple" = some none)
    (z_zip : PySem.W.nsIn K mainGlobals "zip" = some none)
    : ∃ fd : FuncData, (∀ (s : Shared) (v : Value), BindsTo s fd ⟨[v], []⟩ [("script", v)]) ∧ ∀ base : Heap, K.In base → base.Ns mainGlobals mg → FnOk l.prog w K mg base CX0 8 fa fd ["script"] (spLaw K) := by
  have e := hfa.symm.trans (PySem.W.mg_of X G a26)
  cases e
  have F0 := fun_mk (st := s_is_whole) l0 c0 k0
  have b0 := F0.binds (ps := ["thing"]) fun _ _ _ _ _ _ us hl => match us, hl with | [_], _ => rfl
  have F1 := fun_mk (st := s_is_whole_within) l1 c1 k1
  have b1 := F1.binds (ps := ["thing", "low", "high"]) fun _ _ _ _ _ _ us hl => match us, hl with | [_, _, _], _ => rfl
  have F2 := fun_mk (st := s_is_letter) l2 c2 k2
  have b2 := F2.binds (ps := ["thing"]) fun _ _ _ _ _ _ us hl => match us, hl with | [_], _ => rfl
  have F3 := fun_mk (st := s_is_judge) l3 c3 k3
  have b3 := F3.binds (ps := ["thing"]) fun _ _ _ _ _ _ us hl => match us, hl with | [_], _ => rfl
  have F4 := fun_mk (st := s_may_have_table) l4 c4 k4
  have b4 := F4.binds (ps := ["letters", "states", "few", "turn"]) fun _ _ _ _ _ _ us hl => match us, hl with | [_, _, _, _], _ => rfl
  have F5 := fun_mk (st := s_are_letters) l5 c5 k5
  have b5 := F5.binds (ps := ["thing"]) fun _ _ _ _ _ _ us hl => match us, hl with | [_], _ => rfl
  have F6 := fun_mk (st := s_are_rising_states) l6 c6 k6
  have b6 := F6.binds (ps := ["thing", "states"]) fun _ _ _ _ _ _ us hl => match us, hl with | [_, _], _ => rfl
  have F7 := fun_mk (st := s__rises) l7 c7 k7
  have b7 := F7.binds (ps := ["row"]) fun _ _ _ _ _ _ us hl => match us, hl with | [_], _ => rfl
  have F8 := fun_mk (st := s_tuples_due) l8 c8 k8
  have b8 := F8.binds (ps := ["letters", "states", "classes"]) fun _ _ _ _ _ _ us hl => match us, hl with | [_, _, _], _ => rfl
  have F9 := fun_mk (st := s__is_table) l9 c9 k9
  have b9 := F9.binds (ps := ["thing", "letters", "states", "classes"]) fun _ _ _ _ _ _ us hl => match us, hl with | [_, _, _, _], _ => rfl
  have F10 := fun_mk (st := s__is_key) l10 c10 k10
  have b10 := F10.binds (ps := ["thing", "letters", "states", "classes"]) fun _ _ _ _ _ _ us hl => match us, hl with | [_, _, _, _], _ => rfl
  have F11 := fun_mk (st := s_class_rows) l11 c11 k11
  have b11 := F11.binds (ps := ["states", "classes"]) fun _ _ _ _ _ _ us hl => match us, hl with | [_, _], _ => rfl
  have F12 := fun_mk (st := s_keys_due) l12 c12 k12
  have b12 := F12.binds (ps := ["letters", "states", "classes"]) fun _ _ _ _ _ _ us hl => match us, hl with | [_, _, _], _ => rfl
  have F13 := fun_mk (st := s_show_judge) l13 c13 k13
  have b13 := F13.binds (ps := ["judge"]) fun _ _ _ _ _ _ us hl => match us, hl with | [_], _ => rfl
  have F14 := fun_mk (st := s_read_judge) l14 c14 k14
  have b14 := F14.binds (ps := ["text"]) fun _ _ _ _ _ _ us hl => match us, hl with | [_], _ => rfl
  have F15 := fun_mk (st := s__judge_read) l15 c15 k15
  have b15 := F15.binds (ps := ["words"]) fun _ _ _ _ _ _ us hl => match us, hl with | [_], _ => rfl
  have F16 := fun_mk (st := s__figure) l16 c16 k16
  have b16 := F16.binds (ps := ["word"]) fun _ _ _ _ _ _ us hl => match us, hl with | [_], _ => rfl
  have F17 := fun_mk (st := s__law_cell) l17 c17 k17
  have b17 := F17.binds (ps := ["script", "k"]) fun _ _ _ _ _ _ us hl => match us, hl with | [_, _], _ => rfl
  have F18 := fun_mk (st := s__law_store) l18 c18 k18
  have b18 := F18.binds (ps := ["cell"]) fun _ _ _ _ _ _ us hl => match us, hl with | [_], _ => rfl
  have F19 := fun_mk (st := s__law_take) l19 c19 k19
  have b19 := F19.binds (ps := ["store", "many"]) fun _ _ _ _ _ _ us hl => match us, hl with | [_, _], _ => rfl
  have F20 := fun_mk (st := s__law_classes) l20 c20 k20
  have b20 := F20.binds (ps := ["many", "states"]) fun _ _ _ _ _ _ us hl => match us, hl with | [_, _], _ => rfl
  have F21 := fun_mk (st := s__law_letters) l21 c21 k21
  have b21 := F21.binds (ps := ["store"]) fun _ _ _ _ _ _ us hl => match us, hl with | [_], _ => rfl
  have F22 := fun_mk (st := s__law_judge) l22 c22 k22
  have b22 := F22.binds (ps := ["store", "small"]) fun _ _ _ _ _ _ us hl => match us, hl with | [_, _], _ => rfl
  have F23 := fun_mk (st := s__law_shown) l23 c23 k23
  have b23 := F23.binds (ps := ["judge"]) fun _ _ _ _ _ _ us hl => match us, hl with | [_], _ => rfl
  have F24 := fun_mk (st := s__law_same) l24 c24 k24
  have b24 := F24.binds (ps := ["found", "due"]) fun _ _ _ _ _ _ us hl => match us, hl with | [_, _], _ => rfl
  have F25 := fun_mk (st := s__law_shuffled) l25 c25 k25
  have b25 := F25.binds (ps := ["store", "judge"]) fun _ _ _ _ _ _ us hl => match us, hl with | [_, _], _ => rfl
  have F26 := fun_mk (st := s_law) l26 c26 k26
  have b26 := F26.binds (ps := ["script"]) fun _ _ _ _ _ _ us hl => match us, hl with | [_], _ => rfl
  let T : Txt K mg := ⟨f0, _, F0, b0, PySem.W.mg_of X G a0, f1, _, F1, b1, PySem.W.mg_of X G a1, f2, _, F2, b2, PySem.W.mg_of X G a2, f3, _, F3, b3, PySem.W.mg_of X G a3, f4, _, F4, b4, PySem.W.mg_of X G a4, f5, _, F5, b5, PySem.W.mg_of X G a5, f6, _, F6, b6, PySem.W.mg_of X G a6, f7, _, F7, b7, PySem.W.mg_of X G a7, f8, _, F8, b8, PySem.W.mg_of X G a8, f9, _, F9, b9, PySem.W.mg_of X G a9, f10, _, F10, b10, PySem.W.mg_of X G a10, f11, _, F11, b11, PySem.W.mg_of X G a11, f12, _, F12, b12, PySem.W.mg_of X G a12, f13, _, F13, b13, PySem.W.mg_of X G a13, f14, _, F14, b14, PySem.W.mg_of X G a14, f15, _, F15, b15, PySem.W.mg_of X G a15, f16, _, F16, b16, PySem.W.mg_of X G a16, f17, _, F17, b17, PySem.W.mg_of X G a17, f18, _, F18, b18, PySem.W.mg_of X G a18, f19, _, F19, b19, PySem.W.mg_of X G a19, f20, _, F20, b20, PySem.W.mg_of X G a20, f21, _, F21, b21, PySem.W.mg_of X G a21, f22, _, F22, b22, PySem.W.mg_of X G a22, f23, _, F23, b23, PySem.W.mg_of X G a23, f24, _, F24, b24, PySem.W.mg_of X G a24, f25, _, F25, b25, PySem.W.mg_of X G a25, fa, _, F26, b26, PySem.W.mg_of X G a26, _, PySem.W.mg_of X G ak_MOST_STATES, _, PySem.W.mg_of X G ak_MOST_FEW, _, PySem.W.mg_of X G ak_MOST_TURN, _, PySem.W.mg_of X G ak_MOST_TUPLES, _, PySem.W.mg_of X G ak_FIGURES, PySem.W.mg_none_of X G z_all, PySem.W.mg_none_of X G z_bool, PySem.W.mg_none_of X G z_dict, PySem.W.mg_none_of X G z_int, PySem.W.mg_none_of X G z_isinstance, PySem.W.mg_none_of X G z_len, PySem.W.mg_none_of X G z_list, PySem.W.mg_none_of X G z_max, PySem.W.mg_none_of X G z_min, PySem.W.mg_none_of X G z_range, PySem.W.mg_none_of X G z_sorted, PySem.W.mg_none_of X G z_str, PySem.W.mg_none_of X G z_sum, PySem.W.mg_none_of X G z_tuple, PySem.W.mg_none_of X G z_zip⟩
  exact ⟨PySem.W.fnOf "law" "law" (defArgs s_law) (defBody s_law) (defScope s_law) .none kV26 dc26 pm26 an26 cd26 ct26, fun s v => .of_eq rfl, fun base _ _ => ok_law T⟩
end My
open PySem PySem.W PyProof.Rows
set_option maxRecDepth 100000 in
set_option maxHeartbeats 0 in
theorem PySem.Challenge.cw_heaptrees_k77_judges_written_holds : PySem.Challenge.rw_heaptrees_k77_judges_written.Holds := by
  w_on; o_law; k_head; (case hw => w_witness2)
  k_fill
  refine L2.walk_of (l := PySem.Challenge.rw_heaptrees_k77_judges_written) (n := 63) (k := 8) (x := "script") (CX := fun _ => L2.CX0) (sp := fun w => My.spLaw _) rfl (by decide) rfl ⟨rfl, by decide, by decide⟩ (fun w h Y => PySem.W.kIn_of Y) ?F (fun _ _ a ns hl _ hS => ⟨a, ns, rfl, hS, hl, fun _ => rfl⟩) (fun _ _ _ _ _ h => h)
  case F =>
    intro w mg fa h KX G hmg
    refine' My.all_mk KX G hmg ?ak_MOST_STATES ?ak_MOST_FEW ?ak_MOST_TURN ?ak_MOST_TUPLES ?ak_FIGURES ?a0 ?l0 ?c0 ?k0 ?a1 ?l1 ?c1 ?k1 ?a2 ?l2 ?c2 ?k2 ?a3 ?l3 ?c3 ?k3 ?a4 ?l4 ?c4 ?k4 ?a5 ?l5 ?c5 ?k5 ?a6 ?l6 ?c6 ?k6 ?a7 ?l7 ?c7 ?k7 ?a8 ?l8 ?c8 ?k8 ?a9 ?l9 ?c9 ?k9 ?a10 ?l10 ?c10 ?k10 ?a11 ?l11 ?c11 ?k11 ?a12 ?l12 ?c12 ?k12 ?a13 ?l13 ?c13 ?k13 ?a14 ?l14 ?c14 ?k14 ?a15 ?l15 ?c15 ?k15 ?a16 ?l16 ?c16 ?k16 ?a17 ?l17 ?c17 ?k17 ?a18 ?l18 ?c18 ?k18 ?a19 ?l19 ?c19 ?k19 ?a20 ?l20 ?c20 ?k20 ?a21 ?l21 ?c21 ?k21 ?a22 ?l22 ?c22 ?k22 ?a23 ?l23 ?c23 ?k23 ?a24 ?l24 ?c24 ?k24 ?a25 ?l25 ?c25 ?k25 ?a26 ?l26 ?c26 ?k26 ?z_all ?z_bool ?z_dict ?z_int ?z_isinstance ?z_len ?z_list ?z_max ?z_min ?z_range ?z_sorted ?z_str ?z_sum ?z_tuple ?z_zip
    (case ak_MOST_STATES => k_is)
    (case ak_MOST_FEW => k_is)
    (case ak_MOST_TURN => k_is)
    (case ak_MOST_TUPLES => k_is)
    (case ak_FIGURES => k_is)
    (case a0 => k_is)
    (case l0 => k_is)
    (case c0 => k_is)
    (case k0 => k_is)
    (case a1 => k_is)
    (case l1 => k_is)
    (case c1 => k_is)
    (case k1 => k_is)
    (case a2 => k_is)
    (case l2 => k_is)
    (case c2 => k_is)
    (case k2 => k_is)
    (case a3 => k_is)
    (case l3 => k_is)
    (case c3 => k_is)
    (case k3 => k_is)
    (case a4 => k_is)
    (case l4 => k_is)
    (case c4 => k_is)
    (case k4 => k_is)
    (case a5 => k_is)
    (case l5 => k_is)
    (case c5 => k_is)
    (case k5 => k_is)
    (case a6 => k_is)
    (case l6 => k_is)
    (case c6 => k_is)
    (case k6 => k_is)
    (case a7 => k_is)
    (case l7 => k_is)
    (case c7 => k_is)
    (case k7 => k_is)
    (case a8 => k_is)
    (case l8 => k_is)
    (case c8 => k_is)
    (case k8 => k_is)
    (case a9 => k_is)
    (case l9 => k_is)
    (case c9 => k_is)
    (case k9 => k_is)
    (case a10 => k_is)
    (case l10 => k_is)
    (case c10 => k_is)
    (case k10 => k_is)
    (case a11 => k_is)
    (case l11 => k_is)
    (case c11 => k_is)
    (case k11 => k_is)
    (case a12 => k_is)
    (case l12 => k_is)
    (case c12 => k_is)
    (case k12 => k_is)
    (case a13 => k_is)
    (case l13 => k_is)
    (case c13 => k_is)
    (case k13 => k_is)
    (case a14 => k_is)
    (case l14 => k_is)
    (case c14 => k_is)
    (case k14 => k_is)
    (case a15 => k_is)
    (case l15 => k_is)
    (case c15 => k_is)
    (case k15 => k_is)
    (case a16 => k_is)
    (case l16 => k_is)
    (case c16 => k_is)
    (case k16 => k_is)
    (case a17 => k_is)
    (case l17 => k_is)
    (case c17 => k_is)
    (case k17 => k_is)
    (case a18 => k_is)
    (case l18 => k_is)
    (case c18 => k_is)
    (case k18 => k_is)
    (case a19 => k_is)
    (case l19 => k_is)
    (case c19 => k_is)
    (case k19 => k_is)
    (case a20 => k_is)
    (case l20 => k_is)
    (case c20 => k_is)
    (case k20 => k_is)
    (case a21 => k_is)
    (case l21 => k_is)
    (case c21 => k_is)
    (case k21 => k_is)
    (case a22 => k_is)
    (case l22 => k_is)
    (case c22 => k_is)
    (case k22 => k_is)
    (case a23 => k_is)
    (case l23 => k_is)
    (case c23 => k_is)
    (case k23 => k_is)
    (case a24 => k_is)
    (case l24 => k_is)
    (case c24 => k_is)
    (case k24 => k_is)
    (case a25 => k_is)
    (case l25 => k_is)
    (case c25 => k_is)
    (case k25 => k_is)
    (case a26 => k_is)
    (case l26 => k_is)
    (case c26 => k_is)
    (case k26 => k_is)
    (case z_all => k_is)
    (case z_bool => k_is)
    (case z_dict => k_is)
    (case z_int => k_is)
    (case z_isinstance => k_is)
    (case z_len => k_is)
    (case z_list => k_is)
    (case z_max => k_is)
    (case z_min => k_is)
    (case z_range => k_is)
    (case z_sorted => k_is)
    (case z_str => k_is)
    (case z_sum => k_is)
    (case z_tuple => k_is)
    (case z_zip => k_is)
#print axioms PySem.Challenge.cw_heaptrees_k77_judges_written_holds
