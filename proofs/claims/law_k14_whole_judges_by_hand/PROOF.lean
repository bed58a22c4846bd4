import PyProof.Rows.All
import Wide.All
import OpenK.AllK
import Wide.FinOn
import HandS.ForMost
import HandS.Wide
import HandS.IsInst
import HandS.Exc
import HandS.ExcOwn
import HandS.ExcValue
import HandS.ExcIs
import HandS.TryOnly
import HandS.WordsExc
import HandS.Flow
import HandS.Style
import HandS.Codes
import HandS.Lambda
import HandS.Star
import HandS.Nested
import HandS.EndTab
import HandS.SortKw
import HandS.FStr
import HandS.NoneIn
import HandS.More
import HandS.Zip
import HandS.Conv
import HandS.TupAny
import HandS.RaiseMore
import HandS.Walk
import HandS.Iter
import HandS.Dict
import PyProof.StrLawsRepr
import KE.SortKeyHeap
import KE.SortData
import KE.DataFind
import KE.DataMinMax
import KE.KEqNest
import PyProof.Draws
import PyProof.EnumMake
import KE.KeyNested
import KE.KDictKeyed
import HandS.Steps
import HandS.SetFor
import HandS.DictEq
import HandS.DictTup
import HandS.DictComp
import KE.KMathGC
import HandS.Gcd
import HandS.Replace
import HandS.SortInts
import KE.GoesMore
import KE.GoesZip
import PySem.Challenge.RW_heaptrees_k14_whole_judges_by_hand
set_option Elab.async false
set_option linter.all false
set_option maxRecDepth 100000
set_option maxHeartbeats 4000000
namespace My
open PySem PySem.Spec PyProof.Rows L2
def topS (i : Nat) : Stmt := PySem.Challenge.pw_heaptrees_k14_whole_judges_by_hand.main.body.getD i (.Pass ⟨0, 0, 0, 0⟩)
abbrev s_is_whole : Stmt := topS 5
theorem sc_is_whole : FnScope ["thing"] ["thing"] (defScope s_is_whole) := ⟨rfl, rfl, rfl, by decide +kernel, rfl, by decide +kernel, by decide +kernel⟩
abbrev s_is_whole_within : Stmt := topS 6
theorem sc_is_whole_within : FnScope ["thing", "low", "high"] ["thing", "low", "high"] (defScope s_is_whole_within) := ⟨rfl, rfl, rfl, by decide +kernel, rfl, by decide +kernel, by decide +kernel⟩
abbrev s_is_letter : Stmt := topS 7
theorem sc_is_letter : FnScope ["thing"] ["thing"] (defScope s_is_letter) := ⟨rfl, rfl, rfl, by decide +kernel, rfl, by decide +kernel, by decide +kernel⟩
abbrev s_is_tree : Stmt := topS 9
theorem sc_is_tree : FnScope ["thing", "waiting", "part"] ["thing"] (defScope s_is_tree) := ⟨rfl, rfl, rfl, by decide +kernel, rfl, by decide +kernel, by decide +kernel⟩
abbrev s__is_part : Stmt := topS 10
theorem sc__is_part : FnScope ["thing"] ["thing"] (defScope s__is_part) := ⟨rfl, rfl, rfl, by decide +kernel, rfl, by decide +kernel, by decide +kernel⟩
abbrev s_check_tree : Stmt := topS 11
theorem sc_check_tree : FnScope ["thing"] ["thing"] (defScope s_check_tree) := ⟨rfl, rfl, rfl, by decide +kernel, rfl, by decide +kernel, by decide +kernel⟩
abbrev s_parts_upward : Stmt := topS 12
theorem sc_parts_upward : FnScope ["tree", "parts", "waiting", "part"] ["tree"] (defScope s_parts_upward) := ⟨rfl, rfl, rfl, by decide +kernel, rfl, by decide +kernel, by decide +kernel⟩
abbrev s_size_of : Stmt := topS 13
theorem sc_size_of : FnScope ["tree"] ["tree"] (defScope s_size_of) := ⟨rfl, rfl, rfl, by decide +kernel, rfl, by decide +kernel, by decide +kernel⟩
abbrev s_built_upward : Stmt := topS 14
theorem sc_built_upward : FnScope ["tree", "made", "waiting", "letter", "children", "first", "below"] ["tree", "made"] (defScope s_built_upward) := ⟨rfl, rfl, rfl, by decide +kernel, rfl, by decide +kernel, by decide +kernel⟩
abbrev s_depth_of : Stmt := topS 15
theorem sc_depth_of : FnScope ["tree", "depth", "level", "part", "child"] ["tree"] (defScope s_depth_of) := ⟨rfl, rfl, rfl, by decide +kernel, rfl, by decide +kernel, by decide +kernel⟩
abbrev s_is_judge : Stmt := topS 21
theorem sc_is_judge : FnScope ["thing", "letters", "states", "few", "turn", "table", "good"] ["thing"] (defScope s_is_judge) := ⟨rfl, rfl, rfl, by decide +kernel, rfl, by decide +kernel, by decide +kernel⟩
abbrev s_may_have_table : Stmt := topS 22
theorem sc_may_have_table : FnScope ["letters", "states", "few", "turn"] ["letters", "states", "few", "turn"] (defScope s_may_have_table) := ⟨rfl, rfl, rfl, by decide +kernel, rfl, by decide +kernel, by decide +kernel⟩
abbrev s_are_letters : Stmt := topS 23
theorem sc_are_letters : FnScope ["thing", "sign"] ["thing"] (defScope s_are_letters) := ⟨rfl, rfl, rfl, by decide +kernel, rfl, by decide +kernel, by decide +kernel⟩
abbrev s_are_rising_states : Stmt := topS 24
theorem sc_are_rising_states : FnScope ["thing", "states", "state"] ["thing", "states"] (defScope s_are_rising_states) := ⟨rfl, rfl, rfl, by decide +kernel, rfl, by decide +kernel, by decide +kernel⟩
abbrev s__rises : Stmt := topS 25
theorem sc__rises : FnScope ["row", "low", "high"] ["row"] (defScope s__rises) := ⟨rfl, rfl, rfl, by decide +kernel, rfl, by decide +kernel, by decide +kernel⟩
abbrev s_tuples_due : Stmt := topS 26
theorem sc_tuples_due : FnScope ["letters", "states", "classes", "many", "_"] ["letters", "states", "classes"] (defScope s_tuples_due) := ⟨rfl, rfl, rfl, by decide +kernel, rfl, by decide +kernel, by decide +kernel⟩
abbrev s__is_table : Stmt := topS 27
theorem sc__is_table : FnScope ["thing", "letters", "states", "classes", "key", "state"] ["thing", "letters", "states", "classes"] (defScope s__is_table) := ⟨rfl, rfl, rfl, by decide +kernel, rfl, by decide +kernel, by decide +kernel⟩
abbrev s__is_key : Stmt := topS 28
theorem sc__is_key : FnScope ["thing", "letters", "states", "classes", "letter", "row", "number"] ["thing", "letters", "states", "classes"] (defScope s__is_key) := ⟨rfl, rfl, rfl, by decide +kernel, rfl, by decide +kernel, by decide +kernel⟩
abbrev s_class_of : Stmt := topS 29
theorem sc_class_of : FnScope ["number", "few", "turn"] ["number", "few", "turn"] (defScope s_class_of) := ⟨rfl, rfl, rfl, by decide +kernel, rfl, by decide +kernel, by decide +kernel⟩
abbrev s_state_by_numbers : Stmt := topS 30
theorem sc_state_by_numbers : FnScope ["judge", "letter", "numbers", "row", "number"] ["judge", "letter", "numbers"] (defScope s_state_by_numbers) := ⟨rfl, rfl, rfl, by decide +kernel, rfl, by decide +kernel, by decide +kernel⟩
abbrev s__numbers : Stmt := topS 31
theorem sc__numbers : FnScope ["below", "states", "state"] ["below", "states"] (defScope s__numbers) := ⟨rfl, rfl, rfl, by decide +kernel, rfl, by decide +kernel, by decide +kernel⟩
abbrev s_check_letters : Stmt := topS 32
theorem sc_check_letters : FnScope ["parts", "letters", "letter", "_"] ["parts", "letters"] (defScope s_check_letters) := ⟨rfl, rfl, rfl, by decide +kernel, rfl, by decide +kernel, by decide +kernel⟩
abbrev s_states_upward : Stmt := topS 33
theorem sc_states_upward : FnScope ["tree", "letters", "states", "state_at", "told", "next_state"] ["tree", "letters", "states", "state_at"] (defScope s_states_upward) := ⟨rfl, rfl, rfl, by decide +kernel, rfl, by decide +kernel, by decide +kernel⟩
abbrev n_states_upward__next_state : Stmt := (defBody s_states_upward).getD 2 (.Pass ⟨0, 0, 0, 0⟩)
theorem sc_states_upward__next_state : NdefX.NScope ["letter", "below", "told", "state_at", "states"] ["letter", "below"] ["told", "state_at", "states"] (C8.fnScope n_states_upward__next_state) := NdefX.nscope_by (by decide +kernel)
theorem nd_states_upward__next_state : NdefX.ndefB (defScope s_states_upward) (C8.fnScope n_states_upward__next_state) ["told", "state_at", "states"] = true := by decide +kernel
abbrev s_part_states : Stmt := topS 34
theorem sc_part_states : FnScope ["judge", "tree"] ["judge", "tree"] (defScope s_part_states) := ⟨rfl, rfl, rfl, by decide +kernel, rfl, by decide +kernel, by decide +kernel⟩
abbrev s_state_of : Stmt := topS 35
theorem sc_state_of : FnScope ["judge", "tree"] ["judge", "tree"] (defScope s_state_of) := ⟨rfl, rfl, rfl, by decide +kernel, rfl, by decide +kernel, by decide +kernel⟩
abbrev s_lets_by : Stmt := topS 36
theorem sc_lets_by : FnScope ["judge", "tree"] ["judge", "tree"] (defScope s_lets_by) := ⟨rfl, rfl, rfl, by decide +kernel, rfl, by decide +kernel, by decide +kernel⟩
abbrev s__law_pool : Stmt := topS 38
theorem sc__law_pool : FnScope ["script", "k", "cell"] ["script", "k"] (defScope s__law_pool) := ⟨rfl, rfl, rfl, by decide +kernel, rfl, by decide +kernel, by decide +kernel⟩
abbrev s__law_take : Stmt := topS 39
theorem sc__law_take : FnScope ["pool", "many", "found", "step", "mark"] ["pool", "many"] (defScope s__law_take) := ⟨rfl, rfl, rfl, by decide +kernel, rfl, by decide +kernel, by decide +kernel⟩
abbrev s__law_mixed_up : Stmt := topS 40
theorem sc__law_mixed_up : FnScope ["pool", "things", "left", "found"] ["pool", "things"] (defScope s__law_mixed_up) := ⟨rfl, rfl, rfl, by decide +kernel, rfl, by decide +kernel, by decide +kernel⟩
abbrev s__law_grown : Stmt := topS 41
theorem sc__law_grown : FnScope ["pool", "most", "letters", "many", "way", "depths", "rows", "k", "head", "trees", "children", "child"] ["pool", "most", "letters"] (defScope s__law_grown) := ⟨rfl, rfl, rfl, by decide +kernel, rfl, by decide +kernel, by decide +kernel⟩
abbrev s__law_shuffled : Stmt := topS 42
theorem sc__law_shuffled : FnScope ["pool", "tree", "child"] ["pool", "tree"] (defScope s__law_shuffled) := ⟨rfl, rfl, rfl, by decide +kernel, rfl, by decide +kernel, by decide +kernel⟩
abbrev s__law_tree : Stmt := topS 43
theorem sc__law_tree : FnScope ["pool", "most", "letters", "one", "other", "rows"] ["pool", "most", "letters"] (defScope s__law_tree) := ⟨rfl, rfl, rfl, by decide +kernel, rfl, by decide +kernel, by decide +kernel⟩
abbrev s__law_tuples : Stmt := topS 45
theorem sc__law_tuples : FnScope ["letters", "states", "classes", "rows", "turn", "longer", "row", "found", "letter", "one"] ["letters", "states", "classes"] (defScope s__law_tuples) := ⟨rfl, rfl, rfl, by decide +kernel, rfl, by decide +kernel, by decide +kernel⟩
abbrev s__law_told : Stmt := topS 46
theorem sc__law_told : FnScope ["word", "few", "turn", "letter", "classes", "total", "state", "number"] ["word", "few", "turn", "letter", "classes"] (defScope s__law_told) := ⟨rfl, rfl, rfl, by decide +kernel, rfl, by decide +kernel, by decide +kernel⟩
abbrev s__law_made : Stmt := topS 47
theorem sc__law_made : FnScope ["word", "states", "few", "turn", "table", "key"] ["word", "states", "few", "turn"] (defScope s__law_made) := ⟨rfl, rfl, rfl, by decide +kernel, rfl, by decide +kernel, by decide +kernel⟩
abbrev s__law_leaves : Stmt := topS 48
theorem sc__law_leaves : FnScope ["tree", "child"] ["tree"] (defScope s__law_leaves) := ⟨rfl, rfl, rfl, by decide +kernel, rfl, by decide +kernel, by decide +kernel⟩
abbrev s__law_has_second : Stmt := topS 49
theorem sc__law_has_second : FnScope ["tree", "child"] ["tree"] (defScope s__law_has_second) := ⟨rfl, rfl, rfl, by decide +kernel, rfl, by decide +kernel, by decide +kernel⟩
abbrev s__law_odd_part : Stmt := topS 50
theorem sc__law_odd_part : FnScope ["tree", "child"] ["tree"] (defScope s__law_odd_part) := ⟨rfl, rfl, rfl, by decide +kernel, rfl, by decide +kernel, by decide +kernel⟩
abbrev s__law_rows : Stmt := topS 51
theorem sc__law_rows : FnScope ["tree", "rows", "rest", "few", "turn"] ["tree"] (defScope s__law_rows) := ⟨rfl, rfl, rfl, by decide +kernel, rfl, by decide +kernel, by decide +kernel⟩
abbrev s_law : Stmt := topS 52
theorem sc_law : FnScope ["script", "k", "pool", "tree", "judge", "due"] ["script"] (defScope s_law) := ⟨rfl, rfl, rfl, by decide +kernel, rfl, by decide +kernel, by decide +kernel⟩
structure Txt (K : PySem.W.Frag) (mg : Str → Option Value) where
  f_is_whole : Addr
  d_is_whole : FuncData
  F_is_whole : Fun K "is_whole" "is_whole" s_is_whole f_is_whole d_is_whole
  b_is_whole : Binds K d_is_whole ["thing"] []
  m_is_whole : mg "is_whole" = some (.ref f_is_whole)
  f_is_whole_within : Addr
  d_is_whole_within : FuncData
  F_is_whole_within : Fun K "is_whole_within" "is_whole_within" s_is_whole_within f_is_whole_within d_is_whole_within
  b_is_whole_within : Binds K d_is_whole_within ["thing", "low", "high"] []
  m_is_whole_within : mg "is_whole_within" = some (.ref f_is_whole_within)
  f_is_letter : Addr
  d_is_letter : FuncData
  F_is_letter : Fun K "is_letter" "is_letter" s_is_letter f_is_letter d_is_letter
  b_is_letter : Binds K d_is_letter ["thing"] []
  m_is_letter : mg "is_letter" = some (.ref f_is_letter)
  f_is_tree : Addr
  d_is_tree : FuncData
  F_is_tree : Fun K "is_tree" "is_tree" s_is_tree f_is_tree d_is_tree
  b_is_tree : Binds K d_is_tree ["thing"] []
  m_is_tree : mg "is_tree" = some (.ref f_is_tree)
  f__is_part : Addr
  d__is_part : FuncData
  F__is_part : Fun K "_is_part" "_is_part" s__is_part f__is_part d__is_part
  b__is_part : Binds K d__is_part ["thing"] []
  m__is_part : mg "_is_part" = some (.ref f__is_part)
  f_check_tree : Addr
  d_check_tree : FuncData
  F_check_tree : Fun K "check_tree" "check_tree" s_check_tree f_check_tree d_check_tree
  b_check_tree : Binds K d_check_tree ["thing"] []
  m_check_tree : mg "check_tree" = some (.ref f_check_tree)
  f_parts_upward : Addr
  d_parts_upward : FuncData
  F_parts_upward : Fun K "parts_upward" "parts_upward" s_parts_upward f_parts_upward d_parts_upward
  b_parts_upward : Binds K d_parts_upward ["tree"] []
  m_parts_upward : mg "parts_upward" = some (.ref f_parts_upward)
  f_size_of : Addr
  d_size_of : FuncData
  F_size_of : Fun K "size_of" "size_of" s_size_of f_size_of d_size_of
  b_size_of : Binds K d_size_of ["tree"] []
  m_size_of : mg "size_of" = some (.ref f_size_of)
  f_built_upward : Addr
  d_built_upward : FuncData
  F_built_upward : Fun K "built_upward" "built_upward" s_built_upward f_built_upward d_built_upward
  b_built_upward : Binds K d_built_upward ["tree", "made"] []
  m_built_upward : mg "built_upward" = some (.ref f_built_upward)
  f_depth_of : Addr
  d_depth_of : FuncData
  F_depth_of : Fun K "depth_of" "depth_of" s_depth_of f_depth_of d_depth_of
  b_depth_of : Binds K d_depth_of ["tree"] []
  m_depth_of : mg "depth_of" = some (.ref f_depth_of)
  f_is_judge : Addr
  d_is_judge : FuncData
  F_is_judge : Fun K "is_judge" "is_judge" s_is_judge f_is_judge d_is_judge
  b_is_judge : Binds K d_is_judge ["thing"] []
  m_is_judge : mg "is_judge" = some (.ref f_is_judge)
  f_may_have_table : Addr
  d_may_have_table : FuncData
  F_may_have_table : Fun K "may_have_table" "may_have_table" s_may_have_table f_may_have_table d_may_have_table
  b_may_have_table : Binds K d_may_have_table ["letters", "states", "few", "turn"] []
  m_may_have_table : mg "may_have_table" = some (.ref f_may_have_table)
  f_are_letters : Addr
  d_are_letters : FuncData
  F_are_letters : Fun K "are_letters" "are_letters" s_are_letters f_are_letters d_are_letters
  b_are_letters : Binds K d_are_letters ["thing"] []
  m_are_letters : mg "are_letters" = some (.ref f_are_letters)
  f_are_rising_states : Addr
  d_are_rising_states : FuncData
  F_are_rising_states : Fun K "are_rising_states" "are_rising_states" s_are_rising_states f_are_rising_states d_are_rising_states
  b_are_rising_states : Binds K d_are_rising_states ["thing", "states"] []
  m_are_rising_states : mg "are_rising_states" = some (.ref f_are_rising_states)
  f__rises : Addr
  d__rises : FuncData
  F__rises : Fun K "_rises" "_rises" s__rises f__rises d__rises
  b__rises : Binds K d__rises ["row"] []
  m__rises : mg "_rises" = some (.ref f__rises)
  f_tuples_due : Addr
  d_tuples_due : FuncData
  F_tuples_due : Fun K "tuples_due" "tuples_due" s_tuples_due f_tuples_due d_tuples_due
  b_tuples_due : Binds K d_tuples_due ["letters", "states", "classes"] []
  m_tuples_due : mg "tuples_due" = some (.ref f_tuples_due)
  f__is_table : Addr
  d__is_table : FuncData
  F__is_table : Fun K "_is_table" "_is_table" s__is_table f__is_table d__is_table
  b__is_table : Binds K d__is_table ["thing", "letters", "states", "classes"] []
  m__is_table : mg "_is_table" = some (.ref f__is_table)
  f__is_key : Addr
  d__is_key : FuncData
  F__is_key : Fun K "_is_key" "_is_key" s__is_key f__is_key d__is_key
  b__is_key : Binds K d__is_key ["thing", "letters", "states", "classes"] []
  m__is_key : mg "_is_key" = some (.ref f__is_key)
  f_class_of : Addr
  d_class_of : FuncData
  F_class_of : Fun K "class_of" "class_of" s_class_of f_class_of d_class_of
  b_class_of : Binds K d_class_of ["number", "few", "turn"] []
  m_class_of : mg "class_of" = some (.ref f_class_of)
  f_state_by_numbers : Addr
  d_state_by_numbers : FuncData
  F_state_by_numbers : Fun K "state_by_numbers" "state_by_numbers" s_state_by_numbers f_state_by_numbers d_state_by_numbers
  b_state_by_numbers : Binds K d_state_by_numbers ["judge", "letter", "numbers"] []
  m_state_by_numbers : mg "state_by_numbers" = some (.ref f_state_by_numbers)
  f__numbers : Addr
  d__numbers : FuncData
  F__numbers : Fun K "_numbers" "_numbers" s__numbers f__numbers d__numbers
  b__numbers : Binds K d__numbers ["below", "states"] []
  m__numbers : mg "_numbers" = some (.ref f__numbers)
  f_check_letters : Addr
  d_check_letters : FuncData
  F_check_letters : Fun K "check_letters" "check_letters" s_check_letters f_check_letters d_check_letters
  b_check_letters : Binds K d_check_letters ["parts", "letters"] []
  m_check_letters : mg "check_letters" = some (.ref f_check_letters)
  f_states_upward : Addr
  d_states_upward : FuncData
  F_states_upward : Fun K "states_upward" "states_upward" s_states_upward f_states_upward d_states_upward
  b_states_upward : Binds K d_states_upward ["tree", "letters", "states", "state_at"] []
  m_states_upward : mg "states_upward" = some (.ref f_states_upward)
  f_part_states : Addr
  d_part_states : FuncData
  F_part_states : Fun K "part_states" "part_states" s_part_states f_part_states d_part_states
  b_part_states : Binds K d_part_states ["judge", "tree"] []
  m_part_states : mg "part_states" = some (.ref f_part_states)
  f_state_of : Addr
  d_state_of : FuncData
  F_state_of : Fun K "state_of" "state_of" s_state_of f_state_of d_state_of
  b_state_of : Binds K d_state_of ["judge", "tree"] []
  m_state_of : mg "state_of" = some (.ref f_state_of)
  f_lets_by : Addr
  d_lets_by : FuncData
  F_lets_by : Fun K "lets_by" "lets_by" s_lets_by f_lets_by d_lets_by
  b_lets_by : Binds K d_lets_by ["judge", "tree"] []
  m_lets_by : mg "lets_by" = some (.ref f_lets_by)
  f__law_pool : Addr
  d__law_pool : FuncData
  F__law_pool : Fun K "_law_pool" "_law_pool" s__law_pool f__law_pool d__law_pool
  b__law_pool : Binds K d__law_pool ["script", "k"] []
  m__law_pool : mg "_law_pool" = some (.ref f__law_pool)
  f__law_take : Addr
  d__law_take : FuncData
  F__law_take : Fun K "_law_take" "_law_take" s__law_take f__law_take d__law_take
  b__law_take : Binds K d__law_take ["pool", "many"] []
  m__law_take : mg "_law_take" = some (.ref f__law_take)
  f__law_mixed_up : Addr
  d__law_mixed_up : FuncData
  F__law_mixed_up : Fun K "_law_mixed_up" "_law_mixed_up" s__law_mixed_up f__law_mixed_up d__law_mixed_up
  b__law_mixed_up : Binds K d__law_mixed_up ["pool", "things"] []
  m__law_mixed_up : mg "_law_mixed_up" = some (.ref f__law_mixed_up)
  f__law_grown : Addr
  d__law_grown : FuncData
  F__law_grown : Fun K "_law_grown" "_law_grown" s__law_grown f__law_grown d__law_grown
  b__law_grown : Binds K d__law_grown ["pool", "most", "letters"] []
  m__law_grown : mg "_law_grown" = some (.ref f__law_grown)
  f__law_shuffled : Addr
  d__law_shuffled : FuncData
  F__law_shuffled : Fun K "_law_shuffled" "_law_shuffled" s__law_shuffled f__law_shuffled d__law_shuffled
  b__law_shuffled : Binds K d__law_shuffled ["pool", "tree"] []
  m__law_shuffled : mg "_law_shuffled" = some (.ref f__law_shuffled)
  f__law_tree : Addr
  d__law_tree : FuncData
  F__law_tree : Fun K "_law_tree" "_law_tree" s__law_tree f__law_tree d__law_tree
  b__law_tree : Binds K d__law_tree ["pool", "most", "letters"] []
  m__law_tree : mg "_law_tree" = some (.ref f__law_tree)
  f__law_tuples : Addr
  d__law_tuples : FuncData
  F__law_tuples : Fun K "_law_tuples" "_law_tuples" s__law_tuples f__law_tuples d__law_tuples
  b__law_tuples : Binds K d__law_tuples ["letters", "states", "classes"] []
  m__law_tuples : mg "_law_tuples" = some (.ref f__law_tuples)
  f__law_told : Addr
  d__law_told : FuncData
  F__law_told : Fun K "_law_told" "_law_told" s__law_told f__law_told d__law_told
  b__law_told : Binds K d__law_told ["word", "few", "turn", "letter", "classes"] []
  m__law_told : mg "_law_told" = some (.ref f__law_told)
  f__law_made : Addr
  d__law_made : FuncData
  F__law_made : Fun K "_law_made" "_law_made" s__law_made f__law_made d__law_made
  b__law_made : Binds K d__law_made ["word", "states", "few", "turn"] []
  m__law_made : mg "_law_made" = some (.ref f__law_made)
  f__law_leaves : Addr
  d__law_leaves : FuncData
  F__law_leaves : Fun K "_law_leaves" "_law_leaves" s__law_leaves f__law_leaves d__law_leaves
  b__law_leaves : Binds K d__law_leaves ["tree"] []
  m__law_leaves : mg "_law_leaves" = some (.ref f__law_leaves)
  f__law_has_second : Addr
  d__law_has_second : FuncData
  F__law_has_second : Fun K "_law_has_second" "_law_has_second" s__law_has_second f__law_has_second d__law_has_second
  b__law_has_second : Binds K d__law_has_second ["tree"] []
  m__law_has_second : mg "_law_has_second" = some (.ref f__law_has_second)
  f__law_odd_part : Addr
  d__law_odd_part : FuncData
  F__law_odd_part : Fun K "_law_odd_part" "_law_odd_part" s__law_odd_part f__law_odd_part d__law_odd_part
  b__law_odd_part : Binds K d__law_odd_part ["tree"] []
  m__law_odd_part : mg "_law_odd_part" = some (.ref f__law_odd_part)
  f__law_rows : Addr
  d__law_rows : FuncData
  F__law_rows : Fun K "_law_rows" "_law_rows" s__law_rows f__law_rows d__law_rows
  b__law_rows : Binds K d__law_rows ["tree"] []
  m__law_rows : mg "_law_rows" = some (.ref f__law_rows)
  f_law : Addr
  d_law : FuncData
  F_law : Fun K "law" "law" s_law f_law d_law
  b_law : Binds K d_law ["script"] []
  m_law : mg "law" = some (.ref f_law)
  t_MOST_STATES : Tok
  g_MOST_STATES : mg "MOST_STATES" = some (.int 6 t_MOST_STATES)
  t_MOST_FEW : Tok
  g_MOST_FEW : mg "MOST_FEW" = some (.int 4 t_MOST_FEW)
  t_MOST_TURN : Tok
  g_MOST_TURN : mg "MOST_TURN" = some (.int 4 t_MOST_TURN)
  t_MOST_TUPLES : Tok
  g_MOST_TUPLES : mg "MOST_TUPLES" = some (.int 600 t_MOST_TUPLES)
  c_states_upward : Addr
  P_states_upward : Addr
  h_states_upward : d_states_upward.code = .ref c_states_upward
  c_part_states : Addr
  P_part_states : Addr
  h_part_states : d_part_states.code = .ref c_part_states
  n_states_upward_part_states : P_states_upward ≠ P_part_states
  z_all : mg "all" = none
  z_bool : mg "bool" = none
  z_dict : mg "dict" = none
  z_enumerate : mg "enumerate" = none
  z_int : mg "int" = none
  z_isinstance : mg "isinstance" = none
  z_len : mg "len" = none
  z_list : mg "list" = none
  z_max : mg "max" = none
  z_min : mg "min" = none
  z_range : mg "range" = none
  z_str : mg "str" = none
  z_sum : mg "sum" = none
  z_tuple : mg "tuple" = none
  z_zip : mg "zip" = none
structure Tbs {K : PySem.W.Frag} {mg : Str → Option Value} (T : Txt K mg) (base : Heap) : Prop where
  tb_states_upward : LamX.TabB base mg T.c_states_upward T.P_states_upward
  tb_part_states : LamX.TabB base mg T.c_part_states T.P_part_states
abbrev q_states_upward : Str := "states_upward" ++ ".<locals>." ++ "next_state"
abbrev q_part_states : Str := "part_states" ++ ".<locals>." ++ "<lambda>"
local macro_rules | `(tactic| walk_at "my rd") => `(tactic| repeat (first | refine ⟨_, rfl, ?_⟩ | refine ⟨_, _, rfl, rfl, ?_⟩ | refine ⟨rfl, ?_⟩))
local macro_rules | `(tactic| walk_at "my one") => `(tactic| first | refine ⟨_, rfl, ?_⟩ | refine ⟨_, _, rfl, rfl, ?_⟩ | refine ⟨rfl, ?_⟩)
def Chg (p : Addr) (H H' : Hp) : Prop := ∀ b, b ≠ p → H' b = H b
theorem Chg.refl (p : Addr) (H : Hp) : Chg p H H := fun _ _ => rfl
theorem Chg.trans {p : Addr} {H H1 H2 : Hp} (a : Chg p H H1) (b : Chg p H1 H2) : Chg p H H2 := fun c hc => (b c hc).trans (a c hc)
theorem Chg.upd {p : Addr} {H : Hp} {o : HO} : Chg p H (upd H p o) := fun _ h => upd_ne h
theorem Chg.at {p b : Addr} {H H' : Hp} {o : HO} (c : Chg p H H') (h : H b = some o) (n : b ≠ p) : H' b = some o := (c b n).trans h
theorem Chg.seq {K : PySem.W.Frag} {p a : Addr} {H H' : Hp} {xs : List V} (c : Chg p H H') (hp : H p = none) (h : SqL K H a xs) : SqL K H' a xs := by
  rcases h with (h | ⟨o, h⟩) | h
  · exact .inl (.inl (c.at h (ne_of_none h hp)))
  · exact .inl (.inr ⟨o, c.at h (ne_of_none h hp)⟩)
  · exact .inr h
theorem same_new {H : Hp} {p : Addr} {o : HO} (h : H p = none) : Same H (upd H p o) := fun b u q => by rw [upd_ne (ne_of_none q h)]; exact q
theorem nn_mul {a b A B : Int} (h0 : 0 ≤ a) (h1 : a ≤ A) (g0 : 0 ≤ b) (g1 : b ≤ B) : 0 ≤ a * b ∧ a * b ≤ A * B :=
  ⟨Int.mul_nonneg h0 g0, Int.mul_le_mul h1 g1 g0 (Int.le_trans h0 h1)⟩
theorem divW {i j : Int} (h : 0 < j) (h2 : j < 2 ^ 60) : CDivW i j := wide_div (b := 60) h (by omega) (by decide) (by decide)

theorem lay_ints : ∀ xs : List Int, PyData.canLayAll0 (xs.map PyData.int) = true
  | [] => by simp only [List.map_nil, PyData.canLayAll0]
  | x :: r => by simp only [List.map_cons, PyData.canLayAll0, PyData.canLay0, lay_ints r, Bool.and_self]
theorem dep_ints : ∀ xs : List Int, PyData.depthAll (xs.map PyData.int) ≤ 1
  | [] => by simp only [List.map_nil, PyData.depthAll]; omega
  | x :: r => by
    have := dep_ints r
    simp only [List.map_cons, PyData.depthAll, PyData.depth]
    omega
theorem shaped_ints (xs : List Int) : SeqAt.shaped (.list (xs.map PyData.int)) = true := by
  have a := lay_ints xs
  have b := dep_ints xs
  unfold SeqAt.shaped
  rw [Bool.and_eq_true]
  refine ⟨by simp only [PyData.canLay0]; exact a, decide_eq_true ?_⟩
  simp only [PyData.depth]
  omega
theorem dp_ints {K : PySem.W.Frag} {H : Hp} : ∀ xs : List Int, DpAll K H (xs.map V.int) (xs.map PyData.int)
  | [] => .nil
  | x :: r => .cons (.int x) (dp_ints r)
theorem dp_intsL {K : PySem.W.Frag} {H : Hp} {a : Addr} {xs : List Int} (h : SqL K H a (xs.map V.int)) : Dp K H (.ref a) (.list (xs.map PyData.int)) := .lst h (dp_ints xs)
theorem eqv_self {d : PyData} (h : SeqAt.shaped d = true) : PyData.eqv d d = true := SeqAt.eqv_refl d (SeqAt.canLay_of_shaped h)

inductive Tr where
  | node (c : Nat) (ks : List Tr)
def ch (c : Nat) : Str := ⟨#[c]⟩
mutual
def Tr.size : Tr → Nat
  | .node _ ks => 1 + sizes ks
def sizes : List Tr → Nat
  | [] => 0
  | t :: r => t.size + sizes r
end
mutual
def Tr.depth : Tr → Nat
  | .node _ ks => 1 + depths ks
def depths : List Tr → Nat
  | [] => 0
  | t :: r => max t.depth (depths r)
end
mutual
def Tr.post : Tr → List Tr
  | .node c ks => posts ks ++ [.node c ks]
def posts : List Tr → List Tr
  | [] => []
  | t :: r => t.post ++ posts r
end

mutual
def Tr.lets (p : Nat → Prop) : Tr → Prop
  | .node c ks => p c ∧ letss p ks
def letss (p : Nat → Prop) : List Tr → Prop
  | [] => True
  | t :: r => t.lets p ∧ letss p r
end
def Tr.kids : Tr → List Tr
  | .node _ ks => ks
def Tr.top : Tr → Nat
  | .node c _ => c
theorem sizes_append : ∀ a b : List Tr, sizes (a ++ b) = sizes a + sizes b
  | [], b => by simp only [List.nil_append, sizes]; omega
  | t :: r, b => by simp only [List.cons_append, sizes, sizes_append r b]; omega
theorem depths_append : ∀ a b : List Tr, depths (a ++ b) = max (depths a) (depths b)
  | [], b => by simp only [List.nil_append, depths]; omega
  | t :: r, b => by simp only [List.cons_append, depths, depths_append r b]; omega
theorem posts_append : ∀ a b : List Tr, posts (a ++ b) = posts a ++ posts b
  | [], b => by simp only [List.nil_append, posts]
  | t :: r, b => by simp only [List.cons_append, posts, posts_append r b, List.append_assoc]
theorem letss_append (p : Nat → Prop) : ∀ a b : List Tr, letss p (a ++ b) ↔ letss p a ∧ letss p b
  | [], b => by simp only [List.nil_append, letss, true_and]
  | t :: r, b => by simp only [List.cons_append, letss, letss_append p r b, and_assoc]
theorem size_pos : ∀ t : Tr, 1 ≤ t.size
  | .node c ks => by simp only [Tr.size]; omega
theorem len_sizes : ∀ ts : List Tr, ts.length ≤ sizes ts
  | [] => Nat.le_refl _
  | t :: r => by
    have a := size_pos t
    have b := len_sizes r
    simp only [List.length_cons, sizes]
    omega
mutual
theorem post_len : ∀ t : Tr, t.post.length = t.size
  | .node c ks => by simp only [Tr.post, List.length_append, posts_len ks, List.length_singleton, Tr.size]; omega
theorem posts_len : ∀ ts : List Tr, (posts ts).length = sizes ts
  | [] => rfl
  | t :: r => by simp only [posts, List.length_append, post_len t, posts_len r, sizes]
end
theorem sizes_mem : ∀ {ts : List Tr} {t : Tr}, t ∈ ts → t.size ≤ sizes ts
  | u :: r, t, h => by
    rcases List.mem_cons.mp h with e | h
    · subst e; simp only [sizes]; omega
    · have := sizes_mem h
      simp only [sizes]; omega
theorem depths_mem : ∀ {ts : List Tr} {t : Tr}, t ∈ ts → t.depth ≤ depths ts
  | u :: r, t, h => by
    rcases List.mem_cons.mp h with e | h
    · subst e; simp only [depths]; omega
    · have := depths_mem h
      simp only [depths]; omega
theorem letss_mem {p : Nat → Prop} : ∀ {ts : List Tr} {t : Tr}, letss p ts → t ∈ ts → t.lets p
  | u :: r, t, hl, h => by
    simp only [letss] at hl
    rcases List.mem_cons.mp h with e | h
    · subst e; exact hl.1
    · exact letss_mem hl.2 h
mutual
theorem lets_mono {p q : Nat → Prop} (h : ∀ c, p c → q c) : ∀ t : Tr, t.lets p → t.lets q
  | .node c ks, a => by
    simp only [Tr.lets] at a ⊢
    exact ⟨h _ a.1, letss_mono h ks a.2⟩
theorem letss_mono {p q : Nat → Prop} (h : ∀ c, p c → q c) : ∀ ts : List Tr, letss p ts → letss q ts
  | [], _ => trivial
  | t :: r, a => by
    simp only [letss] at a ⊢
    exact ⟨lets_mono h t a.1, letss_mono h r a.2⟩
end
mutual
inductive TrAt (ok : Addr → Prop) (H : Hp) : V → Tr → Prop
  | node {a l : Addr} {vs : List V} {c : Nat} {ks : List Tr} : H a = some (.tup [.str (ch c), .ref l]) → H l = some (.lst vs) → ok a → ok l → 97 ≤ c → c ≤ 122 → TrsAt ok H vs ks → TrAt ok H (.ref a) (.node c ks)
inductive TrsAt (ok : Addr → Prop) (H : Hp) : List V → List Tr → Prop
  | nil : TrsAt ok H [] []
  | cons {v : V} {vs : List V} {t : Tr} {ts : List Tr} : TrAt ok H v t → TrsAt ok H vs ts → TrsAt ok H (v :: vs) (t :: ts)
end
section
variable {ok ok' : Addr → Prop} {H H' : Hp}
mutual
theorem TrAt.imp (hk : ∀ b, ok b → ok' b) (h : ∀ b o, ok b → H b = some o → H' b = some o) : ∀ (t : Tr) (v : V), TrAt ok H v t → TrAt ok' H' v t
  | .node c ks, v, x => by
    cases x with
    | node h1 h2 k1 k2 c1 c2 r => exact .node (h _ _ k1 h1) (h _ _ k2 h2) (hk _ k1) (hk _ k2) c1 c2 (TrsAt.imp hk h ks _ r)
theorem TrsAt.imp (hk : ∀ b, ok b → ok' b) (h : ∀ b o, ok b → H b = some o → H' b = some o) : ∀ (ts : List Tr) (vs : List V), TrsAt ok H vs ts → TrsAt ok' H' vs ts
  | [], _, x => by cases x; exact .nil
  | t :: r, _, x => by
    cases x with
    | cons a b => exact .cons (TrAt.imp hk h t _ a) (TrsAt.imp hk h r _ b)
end
theorem TrAt.keep {v : V} {t : Tr} (x : TrAt ok H v t) (h : ∀ b o, ok b → H b = some o → H' b = some o) : TrAt ok H' v t := TrAt.imp (fun _ k => k) h t v x
theorem TrsAt.keep {vs : List V} {ts : List Tr} (x : TrsAt ok H vs ts) (h : ∀ b o, ok b → H b = some o → H' b = some o) : TrsAt ok H' vs ts := TrsAt.imp (fun _ k => k) h ts vs x
theorem TrAt.weak {v : V} {t : Tr} (x : TrAt ok H v t) (h : ∀ b, ok b → ok' b) : TrAt ok' H v t := TrAt.imp h (fun _ _ _ e => e) t v x
theorem TrsAt.weak {vs : List V} {ts : List Tr} (x : TrsAt ok H vs ts) (h : ∀ b, ok b → ok' b) : TrsAt ok' H vs ts := TrsAt.imp h (fun _ _ _ e => e) ts vs x
mutual
theorem TrAt.there : ∀ (t : Tr) (v : V), TrAt ok H v t → TrAt (fun b => ok b ∧ ∃ o, H b = some o) H v t
  | .node c ks, v, x => by
    cases x with
    | node h1 h2 k1 k2 c1 c2 r => exact .node h1 h2 ⟨k1, _, h1⟩ ⟨k2, _, h2⟩ c1 c2 (TrsAt.there ks _ r)
theorem TrsAt.there : ∀ (ts : List Tr) (vs : List V), TrsAt ok H vs ts → TrsAt (fun b => ok b ∧ ∃ o, H b = some o) H vs ts
  | [], _, x => by cases x; exact .nil
  | t :: r, _, x => by
    cases x with
    | cons a b => exact .cons (TrAt.there t _ a) (TrsAt.there r _ b)
end
theorem TrsAt.len : ∀ {vs : List V} {ts : List Tr}, TrsAt ok H vs ts → vs.length = ts.length
  | [], [], _ => rfl
  | v :: vs, t :: ts, h => by
    cases h with
    | cons a b => simp only [List.length_cons, TrsAt.len b]
  | [], _ :: _, h => by cases h
  | _ :: _, [], h => by cases h
theorem TrsAt.get : ∀ {vs : List V} {ts : List Tr} {i : Nat} {t : Tr}, TrsAt ok H vs ts → ts[i]? = some t → ∃ v, vs[i]? = some v ∧ TrAt ok H v t
  | _, _, i, t, .nil, e => by simp at e
  | _, _, 0, t, .cons a _, e => by simp at e; subst e; exact ⟨_, rfl, a⟩
  | _, _, i + 1, t, .cons _ b, e => by
    obtain ⟨v, h1, h2⟩ := TrsAt.get (i := i) (t := t) b (by simpa using e)
    exact ⟨v, by simpa using h1, h2⟩
theorem TrsAt.getV : ∀ {vs : List V} {ts : List Tr} {i : Nat} {v : V}, TrsAt ok H vs ts → vs[i]? = some v → ∃ t, ts[i]? = some t ∧ TrAt ok H v t
  | _, _, i, t, .nil, e => by simp at e
  | _, _, 0, t, .cons a _, e => by simp at e; subst e; exact ⟨_, rfl, a⟩
  | _, _, i + 1, t, .cons _ b, e => by
    obtain ⟨v, h1, h2⟩ := TrsAt.getV (i := i) (v := t) b (by simpa using e)
    exact ⟨v, by simpa using h1, h2⟩
theorem TrsAt.append : ∀ {vs ws : List V} {ts us : List Tr}, TrsAt ok H vs ts → TrsAt ok H ws us → TrsAt ok H (vs ++ ws) (ts ++ us)
  | [], _, [], _, _, h => h
  | v :: vs, _, t :: ts, _, h, g => by
    cases h with
    | cons a b => exact .cons a (TrsAt.append b g)
  | [], _, _ :: _, _, h, _ => by cases h
  | _ :: _, _, [], _, h, _ => by cases h
theorem TrsAt.split : ∀ {vs ws : List V} {ts : List Tr}, TrsAt ok H (vs ++ ws) ts → ∃ a b, ts = a ++ b ∧ TrsAt ok H vs a ∧ TrsAt ok H ws b
  | [], ws, ts, h => ⟨[], ts, rfl, .nil, h⟩
  | v :: vs, ws, _, h => by
    cases h with
    | cons x y =>
      obtain ⟨a, b, e, h1, h2⟩ := TrsAt.split y
      exact ⟨_ :: a, b, by rw [e]; rfl, .cons x h1, h2⟩
theorem TrsAt.perm {vs ws : List V} (p : vs.Perm ws) : ∀ {ts : List Tr}, TrsAt ok H vs ts → ∃ us, ts.Perm us ∧ TrsAt ok H ws us := by
  induction p with
  | nil => intro ts h; exact ⟨ts, .refl _, h⟩
  | cons x _ ih =>
    intro ts h
    cases h with
    | cons a b =>
      obtain ⟨us, p1, h1⟩ := ih b
      exact ⟨_ :: us, p1.cons _, .cons a h1⟩
  | swap x y l =>
    intro ts h
    cases h with
    | cons a b =>
      cases b with
      | cons c d => exact ⟨_, .swap _ _ _, .cons c (.cons a d)⟩
  | trans _ _ ih1 ih2 =>
    intro ts h
    obtain ⟨us, p1, h1⟩ := ih1 h
    obtain ⟨ws, p2, h2⟩ := ih2 h1
    exact ⟨ws, p1.trans p2, h2⟩
theorem TrsAt.rev {vs : List V} {ts : List Tr} (h : TrsAt ok H vs ts) : TrsAt ok H vs.reverse ts.reverse := by
  induction vs generalizing ts with
  | nil => cases h; exact .nil
  | cons v vs ih =>
    cases h with
    | cons a b =>
      rw [List.reverse_cons, List.reverse_cons]
      exact (ih b).append (.cons a .nil)
end
theorem sizes_perm {a b : List Tr} (p : a.Perm b) : sizes a = sizes b := by
  induction p with
  | nil => rfl
  | cons x _ ih => simp only [sizes, ih]
  | swap x y l => simp only [sizes]; omega
  | trans _ _ ih1 ih2 => exact ih1.trans ih2
theorem depths_perm {a b : List Tr} (p : a.Perm b) : depths a = depths b := by
  induction p with
  | nil => rfl
  | cons x _ ih => simp only [depths, ih]
  | swap x y l => simp only [depths]; omega
  | trans _ _ ih1 ih2 => exact ih1.trans ih2
theorem letss_perm {p : Nat → Prop} {a b : List Tr} (h : a.Perm b) : letss p a → letss p b := by
  induction h with
  | nil => exact id
  | cons x _ ih =>
    intro q
    simp only [letss] at q ⊢
    exact ⟨q.1, ih q.2⟩
  | swap x y l =>
    intro q
    simp only [letss] at q ⊢
    exact ⟨q.2.1, q.1, q.2.2⟩
  | trans _ _ ih1 ih2 => exact fun q => ih2 (ih1 q)
mutual
inductive Sh : Tr → Tr → Prop
  | node {c : Nat} {ks us ls : List Tr} : ks.Perm us → Shs us ls → Sh (.node c ks) (.node c ls)
inductive Shs : List Tr → List Tr → Prop
  | nil : Shs [] []
  | cons {t u : Tr} {ts us : List Tr} : Sh t u → Shs ts us → Shs (t :: ts) (u :: us)
end
mutual
theorem Sh.refl : ∀ t : Tr, Sh t t
  | .node c ks => .node (.refl _) (Shs.refl ks)
theorem Shs.refl : ∀ ts : List Tr, Shs ts ts
  | [] => .nil
  | t :: r => .cons (Sh.refl t) (Shs.refl r)
end
mutual
theorem Sh.size : ∀ {t u : Tr}, Sh t u → t.size = u.size
  | _, _, .node p h => by simp only [Tr.size, sizes_perm p, Shs.sizes h]
theorem Shs.sizes : ∀ {ts us : List Tr}, Shs ts us → My.sizes ts = My.sizes us
  | _, _, .nil => rfl
  | _, _, .cons a b => by simp only [My.sizes, Sh.size a, Shs.sizes b]
end
mutual
theorem Sh.depth : ∀ {t u : Tr}, Sh t u → t.depth = u.depth
  | _, _, .node p h => by simp only [Tr.depth, depths_perm p, Shs.depths h]
theorem Shs.depths : ∀ {ts us : List Tr}, Shs ts us → My.depths ts = My.depths us
  | _, _, .nil => rfl
  | _, _, .cons a b => by simp only [My.depths, Sh.depth a, Shs.depths b]
end
mutual
theorem Sh.lets {p : Nat → Prop} : ∀ {t u : Tr}, Sh t u → t.lets p → u.lets p
  | _, _, .node q h, a => by
    simp only [Tr.lets] at a ⊢
    exact ⟨a.1, Shs.letss h (letss_perm q a.2)⟩
theorem Shs.letss {p : Nat → Prop} : ∀ {ts us : List Tr}, Shs ts us → My.letss p ts → My.letss p us
  | _, _, .nil, a => a
  | _, _, .cons x y, a => by
    simp only [My.letss] at a ⊢
    exact ⟨Sh.lets x a.1, Shs.letss y a.2⟩
end
theorem Shs.len : ∀ {ts us : List Tr}, Shs ts us → ts.length = us.length
  | _, _, .nil => rfl
  | _, _, .cons a b => by simp only [List.length_cons, Shs.len b]
theorem Shs.append : ∀ {ts us ts' us' : List Tr}, Shs ts us → Shs ts' us' → Shs (ts ++ ts') (us ++ us')
  | _, _, _, _, .nil, h => h
  | _, _, _, _, .cons a b, h => .cons a (Shs.append b h)

def Fr (p : Addr) (H H' : Hp) : Prop := ∀ b o, b ≠ p → H b = some o → H' b = some o
theorem Fr.refl (p : Addr) (H : Hp) : Fr p H H := fun _ _ _ h => h
theorem Fr.trans {p : Addr} {H H1 H2 : Hp} (a : Fr p H H1) (b : Fr p H1 H2) : Fr p H H2 := fun c o n h => b c o n (a c o n h)
theorem Fr.same {p : Addr} {H H' : Hp} (s : Same H H') : Fr p H H' := fun b o _ h => s b o h
theorem Fr.chg {p : Addr} {H H' : Hp} (c : Chg p H H') : Fr p H H' := fun _ _ n h => c.at h n
theorem Fr.new {p q : Addr} {H H' : Hp} {o : HO} (f : Fr p H H') (h : H q = none) : Fr p H (upd H' q o) := fun b u n e => by
  rw [upd_ne (ne_of_none e h)]
  exact f b u n e
theorem same_add {q : Addr} {H H' : Hp} {o : HO} (f : Same H H') (h : H q = none) : Same H (upd H' q o) := fun b u e => by
  rw [upd_ne (ne_of_none e h)]
  exact f b u e
theorem Fr.free {p q : Addr} {H H' : Hp} (f : Fr p H H') (hp : H' p ≠ none) (h : H' q = none) : H q = none := by
  cases e : H q with
  | none => rfl
  | some o =>
    by_cases hq : q = p
    · subst hq; exact absurd h hp
    · rw [f q o hq e] at h; cases h
theorem Fr.seq {K : PySem.W.Frag} {p a : Addr} {H H' : Hp} {xs : List V} (c : Fr p H H') (hp : H p = none) (h : SqL K H a xs) : SqL K H' a xs := by
  rcases h with (h | ⟨o, h⟩) | h
  · exact .inl (.inl (c _ _ (ne_of_none h hp) h))
  · exact .inl (.inr ⟨o, c _ _ (ne_of_none h hp) h⟩)
  · exact .inr h
theorem TrAt.same {ok : Addr → Prop} {H H' : Hp} {v : V} {t : Tr} (x : TrAt ok H v t) (s : Same H H') : TrAt ok H' v t := x.keep fun b o _ h => s b o h
theorem TrsAt.same {ok : Addr → Prop} {H H' : Hp} {vs : List V} {ts : List Tr} (x : TrsAt ok H vs ts) (s : Same H H') : TrsAt ok H' vs ts := x.keep fun b o _ h => s b o h
theorem TrAt.off {ok : Addr → Prop} {H : Hp} {v : V} {t : Tr} {w : Addr} (x : TrAt ok H v t) (h : H w = none) : TrAt (fun b => ok b ∧ b ≠ w) H v t :=
  (TrAt.there t v x).weak fun b ⟨k, o, e⟩ => ⟨k, ne_of_none e h⟩
theorem TrsAt.off {ok : Addr → Prop} {H : Hp} {vs : List V} {ts : List Tr} {w : Addr} (x : TrsAt ok H vs ts) (h : H w = none) : TrsAt (fun b => ok b ∧ b ≠ w) H vs ts :=
  (TrsAt.there ts vs x).weak fun b ⟨k, o, e⟩ => ⟨k, ne_of_none e h⟩
theorem upd_keep {H : Hp} {w : Addr} {o : HO} {ok : Addr → Prop} (h : ∀ b, ok b → b ≠ w) : ∀ b u, ok b → H b = some u → (upd H w o) b = some u := fun b u k e => by
  rw [upd_ne (h b k)]
  exact e
theorem lc_outer {K : PySem.W.Frag} {a : Addr} {xs : List V} {Bd : V → Hp → (Hp → Prop) → Prop} {Qd : Hp → Prop} {H0 : Hp} (Pv : Nat → Hp → Prop) (h0 : Pv 0 H0) (hl : ∀ i H, i ≤ xs.length → Pv i H → SqL K H a xs)
    (hs : ∀ i x H, xs[i]? = some x → Pv i H → Bd x H (Pv (i + 1))) (hd : ∀ H, Pv xs.length H → Qd H) :
    ∃ W : Nat → Nat → Hp → Prop, (∃ m, W 0 m H0) ∧ ∀ i m H, W i m H → ((Itl K a).stop i H ∧ Qd H) ∨ ((Itl K a).go i H ∧ ∃ Nx : Hp → Prop, (∀ H', Nx H' → ∃ m', m' < m ∧ W (i + 1) m' H') ∧ ∀ x H', (Itl K a).yld i H x H' → Bd x H' Nx) := by
  refine ⟨fun i m H => m = xs.length - i ∧ i ≤ xs.length ∧ Pv i H, ⟨xs.length, by simp, Nat.zero_le _, h0⟩, ?_⟩
  rintro i m H ⟨rfl, hi, p⟩
  have q := hl i H hi p
  by_cases hlt : i < xs.length
  · refine .inr ⟨⟨xs, xs[i], q, by simp [hlt]⟩, Pv (i + 1), fun H' p' => ⟨xs.length - (i + 1), by omega, rfl, hlt, p'⟩, fun x H' y => ?_⟩
    obtain ⟨e, y⟩ := y
    subst e
    exact hs i x _ (y xs q) p
  · have e : i = xs.length := by omega
    subst e
    exact .inl ⟨⟨xs, q, Nat.le_refl _⟩, hd H p⟩
theorem take_succ_of {α : Type} {l : List α} {i : Nat} {x : α} (h : l[i]? = some x) : l.take (i + 1) = l.take i ++ [x] := by
  rw [List.take_add_one, h]
  rfl

def RowL (params : Arguments) (scope : PySem.Scope) (body : PySem.Expr) : Prop :=
  (∃ (x : Str) (p1 p2 p3 : Pos) (k0 : Nat), body = .Subscript (.Name x p1) (.Constant (.int 0) k0 p2) p3 ∧ (x == Str.ofString "__debug__") = false ∧ scope.names = [(x, .local)] ∧
    ∀ (fd : FuncData) (u : Value), fd.params = params → fd.defaults = .none → fd.kwdefaults = .none → bindArgs fd ⟨[u], []⟩ = pure [(x, u)]) ∧
  scope.kind = .function ∧ scope.isGenerator = false ∧ scope.isCoroutine = false
theorem row_call {P : Program} {w : World} {A : Around} {s : Shared} {f p c' : Addr} {nm q : Str} {params : Arguments} {scope : PySem.Scope} {body : PySem.Expr} {clos : List (Str × Addr)} {pm ctv : Value} {its : Array Value} {x : Str} {tx : Tok}
    (R : RowL params scope body) (hd : A.depth < recursionLimit) (hf : s.heap.get? f = some (PySem.W.kla_obj nm q params body scope clos pm c' ctv))
    (hc : s.heap.CodeRec (.ref c') q) (hn : s.heap.NoLimit) (ht : IsTup s.heap p its) (h0 : its[0]? = some (.str x tx)) :
    wpAny (model P w) A (call (.ref f) [.ref p]) (PySem.W.KeyPure (.str x) s) (fun _ _ => False) s := by
  obtain ⟨⟨z, p1, p2, p3, k0, rfl, hz, hnm, hb⟩, hk, hg, ho⟩ := R
  refine wpAny_call ?_
  refine PySem.W.kla_callFunE hd hf rfl ho hg rfl hc ?_
  refine BindsTo.of_eq (hb _ _ rfl rfl rfl) _ _ _ _ ?_
  refine wpAny_newFunctionEnv (by intro y hy; rw [show (PySem.W.kla_fn nm q params _ scope clos pm (.ref c') ctv).scope.names = _ from hnm] at hy; simp only [List.mem_singleton] at hy; subst hy; simp) (by intro y hy; simp only [List.mem_singleton] at hy; subst hy; rw [show (PySem.W.kla_fn nm q params _ scope clos pm (.ref c') ctv).scope.names = _ from hnm]; simp) (fun h' hns hsame => ?_) hk
  have hkeep : ∀ b o, s.heap.get? b = some o → h'.get? b = some o := by
    intro b o hb
    have hne : b ≠ s.heap.objs.size := fun e => by
      rw [e] at hb
      simp [Heap.get?] at hb
    rw [hsame.2 b hne]
    exact Heap.get?_push_of_some _ hb
  refine ⟨hn.keeps hkeep, PySem.W.kla_codeExpr ?_⟩
  refine Subscript_Constant (wpAny_Name (wpAny_loadName_local (m := fun y => List.lookup y [(z, Value.ref p)].reverse) (v := .ref p) hk ?_ hns ?_ ?_) hz)
  · simp [Env.kindOf, newEnv, hnm]
  · simp
  refine wpAny_Constant_int ?_
  obtain ⟨o, g1, g2, n, g3⟩ := ht
  have ht' : IsTup h' p its := ⟨o, hkeep _ _ g1, g2, n, g3⟩
  refine ⟨"tuple", _, rfl, ⟨o, hkeep _ _ g1, g2⟩, ?_⟩
  have hz0 : its.size ≠ 0 := fun e => by
    rw [Array.getElem?_eq_none (by omega)] at h0
    cases h0
  refine getItem_tuple (j := 0) ht' (by decide) (by decide) ?_ h0 ?_
  · simp [seqIndex?]
    intro e
    rw [e] at hz0
    exact hz0 rfl
  exact ⟨h', _, rfl, hkeep, .str _ _⟩

def leS (a b : V × Str) : Bool := decide (a.2.cps.toList ≤ b.2.cps.toList)
def RowO (f c : Addr) (q : Str) : HO := .ext fun h => ∃ nm params body scope clos pm ctv, h.get? f = some (PySem.W.kla_obj nm q params body scope clos pm c ctv) ∧ RowL params scope body
def rSortRow : List V → List V → Hp → VK → Prop := fun xs zs H Q => ∃ (a f c : Addr) (q : Str) (bs : List (V × Str)), xs = [.ref a] ∧ zs = [.ref f] ∧ H f = some (RowO f c q) ∧ H c = some (LamX.CodeO c q) ∧ H a = some (.lst (bs.map Prod.fst)) ∧
  (∀ b ∈ bs, ∃ p rest, b.1 = .ref p ∧ H p = some (.tup (.str b.2 :: rest))) ∧ bs.length ≤ sizeLine ∧ ∀ r, H r = none → Q (.ref r) (upd H r (.lst ((bs.mergeSort leS).map Prod.fst)))
def RowR (H : Hp) (v : Value) (b : V × Str) : Prop := RelV b.1 v ∧ ∃ p rest, b.1 = .ref p ∧ H p = some (.tup (.str b.2 :: rest))
theorem eachRow {H : Hp} : ∀ {bs : List (V × Str)} {its : List Value}, Vals (bs.map Prod.fst) its → (∀ b ∈ bs, ∃ p rest, b.1 = .ref p ∧ H p = some (.tup (.str b.2 :: rest))) → PySem.W.EachIs (RowR H) its bs
  | [], _, v, _ => by cases v; exact .nil
  | b :: r, _, v, h => by
    cases v with
    | cons g1 g2 => exact .cons ⟨g1, h b (by simp)⟩ (eachRow g2 fun x hx => h x (by simp [hx]))
theorem rowEach {H : Hp} : ∀ {bs : List (V × Str)} {its : List Value}, PySem.W.EachIs (RowR H) its bs → Vals (bs.map Prod.fst) its
  | [], _, v => by cases v; exact .nil
  | b :: r, _, v => by
    cases v with
    | cons g1 g2 => exact .cons g1.1 (rowEach g2)
theorem cr_sortRow {X : Cx} {k : Nat} (hr : Room k X.A) : CallRK X (.builtin "sorted") ["key"] rSortRow := by
  intro pins s σ H xs zs us ws Q I hv hw h
  obtain ⟨a, f, c, q, bs, rfl, rfl, hf, hc, ha, hp, hz, q2⟩ := h
  cases hv with
  | cons g1 g2 =>
  cases g2
  cases hw with
  | cons g3 g4 =>
  cases g4
  cases g1
  cases g3
  have oa := I.hok _ _ ha
  have of := I.hok _ _ hf
  have oc := I.hok _ _ hc
  obtain ⟨nm, params, body, scope, clos, pm, ctv, hfo, hR⟩ := of.1
  obtain ⟨oz, its, n, hits, hao⟩ := oa
  refine PySem.W.sorted_key_data (vs := its) (bs := bs) (R := RowR H) (f := .ref f) (b := false) (fun b => .str b.2) ⟨_, hao, rfl, n, rfl⟩ (eachRow hits hp) ?_ ?_ hz ?_ (ksk_s1 _ _) (fun x => ksk_l1 _ _) (fun x => ?_) (fun v x hv hx h tk hk => ?_) (fun out c' h' tk hk hn ho hl he => ?_)
  · intro d hd d' hd'
    simp only [List.mem_map] at hd hd'
    obtain ⟨_, _, rfl⟩ := hd
    obtain ⟨_, _, rfl⟩ := hd'
    rfl
  · refine .inr fun d hd => ?_
    simp only [List.mem_map] at hd
    obtain ⟨_, _, rfl⟩ := hd
    exact ⟨by simp, by simp⟩
  · intro x _
    have := hr.un
    have e : (PyData.str x.2).depth = 0 := rfl
    omega
  · rfl
  · obtain ⟨hv1, p, rest, e1, e2⟩ := hv
    obtain ⟨v1, w1⟩ := x
    dsimp only at e1 hv1 e2 hx ⊢
    subst e1
    cases hv1
    have op := I.hok _ _ e2
    obtain ⟨_, its2, g1, g2, g3, n2, g4⟩ := op
    cases g1 with
    | cons k1 k2 =>
    obtain ⟨tx, rfl⟩ := k1
    obtain ⟨oc', vs', t', c1, c2, c3⟩ := oc.1
    refine row_call (its := _) (x := w1) (tx := tx) hR ?_ (hk _ _ hfo) ⟨_, _, _, _, rfl, hk _ _ c1, c2, c3⟩ (I.nolimit.keeps hk) ⟨g2, hk _ _ g3, n2, g4⟩ (by simp)
    have := hr.dp
    show X.A.depth < recursionLimit
    omega
  · refine ⟨.ref (s.heap.objs.size + 1), _, I.laid (a := s.heap.objs.size + 1) (o := .lst ((bs.mergeSort leS).map Prod.fst)) hk (by omega) ?_, rfl, q2 _ ?_⟩
    · have e : PySem.W.dataLe false (fun b : V × Str => PyData.str b.2) = leS := PySem.W.dataLe_str _
      rw [e] at he
      exact ⟨by simpa using hz, out, c', rowEach he, ho⟩
    · exact I.hok.fresh (by omega)
theorem rowO_ok {P : Program} {w : World} {H : Hp} {h : Heap} {c : Addr} {nm q : Str} {params : Arguments} {scope : PySem.Scope} {body : PySem.Expr} {clos : List (Str × Addr)} {pm ctv : Value} (hR : RowL params scope body) :
    ObjOk P w H (h.push (PySem.W.kla_obj nm q params body scope clos pm c ctv)) h.objs.size (RowO h.objs.size c q) := by
  have e : (h.push (PySem.W.kla_obj nm q params body scope clos pm c ctv)).get? h.objs.size = some (PySem.W.kla_obj nm q params body scope clos pm c ctv) := Heap.get?_push_size _ rfl
  refine ⟨⟨_, _, _, _, _, _, _, e, hR⟩, ⟨_, e⟩, fun h1 h2 ⟨a1, a2, a3, a4, a5, a6, a7, e1, e2⟩ k => ⟨a1, a2, a3, a4, a5, a6, a7, k _ e1, e2⟩⟩
theorem pe_lamRow {X : Cx} {c P : Addr} {params : Arguments} {body : PySem.Expr} {scope : PySem.Scope} {pos : Pos} (tb : LamX.TabB X.base X.mg c P) (hc : X.env.code = .ref c) (hd : defaultsOf params X.env = ([], []))
    (hR : RowL params scope body) : PE X (.Lambda params body scope pos) (fun σ H Q => LamX.TabS H P (X.env.qual ++ "<lambda>") ∧ ∀ (f c : Addr) (H1 : Hp), Fr P H H1 → LamX.TabS H1 P (X.env.qual ++ "<lambda>") → H1 f = some (RowO f c (X.env.qual ++ "<lambda>")) → H1 c = some (LamX.CodeO c (X.env.qual ++ "<lambda>")) → Q (.ref f) H1) := by
  refine ⟨fun pins s σ H Q I h => ?_⟩
  obtain ⟨ht, q⟩ := h
  have hclo : closureFor scope X.env = pure (cloFrom X.env.cells scope.names []) := by
    refine closure_ok ?_
    intro y hy he
    obtain ⟨⟨z, p1, p2, p3, k0, rfl, hz, hnm, hb⟩, hk, hg, ho⟩ := hR
    rw [hnm] at hy
    simp only [List.mem_singleton] at hy
    subst hy
    cases he
  have ht' := ht
  obtain ⟨ps, hP, hT, hA⟩ := ht'
  have oP : s.heap.get? P = some (PySem.W.tabObj ps) := I.hok _ _ hP
  refine PySem.W.kla_eval hd ?_
  cases hcd : codeAmong pos ps.toList with
  | some cv =>
    obtain ⟨c', rfl, hc'⟩ := hA _ _ hcd
    refine PySem.W.kla_makeFunctionHit hclo I.ok.glob (I.mod.glob.keeps I.bk) hc (tb.code.keeps I.bk) oP hT hcd (tb.bm.keeps I.bk) (fun ctv h' tk hk hs => ?_)
    have I1 := I.kept (t' := tk) hk
    have hz : s.heap.objs.size ≤ h'.objs.size := hs
    have hn : H h'.objs.size = none := I.hok.fresh hz
    refine ⟨.ref h'.objs.size, upd H h'.objs.size (RowO h'.objs.size c' (X.env.qual ++ "<lambda>")), ?_, rfl, q _ c' _ (fun b o _ hb => ?_) (ht.ext fun b o hb => ?_) upd_same ?_⟩
    · exact I1.laid (h' := h'.push _) (t' := tk) (fun b u hb => Heap.get?_push_of_some _ hb) (Nat.le_refl _) (rowO_ok hR)
    · rw [upd_ne (ne_of_none hb hn)]; exact hb
    · rw [upd_ne (ne_of_none hb hn)]; exact hb
    · rw [upd_ne (ne_of_none hc' hn)]; exact hc'
  | none =>
    refine PySem.W.kla_makeFunction hclo I.ok.glob (I.mod.glob.keeps I.bk) hc (tb.code.keeps I.bk) oP hT hcd tb.gP (tb.bm.keeps I.bk) (fun c' ctv h' tk he hl hu hrec hP' => ?_)
    obtain ⟨c2, o2, vs2, t2, ec, e1, e2, e3⟩ := hrec
    cases ec
    have I2 := LamX.inv_table (t' := tk) (c := c') (q := X.env.qual ++ "<lambda>") I hP he (more := #[rawInt ↑pos.line, rawInt ↑pos.col, .ref c']) hP' hl ⟨_, _, _, e1, e2, e3⟩
    have hn : (upd (upd H P (.tbl (ps ++ #[rawInt ↑pos.line, rawInt ↑pos.col, .ref c']))) c' (LamX.CodeO c' (X.env.qual ++ "<lambda>"))) h'.objs.size = none := I2.hok.fresh (Nat.le_refl _)
    have hcn : H c' = none := I.hok.fresh hl
    have hPc : P ≠ c' := fun e => by rw [e] at hP; rw [hcn] at hP; cases hP
    refine ⟨.ref h'.objs.size, _, I2.laid (h' := h'.push _) (o := RowO h'.objs.size c' (X.env.qual ++ "<lambda>")) (t' := tk) (fun b u hb => Heap.get?_push_of_some _ hb) (Nat.le_refl _) (rowO_ok hR), rfl, q _ c' _ ?_ ?_ upd_same ?_⟩
    · intro b o hbP hb
      have h1 : (upd (upd H P (.tbl (ps ++ #[rawInt ↑pos.line, rawInt ↑pos.col, .ref c']))) c' (LamX.CodeO c' (X.env.qual ++ "<lambda>"))) b = some o := by
        rw [upd_ne (ne_of_none hb hcn), upd_ne hbP]; exact hb
      rw [upd_ne (ne_of_none h1 hn)]; exact h1
    · refine LamX.TabS.ext (H := upd (upd H P (.tbl (ps ++ #[rawInt ↑pos.line, rawInt ↑pos.col, .ref c']))) c' (LamX.CodeO c' (X.env.qual ++ "<lambda>"))) ?_ (fun b o hb => by rw [upd_ne (ne_of_none hb hn)]; exact hb)
      refine ⟨_, by rw [upd_ne hPc]; exact upd_same, ?_, ?_⟩
      · simpa using TriplesOk_snoc _ _ _ _ hT
      · intro pos2 cv hcv
        rw [Array.toList_append] at hcv
        rcases LamX.among_app _ hT hcv with h | h
        · obtain ⟨c3, e3, h3⟩ := hA _ _ h
          refine ⟨c3, e3, ?_⟩
          rw [upd_ne (ne_of_none h3 hcn), upd_ne (fun e => by rw [e, hP] at h3; cases h3)]
          exact h3
        · exact ⟨c', h, upd_same⟩
    · have h1 : (upd (upd H P (.tbl (ps ++ #[rawInt ↑pos.line, rawInt ↑pos.col, .ref c']))) c' (LamX.CodeO c' (X.env.qual ++ "<lambda>"))) c' = some (LamX.CodeO c' (X.env.qual ++ "<lambda>")) := upd_same
      rw [upd_ne (ne_of_none h1 hn)]; exact h1

theorem okC {P : Program} {w : World} {K : PySem.W.Frag} {mg : Str → Option Value} {base : Heap} {x qual : Str} {st : Stmt} {f c : Addr} {fd : FuncData} {N ps : List Str} {k : Nat} {sp : Sp} (F : Fun K x qual st f fd) (hc : fd.code = .ref c) (S : FnScope N ps (defScope st))
    (len : ∀ vs H Q E, sp vs H Q E → vs.length = ps.length)
    (hb : ∀ (A : Around) (outer : List Env) (s : Shared) (H : Hp) (vs : List V) (Q : VK) (E : XK), Room k (A.deeper (envOfC qual (defScope st) s.heap.objs.size f (.ref c))) → sp vs H Q E →
      ∃ t, PSs (cxOf CX0 P w K mg base N qual (defScope st) f (.ref c) A outer s H E).nox (defBody st) t ∧ t { nx := fun _ H' => Q .non H', rt := Q } (L2.start N vs) H) : FnOk P w K mg base CX0 (k + 1) f fd ps sp := by
  obtain ⟨oc, od, kV, doc, pm, an, cdv, ct, osl, rfl, lk, hcd⟩ := F.ex
  cases hc
  exact fn_of lk hcd S len fun A outer s H vs Q E hr hsp => by
    obtain ⟨t, h, q⟩ := hb A outer s H vs Q E hr hsp
    exact ⟨t, h.nox, q⟩
theorem rowL_mk {x : Str} {p0 p1 p2 p3 : Pos} {k0 : Nat} {scope : PySem.Scope} (hz : (x == Str.ofString "__debug__") = false) (hn : scope.names = [(x, .local)]) (hk : scope.kind = .function) (hg : scope.isGenerator = false) (hc : scope.isCoroutine = false)
    (hb : ∀ (nm q : Str) (b : FuncBody) (sc : PySem.Scope) (g : Addr) (cl : List (Str × Addr)) (pm an : Value) (cd : Option Addr) (ct bl : Value) (bu : Addr) (u : Value), bindArgs ⟨nm, q, { posonlyargs := [], args := [{ arg := x, annotation := none, pos := p0 }], vararg := none, kwonlyargs := [], kw_defaults := [], kwarg := none, defaults := [] }, b, sc, g, cl, .none, .none, pm, an, cd, ct, bl, bu⟩ ⟨[u], []⟩ = pure [(x, u)]) :
    RowL { posonlyargs := [], args := [{ arg := x, annotation := none, pos := p0 }], vararg := none, kwonlyargs := [], kw_defaults := [], kwarg := none, defaults := [] } scope (.Subscript (.Name x p1) (.Constant (.int 0) k0 p2) p3) := by
  refine ⟨⟨x, p1, p2, p3, k0, rfl, hz, hn, fun fd u e1 e2 e3 => ?_⟩, hk, hg, hc⟩
  obtain ⟨nm, q, pr, b, sc, g, cl, d, kd, pm, an, cd, ct, bl, bu⟩ := fd
  subst e1 e2 e3
  exact hb _ _ _ _ _ _ _ _ _ _ _ _ _
def spLawT (K : PySem.W.Frag) (Ps : List Addr) : Sp := fun vs H Q _ => ∃ (a : Addr) (ns : List Int), vs = [.ref a] ∧ SqL K H a (ns.map V.int) ∧ ns.length ≤ 63 ∧ (∀ P ∈ Ps, H P = some (.tbl #[])) ∧ ∀ H', Q (.bl true) H'
def LawT (l : PySem.W.OpenLaw) (w : World) (K : PySem.W.Frag) (k : Nat) (x : Str) (mg : Str → Option Value) (fa : Addr) (cs : List (Str × Addr × Addr)) : Prop :=
  (∀ z ∈ cs, PySem.W.tabIn K z.1 = some (z.2.1, z.2.2) ∧ K.lookup z.2.2 = none) ∧ ∃ fd : FuncData, (∀ (s : Shared) (v : Value), BindsTo s fd ⟨[v], []⟩ [(x, v)]) ∧
    ∀ base : Heap, K.In base → base.Ns mainGlobals mg → (∀ z ∈ cs, LamX.TabB base mg z.2.1 z.2.2) → FnOk l.prog w K mg base CX0 k fa fd [x] (spLawT K (cs.map fun z => z.2.2))
theorem walk_ofT {l : PySem.W.OpenLaw} {n k : Nat} {q : Program} {loose : List Str} {XP : (Str → Option Value) → Heap → Prop} {YP : World → Heap → Prop} {d : DefRec} {K : Params → PySem.W.Frag} {x : Str}
    (hn : l.most = some n) (hz : n ≤ sizeLine) (h63 : n ≤ 63) (hd : d.params.defaults = []) (hr : Room k callerA) (hY : ∀ w h, YP w h → (K w.params).In h) (names : List Str)
    (hR : (names.all fun z => (recsOf q).any fun e => e.name == z) = true)
    (hF : ∀ (w : World) (mg : Str → Option Value) (fa : Addr) (h : Heap), (K w.params).In h → h.Ns mainGlobals mg → mg d.name = some (.ref fa) → ∃ cs : List (Str × Addr × Addr), cs.map Prod.fst = names ∧ LawT l w (K w.params) k x mg fa cs) :
    PySem.W.WalkO q loose XP YP l.row.toRowW d [] fun f vs => call f vs := by
  refine Att.attach_callB hn hd fun w s0 s1 mg mb fa o pm cd doc a vs ns G Y ho hod hcr hmg ha hi hl hb hg => ?_
  obtain ⟨cs, hcs, hT, fd, hB, hOk⟩ := hF w mg fa s1.heap (hY w _ Y) G.T.g hmg
  have key : ∀ z ∈ cs, PySem.W.CodeHd s1.heap z.2.1 z.2.2 ∧ s1.heap.get? z.2.2 = some (PySem.W.tabObj #[]) := by
    intro z hz
    have h1 : z.1 ∈ names := by rw [← hcs]; exact List.mem_map_of_mem hz
    have h2 := List.all_eq_true.mp hR _ h1
    cases hf : (recsOf q).find? fun e => e.name == z.1 with
    | none =>
      rw [List.find?_eq_none] at hf
      rw [List.any_eq_true] at h2
      obtain ⟨e, he, h3⟩ := h2
      exact absurd h3 (hf e he)
    | some dd => exact PySem.W.tab_of G.T (hY w _ Y) hf (hT z hz).1
  refine LamX.law_callTs (K := K w.params) (cs := cs.map fun z => z.2) (hY w _ Y) G.T.g G.T.b G.T.builtins G.T.nolimit hg ?_ ?_ ?_ G.T.bmain ha hi (Nat.le_trans hl hz) hr (fun base h1 h2 h3 => hOk base h1 h2 fun z hz => h3 _ (List.mem_map_of_mem hz)) (fun s u => hB s u) (fun H hH hS => ⟨a, ns, rfl, hS, ?_, ?_, fun _ => rfl⟩) (fun _ _ _ h => h)
  · intro p hp
    obtain ⟨z, hz, rfl⟩ := List.mem_map.mp hp
    exact (key z hz).2
  · intro p hp
    obtain ⟨z, hz, rfl⟩ := List.mem_map.mp hp
    exact (hT z hz).2
  · intro p hp
    obtain ⟨z, hz, rfl⟩ := List.mem_map.mp hp
    exact (key z hz).1
  · exact Nat.le_trans hl h63
  · intro P hP
    obtain ⟨z, hz, rfl⟩ := List.mem_map.mp hP
    exact hH _ (List.mem_map_of_mem hz)

theorem take_zip {α : Type} (sel : Nat → Bool) (j : Nat) : ∀ (xs : List α) (i : Nat), (∀ k, k < i + xs.length → sel k = decide (j ≤ k)) → (xs.zipIdx i).filterMap (fun x => if sel x.2 = true then none else some x.1) = xs.take (j - i)
  | [], i, _ => by simp
  | x :: r, i, hs => by
    rw [List.zipIdx_cons, List.filterMap_cons]
    have ih := take_zip sel j r (i + 1) fun k hk => hs k (by rw [List.length_cons]; omega)
    have h0 := hs i (by rw [List.length_cons]; omega)
    by_cases h : j ≤ i
    · have e : j - i = 0 := by omega
      have e2 : j - (i + 1) = 0 := by omega
      rw [e2] at ih
      simp only [h0, h, decide_true, if_true, e, List.take_zero]
      simpa using ih
    · have e : j - i = (j - (i + 1)) + 1 := by omega
      rw [e, List.take_succ_cons, ← ih]
      simp [h0, h]
theorem run_delFrom {P : Program} {w : World} {A : Around} {E : Value → Shared → Prop} {s : Shared} {l sl : Addr} {items : Array Value} {n j : Nat} {t : Tok} {Q : Unit → Shared → Prop}
    (hl : s.heap.get? l = some { cls := Value.type "list", data := Data.seq items n }) (hs : s.heap.get? sl = some { cls := .type "slice", data := .fields #[.int j t, .none, .none] }) (hj : j ≤ items.size) (hz : items.size ≤ sizeLine)
    (q : ∀ f : Array Value → Array Value, f items = (items.toList.take j).toArray → Q () { s with heap := s.heap.update l (Obj.mapSeq f) }) :
    wpAny (model P w) A (delItem (.ref l) (.ref sl)) Q E s := by
  refine wpAny_delItem_slot (T := "list") ⟨_, hl, rfl⟩ (by decide) PySem.F.slot_list_delitem ?_
  refine wpAny_call_entry PySem.F.slot_list_delitem ⟨_, hl, rfl⟩ PySem.F.entry_list_delitem ?_ (PySem.F.args_list_delitem_2 _ _)
  show wpAny _ _ (do
      let __x ← slotArgs "__delitem__" 1 { pos := [.ref l, .ref sl] }
      _) _ _ _
  refine wpAny_bind (wpAny_pure ?_)
  refine wpAny_bind ?_
  refine wpAny_bind (wpAny_specialOf (T := "slice") (r := none) ⟨_, hs, rfl⟩ rfl ?_)
  refine wpAny_pure ?_
  refine wpAny_bind (wpAny_typeOf (T := "slice") ⟨_, hs, rfl⟩ ?_)
  dsimp only
  rw [if_neg (by decide)]
  refine wpAny_bind ?_
  rw [listSliceParts_eq]
  refine wpAny_bind (wpAny_field hs rfl (i := 2) rfl (wpAny_bind (wpAny_listPart .none ?_)))
  dsimp only [rawPart]
  rw [if_neg (by decide)]
  refine wpAny_bind (wpAny_field hs rfl (i := 0) rfl (wpAny_bind (wpAny_listPart (.int _ _) ?_)))
  refine wpAny_bind (wpAny_field hs rfl (i := 1) rfl (wpAny_bind (wpAny_listPart .none (wpAny_pure ?_))))
  dsimp only
  refine wpAny_bind (wpAny_listItems hl rfl ?_)
  have eb : sliceBounds (some (j : Int)) none none items.size = ((j : Int), (items.size : Int), 1) := by
    simp [sliceBounds]
    omega
  rw [show sliceIndices (rawPart (some (j : Int))) (rawPart none) .none items.size = pure (sliceBounds (some (j : Int)) none none items.size) from sliceIndices_raw (some (j : Int)) none none items.size (by simp), eb]
  refine wpAny_bind (wpAny_pure ?_)
  dsimp only
  refine wpAny_bind (wpAny_rule ?_)
  refine wpAny_bind (wpAny_updateSeq hl rfl (wpAny_bind (wpAny_letGo (wpAny_pure ⟨_, rfl, q _ ?_⟩))) hz ?_)
  · refine congrArg List.toArray ((take_zip (fun k => _) j items.toList 0 ?_).trans (by rw [Nat.sub_zero]))
    intro k hk
    show (if (1 : Int) > 0 then decide ((j : Int) ≤ (k : Int)) && decide ((k : Int) < (items.size : Int)) && ((k : Int) - j) % 1 == 0 else _) = _
    rw [Nat.zero_add, Array.length_toList] at hk
    rw [if_pos (by decide), Int.emod_one, decide_eq_true (show (k : Int) < (items.size : Int) by omega)]
    by_cases h : j ≤ k
    · simp [h]
    · simp [h]
  · refine Nat.le_trans ?_ (Nat.le_succ_of_le hz)
    rw [List.size_toArray]
    refine Nat.le_trans (List.length_filterMap_le _ _) ?_
    simp
theorem ps_delFrom {X : Cx} {pos p2 : Pos} {o e : PySem.Expr} {to te : TE} {tpos : Pos} (ho : PE X o to) (he : PE X e te) :
    PS X (.Delete [.Subscript o (.Slice (some e) none none p2) tpos] pos) (fun D σ H => to σ H fun x H1 => te σ H1 fun y H2 => ∃ (l : Addr) (xs : List V) (j : Nat), x = .ref l ∧ y = .int j ∧ H2 l = some (.lst xs) ∧ j ≤ xs.length ∧ D.nx σ (upd H2 l (.lst (xs.take j)))) := by
  refine ⟨fun pins s σ H D I h => ?_⟩
  refine wpAny_Delete (wpAny_deleteEach_cons (wpAny_delete_Subscript ?_))
  refine thn (ho.run pins s σ H _ I h) fun u s1 hx => ?_
  obtain ⟨x, H1, I1, r1, h1⟩ := hx
  refine wpAny_Slice ?_
  rw [evalPart_some]
  refine thn (he.run pins s1 σ H1 _ I1 h1) fun u2 s2 hx => ?_
  obtain ⟨y, H2, I2, r2, l, xs, j, rfl, rfl, hl, hj, q⟩ := hx
  cases r1
  obtain ⟨t, rfl⟩ := r2
  rw [evalPart_none]
  refine wpAny_pure ?_
  refine wpAny_pure ?_
  have hsl : (s2.heap.push { cls := .type "slice", data := .fields #[.int j t, .none, .none] }).get? s2.heap.objs.size = some { cls := .type "slice", data := .fields #[.int j t, .none, .none] } := Heap.get?_push_size _ rfl
  have I3 := I2.kept (h' := s2.heap.push { cls := .type "slice", data := .fields #[.int j t, .none, .none] }) (t' := s2.toks) (fun b u hb => Heap.get?_push_of_some _ hb)
  obtain ⟨oz, its, n, hits, hao⟩ := I3.hok _ _ hl
  have ll : xs.length = its.length := L2.Vals.length hits
  refine run_delFrom (items := its.toArray) hao hsl (by simp; omega) (by simp; omega) (fun f hf => ?_)
  refine wpAny_deleteEach_nil ?_
  refine ⟨σ, _, I3.lset (its := its) (its' := its.take j) (ys := xs.take j) hl hao (by simpa using hf) ?_ ?_, q⟩
  · exact L2.Vals.take j hits
  · rw [List.length_take]; omega

mutual
def Tr.dat : Tr → PyData
  | .node c ks => .tuple [.str (ch c), .list (dats ks)]
def dats : List Tr → List PyData
  | [] => []
  | t :: r => t.dat :: dats r
end
mutual
theorem dat_depth : ∀ t : Tr, t.dat.depth ≤ 2 * t.depth
  | .node c ks => by
    have := dats_depth ks
    simp only [Tr.dat, PyData.depth, PyData.depthAll, Tr.depth]
    omega
theorem dats_depth : ∀ ts : List Tr, PyData.depthAll (dats ts) ≤ 2 * depths ts
  | [] => by simp only [dats, PyData.depthAll, depths]; omega
  | t :: r => by
    have a := dat_depth t
    have b := dats_depth r
    simp only [dats, PyData.depthAll, depths]
    omega
end
section
variable {ok : Addr → Prop} {H : Hp} {K : PySem.W.Frag}
theorem strOk_ch {c : Nat} (h : c ≤ 122) : PyData.strOk (ch c) = true := by
  unfold PyData.strOk ch
  simp
  omega
mutual
theorem TrAt.lay : ∀ (t : Tr) (v : V), TrAt ok H v t → t.dat.canLay0 = true
  | .node c ks, v, x => by
    cases x with
    | node h1 h2 k1 k2 c1 c2 r => simp only [Tr.dat, PyData.canLay0, PyData.canLayAll0, strOk_ch c2, TrsAt.lay ks _ r, Bool.and_self]
theorem TrsAt.lay : ∀ (ts : List Tr) (vs : List V), TrsAt ok H vs ts → PyData.canLayAll0 (dats ts) = true
  | [], _, _ => by simp only [dats, PyData.canLayAll0]
  | t :: r, _, x => by
    cases x with
    | cons a b => simp only [dats, PyData.canLayAll0, TrAt.lay t _ a, TrsAt.lay r _ b, Bool.and_self]
end
mutual
theorem TrAt.dp : ∀ (t : Tr) (v : V), TrAt ok H v t → Dp K H v t.dat
  | .node c ks, v, x => by
    cases x with
    | node h1 h2 k1 k2 c1 c2 r =>
      simp only [Tr.dat]
      exact .tup (SqT.of h1) (.cons (.str _) (.cons (.lst (SqL.of h2) (TrsAt.dp ks _ r)) .nil))
theorem TrsAt.dp : ∀ (ts : List Tr) (vs : List V), TrsAt ok H vs ts → DpAll K H vs (dats ts)
  | [], _, x => by cases x; exact .nil
  | t :: r, _, x => by
    cases x with
    | cons a b => exact .cons (TrAt.dp t _ a) (TrsAt.dp r _ b)
end
theorem shaped_tr {v : V} {t : Tr} (x : TrAt ok H v t) (h : t.depth ≤ 32) : SeqAt.shaped t.dat = true := by
  unfold SeqAt.shaped
  rw [Bool.and_eq_true]
  exact ⟨TrAt.lay t v x, decide_eq_true (by have := dat_depth t; omega)⟩
theorem shaped_trs {vs : List V} {ts : List Tr} (x : TrsAt ok H vs ts) (h : depths ts ≤ 31) : SeqAt.shaped (.list (dats ts)) = true := by
  unfold SeqAt.shaped
  rw [Bool.and_eq_true]
  refine ⟨by simp only [PyData.canLay0]; exact TrsAt.lay ts vs x, decide_eq_true ?_⟩
  have := dats_depth ts
  simp only [PyData.depth]
  omega
end
def DatOk (K : PySem.W.Frag) (H : Hp) (v : V) : Prop := ∃ d, Dp K H v d ∧ d.canLay0 = true ∧ d.depth ≤ 63
theorem DatOk.all {K : PySem.W.Frag} {H : Hp} : ∀ {vs : List V}, (∀ v ∈ vs, DatOk K H v) → ∃ ds, DpAll K H vs ds ∧ SeqAt.shaped (.list ds) = true ∧ ds.length = vs.length
  | [], _ => ⟨[], .nil, by decide +kernel, rfl⟩
  | v :: r, h => by
    obtain ⟨d, h1, h2, h3⟩ := h v List.mem_cons_self
    obtain ⟨ds, g1, g2, g3⟩ := DatOk.all (vs := r) fun u hu => h u (List.mem_cons_of_mem _ hu)
    unfold SeqAt.shaped at g2
    rw [Bool.and_eq_true] at g2
    have g4 := of_decide_eq_true g2.2
    have g5 := g2.1
    simp only [PyData.canLay0] at g5
    simp only [PyData.depth] at g4
    refine ⟨d :: ds, .cons h1 g1, ?_, by simp only [List.length_cons, g3]⟩
    unfold SeqAt.shaped
    rw [Bool.and_eq_true]
    refine ⟨by simp only [PyData.canLay0, PyData.canLayAll0, h2, g5, Bool.and_self], decide_eq_true ?_⟩
    simp only [PyData.depth, PyData.depthAll]
    omega
theorem datOk_int {K : PySem.W.Frag} {H : Hp} (i : Int) : DatOk K H (.int i) := ⟨.int i, .int i, by simp only [PyData.canLay0], by simp only [PyData.depth]; omega⟩
theorem datOk_tr {K : PySem.W.Frag} {H : Hp} {ok : Addr → Prop} {v : V} {t : Tr} (x : TrAt ok H v t) (h : t.depth ≤ 31) : DatOk K H v := ⟨t.dat, TrAt.dp t v x, TrAt.lay t v x, by have := dat_depth t; omega⟩
theorem eqv_nil (ds : List PyData) : PyData.eqv (.list ds) (.list []) = decide (ds.length = 0) := by
  cases ds with
  | nil => simp [PyData.eqv, PyData.eqvAll]
  | cons d r => simp [PyData.eqv, PyData.eqvAll]
theorem shaped_nil : SeqAt.shaped (.list []) = true := by decide +kernel
theorem dp_nil {K : PySem.W.Frag} {H : Hp} {a : Addr} (h : H a = some (.lst [])) : Dp K H (.ref a) (.list []) := .lst (SqL.of h) .nil


def sp_is_letter : Sp := fun vs H Q _ => ∃ c : Nat, vs = [.str (ch c)] ∧ 97 ≤ c ∧ c ≤ 122 ∧ Q (.bl true) H
def sp__is_part : Sp := fun vs H Q _ => ∃ (v : V) (t : Tr), vs = [v] ∧ TrAt (fun _ => True) H v t ∧ Q (.bl true) H
def sp_is_tree : Sp := fun vs H Q _ => ∃ (v : V) (t : Tr), vs = [v] ∧ TrAt (fun _ => True) H v t ∧ t.size ≤ 1000000 ∧ ∀ H', Same H H' → Q (.bl true) H'
def sp_check_tree : Sp := fun vs H Q _ => ∃ (v : V) (t : Tr), vs = [v] ∧ TrAt (fun _ => True) H v t ∧ t.size ≤ 1000000 ∧ ∀ H', Same H H' → Q .non H'
def sp_parts_upward : Sp := fun vs H Q _ => ∃ (v : V) (t : Tr) (ok : Addr → Prop), vs = [v] ∧ TrAt ok H v t ∧ t.size ≤ 1000000 ∧
  ∀ r ws H', Same H H' → H r = none → H' r = some (.lst ws) → TrsAt (fun b => ok b ∧ H b ≠ none) H' ws t.post → Q (.ref r) H'
theorem le_a {c : Nat} (h : 97 ≤ c) : (!decide ((ch c).cps.toList < (Str.ofString "a").cps.toList)) = true := by
  have e : (Str.ofString "a").cps.toList = [97] := by decide +kernel
  rw [e]
  show (!decide (([c] : List Nat) < [97])) = true
  have : ¬ (([c] : List Nat) < [97]) := by
    intro q
    have := List.cons_lt_cons_iff.mp q
    rcases this with z | ⟨z, y⟩
    · omega
    · exact absurd y (by decide)
  simp [this]
theorem le_z {c : Nat} (h : c ≤ 122) : (!decide ((Str.ofString "z").cps.toList < (ch c).cps.toList)) = true := by
  have e : (Str.ofString "z").cps.toList = [122] := by decide +kernel
  rw [e]
  show (!decide (([122] : List Nat) < [c])) = true
  have : ¬ (([122] : List Nat) < [c]) := by
    intro q
    have := List.cons_lt_cons_iff.mp q
    rcases this with z | ⟨z, y⟩
    · omega
    · exact absurd y (by decide)
  simp [this]
theorem concat_of {α : Type} {l : List α} (h : l ≠ []) : ∃ a b, l = a ++ [b] := ⟨l.dropLast, l.getLast h, (List.dropLast_concat_getLast h).symm⟩
section
variable {P : Program} {w : World} {K : PySem.W.Frag} {mg : Str → Option Value} {base : Heap}
theorem ok_is_letter (T : Txt K mg) : FnOk P w K mg base CX0 1 T.f_is_letter T.d_is_letter ["thing"] sp_is_letter := by
  refine T.F_is_letter.ok sc_is_letter (fun vs H Q E h => ?_) (fun cdv A outer s H vs Q E hr h => ?_)
  · obtain ⟨c, rfl, _⟩ := h
    rfl
  obtain ⟨c, rfl, h0, h1, q⟩ := h
  refine ⟨_, (pss_one (ps_ret (pe_and (pe_callB call_isi (by rfl) T.z_isinstance (by decide +kernel) (pa_cons (pv 0) (pa_cons (pe_bltn (v := .ty "str") (by rfl) T.z_str (by decide +kernel) rfl) pa_nil))) (pe_and (pe_cmpR op_eq (pe_callB call_len_str (by rfl) T.z_len PySem.boot_len (pa_cons (pv 0) pa_nil)) pe_int (nomark _)) (pe_one (pe_chain op_le_str op_le_str pe_str (pv 0) pe_str)))))), ?_⟩
  refine ⟨_, rfl, _, _, _, _, true, rfl, .ty "str", .base (.str _), kit_ty (by decide +kernel), _, rfl, iteT ?_⟩
  refine ⟨_, rfl, _, rfl, (by show 1 ≤ sizeLine; decide), rfl, _, rfl, iteT ?_⟩
  refine ⟨_, rfl, _, _, rfl, rfl, _, rfl, ?_⟩
  rw [if_pos (le_a h0)]
  refine ⟨_, _, rfl, rfl, ?_⟩
  rw [le_z h1]
  exact q
theorem ok__is_part (T : Txt K mg) : FnOk P w K mg base CX0 2 T.f__is_part T.d__is_part ["thing"] sp__is_part := by
  have G_is_letter : FnOk P w K mg base CX0 1 T.f_is_letter T.d_is_letter ["thing"] sp_is_letter := ok_is_letter T
  refine T.F__is_part.ok sc__is_part (fun vs H Q E h => ?_) (fun cdv A outer s H vs Q E hr h => ?_)
  · obtain ⟨v, t, rfl, _⟩ := h
    rfl
  obtain ⟨v, t, rfl, ht, q⟩ := h
  refine ⟨_, (pss_cons (ps_if (PW.pt (pw_or (pt_not (pt_val (pe_callB call_isi (by rfl) T.z_isinstance (by decide +kernel) (pa_cons (pv 0) (pa_cons (pe_bltn (v := .ty "tuple") (by rfl) T.z_tuple (by decide +kernel) rfl) pa_nil))))) (pw_or1 (pt_cmpR op_ne (pe_callB call_len_seq (by rfl) T.z_len PySem.boot_len (pa_cons (pv 0) pa_nil)) pe_int (nomark _))))) (pss_one (ps_ret pe_bl)) pss_nil) (pss_one (ps_ret (pe_and (pe_call G_is_letter (hr.mono (by omega)) (by rfl) T.m_is_letter T.F_is_letter.kp T.b_is_letter .nil pass0 (pa_cons (pe_ix ix_tup (pv 0) pe_int (fun _ _ => rfl)) pa_nil)) (pe_one (pe_callB call_isi (by rfl) T.z_isinstance (by decide +kernel) (pa_cons (pe_ix ix_tup (pv 0) pe_int (fun _ _ => rfl)) (pa_cons (pe_bltn (v := .ty "list") (by rfl) T.z_list (by decide +kernel) rfl) pa_nil)))))))), ?_⟩
  obtain ⟨c, ks⟩ := t
  cases ht with
  | node h1 h2 _ _ c1 c2 _ =>
    refine ⟨_, rfl, _, _, _, _, true, rfl, .ty "tuple", .base (.tup h1), kit_ty (by decide +kernel), _, rfl, iteF ?_⟩
    refine ⟨_, rfl, _, _, rfl, .inr (SqT.of h1), rfl, _, rfl, iteF ?_⟩
    refine ⟨_, rfl, _, _, 0, _, rfl, rfl, SqT.of h1, atI_nat (j := 0) rfl, _, rfl, c1, c2, _, rfl, iteT ?_⟩
    exact ⟨_, rfl, _, _, 1, _, rfl, rfl, SqT.of h1, atI_nat (j := 1) rfl, _, _, _, _, true, rfl, .ty "list", .base (.lst h2), kit_ty (by decide +kernel), q⟩
theorem ok_is_tree (T : Txt K mg) : FnOk P w K mg base CX0 3 T.f_is_tree T.d_is_tree ["thing"] sp_is_tree := by
  have G__is_part : FnOk P w K mg base CX0 2 T.f__is_part T.d__is_part ["thing"] sp__is_part := ok__is_part T
  refine T.F_is_tree.ok sc_is_tree (fun vs H Q E h => ?_) (fun cdv A outer s H vs Q E hr h => ?_)
  · obtain ⟨v, t, rfl, _⟩ := h
    rfl
  obtain ⟨v, t, rfl, ht, hz, q⟩ := h
  refine ⟨_, (pss_cons (ps_set (i := 1) sc_is_tree.nd rfl (Or.inl rfl) (pe_lst (pa_cons (pv 0) pa_nil))) (pss_cons (ps_while PassesOwn.never (pt_truth (pv 1) (by intro _; rfl)) (pss_cons (ps_set (i := 2) sc_is_tree.nd rfl (Or.inl rfl) (pe_bm0 PySem.F.plainAttrs_list PySem.F.slot_list_pop PySem.F.type_list_pop mt_pop (pv 1))) (pss_cons (ps_if (pt_not (pt_val (pe_call G__is_part (hr.mono (by omega)) (by rfl) T.m__is_part T.F__is_part.kp T.b__is_part .nil pass0 (pa_cons (pv 2) pa_nil)))) (pss_one (ps_ret pe_bl)) pss_nil) (pss_one (ps_expr (pe_bm PySem.F.plainAttrs_list PySem.F.slot_list_extend PySem.F.type_list_extend mt_extend (pv 1) (pa_cons (pe_ix ix_tup (pv 2) pe_int (fun _ _ => rfl)) pa_nil))))))) (pss_one (ps_ret pe_bl)))), ?_⟩
  refine ⟨_, rfl, (by show 1 ≤ sizeLine; decide), fun p hp => ?_⟩
  refine ⟨fun m σ H' => ∃ y ws ts, σ = [some v, some (.ref p), y] ∧ H' p = some (.lst ws) ∧ TrsAt (fun b => True ∧ b ≠ p) H' ws ts ∧ sizes ts = m ∧ m ≤ 1000000 ∧ Same H H',
    ⟨t.size, none, [v], [t], rfl, upd_same, .cons ((ht.off hp).same (same_new hp)) .nil, by simp only [sizes]; omega, hz, same_new hp⟩, ?_⟩
  rintro m σ H' ⟨y, ws, ts, rfl, hw, hts, hm, hm2, hs⟩
  by_cases he : ws = []
  · subst he
    refine ⟨_, rfl, false, .inl ⟨_, SqL.of hw, rfl⟩, iteF ?_⟩
    exact q _ hs
  · refine ⟨_, rfl, true, .inl ⟨_, SqL.of hw, by cases ws with | nil => exact absurd rfl he | cons a b => rfl⟩, iteT ?_⟩
    obtain ⟨ws', x, rfl⟩ := concat_of he
    obtain ⟨ts', tl, rfl, h1, h2⟩ := TrsAt.split hts
    cases h2 with
    | cons hx hn =>
      cases hn
      rename_i tx
      obtain ⟨c, ks⟩ := tx
      refine ⟨fun σ2 H2 => ∃ y ws ts, σ2 = [some v, some (.ref p), y] ∧ H2 p = some (.lst ws) ∧ TrsAt (fun b => True ∧ b ≠ p) H2 ws ts ∧ sizes ts < m ∧ Same H H2, fun σ2 H2 ⟨y, ws, ts, e1, e2, e3, e4, e5⟩ => ⟨sizes ts, e4, y, ws, ts, e1, e2, e3, rfl, by omega, e5⟩, ?_⟩
      refine ⟨_, rfl, .inl ⟨rfl, _, SqL.of hw⟩, _, _, x, rfl, rfl, hw, by simp, ?_⟩
      have kp : ∀ b u, (True ∧ b ≠ p) → H' b = some u → (upd H' p (.lst (ws' ++ [x]).dropLast)) b = some u := upd_keep fun b h => h.2
      have hx2 := hx.keep kp
      have hp3 : (upd H' p (.lst (ws' ++ [x]).dropLast)) p = some (.lst ws') := by rw [upd_same, List.dropLast_concat]
      refine ⟨_, rfl, x, _, rfl, hx2.weak fun _ _ => trivial, _, rfl, iteF ?_⟩
      cases hx2 with
      | node g1 g2 k1 k2 c1 c2 r =>
        have ll := r.len
        have l2 := h1.len
        have l3 := len_sizes ts'
        have l4 := len_sizes ks
        rw [sizes_append] at hm
        simp only [sizes, Tr.size] at hm
        refine ⟨_, rfl, .inl ⟨rfl, _, SqL.of hp3⟩, _, rfl, _, _, 1, _, rfl, rfl, SqT.of g1, atI_nat (j := 1) rfl, p, _, ws', _, rfl, rfl, hp3, g2, ?_, ?_⟩
        · exact Nat.le_trans (show ws'.length + _ ≤ 1000000 by omega) (by decide)
        · refine ⟨some _, _, ts' ++ ks, rfl, upd_same, ?_, ?_, ?_⟩
          · exact ((h1.keep kp).append r).keep (upd_keep fun b h => h.2)
          · rw [sizes_append]
            omega
          · exact same_add (same_add hs hp) hp
theorem ok_check_tree (T : Txt K mg) : FnOk P w K mg base CX0 4 T.f_check_tree T.d_check_tree ["thing"] sp_check_tree := by
  have G_is_tree : FnOk P w K mg base CX0 3 T.f_is_tree T.d_is_tree ["thing"] sp_is_tree := ok_is_tree T
  refine T.F_check_tree.ok sc_check_tree (fun vs H Q E h => ?_) (fun cdv A outer s H vs Q E hr h => ?_)
  · obtain ⟨v, t, rfl, _⟩ := h
    rfl
  obtain ⟨v, t, rfl, ht, hz, q⟩ := h
  refine ⟨_, (pss_one (ps_if (pt_not (pt_val (pe_call G_is_tree (hr.mono (by omega)) (by rfl) T.m_is_tree T.F_is_tree.kp T.b_is_tree .nil pass0 (pa_cons (pv 0) pa_nil)))) (pss_one ps_never) pss_nil)), ?_⟩
  refine ⟨_, rfl, v, t, rfl, ht, hz, fun H' hs => ⟨_, rfl, iteF ?_⟩⟩
  exact q _ hs
theorem ok_parts_upward (T : Txt K mg) : FnOk P w K mg base CX0 5 T.f_parts_upward T.d_parts_upward ["tree"] sp_parts_upward := by
  have G_check_tree : FnOk P w K mg base CX0 4 T.f_check_tree T.d_check_tree ["thing"] sp_check_tree := ok_check_tree T
  refine T.F_parts_upward.ok sc_parts_upward (fun vs H Q E h => ?_) (fun cdv A outer s H vs Q E hr h => ?_)
  · obtain ⟨v, t, ok, rfl, _⟩ := h
    rfl
  obtain ⟨v, t, ok, rfl, ht, hz, q⟩ := h
  refine ⟨_, (pss_cons (ps_expr (pe_call G_check_tree (hr.mono (by omega)) (by rfl) T.m_check_tree T.F_check_tree.kp T.b_check_tree .nil pass0 (pa_cons (pv 0) pa_nil))) (pss_cons (ps_set (i := 1) sc_parts_upward.nd rfl (Or.inl rfl) (pe_lst pa_nil)) (pss_cons (ps_set (i := 2) sc_parts_upward.nd rfl (Or.inl rfl) (pe_lst (pa_cons (pv 0) pa_nil))) (pss_cons (ps_while PassesOwn.never (pt_truth (pv 2) (by intro _; rfl)) (pss_cons (ps_set (i := 3) sc_parts_upward.nd rfl (Or.inl rfl) (pe_bm0 PySem.F.plainAttrs_list PySem.F.slot_list_pop PySem.F.type_list_pop mt_pop (pv 2))) (pss_cons (ps_expr (pe_bm PySem.F.plainAttrs_list PySem.F.slot_list_append PySem.F.type_list_append mt_append (pv 1) (pa_cons (pv 3) pa_nil))) (pss_one (ps_expr (pe_bm PySem.F.plainAttrs_list PySem.F.slot_list_extend PySem.F.type_list_extend mt_extend (pv 2) (pa_cons (pe_ix ix_tup (pv 3) pe_int (fun _ _ => rfl)) pa_nil))))))) (pss_one (ps_ret (pe_revL (pv 1)))))))), ?_⟩
  refine ⟨_, rfl, v, t, rfl, ht.weak fun _ _ => trivial, hz, fun H1 s1 => ?_⟩
  have ht1 := ((TrAt.there t v ht).same s1).weak (ok' := fun b => ok b ∧ H b ≠ none) fun b ⟨k, o, e⟩ => ⟨k, by rw [e]; simp⟩
  refine ⟨(by show 0 ≤ sizeLine; decide), fun a ha => ?_⟩
  refine ⟨_, rfl, (by show 1 ≤ sizeLine; decide), fun p hp => ?_⟩
  have nap : a ≠ p := fun e => by rw [e, upd_same] at hp; cases hp
  have hp1 : H1 p = none := by rw [upd_ne (fun e => nap e.symm)] at hp; exact hp
  have ha0 : H a = none := s1.free ha
  have hp0 : H p = none := s1.free hp1
  have oka : ∀ b, (ok b ∧ H b ≠ none) → b ≠ a := fun b h e => h.2 (by rw [e]; exact ha0)
  have okp : ∀ b, (ok b ∧ H b ≠ none) → b ≠ p := fun b h e => h.2 (by rw [e]; exact hp0)
  refine ⟨fun m σ H' => ∃ y as tas ws ts, σ = [some v, some (.ref a), some (.ref p), y] ∧ H' a = some (.lst as) ∧ H' p = some (.lst ws) ∧ TrsAt (fun b => ok b ∧ H b ≠ none) H' as tas ∧ TrsAt (fun b => ok b ∧ H b ≠ none) H' ws ts ∧
      tas ++ (posts ts).reverse = t.post.reverse ∧ sizes ts = m ∧ Same H H',
    ⟨t.size, none, [], [], [v], [t], rfl, by rw [upd_ne nap]; exact upd_same, upd_same, .nil, .cons ((ht1.keep (upd_keep oka)).keep (upd_keep okp)) .nil, by simp only [posts, List.append_nil, List.nil_append], by simp only [sizes]; omega, same_add (same_add s1 ha0) hp0⟩, ?_⟩
  rintro m σ H' ⟨y, as, tas, ws, ts, rfl, hA, hw, hta, hts, hpo, hm, hs⟩
  have hlen : tas.length + sizes ts = t.size := by
    have := congrArg List.length hpo
    rw [List.length_append, List.length_reverse, List.length_reverse, posts_len, post_len] at this
    exact this
  by_cases he : ws = []
  · subst he
    cases hts
    refine ⟨_, rfl, false, .inl ⟨_, SqL.of hw, rfl⟩, iteF ?_⟩
    refine ⟨_, rfl, a, as, rfl, SqL.of hA, fun r hr' => ?_⟩
    have hr0 : H r = none := hs.free hr'
    refine q r as.reverse _ (same_add hs hr0) hr0 upd_same ?_
    have e : tas.reverse = t.post := by
      simp only [posts, List.reverse_nil, List.append_nil] at hpo
      rw [hpo, List.reverse_reverse]
    rw [← e]
    exact hta.rev.keep (upd_keep fun b h e => h.2 (by rw [e]; exact hr0))
  · refine ⟨_, rfl, true, .inl ⟨_, SqL.of hw, by cases ws with | nil => exact absurd rfl he | cons a b => rfl⟩, iteT ?_⟩
    obtain ⟨ws', x, rfl⟩ := concat_of he
    obtain ⟨ts', tl, rfl, h1, h2⟩ := TrsAt.split hts
    cases h2 with
    | cons hx hn =>
      cases hn
      rename_i tx
      obtain ⟨c, ks⟩ := tx
      rw [sizes_append] at hm hlen
      simp only [sizes, Tr.size] at hm hlen
      refine ⟨fun σ2 H2 => ∃ y as tas ws ts, σ2 = [some v, some (.ref a), some (.ref p), y] ∧ H2 a = some (.lst as) ∧ H2 p = some (.lst ws) ∧ TrsAt (fun b => ok b ∧ H b ≠ none) H2 as tas ∧ TrsAt (fun b => ok b ∧ H b ≠ none) H2 ws ts ∧
        tas ++ (posts ts).reverse = t.post.reverse ∧ sizes ts < m ∧ Same H H2, fun σ2 H2 ⟨y, as, tas, ws, ts, e1, e2, e3, e4, e5, e6, e7, e8⟩ => ⟨sizes ts, e7, y, as, tas, ws, ts, e1, e2, e3, e4, e5, e6, rfl, e8⟩, ?_⟩
      refine ⟨_, rfl, .inl ⟨rfl, _, SqL.of hw⟩, _, _, x, rfl, rfl, hw, by simp, ?_⟩
      have kp : ∀ b u, (ok b ∧ H b ≠ none) → H' b = some u → (upd H' p (.lst (ws' ++ [x]).dropLast)) b = some u := upd_keep okp
      have hA2 : (upd H' p (.lst (ws' ++ [x]).dropLast)) a = some (.lst as) := by rw [upd_ne nap]; exact hA
      have la := hta.len
      refine ⟨_, rfl, .inl ⟨rfl, _, SqL.of hA2⟩, _, rfl, a, as, x, rfl, rfl, hA2, Nat.lt_of_le_of_lt (show as.length ≤ 1000000 by omega) (by decide), ?_⟩
      have hx3 := (hx.keep kp).keep (upd_keep (o := .lst (as ++ [x])) oka)
      have hp3 : (upd (upd H' p (.lst (ws' ++ [x]).dropLast)) a (.lst (as ++ [x]))) p = some (.lst ws') := by
        rw [upd_ne (fun e => nap e.symm), upd_same, List.dropLast_concat]
      have hx3' := hx3
      cases hx3 with
      | node g1 g2 k1 k2 c1 c2 r =>
        have ll := r.len
        have l2 := h1.len
        have l3 := len_sizes ts'
        have l4 := len_sizes ks
        refine ⟨_, rfl, .inl ⟨rfl, _, SqL.of hp3⟩, _, rfl, _, _, 1, _, rfl, rfl, SqT.of g1, atI_nat (j := 1) rfl, p, _, ws', _, rfl, rfl, hp3, g2, ?_, ?_⟩
        · exact Nat.le_trans (show ws'.length + _ ≤ 1000000 by omega) (by decide)
        · refine ⟨some _, as ++ [_], tas ++ [Tr.node c ks], _, ts' ++ ks, rfl, by rw [upd_ne nap]; exact upd_same, upd_same, ?_, ?_, ?_, ?_, ?_⟩
          · exact (((hta.keep kp).keep (upd_keep oka)).append (.cons hx3' .nil)).keep (upd_keep okp)
          · exact (((h1.keep kp).keep (upd_keep oka)).append r).keep (upd_keep okp)
          · rw [← hpo, posts_append, posts_append]
            simp only [posts, Tr.post, List.reverse_append, List.append_assoc, List.append_nil, List.reverse_cons, List.reverse_nil, List.nil_append, List.singleton_append, List.cons_append]
          · rw [sizes_append]
            omega
          · exact same_add (same_add (same_add hs hp0) ha0) hp0
end


def kidss : List Tr → List Tr
  | [] => []
  | t :: r => t.kids ++ kidss r
theorem kidss_append : ∀ a b : List Tr, kidss (a ++ b) = kidss a ++ kidss b
  | [], b => rfl
  | t :: r, b => by simp only [List.cons_append, kidss, kidss_append r b, List.append_assoc]
theorem kidss_sizes : ∀ ts : List Tr, sizes (kidss ts) + ts.length = sizes ts
  | [] => rfl
  | .node c ks :: r => by
    have := kidss_sizes r
    simp only [kidss, Tr.kids, sizes_append, sizes, Tr.size, List.length_cons]
    omega
theorem depths_zero : ∀ {ts : List Tr}, ts = [] → depths ts = 0
  | _, rfl => rfl
theorem kidss_depths : ∀ ts : List Tr, ts ≠ [] → depths (kidss ts) + 1 = depths ts
  | [], h => absurd rfl h
  | .node c ks :: r, _ => by
    by_cases e : r = []
    · subst e
      simp only [kidss, Tr.kids, List.append_nil, depths, Tr.depth]
      omega
    · have := kidss_depths r e
      simp only [kidss, Tr.kids, depths_append, depths, Tr.depth]
      omega
def sp_size_of : Sp := fun vs H Q _ => ∃ (v : V) (t : Tr), vs = [v] ∧ TrAt (fun _ => True) H v t ∧ t.size ≤ 1000000 ∧ ∀ H', Same H H' → Q (.int t.size) H'
def sp_depth_of : Sp := fun vs H Q _ => ∃ (v : V) (t : Tr), vs = [v] ∧ TrAt (fun _ => True) H v t ∧ t.size ≤ 1000000 ∧ ∀ H', Same H H' → Q (.int t.depth) H'
section
variable {P : Program} {w : World} {K : PySem.W.Frag} {mg : Str → Option Value} {base : Heap}
theorem ok_size_of (T : Txt K mg) : FnOk P w K mg base CX0 6 T.f_size_of T.d_size_of ["tree"] sp_size_of := by
  have G_parts_upward : FnOk P w K mg base CX0 5 T.f_parts_upward T.d_parts_upward ["tree"] sp_parts_upward := ok_parts_upward T
  refine T.F_size_of.ok sc_size_of (fun vs H Q E h => ?_) (fun cdv A outer s H vs Q E hr h => ?_)
  · obtain ⟨v, t, rfl, _⟩ := h
    rfl
  obtain ⟨v, t, rfl, ht, hz, q⟩ := h
  refine ⟨_, (pss_one (ps_ret (pe_callB call_len_seq (by rfl) T.z_len PySem.boot_len (pa_cons (pe_call G_parts_upward (hr.mono (by omega)) (by rfl) T.m_parts_upward T.F_parts_upward.kp T.b_parts_upward .nil pass0 (pa_cons (pv 0) pa_nil)) pa_nil)))), ?_⟩
  refine ⟨_, rfl, v, t, _, rfl, ht, hz, fun r ws H' hs hr0 hr1 hts => ?_⟩
  refine ⟨_, _, rfl, .inl (SqL.of hr1), ?_⟩
  rw [hts.len, post_len]
  exact q _ hs
theorem ok_depth_of (T : Txt K mg) : FnOk P w K mg base CX0 5 T.f_depth_of T.d_depth_of ["tree"] sp_depth_of := by
  have G_check_tree : FnOk P w K mg base CX0 4 T.f_check_tree T.d_check_tree ["thing"] sp_check_tree := ok_check_tree T
  refine T.F_depth_of.ok sc_depth_of (fun vs H Q E h => ?_) (fun cdv A outer s H vs Q E hr h => ?_)
  · obtain ⟨v, t, rfl, _⟩ := h
    rfl
  obtain ⟨v, t, rfl, ht, hz, q⟩ := h
  refine ⟨_, (pss_cons (ps_expr (pe_call G_check_tree (hr.mono (by omega)) (by rfl) T.m_check_tree T.F_check_tree.kp T.b_check_tree .nil pass0 (pa_cons (pv 0) pa_nil))) (pss_cons (ps_set (i := 1) sc_depth_of.nd rfl (Or.inl rfl) pe_int) (pss_cons (ps_set (i := 2) sc_depth_of.nd rfl (Or.inl rfl) (pe_lst (pa_cons (pv 0) pa_nil))) (pss_cons (ps_while PassesOwn.never (pt_truth (pv 2) (by intro _; rfl)) (pss_cons (ps_aug (i := 1) sc_depth_of.nd rfl (Or.inl rfl) pe_int ip_add) (pss_one (ps_setLc2 (i := 2) (own := [("part", 3), ("child", 4)]) (vs1 := [4]) (g := gName 3) (g1 := gName 4) (tt := tYes) (tt1 := tYes) (wi1 := iList K (tOp (rIxT K) (tVar 3) (tC (.int 1)))) rfl sc_depth_of.nd rfl rfl (sw_true rfl rfl rfl (by decide +kernel)) (pi_list (pv 2)) (blkOk_by (own := [("part", 3), ("child", 4)]) (N := ["tree", "depth", "level", "part", "child"]) (sc := (defScope s_depth_of)) (by decide +kernel)) (by decide) (fun _ _ _ _ _ => (pg_name (i := 3) sc_depth_of.nd rfl (Or.inl rfl))) (fun _ _ _ _ _ => pts_nil) (fun _ _ _ _ _ => (pi_list (pe_ix ix_tup (pv 3) pe_int (fun _ _ => rfl)))) (fun _ _ _ _ _ => (pg_name (i := 4) sc_depth_of.nd rfl (Or.inl rfl))) (fun _ _ _ _ _ => pts_nil) (fun _ _ _ _ _ => (pv 4)))))) (pss_one (ps_ret (pv 1))))))), ?_⟩
  refine ⟨_, rfl, v, t, rfl, ht, hz, fun H1 s1 => ?_⟩
  have ht1 := ((TrAt.there t v ht).same s1).weak (ok' := fun b => H b ≠ none) fun b ⟨_, o, e⟩ => by rw [e]; simp
  refine ⟨_, rfl, (by show 1 ≤ sizeLine; decide), fun l0 hl0 => ?_⟩
  refine ⟨fun m σ H' => ∃ (d : Nat) (lv : Addr) (ws : List V) (ts : List Tr) (y3 y4 : Option V), σ = [some v, some (.int d), some (.ref lv), y3, y4] ∧ H' lv = some (.lst ws) ∧ TrsAt (fun b => H b ≠ none) H' ws ts ∧ d + depths ts = t.depth ∧ sizes ts ≤ 1000000 ∧ m = depths ts ∧ Same H H',
    ⟨t.depth, 0, l0, [v], [t], none, none, rfl, upd_same, .cons (ht1.same (same_new hl0)) .nil, by simp only [depths]; omega, by simp only [sizes]; omega, by simp only [depths]; omega, same_add s1 (s1.free hl0)⟩, ?_⟩
  rintro m σ H' ⟨d, lv, ws, ts, y3, y4, rfl, hL, hts, hd, hz2, rfl, hs⟩
  by_cases he : ws = []
  · subst he
    refine ⟨_, rfl, false, .inl ⟨_, SqL.of hL, rfl⟩, iteF ?_⟩
    cases hts
    simp only [depths, Nat.add_zero] at hd
    rw [← hd] at q
    exact ⟨_, rfl, q _ hs⟩
  · refine ⟨_, rfl, true, .inl ⟨_, SqL.of hL, by cases ws with | nil => exact absurd rfl he | cons a b => rfl⟩, iteT ?_⟩
    have hne : ts ≠ [] := fun e => by
      subst e
      cases hts
      exact he rfl
    refine ⟨fun σ2 H2 => ∃ (d : Nat) (lv : Addr) (ws : List V) (ts2 : List Tr) (y3 y4 : Option V), σ2 = [some v, some (.int d), some (.ref lv), y3, y4] ∧ H2 lv = some (.lst ws) ∧ TrsAt (fun b => H b ≠ none) H2 ws ts2 ∧ d + depths ts2 = t.depth ∧ sizes ts2 ≤ 1000000 ∧ depths ts2 < depths ts ∧ Same H H2,
      fun σ2 H2 ⟨d, lv, ws, ts2, y3, y4, e1, e2, e3, e4, e5, e6, e7⟩ => ⟨depths ts2, e6, d, lv, ws, ts2, y3, y4, e1, e2, e3, e4, e5, rfl, e7⟩, ?_⟩
    refine ⟨_, rfl, _, 1, rfl, rfl, _, rfl, lv, rfl, ⟨_, SqL.of hL⟩, fun D hD => ?_⟩
    have hD0 : H D = none := hs.free hD
    have nDl : lv ≠ D := ne_of_none hL hD
    have okD : ∀ b, H b ≠ none → b ≠ D := fun b h e => h (by rw [e]; exact hD0)
    have ks := kidss_sizes ts
    have kd := kidss_depths ts hne
    refine lc_outer (xs := ws) (fun i H2 => ∃ acc, H2 D = some (.lst acc) ∧ TrsAt (fun b => H b ≠ none) H2 acc (kidss (ts.take i)) ∧ H2 lv = some (.lst ws) ∧ TrsAt (fun b => H b ≠ none) H2 ws ts ∧ Same H H2)
      ⟨[], upd_same, .nil, by rw [upd_ne nDl]; exact hL, hts.keep (upd_keep okD), same_add hs hD0⟩ (fun i H2 _ ⟨acc, _, _, h3, _⟩ => SqL.of h3) ?_ ?_
    · rintro i x H2 hx ⟨acc, h1, h2, h3, h4, h5⟩
      obtain ⟨t1, ht1, hx2⟩ := h4.getV hx
      obtain ⟨c, k1⟩ := t1
      refine ⟨rfl, ?_⟩
      cases hx2 with
      | node g1 g2 o1 o2 c1 c2 r =>
        refine ⟨_, rfl, _, _, 1, _, rfl, rfl, SqT.of g1, atI_nat (j := 1) rfl, _, rfl, ⟨_, SqL.of g2⟩, ?_⟩
        rename_i ad l kv
        refine lc_outer (xs := kv) (fun j H3 => ∃ acc, H3 D = some (.lst acc) ∧ TrsAt (fun b => H b ≠ none) H3 acc (kidss (ts.take i) ++ k1.take j) ∧ H3 l = some (.lst kv) ∧ TrsAt (fun b => H b ≠ none) H3 kv k1 ∧ H3 lv = some (.lst ws) ∧ TrsAt (fun b => H b ≠ none) H3 ws ts ∧ Same H H3)
          ⟨acc, h1, by simpa using h2, g2, r, h3, h4, h5⟩ (fun j H3 _ ⟨_, _, _, q3, _⟩ => SqL.of q3) ?_ ?_
        · rintro j y H3 hy ⟨acc, q1, q2, q3, q4, q5, q6, q7⟩
          obtain ⟨u, hu, hy2⟩ := q4.getV hy
          have ez : kidss (ts.take (i + 1)) = kidss (ts.take i) ++ k1 := by
            rw [take_succ_of ht1, kidss_append]
            simp only [kidss, Tr.kids, List.append_nil]
          have zs : sizes (kidss (ts.take i) ++ k1) ≤ sizes (kidss ts) := by
            rw [← ez]
            have := congrArg sizes (congrArg kidss (List.take_append_drop (i + 1) ts))
            rw [kidss_append, sizes_append] at this
            omega
          have zl : acc.length ≤ 1000000 := by
            have a1 := q2.len
            have a2 := len_sizes (kidss (ts.take i) ++ k1.take j)
            have a3 := congrArg sizes (List.take_append_drop j k1)
            rw [sizes_append] at a3
            rw [sizes_append] at a2 zs
            omega
          have nl : l ≠ D := fun e => o2 (by rw [e]; exact hD0)
          refine ⟨rfl, _, rfl, acc, q1, Nat.lt_of_le_of_lt zl (by decide), acc ++ [y], upd_same, ?_, by rw [upd_ne nl]; exact q3, q4.keep (upd_keep okD), by rw [upd_ne nDl]; exact q5, q6.keep (upd_keep okD), same_add q7 hD0⟩
          rw [take_succ_of hu, ← List.append_assoc]
          exact (q2.append (.cons hy2 .nil)).keep (upd_keep okD)
        · rintro H3 ⟨acc, q1, q2, q3, q4, q5, q6, q7⟩
          refine ⟨acc, q1, ?_, q5, q6, q7⟩
          rw [r.len, List.take_length] at q2
          rw [take_succ_of ht1, kidss_append]
          simp only [kidss, Tr.kids, List.append_nil]
          exact q2
    · rintro H2 ⟨acc, h1, h2, h3, h4, h5⟩
      rw [hts.len, List.take_length] at h2
      exact ⟨d + 1, D, acc, kidss ts, _, _, rfl, h1, h2, by omega, by omega, by omega, h5⟩
end

def brk : List Nat → List Nat
  | [] => []
  | x :: l => 40 :: ((x :: l) ++ [41])
mutual
def Tr.wr : Tr → List Nat
  | .node c ks => c :: brk (wrs ks)
def wrs : List Tr → List Nat
  | [] => []
  | t :: r => t.wr ++ wrs r
end
def leW (a b : Tr) : Bool := decide (a.wr ≤ b.wr)
mutual
def Tr.told : Tr → Tr
  | .node c ks => .node c ((tolds ks).mergeSort leW)
def tolds : List Tr → List Tr
  | [] => []
  | t :: r => t.told :: tolds r
end
theorem tolds_map : ∀ ts : List Tr, tolds ts = ts.map Tr.told
  | [] => rfl
  | t :: r => by simp only [tolds, List.map_cons, tolds_map r]
theorem tolds_len (ts : List Tr) : (tolds ts).length = ts.length := by rw [tolds_map, List.length_map]
theorem wrs_append : ∀ a b : List Tr, wrs (a ++ b) = wrs a ++ wrs b
  | [], b => rfl
  | t :: r, b => by simp only [List.cons_append, wrs, wrs_append r b, List.append_assoc]
theorem leW_trans (a b c : Tr) (h : leW a b = true) (g : leW b c = true) : leW a c = true :=
  decide_eq_true (List.le_trans (of_decide_eq_true h) (of_decide_eq_true g))
theorem leW_total (a b : Tr) : (leW a b || leW b a) = true := by
  rcases List.le_total a.wr b.wr with h | h
  · simp [leW, h]
  · simp [leW, h]
abbrev Ltr (c : Nat) : Prop := 97 ≤ c ∧ c ≤ 122
theorem wr_ne (t : Tr) : t.wr ≠ [] := by
  cases t
  simp [Tr.wr]
theorem wr_head {t : Tr} (h : t.lets Ltr) : ∃ c l, t.wr = c :: l ∧ 97 ≤ c := by
  cases t with
  | node c ks =>
    simp only [Tr.lets] at h
    exact ⟨c, _, rfl, h.1.1⟩
theorem wrs_ne {t : Tr} {r : List Tr} : ∃ x l, wrs (t :: r) = x :: l := by
  cases t
  simp [wrs, Tr.wr]
theorem brk_wrs (t : Tr) (r : List Tr) : brk (wrs (t :: r)) = 40 :: (wrs (t :: r) ++ [41]) := by
  obtain ⟨x, l, e⟩ := wrs_ne (t := t) (r := r)
  rw [e]
  rfl
def nb (u : List Nat) : Prop := u.head? ≠ some 40
mutual
theorem wr_inj : ∀ (a b : Tr) (u v : List Nat), a.lets Ltr → b.lets Ltr → a.wr ++ u = b.wr ++ v → nb u → nb v → a = b ∧ u = v
  | .node c ks, .node d js, u, v, ha, hb, h, hu, hv => by
    simp only [Tr.lets] at ha hb
    simp only [Tr.wr, List.cons_append, List.cons.injEq] at h
    obtain ⟨rfl, h⟩ := h
    cases ks with
    | nil =>
      cases js with
      | nil => exact ⟨rfl, h⟩
      | cons j js =>
        obtain ⟨x, l, e⟩ := wrs_ne (t := j) (r := js)
        rw [e] at h
        simp only [wrs, brk, List.nil_append, List.cons_append] at h
        rw [h] at hu
        exact absurd rfl hu
    | cons k ks =>
      rw [brk_wrs k ks] at h
      cases js with
      | nil =>
        simp only [wrs, brk, List.nil_append, List.cons_append] at h
        rw [← h] at hv
        exact absurd rfl hv
      | cons j js =>
        rw [brk_wrs j js] at h
        simp only [List.cons_append, List.append_assoc, List.cons.injEq, true_and, List.singleton_append] at h
        obtain ⟨e1, e2⟩ := wrs_inj (k :: ks) (j :: js) u v ha.2 hb.2 h
        exact ⟨by rw [e1], e2⟩
theorem wrs_inj : ∀ (ks js : List Tr) (u v : List Nat), letss Ltr ks → letss Ltr js → wrs ks ++ 41 :: u = wrs js ++ 41 :: v → ks = js ∧ u = v
  | [], [], u, v, _, _, h => ⟨rfl, by simpa [wrs] using h⟩
  | [], j :: js, u, v, _, hb, h => by
    simp only [letss] at hb
    obtain ⟨c, l, e, hc⟩ := wr_head hb.1
    simp only [wrs, e, List.nil_append, List.cons_append, List.cons.injEq] at h
    omega
  | k :: ks, [], u, v, ha, _, h => by
    simp only [letss] at ha
    obtain ⟨c, l, e, hc⟩ := wr_head ha.1
    simp only [wrs, e, List.nil_append, List.cons_append, List.cons.injEq] at h
    omega
  | k :: ks, j :: js, u, v, ha, hb, h => by
    simp only [letss] at ha hb
    simp only [wrs, List.append_assoc] at h
    have nbk : ∀ (l : List Tr) (w : List Nat), letss Ltr l → nb (wrs l ++ 41 :: w) := by
      intro l w hl
      cases l with
      | nil => simp [nb, wrs]
      | cons a b =>
        simp only [letss] at hl
        obtain ⟨c, m, e, hc⟩ := wr_head hl.1
        simp only [nb, wrs, e, List.cons_append, List.head?_cons]
        intro h
        cases h
        omega
    have := wr_inj k j _ _ ha.1 hb.1 h (nbk _ _ ha.2) (nbk _ _ hb.2)
    obtain ⟨rfl, h2⟩ := this
    obtain ⟨rfl, h3⟩ := wrs_inj ks js u v ha.2 hb.2 h2
    exact ⟨rfl, h3⟩
end
theorem wr_eq {a b : Tr} (ha : a.lets Ltr) (hb : b.lets Ltr) (h : a.wr = b.wr) : a = b :=
  (wr_inj a b [] [] ha hb (by rw [h]) (by simp [nb]) (by simp [nb])).1
mutual
theorem told_lets {p : Nat → Prop} : ∀ t : Tr, t.lets p → t.told.lets p
  | .node c ks, h => by
    simp only [Tr.lets, Tr.told] at h ⊢
    exact ⟨h.1, letss_perm (List.mergeSort_perm _ _).symm (tolds_lets ks h.2)⟩
theorem tolds_lets {p : Nat → Prop} : ∀ ts : List Tr, letss p ts → letss p (tolds ts)
  | [], _ => trivial
  | t :: r, h => by
    simp only [letss, tolds] at h ⊢
    exact ⟨told_lets t h.1, tolds_lets r h.2⟩
end
theorem sorted_is {a b : List Tr} (ha : letss Ltr b) (hp : a.Perm b) (hs : a.Pairwise fun x y => leW x y = true) : a = b.mergeSort leW := by
  refine List.Perm.eq_of_pairwise (le := fun x y => leW x y = true) ?_ hs (List.pairwise_mergeSort leW_trans leW_total _) (hp.trans (List.mergeSort_perm _ _).symm)
  intro x y hx hy h g
  have hx2 := letss_mem ha (hp.mem_iff.mp hx)
  have hy2 := letss_mem ha ((List.mergeSort_perm _ _).mem_iff.mp hy)
  exact wr_eq hx2 hy2 (List.le_antisymm (of_decide_eq_true h) (of_decide_eq_true g))
theorem sort_perm {a b : List Tr} (ha : letss Ltr b) (hp : a.Perm b) : a.mergeSort leW = b.mergeSort leW :=
  sorted_is ha ((List.mergeSort_perm _ _).trans hp) (List.pairwise_mergeSort leW_trans leW_total _)
theorem tolds_perm {a b : List Tr} (h : a.Perm b) : (tolds a).Perm (tolds b) := by
  rw [tolds_map, tolds_map]
  exact h.map _
mutual
theorem Sh.told : ∀ {t u : Tr}, Sh t u → t.lets Ltr → t.told = u.told
  | _, _, .node (ks := ks) (us := us) (ls := ls) p h, hl => by
    simp only [Tr.lets] at hl
    simp only [Tr.told]
    have e := Shs.told h (letss_perm p hl.2)
    rw [sort_perm (tolds_lets _ (letss_perm p hl.2)) (tolds_perm p), e]
theorem Shs.told : ∀ {ts us : List Tr}, Shs ts us → My.letss Ltr ts → tolds ts = tolds us
  | _, _, .nil, _ => rfl
  | _, _, .cons a b, hl => by
    simp only [My.letss] at hl
    simp only [tolds, Sh.told a hl.1, Shs.told b hl.2]
end
theorem sizes_sort (ts : List Tr) : sizes (ts.mergeSort leW) = sizes ts := sizes_perm (List.mergeSort_perm _ _)
theorem depths_sort (ts : List Tr) : depths (ts.mergeSort leW) = depths ts := depths_perm (List.mergeSort_perm _ _)
mutual
theorem told_size : ∀ t : Tr, t.told.size = t.size
  | .node c ks => by simp only [Tr.told, Tr.size, sizes_sort, tolds_sizes ks]
theorem tolds_sizes : ∀ ts : List Tr, sizes (tolds ts) = sizes ts
  | [] => rfl
  | t :: r => by simp only [tolds, sizes, told_size t, tolds_sizes r]
end
mutual
theorem told_depth : ∀ t : Tr, t.told.depth = t.depth
  | .node c ks => by simp only [Tr.told, Tr.depth, depths_sort, tolds_depths ks]
theorem tolds_depths : ∀ ts : List Tr, depths (tolds ts) = depths ts
  | [] => rfl
  | t :: r => by simp only [tolds, depths, told_depth t, tolds_depths r]
end
mutual
theorem wr_len : ∀ t : Tr, t.wr.length ≤ 3 * t.size
  | .node c ks => by
    have := wrs_len ks
    have e : (brk (wrs ks)).length ≤ (wrs ks).length + 2 := by
      cases wrs ks with
      | nil => simp [brk]
      | cons x l => simp [brk]
    simp only [Tr.wr, Tr.size, List.length_cons]
    omega
theorem wrs_len : ∀ ts : List Tr, (wrs ts).length ≤ 3 * sizes ts
  | [] => by simp [wrs]
  | t :: r => by
    have a := wr_len t
    have b := wrs_len r
    simp only [wrs, sizes, List.length_append]
    omega
end
def steps : List Tr → List Tr → Option (List Tr)
  | s, [] => some s
  | s, .node c ks :: r => if ks.length ≤ s.length then steps (s.take (s.length - ks.length) ++ [.node c ((s.drop (s.length - ks.length)).mergeSort leW)]) r else none
mutual
theorem steps_post : ∀ (t : Tr) (s r : List Tr), steps s (t.post ++ r) = steps (s ++ [t.told]) r
  | .node c ks, s, r => by
    have e := steps_posts ks s (.node c ks :: r)
    simp only [Tr.post, List.append_assoc, List.singleton_append]
    rw [e]
    have l := tolds_len ks
    simp only [steps, List.length_append, l, Nat.add_sub_cancel, Nat.le_add_left, if_true, Tr.told]
    rw [List.take_left, List.drop_left]
theorem steps_posts : ∀ (ts : List Tr) (s r : List Tr), steps s (posts ts ++ r) = steps (s ++ tolds ts) r
  | [], s, r => by simp only [posts, tolds, List.nil_append, List.append_nil]
  | t :: ts, s, r => by
    simp only [posts, tolds, List.append_assoc]
    rw [steps_post t s (posts ts ++ r), steps_posts ts (s ++ [t.told]) r]
    simp only [List.append_assoc, List.singleton_append]
end
theorem steps_all (t : Tr) : steps [] t.post = some [t.told] := by
  have := steps_post t [] []
  rw [List.append_nil] at this
  rw [this]
  rfl
mutual
theorem told_told : ∀ t : Tr, t.lets Ltr → t.told.told = t.told
  | .node c ks, h => by
    simp only [Tr.lets] at h
    simp only [Tr.told]
    have e : tolds ((tolds ks).mergeSort leW) = (tolds ks).mergeSort leW := by
      rw [tolds_map]
      have : ∀ x ∈ (tolds ks).mergeSort leW, x.told = x := fun x hx => tolds_fix ks h.2 x ((List.mergeSort_perm _ _).mem_iff.mp hx)
      exact (List.map_congr_left this).trans (List.map_id' _)
    rw [e, sort_perm (tolds_lets ks h.2) (List.mergeSort_perm _ _)]
theorem tolds_fix : ∀ ts : List Tr, letss Ltr ts → ∀ x ∈ tolds ts, x.told = x
  | [], _, x, hx => by simp [tolds] at hx
  | t :: r, h, x, hx => by
    simp only [letss] at h
    simp only [tolds, List.mem_cons] at hx
    rcases hx with rfl | hx
    · exact told_told t h.1
    · exact tolds_fix r h.2 x hx
end

mutual
inductive TrO (ok : Addr → Prop) (H : Hp) : V → Tr → List Addr → Prop
  | node {a l : Addr} {vs : List V} {c : Nat} {ks : List Tr} {as : List Addr} : H a = some (.tup [.str (ch c), .ref l]) → H l = some (.lst vs) → ok a → ok l → 97 ≤ c → c ≤ 122 → TrsO ok H vs ks as → TrO ok H (.ref a) (.node c ks) (l :: as)
inductive TrsO (ok : Addr → Prop) (H : Hp) : List V → List Tr → List Addr → Prop
  | nil : TrsO ok H [] [] []
  | cons {v : V} {vs : List V} {t : Tr} {ts : List Tr} {as bs : List Addr} : TrO ok H v t as → TrsO ok H vs ts bs → TrsO ok H (v :: vs) (t :: ts) (as ++ bs)
end
section
variable {ok ok' : Addr → Prop} {H H' : Hp}
mutual
theorem TrO.imp (hk : ∀ b, ok b → ok' b) (h : ∀ b o, ok b → H b = some o → H' b = some o) : ∀ (t : Tr) (v : V) (as : List Addr), TrO ok H v t as → TrO ok' H' v t as
  | .node c ks, v, as, x => by
    cases x with
    | node h1 h2 k1 k2 c1 c2 r => exact .node (h _ _ k1 h1) (h _ _ k2 h2) (hk _ k1) (hk _ k2) c1 c2 (TrsO.imp hk h ks _ _ r)
theorem TrsO.imp (hk : ∀ b, ok b → ok' b) (h : ∀ b o, ok b → H b = some o → H' b = some o) : ∀ (ts : List Tr) (vs : List V) (as : List Addr), TrsO ok H vs ts as → TrsO ok' H' vs ts as
  | [], vs, as, x => by cases x; exact .nil
  | t :: r, vs, as, x => by
    cases x with
    | cons a b => exact .cons (TrO.imp hk h t _ _ a) (TrsO.imp hk h r _ _ b)
end
theorem TrO.keep {v : V} {t : Tr} {as : List Addr} (x : TrO ok H v t as) (h : ∀ b o, ok b → H b = some o → H' b = some o) : TrO ok H' v t as := TrO.imp (fun _ k => k) h t v as x
theorem TrO.same {v : V} {t : Tr} {as : List Addr} (x : TrO ok H v t as) (s : Same H H') : TrO ok H' v t as := x.keep fun b o _ h => s b o h
theorem TrO.weak {v : V} {t : Tr} {as : List Addr} (x : TrO ok H v t as) (h : ∀ b, ok b → ok' b) : TrO ok' H v t as := TrO.imp h (fun _ _ _ e => e) t v as x
theorem TrsO.keep {vs : List V} {ts : List Tr} {as : List Addr} (x : TrsO ok H vs ts as) (h : ∀ b o, ok b → H b = some o → H' b = some o) : TrsO ok H' vs ts as := TrsO.imp (fun _ k => k) h ts vs as x
theorem TrsO.same {vs : List V} {ts : List Tr} {as : List Addr} (x : TrsO ok H vs ts as) (s : Same H H') : TrsO ok H' vs ts as := x.keep fun b o _ h => s b o h
theorem TrsO.weak {vs : List V} {ts : List Tr} {as : List Addr} (x : TrsO ok H vs ts as) (h : ∀ b, ok b → ok' b) : TrsO ok' H vs ts as := TrsO.imp h (fun _ _ _ e => e) ts vs as x
mutual
theorem TrO.at : ∀ (t : Tr) (v : V) (as : List Addr), TrO ok H v t as → TrAt ok H v t
  | .node c ks, v, as, x => by
    cases x with
    | node h1 h2 k1 k2 c1 c2 r => exact .node h1 h2 k1 k2 c1 c2 (TrsO.at ks _ _ r)
theorem TrsO.at : ∀ (ts : List Tr) (vs : List V) (as : List Addr), TrsO ok H vs ts as → TrsAt ok H vs ts
  | [], vs, as, x => by cases x; exact .nil
  | t :: r, vs, as, x => by
    cases x with
    | cons a b => exact .cons (TrO.at t _ _ a) (TrsO.at r _ _ b)
end
mutual
theorem TrO.lst : ∀ (t : Tr) (v : V) (as : List Addr), TrO ok H v t as → ∀ b ∈ as, ok b ∧ ∃ xs, H b = some (.lst xs)
  | .node c ks, v, as, x => by
    cases x with
    | node h1 h2 k1 k2 c1 c2 r =>
      intro b hb
      rcases List.mem_cons.mp hb with e | hb
      · subst e; exact ⟨k2, _, h2⟩
      · exact TrsO.lst ks _ _ r b hb
theorem TrsO.lst : ∀ (ts : List Tr) (vs : List V) (as : List Addr), TrsO ok H vs ts as → ∀ b ∈ as, ok b ∧ ∃ xs, H b = some (.lst xs)
  | [], vs, as, x => by cases x; intro b hb; cases hb
  | t :: r, vs, as, x => by
    cases x with
    | cons x1 x2 =>
      intro b hb
      rcases List.mem_append.mp hb with hb | hb
      · exact TrO.lst t _ _ x1 b hb
      · exact TrsO.lst r _ _ x2 b hb
end
mutual
theorem TrO.there : ∀ (t : Tr) (v : V) (as : List Addr), TrO ok H v t as → TrO (fun b => ok b ∧ ∃ o, H b = some o) H v t as
  | .node c ks, v, as, x => by
    cases x with
    | node h1 h2 k1 k2 c1 c2 r => exact .node h1 h2 ⟨k1, _, h1⟩ ⟨k2, _, h2⟩ c1 c2 (TrsO.there ks _ _ r)
theorem TrsO.there : ∀ (ts : List Tr) (vs : List V) (as : List Addr), TrsO ok H vs ts as → TrsO (fun b => ok b ∧ ∃ o, H b = some o) H vs ts as
  | [], vs, as, x => by cases x; exact .nil
  | t :: r, vs, as, x => by
    cases x with
    | cons a b => exact .cons (TrO.there t _ _ a) (TrsO.there r _ _ b)
end
theorem TrO.off {v : V} {t : Tr} {as : List Addr} {w : Addr} (x : TrO ok H v t as) (h : H w = none) : TrO (fun b => ok b ∧ b ≠ w) H v t as :=
  (TrO.there t v as x).weak fun b ⟨k, o, e⟩ => ⟨k, ne_of_none e h⟩
theorem TrsO.off {vs : List V} {ts : List Tr} {as : List Addr} {w : Addr} (x : TrsO ok H vs ts as) (h : H w = none) : TrsO (fun b => ok b ∧ b ≠ w) H vs ts as :=
  (TrsO.there ts vs as x).weak fun b ⟨k, o, e⟩ => ⟨k, ne_of_none e h⟩
theorem TrsO.of : ∀ bs : List (V × Tr × List Addr), (∀ b ∈ bs, TrO ok H b.1 b.2.1 b.2.2) → TrsO ok H (bs.map (·.1)) (bs.map (·.2.1)) (bs.map (·.2.2)).flatten
  | [], _ => .nil
  | b :: r, h => by
    simp only [List.map_cons, List.flatten_cons]
    exact .cons (h b (by simp)) (TrsO.of r fun x hx => h x (by simp [hx]))
theorem TrsO.split1 : ∀ {vs : List V} {ts : List Tr} {as : List Addr}, TrsO ok H vs ts as → ∃ bs : List (V × Tr × List Addr), vs = bs.map (·.1) ∧ ts = bs.map (·.2.1) ∧ as = (bs.map (·.2.2)).flatten ∧ ∀ b ∈ bs, TrO ok H b.1 b.2.1 b.2.2
  | _, _, _, .nil => ⟨[], rfl, rfl, rfl, fun _ h => by cases h⟩
  | _, _, _, .cons (v := v) (t := t) (as := as) a b => by
    obtain ⟨bs, rfl, rfl, rfl, h⟩ := TrsO.split1 b
    refine ⟨(v, t, as) :: bs, rfl, rfl, rfl, fun x hx => ?_⟩
    rcases List.mem_cons.mp hx with e | hx
    · subst e; exact a
    · exact h x hx
theorem TrsO.snoc {vs : List V} {ts : List Tr} {as bs : List Addr} {v : V} {t : Tr} (x : TrsO ok H vs ts as) (y : TrO ok H v t bs) : TrsO ok H (vs ++ [v]) (ts ++ [t]) (as ++ bs) := by
  obtain ⟨cs, rfl, rfl, rfl, h⟩ := x.split1
  have := TrsO.of (ok := ok) (H := H) (cs ++ [(v, t, bs)]) (by
    intro b hb
    rcases List.mem_append.mp hb with hb | hb
    · exact h b hb
    · simp only [List.mem_singleton] at hb
      subst hb
      exact y)
  simpa using this
theorem TrsO.len {vs : List V} {ts : List Tr} {as : List Addr} (x : TrsO ok H vs ts as) : vs.length = ts.length := (TrsO.at ts vs as x).len
end
def ws (t : Tr) : Str := ⟨t.wr.toArray⟩
def RowO1 (ok : Addr → Prop) (H : Hp) (b : V × Tr × List Addr) : Prop := ∃ p x, b.1 = .ref p ∧ H p = some (.tup [.str (ws b.2.1), x]) ∧ ok p ∧ TrO ok H x b.2.1 b.2.2
theorem RowO1.imp {ok ok' : Addr → Prop} {H H' : Hp} {b : V × Tr × List Addr} (x : RowO1 ok H b) (hk : ∀ b, ok b → ok' b) (h : ∀ b o, ok b → H b = some o → H' b = some o) : RowO1 ok' H' b := by
  obtain ⟨p, x, e, h1, h2, h3⟩ := x
  exact ⟨p, x, e, h _ _ h2 h1, hk _ h2, TrO.imp hk h _ _ _ h3⟩
theorem RowO1.same {ok : Addr → Prop} {H H' : Hp} {b : V × Tr × List Addr} (x : RowO1 ok H b) (s : Same H H') : RowO1 ok H' b := x.imp (fun _ k => k) fun b o _ h => s b o h
theorem nodup_snoc {α : Type} {as bs : List α} (ha : as.Nodup) (hb : bs.Nodup) (h : ∀ x ∈ as, x ∉ bs) : (as ++ bs).Nodup := by
  rw [List.nodup_append]
  exact ⟨ha, hb, fun a h1 b h2 e => h a h1 (e ▸ h2)⟩

open LamX NdefX in
structure CalX (P : Program) (w : World) (K : PySem.W.Frag) (mg : Str → Option Value) (base : Heap) (k : Nat) (f : Addr) (G : Hp → Prop) (np : Nat) (sp : Sp) : Prop where
  len : ∀ vs H Q E, sp vs H Q E → vs.length = np
  at_ : ∀ (s : Shared) (H : Hp), HOk P w H s.heap → K.In s.heap → G H → PySem.W.FnAt f s.heap
  run : ∀ (A : Around) (outer : List Env) (s : Shared) (H : Hp) (us : List Value) (vs : List V) (Q : VK) (E : XK), Room k A → Env0 P w K mg base A outer s H → G H → Vals vs us → sp vs H Q E → codeAny (model P w) A (.call (.ref f) ⟨us, []⟩) (CR CX0 outer P w H s Q E) s
def tCalX (i : Nat) (f : Addr) (G : Hp → Prop) (sp : Sp) (t : TA) : TE := fun σ H Q => σ[i]? = some (some (.ref f)) ∧ G H ∧ t σ H fun vs H1 => G H1 ∧ sp vs H1 Q C8.E0
theorem pe_calX {X : Cx} {k i np : Nat} {f : Addr} {G : Hp → Prop} {sp : Sp} {x : Str} {p pos : Pos} {e : PySem.Expr} {es : List PySem.Expr} {t : TA}
    (C : CalX X.prog X.w X.K X.mg X.base k f G np sp) (hr : Room k X.A) (hN : X.N[i]? = some x) (hv : Vis X.env.scope x) (ha : PA X (e :: es) t)
    (hdb : (x == ("__debug__" : Str)) = false := by decide) (hcd : (x == ("__classdict__" : Str)) = false := by decide)
    (he : starEach (e :: es) X.env = (false, eval e X.env) :: starEach es X.env := by rfl) (hpl : (backTo pos (starEach es X.env)).any (·.1) = false := by rfl) : PE X (.Call (.Name x p) (e :: es) [] pos) (tCalX i f G sp t) := by
  refine ⟨fun pins s σ H Q I h => ?_⟩
  obtain ⟨hs, hg, ht⟩ := h
  refine wpAny_Call_Name_kw (thn ((pe_var (pos := p) hN hv hdb hcd).run pins s σ H (fun v H1 => v = .ref f ∧ H1 = H) I ⟨.ref f, hs, rfl, rfl⟩) fun u s1 ⟨v, H1, I1, r1, q1⟩ => ?_)
  obtain ⟨ev, eH⟩ := q1
  subst ev
  rw [eH] at I1
  obtain rfl : u = Value.ref f := r1
  refine PySem.W.callWith_F (first := []) (C.at_ s1 H I1.hok I1.kIn hg) (thn (ha.run pos pins s1 σ H _ I1 ht) fun us s2 ⟨vs, H2, I2, r, h1, q⟩ => ⟨C.at_ s2 H2 I2.hok I2.kIn h1, ?_⟩) he hpl
  show wpAny _ _ (call (.ref f) us) _ _ _
  refine wpAny_call (codeAny_mono (C.run X.A X.stack s2 H2 us vs Q C8.E0 hr I2.env0 h1 r q) fun r s' hq => ?_)
  cases r with
  | error e => exact (show False from hq).elim
  | ok fl =>
    cases fl with
    | ret u => exact I2.after hq
    | next => exact False.elim hq
    | brk => exact False.elim hq
    | cont => exact False.elim hq
theorem calX_of {P : Program} {w : World} {K : PySem.W.Frag} {mg : Str → Option Value} {base : Heap} {k : Nat} {x q : Str} {st : Stmt} {f : Addr} {fd : FuncData} {ps : List Str} {sp : Sp} (F : FnOk P w K mg base CX0 k f fd ps sp) (U : Fun K x q st f fd) (hb : Binds K fd ps []) {G : Hp → Prop} : CalX P w K mg base k f G ps.length sp := by
  refine ⟨F.len, fun s H _ hk _ => ?_, fun A outer s H us vs Q E hr e0 _ r h => ?_⟩
  · obtain ⟨oc, od, kV, doc, pm, an, cdv, ct, osl, rfl, lk, hcd⟩ := U.ex
    exact ⟨_, _, _, _, hk _ _ lk⟩
  · have KX : K.In s.heap := e0.mod.kin.keeps fun b o e => (e0.bs b o e).1
    have hl : us.length = ps.length := by rw [← r.length]; exact F.len _ _ _ _ h
    have hb' := hb s us KX (by rw [List.append_nil]; exact hl)
    rw [List.append_nil] at hb'
    exact F.run A outer s H ⟨us, []⟩ us vs Q E hr e0 hb' r h
structure LF where
  qual : Str
  params : Arguments
  body : PySem.Expr
  scope : PySem.Scope
  cl : List (Str × Addr)
  c : Addr
abbrev LF.nf (F : LF) : NdefX.NF := ⟨"<lambda>", F.qual, F.params, [], F.scope, F.cl, F.c⟩
def LamO (f : Addr) (F : LF) : HO := .ext fun h => ∃ pm ctv, h.get? f = some (PySem.W.kla_obj "<lambda>" F.qual F.params F.body F.scope F.cl pm F.c ctv)
theorem lamO_ok {P : Program} {w : World} {H : Hp} {h : Heap} {F : LF} {pm ctv : Value} :
    ObjOk P w H (h.push (PySem.W.kla_obj "<lambda>" F.qual F.params F.body F.scope F.cl pm F.c ctv)) h.objs.size (LamO h.objs.size F) := by
  have e : (h.push (PySem.W.kla_obj "<lambda>" F.qual F.params F.body F.scope F.cl pm F.c ctv)).get? h.objs.size = some (PySem.W.kla_obj "<lambda>" F.qual F.params F.body F.scope F.cl pm F.c ctv) := Heap.get?_push_size _ rfl
  exact ⟨⟨pm, ctv, e⟩, ⟨_, e⟩, fun h1 h2 ⟨a1, a2, e1⟩ k => ⟨a1, a2, k _ e1⟩⟩
theorem calX_lam {P : Program} {w : World} {K : PySem.W.Frag} {mg : Str → Option Value} {base : Heap} {k : Nat} {N ps : List Str} {f : Addr} {F : LF} {sp : Sp} (S : NdefX.NScope N ps [] F.scope) (hcl : F.cl = [])
    (hb : ∀ (pm ctv : Value) (us : List Value), us.length = ps.length → bindArgs (PySem.W.kla_fn "<lambda>" F.qual F.params F.body F.scope F.cl pm (.ref F.c) ctv) ⟨us, []⟩ = pure (ps.zip us)) (len : ∀ vs H Q E, sp vs H Q E → vs.length = ps.length)
    (hbody : ∀ (A : Around) (outer : List Env) (s : Shared) (H : Hp) (vs : List V) (Q : VK) (E : XK), Room k (A.deeper (NdefX.envF F.nf f s.heap.objs.size)) → sp vs H Q E →
      ∃ t, PE (NdefX.ncx CX0 P w K mg base N F.nf f A outer s H E) F.body t ∧ t (NdefX.startF N vs []) H Q) :
    CalX P w K mg base (k + 1) f (fun H => H f = some (LamO f F) ∧ H F.c = some (LamX.CodeO F.c F.qual)) ps.length sp := by
  refine ⟨len, fun s H hok _ hg => ?_, fun A outer s H us vs Q E hr e0 hg r hsp => ?_⟩
  · obtain ⟨⟨pm, ctv, e⟩, _, _⟩ := hok _ _ hg.1
    exact ⟨_, _, _, _, e⟩
  obtain ⟨⟨pm, ctv, ho⟩, _, _⟩ := e0.hok _ _ hg.1
  have hl := len _ _ _ _ hsp
  have lim : s.heap.NoLimit := e0.mod.nolimit.keeps fun b o e => (e0.bs b o e).1
  refine PySem.W.kla_callFunE hr.depth ho rfl S.co S.gen rfl (NdefX.codeO_at e0.hok hg.2) ?_
  rw [hb pm ctv us (by rw [← r.length]; exact hl)]
  refine wpAny_pure (wpAny_newFunctionEnv S.nocell (fun ⟨n, _⟩ hy => S.par n (List.of_mem_zip hy).1) (fun h₁ hns hsb => ⟨lim.fresh _ hsb, ?_⟩) S.kind)
  show codeAny _ _ (.expr F.body (NdefX.envF F.nf f s.heap.objs.size)) _ _
  have kp : ∀ b o, s.heap.get? b = some o → h₁.get? b = some o := fun b o e => hsb.extBut b o (Nat.ne_of_lt (Heap.lt_size e)) (Heap.get?_push_of_some _ e)
  obtain ⟨t, ht, hq⟩ := hbody A outer s H vs Q E (hr.deeper _) hsp
  have C : NdefX.CellsAt F.nf.cl [] [] s.heap H := by
    have e : F.nf.cl = [] := hcl
    rw [e]
    exact ⟨rfl, (fun y c e => by cases e), (fun x y c e => by cases e), (fun i y e => by simp at e)⟩
  have I : Inv (NdefX.ncx CX0 P w K mg base N F.nf f A outer s H E) [] (NdefX.startF N vs []) H { s with heap := h₁, toks := s.toks + (ps.zip us).length } := NdefX.inv_startN S hr.hd e0 hl r C hns kp
  refine PySem.W.kla_codeExpr (wpAny_mono (ht.run [] _ _ H Q I hq) (fun v s' hq => ?_) fun e s' hq => hq)
  obtain ⟨w', H', J', rv, q⟩ := hq
  exact ⟨w', H', J'.os, J'.bare, J'.base, J'.hok, rv, q⟩
theorem pe_lamX {X : Cx} {c P : Addr} {params : Arguments} {body : PySem.Expr} {scope : PySem.Scope} {pos : Pos} (tb : LamX.TabB X.base X.mg c P) (hc : X.env.code = .ref c) (hd : defaultsOf params X.env = ([], []))
    (hfree : ∀ y ∈ scope.names, y.2 = .free → ∃ c, X.env.cells.lookup y.1 = some c) : PE X (.Lambda params body scope pos) (fun σ H Q => LamX.TabS H P (X.env.qual ++ "<lambda>") ∧ ∀ (f c : Addr) (H1 : Hp), Fr P H H1 → (∀ b, H1 b = none → H b = none) → LamX.TabS H1 P (X.env.qual ++ "<lambda>") → H f = none →
      H1 f = some (LamO f ⟨X.env.qual ++ "<lambda>", params, body, scope, cloFrom X.env.cells scope.names [], c⟩) → H1 c = some (LamX.CodeO c (X.env.qual ++ "<lambda>")) → Q (.ref f) H1) := by
  refine ⟨fun pins s σ H Q I h => ?_⟩
  obtain ⟨ht, q⟩ := h
  have hclo : closureFor scope X.env = pure (cloFrom X.env.cells scope.names []) := closure_ok hfree
  have ht' := ht
  obtain ⟨ps, hP, hT, hA⟩ := ht'
  have oP : s.heap.get? P = some (PySem.W.tabObj ps) := I.hok _ _ hP
  refine PySem.W.kla_eval hd ?_
  cases hcd : codeAmong pos ps.toList with
  | some cv =>
    obtain ⟨c', rfl, hc'⟩ := hA _ _ hcd
    refine PySem.W.kla_makeFunctionHit hclo I.ok.glob (I.mod.glob.keeps I.bk) hc (tb.code.keeps I.bk) oP hT hcd (tb.bm.keeps I.bk) (fun ctv h' tk hk hs => ?_)
    have I1 := I.kept (t' := tk) hk
    have hz : s.heap.objs.size ≤ h'.objs.size := hs
    have hn : H h'.objs.size = none := I.hok.fresh hz
    refine ⟨.ref h'.objs.size, upd H h'.objs.size (LamO h'.objs.size ⟨X.env.qual ++ "<lambda>", params, body, scope, cloFrom X.env.cells scope.names [], c'⟩), ?_, rfl, q _ c' _ (fun b o _ hb => ?_) (fun b e => NdefX.upd_none e) (ht.ext fun b o hb => ?_) hn upd_same ?_⟩
    · exact I1.laid (h' := h'.push _) (t' := tk) (fun b u hb => Heap.get?_push_of_some _ hb) (Nat.le_refl _) (lamO_ok (F := ⟨X.env.qual ++ "<lambda>", params, body, scope, cloFrom X.env.cells scope.names [], c'⟩))
    · rw [upd_ne (ne_of_none hb hn)]; exact hb
    · rw [upd_ne (ne_of_none hb hn)]; exact hb
    · rw [upd_ne (ne_of_none hc' hn)]; exact hc'
  | none =>
    refine PySem.W.kla_makeFunction hclo I.ok.glob (I.mod.glob.keeps I.bk) hc (tb.code.keeps I.bk) oP hT hcd tb.gP (tb.bm.keeps I.bk) (fun c' ctv h' tk he hl hu hrec hP' => ?_)
    obtain ⟨c2, o2, vs2, t2, ec, e1, e2, e3⟩ := hrec
    cases ec
    have I2 := LamX.inv_table (t' := tk) (c := c') (q := X.env.qual ++ "<lambda>") I hP he (more := #[rawInt ↑pos.line, rawInt ↑pos.col, .ref c']) hP' hl ⟨_, _, _, e1, e2, e3⟩
    have hn : (upd (upd H P (.tbl (ps ++ #[rawInt ↑pos.line, rawInt ↑pos.col, .ref c']))) c' (LamX.CodeO c' (X.env.qual ++ "<lambda>"))) h'.objs.size = none := I2.hok.fresh (Nat.le_refl _)
    have hcn : H c' = none := I.hok.fresh hl
    have hPc : P ≠ c' := fun e => by rw [e] at hP; rw [hcn] at hP; cases hP
    refine ⟨.ref h'.objs.size, _, I2.laid (h' := h'.push _) (o := LamO h'.objs.size ⟨X.env.qual ++ "<lambda>", params, body, scope, cloFrom X.env.cells scope.names [], c'⟩) (t' := tk) (fun b u hb => Heap.get?_push_of_some _ hb) (Nat.le_refl _) (lamO_ok (F := ⟨X.env.qual ++ "<lambda>", params, body, scope, cloFrom X.env.cells scope.names [], c'⟩)), rfl, q _ c' _ ?_ (fun b e => NdefX.upd_none (NdefX.upd_none (NdefX.upd_none e))) ?_ (NdefX.upd_none (NdefX.upd_none hn)) upd_same ?_⟩
    · intro b o hbP hb
      have h1 : (upd (upd H P (.tbl (ps ++ #[rawInt ↑pos.line, rawInt ↑pos.col, .ref c']))) c' (LamX.CodeO c' (X.env.qual ++ "<lambda>"))) b = some o := by
        rw [upd_ne (ne_of_none hb hcn), upd_ne hbP]; exact hb
      rw [upd_ne (ne_of_none h1 hn)]; exact h1
    · refine LamX.TabS.ext (H := upd (upd H P (.tbl (ps ++ #[rawInt ↑pos.line, rawInt ↑pos.col, .ref c']))) c' (LamX.CodeO c' (X.env.qual ++ "<lambda>"))) ?_ (fun b o hb => by rw [upd_ne (ne_of_none hb hn)]; exact hb)
      refine ⟨_, by rw [upd_ne hPc]; exact upd_same, ?_, ?_⟩
      · simpa using TriplesOk_snoc _ _ _ _ hT
      · intro pos2 cv hcv
        rw [Array.toList_append] at hcv
        rcases LamX.among_app _ hT hcv with h | h
        · obtain ⟨c3, e3, h3⟩ := hA _ _ h
          refine ⟨c3, e3, ?_⟩
          rw [upd_ne (ne_of_none h3 hcn), upd_ne (fun e => by rw [e, hP] at h3; cases h3)]
          exact h3
        · exact ⟨c', h, upd_same⟩
    · have h1 : (upd (upd H P (.tbl (ps ++ #[rawInt ↑pos.line, rawInt ↑pos.col, .ref c']))) c' (LamX.CodeO c' (X.env.qual ++ "<lambda>"))) c' = some (LamX.CodeO c' (X.env.qual ++ "<lambda>")) := upd_same
      rw [upd_ne (ne_of_none h1 hn)]; exact h1
theorem nofree_by {scope : PySem.Scope} {cells : List (Str × Addr)} (h : (scope.names.all fun y => !decide (y.2 = .free)) = true) : ∀ y ∈ scope.names, y.2 = .free → ∃ c, cells.lookup y.1 = some c := fun y hy e => by
  have := List.all_eq_true.mp h y hy
  simp only [e, decide_true, Bool.not_true] at this
  cases this
theorem CalX.imp {P : Program} {w : World} {K : PySem.W.Frag} {mg : Str → Option Value} {base : Heap} {k j : Nat} {f : Addr} {G G' : Hp → Prop} {np : Nat} {sp sp' : Sp} (C : CalX P w K mg base k f G np sp) (hk : k ≤ j) (hG : ∀ H, G' H → G H) (hs : ∀ vs H Q E, sp' vs H Q E → sp vs H Q E) : CalX P w K mg base j f G' np sp' :=
  ⟨fun vs H Q E q => C.len vs H Q E (hs _ _ _ _ q), fun s H a b g => C.at_ s H a b (hG H g), fun A outer s H us vs Q E hr e0 g r q => C.run A outer s H us vs Q E (hr.mono hk) e0 (hG H g) r (hs _ _ _ _ q)⟩
inductive Runs : List Tr → List Tr → List Tr → Prop
  | nil {us : List Tr} : Runs us [] us
  | cons {us ks r z : List Tr} {c : Nat} : Runs (us ++ [.node c ks]) r z → Runs (us ++ ks) (.node c ks :: r) z
mutual
theorem runs_post : ∀ (t : Tr) (us r z : List Tr), Runs (us ++ [t]) r z → Runs us (t.post ++ r) z
  | .node c ks, us, r, z, h => by
    simp only [Tr.post, List.append_assoc, List.singleton_append]
    exact runs_posts ks us _ z (.cons h)
theorem runs_posts : ∀ (ts us r z : List Tr), Runs (us ++ ts) r z → Runs us (posts ts ++ r) z
  | [], us, r, z, h => by simpa [posts] using h
  | t :: ts, us, r, z, h => by
    simp only [posts, List.append_assoc]
    refine runs_post t us _ z (runs_posts ts (us ++ [t]) r z ?_)
    rw [List.append_assoc]
    exact h
end
theorem runs_all (t : Tr) : Runs [] t.post [t] := by
  have := runs_post t [] [] [t] .nil
  rwa [List.append_nil] at this
abbrev ItP := (Addr → Prop) → Hp → V → Tr → List Addr → Prop
structure ItOk (It : ItP) : Prop where
  imp : ∀ {ok ok' : Addr → Prop} {H H' : Hp} {v : V} {t : Tr} {as : List Addr}, (∀ b, ok b → ok' b) → (∀ b o, ok b → H b = some o → H' b = some o) → It ok H v t as → It ok' H' v t as
  lst : ∀ {ok : Addr → Prop} {H : Hp} {v : V} {t : Tr} {as : List Addr}, It ok H v t as → ∀ b ∈ as, ok b ∧ ∃ xs, H b = some (.lst xs)
abbrev lstsI (bs : List (V × Tr × List Addr)) : List Addr := (bs.map fun b => b.2.2).flatten
def sp_made (It : ItP) (Pt : Addr) (q : Str) : Sp := fun vs H Q _ => ∃ (c : Nat) (bl : Addr) (bs : List (V × Tr × List Addr)) (ok : Addr → Prop), vs = [.str (ch c), .ref bl] ∧ 97 ≤ c ∧ c ≤ 122 ∧ H bl = some (.lst (bs.map (·.1))) ∧ ok bl ∧
  (∀ b ∈ bs, It ok H b.1 b.2.1 b.2.2) ∧ (bl :: lstsI bs).Nodup ∧ sizes (bs.map (·.2.1)) ≤ 1000000 ∧ (∀ b, ok b → b ≠ Pt) ∧ LamX.TabS H Pt q ∧
  ∀ v as H', Fr Pt H H' → LamX.TabS H' Pt q → It (fun b => ok b ∨ H b = none) H' v (.node c (bs.map (·.2.1))) as → as.Nodup → (∀ a ∈ as, a ∈ bl :: lstsI bs ∨ H a = none) → Q v H'
def sp_built_upward (P : Program) (w : World) (K : PySem.W.Frag) (mg : Str → Option Value) (base : Heap) (k : Nat) (Pt : Addr) (q : Str) : Sp := fun vs H Q _ => ∃ (v : V) (t : Tr) (f : Addr) (It : ItP), vs = [v, .ref f] ∧ TrAt (fun _ => True) H v t ∧ t.size ≤ 1000000 ∧ ItOk It ∧ LamX.TabS H Pt q ∧
  CalX P w K mg base k f (fun H' => Fr Pt H H') 2 (sp_made It Pt q) ∧ ∀ r as H', Fr Pt H H' → LamX.TabS H' Pt q → It (fun b => H b = none) H' r t as → as.Nodup → Q r H'

def CellO (c : Addr) (o : Obj) : HO := .ext fun h => h.get? c = some o
abbrev Lent := List (Addr × Obj)
def lend (H : Hp) (cs : Lent) : Hp := fun b => match cs.lookup b with
  | some o => some (CellO b o)
  | none => H b
def unl (H : Hp) (cs : Lent) : Hp := fun b => match cs.lookup b with
  | some _ => none
  | none => H b
def LentAt (cs : Lent) (H : Hp) : Prop := ∀ c o, cs.lookup c = some o → H c = some (CellO c o)
def Fresh (cs : Lent) (H : Hp) : Prop := ∀ c o, cs.lookup c = some o → H c = none
section
variable {H H' : Hp} {cs : Lent} {b c : Addr} {o : Obj} {u : HO}
theorem lend_in (h : cs.lookup c = some o) : lend H cs c = some (CellO c o) := by unfold lend; rw [h]
theorem lend_out (h : cs.lookup b = none) : lend H cs b = H b := by unfold lend; rw [h]
theorem unl_in (h : cs.lookup c = some o) : unl H cs c = none := by unfold unl; rw [h]
theorem unl_out (h : cs.lookup b = none) : unl H cs b = H b := by unfold unl; rw [h]
theorem Fresh.out (f : Fresh cs H) (h : H b = some u) : cs.lookup b = none := by
  cases e : cs.lookup b with
  | none => rfl
  | some o => rw [f b o e] at h; cases h
theorem lend_some (f : Fresh cs H) (h : H b = some u) : lend H cs b = some u := by rw [lend_out (f.out h)]; exact h
theorem lend_same (f : Fresh cs H) : Same H (lend H cs) := fun _ _ h => lend_some f h
theorem unl_some (h : unl H cs b = some u) : H b = some u := by
  cases e : cs.lookup b with
  | none => rw [unl_out e] at h; exact h
  | some o => rw [unl_in e] at h; cases h
theorem unl_same : Same (unl H cs) H := fun _ _ h => unl_some h
theorem LentAt.out (f : LentAt cs H) (h : H b = some u) (n : ∀ φ, u ≠ .ext φ) : cs.lookup b = none := by
  cases e : cs.lookup b with
  | none => rfl
  | some o => rw [f b o e] at h; cases h; exact absurd rfl (n _)
theorem unl_keep (f : LentAt cs H) (h : H b = some u) (n : ∀ φ, u ≠ .ext φ) : unl H cs b = some u := by rw [unl_out (f.out h n)]; exact h
theorem unl_fresh : Fresh cs (unl H cs) := fun _ _ h => unl_in h
theorem lend_lent : LentAt cs (lend H cs) := fun _ _ h => lend_in h
theorem unl_lend (f : Fresh cs H) : unl (lend H cs) cs = H := by
  funext b
  cases e : cs.lookup b with
  | none => rw [unl_out e, lend_out e]
  | some o => rw [unl_in e, f b o e]
theorem lend_unl (f : LentAt cs H) : lend (unl H cs) cs = H := by
  funext b
  cases e : cs.lookup b with
  | none => rw [lend_out e, unl_out e]
  | some o => rw [lend_in e, f b o e]
end
section
variable {P : Program} {w : World} {H H1 : Hp} {h h0 h1 : Heap} {cs : Lent} {fs : List Addr}
theorem hok_lend (ok : HOk P w H h) (f : Fresh cs H) (hc : ∀ c o, cs.lookup c = some o → h.get? c = some o) : HOk P w (lend H cs) h := fun a u e => by
  cases hl : cs.lookup a with
  | some o =>
    rw [lend_in hl] at e
    cases e
    exact ⟨hc _ _ hl, ⟨o, hc _ _ hl⟩, fun h1 h2 q k => k _ q⟩
  | none =>
    rw [lend_out hl] at e
    exact (ok a u e).stay (fun _ _ _ q => q) (fun b q => lend_some f q) fun b xs q => lend_some f q
theorem hok_unl (ok : HOk P w H h) (f : LentAt cs H) : HOk P w (unl H cs) h := fun a u e =>
  (ok a u (unl_some e)).stay (fun _ _ _ q => q) (fun b q => unl_keep f q (fun φ z => by cases z)) fun b xs q => unl_keep f q (fun φ z => by cases z)
theorem lent_get (ok : HOk P w H h) (f : LentAt cs H) {c : Addr} {o : Obj} (e : cs.lookup c = some o) : h.get? c = some o := (ok c _ (f c o e)).1
theorem un_back (u : Un fs [] (lend H cs) H1 h0 h1) (f : Fresh cs H) (l : LentAt cs H1) (ok : HOk P w H1 h1) (hc : ∀ c o, cs.lookup c = some o → h0.get? c = some o) : Un fs [] H (unl H1 cs) h0 h1 where
  keep := fun b ob e n hf hx => by
    cases hl : cs.lookup b with
    | some o =>
      have e2 := hc _ _ hl
      rw [e] at e2
      cases e2
      exact lent_get ok l hl
    | none => exact u.keep b ob e (by rw [lend_out hl]; exact n) hf hx
  slot := fun b ob e n hf hx => by
    cases hl : cs.lookup b with
    | some o =>
      have e2 := hc _ _ hl
      rw [e] at e2
      cases e2
      exact ⟨ob.slots, lent_get ok l hl⟩
    | none => exact u.slot b ob e (by rw [lend_out hl]; exact n) hf hx
  free := fun b ob e n hx => by
    cases hl : cs.lookup b with
    | some o => exact unl_in hl
    | none => rw [unl_out hl]; exact u.free b ob e (by rw [lend_out hl]; exact n) hx
  there := u.there
  tups := fun b xs e => unl_keep l (u.tups b xs (lend_some f e)) (fun φ z => by cases z)
  frzs := fun b o v e => unl_keep l (u.frzs b o v (lend_some f e)) (fun φ z => by cases z)
  tbls := fun b ps e => by
    obtain ⟨more, q⟩ := u.tbls b ps (lend_some f e)
    exact ⟨more, unl_keep l q (fun φ z => by cases z)⟩
theorem un_fwd (u : Un fs [] (unl H cs) H1 h0 h1) (l : LentAt cs H) (ok : HOk P w H h0) (hf : ∀ c o, cs.lookup c = some o → c ∉ fs) : Fresh cs H1 ∧ (∀ c o, cs.lookup c = some o → h1.get? c = some o) ∧ Un fs [] H (lend H1 cs) h0 h1 := by
  have f1 : Fresh cs H1 := fun c o e => u.free c o (lent_get ok l e) (unl_in e) (by simp)
  have hc : ∀ c o, cs.lookup c = some o → h1.get? c = some o := fun c o e => u.keep c o (lent_get ok l e) (unl_in e) (hf c o e) (by simp)
  have no : ∀ b, H b = none → cs.lookup b = none := fun b n => by
    cases hl : cs.lookup b with
    | none => rfl
    | some o => rw [l b o hl] at n; cases n
  refine ⟨f1, hc, fun b ob e n => ?_, fun b ob e n => ?_, fun b ob e n hx => ?_, u.there, fun b xs e => ?_, fun b o v e => ?_, fun b ps e => ?_⟩
  · exact u.keep b ob e (by rw [unl_out (no b n)]; exact n)
  · exact u.slot b ob e (by rw [unl_out (no b n)]; exact n)
  · rw [lend_out (no b n)]
    exact u.free b ob e (by rw [unl_out (no b n)]; exact n) hx
  · exact lend_some f1 (u.tups b xs (unl_keep l e (fun φ z => by cases z)))
  · exact lend_some f1 (u.frzs b o v (unl_keep l e (fun φ z => by cases z)))
  · obtain ⟨more, q⟩ := u.tbls b ps (unl_keep l e (fun φ z => by cases z))
    exact ⟨more, lend_some f1 q⟩
end
structure Caught (cl : List (Str × Addr)) (fr : List Str) (ws : List (Option V)) (cs : Lent) : Prop where
  len : ws.length = fr.length
  all : ∀ y c, cl.lookup y = some c → ∃ o v, cs.lookup c = some o ∧ o.data = .cell v
  inj : ∀ x y c, cl.lookup x = some c → cl.lookup y = some c → x = y
  has : ∀ (i : Nat) (y : Str), fr[i]? = some y → ∃ c, cl.lookup y = some c ∧ ∀ v, ws[i]? = some (some v) → ∃ u o, L2.RelV v u ∧ cs.lookup c = some o ∧ o.data = .cell (some u)
def Cells (cs : Lent) : Prop := ∀ c o, cs.lookup c = some o → ∃ v, o.data = .cell v
theorem codeO_cell {c : Addr} {q : Str} {o : Obj} {v : Option Value} (hd : o.data = .cell v) : LamX.CodeO c q ≠ CellO c o := fun e => by
  have hg : (Heap.mk (Array.replicate (c + 1) o) {}).get? c = some o := by
    have h1 : (Array.replicate (c + 1) o)[c]? = some o := by rw [Array.getElem?_replicate, if_pos (Nat.lt_succ_self c)]
    show (match (Array.replicate (c + 1) o)[c]? with
      | some ⟨_, _, .freed, _⟩ => none
      | o => o) = some o
    rw [h1]
    obtain ⟨c1, c2, c3, c4⟩ := o
    cases hd
    rfl
  have e2 := HO.ext.inj e
  have e3 := (congrFun e2 (Heap.mk (Array.replicate (c + 1) o) {})).mpr hg
  obtain ⟨oc, vs, t, h1, h2, _⟩ := e3
  rw [hg] at h1
  cases h1
  rw [hd] at h2
  cases h2
section
variable {P : Program} {w : World} {K : PySem.W.Frag} {mg : Str → Option Value} {base : Heap} {cl : List (Str × Addr)} {fr : List Str} {ws : List (Option V)} {cs : Lent}
theorem Caught.at (C : Caught cl fr ws cs) {H : Hp} {h : Heap} (l : LentAt cs H) (ok : HOk P w H h) : NdefX.CellsAt cl fr ws h (unl H cs) := by
  refine ⟨C.len, fun y c e => ?_, C.inj, fun i y e => ?_⟩
  · obtain ⟨o, v, h1, h2⟩ := C.all y c e
    exact ⟨unl_in h1, v, o, lent_get ok l h1, h2⟩
  · obtain ⟨c, h1, h2⟩ := C.has i y e
    refine ⟨c, h1, fun v hv => ?_⟩
    obtain ⟨u, o, r, g1, g2⟩ := h2 v hv
    exact ⟨u, r, o, lent_get ok l g1, g2⟩
theorem unl_none {H : Hp} {b : Addr} (h : H b = none) : unl H cs b = none := by
  cases z : unl H cs b with
  | none => rfl
  | some u => rw [unl_some z] at h; cases h
theorem env0_unl {A : Around} {outer : List Env} {s : Shared} {H : Hp} (e : Env0 P w K mg base A outer s H) (l : LentAt cs H) : Env0 P w K mg base A outer s (unl H cs) :=
  ⟨e.frames, e.mod, fun b o q => ⟨(e.bs b o q).1, unl_none (e.bs b o q).2⟩, e.bsz, e.funs, fun b hb => unl_none (e.frf b hb), hok_unl e.hok l, e.bare⟩
theorem cr_fwd {outer : List Env} {s s' : Shared} {H : Hp} {Q : VK} {E : XK} {r : Result} (l : LentAt cs H) (ok : HOk P w H s.heap) (hf : ∀ c o, cs.lookup c = some o → c ∉ frs outer) (h : CR CX0 outer P w (unl H cs) s (fun v H' => Q v (lend H' cs)) E r s') : CR CX0 outer P w H s Q E r s' := by
  cases r with
  | error e => exact (show False from h).elim
  | ok fl =>
    cases fl with
    | ret u =>
      obtain ⟨v, H1, h1, h2, h3, h4, h5, h6⟩ := h
      obtain ⟨f1, f2, f3⟩ := un_fwd h3 l ok hf
      exact ⟨v, lend H1 cs, h1, h2, f3, hok_lend h4 f1 f2, h5, h6⟩
    | next => exact h
    | brk => exact h
    | cont => exact h
theorem calX_ndef {k : Nat} {f : Addr} {F : NdefX.NF} {ps : List Str} {sp : List (Option V) → Sp} (o : NdefX.NOk P w K mg base CX0 k f F ps fr sp) (C : Caught F.cl fr ws cs) (hz : Cells cs) :
    CalX P w K mg base k f (fun H => H f = some (NdefX.FnO f F) ∧ H F.c = some (LamX.CodeO F.c F.qual) ∧ LentAt cs H) ps.length (fun vs H Q E => sp ws vs (unl H cs) (fun v H' => Q v (lend H' cs)) E) := by
  refine ⟨fun vs H Q E h => o.len _ _ _ _ _ h, fun s H hok _ hg => ?_, fun A outer s H us vs Q E hr e0 hg r h => ?_⟩
  · obtain ⟨od, sl, doc, pm, ctv, ho⟩ := NdefX.fnO_at hok hg.1
    exact ⟨_, od, _, sl, ho⟩
  · obtain ⟨g1, g2, g3⟩ := hg
    have nf : cs.lookup f = none := by
      cases e : cs.lookup f with
      | none => rfl
      | some ob =>
        obtain ⟨od, sl, doc, pm, ctv, ho⟩ := NdefX.fnO_at e0.hok g1
        obtain ⟨v, hv⟩ := hz _ _ e
        rw [lent_get e0.hok g3 e] at ho
        cases ho
        cases hv
    have nc : cs.lookup F.c = none := by
      cases e : cs.lookup F.c with
      | none => rfl
      | some ob =>
        obtain ⟨c, oc, vs, t, ec, h1, h2, h3⟩ := NdefX.codeO_at e0.hok g2
        obtain ⟨v, hv⟩ := hz _ _ e
        cases ec
        rw [lent_get e0.hok g3 e] at h1
        cases h1
        rw [hv] at h2
        cases h2
    refine codeAny_mono (o.run A outer s (unl H cs) us vs ws _ E hr (env0_unl e0 g3) (by rw [unl_out nf]; exact g1) (by rw [unl_out nc]; exact g2) (C.at g3 e0.hok) r h) fun r s' hq => ?_
    exact cr_fwd g3 e0.hok (fun c ob e hb => by have := e0.frf c hb; rw [g3 c ob e] at this; cases this) hq
theorem calX_lamC {k : Nat} {N ps : List Str} {f : Addr} {F : LF} {sp : Sp} (S : NdefX.NScope N ps fr F.scope) (C : Caught F.cl fr ws cs) (hz : Cells cs)
    (hb : ∀ (pm ctv : Value) (us : List Value), us.length = ps.length → bindArgs (PySem.W.kla_fn "<lambda>" F.qual F.params F.body F.scope F.cl pm (.ref F.c) ctv) ⟨us, []⟩ = pure (ps.zip us)) (len : ∀ vs H Q E, sp vs H Q E → vs.length = ps.length)
    (hbody : ∀ (A : Around) (outer : List Env) (s : Shared) (H : Hp) (vs : List V) (Q : VK) (E : XK), Room k (A.deeper (NdefX.envF F.nf f s.heap.objs.size)) → sp vs H Q E →
      ∃ t, PE (NdefX.ncx CX0 P w K mg base N F.nf f A outer s H E) F.body t ∧ t (NdefX.startF N vs ws) H Q) :
    CalX P w K mg base (k + 1) f (fun H => H f = some (LamO f F) ∧ H F.c = some (LamX.CodeO F.c F.qual) ∧ LentAt cs H) ps.length (fun vs H Q E => sp vs (unl H cs) (fun v H' => Q v (lend H' cs)) E) := by
  refine ⟨fun vs H Q E h => len _ _ _ _ h, fun s H hok _ hg => ?_, fun A outer s H us vs Q E hr e0 hg r hsp => ?_⟩
  · obtain ⟨⟨pm, ctv, e⟩, _, _⟩ := hok _ _ hg.1
    exact ⟨_, _, _, _, e⟩
  obtain ⟨g1, g2, g3⟩ := hg
  obtain ⟨⟨pm, ctv, ho⟩, _, _⟩ := e0.hok _ _ g1
  have hl := len _ _ _ _ hsp
  have lim : s.heap.NoLimit := e0.mod.nolimit.keeps fun b o e => (e0.bs b o e).1
  refine codeAny_mono (R := CR CX0 outer P w (unl H cs) s (fun v H' => Q v (lend H' cs)) E) ?_ fun r s' hq => cr_fwd g3 e0.hok (fun c ob e hb => by have := e0.frf c hb; rw [g3 c ob e] at this; cases this) hq
  refine PySem.W.kla_callFunE hr.depth ho rfl S.co S.gen rfl (NdefX.codeO_at e0.hok g2) ?_
  rw [hb pm ctv us (by rw [← r.length]; exact hl)]
  refine wpAny_pure (wpAny_newFunctionEnv S.nocell (fun ⟨n, _⟩ hy => S.par n (List.of_mem_zip hy).1) (fun h₁ hns hsb => ⟨lim.fresh _ hsb, ?_⟩) S.kind)
  show codeAny _ _ (.expr F.body (NdefX.envF F.nf f s.heap.objs.size)) _ _
  have kp : ∀ b o, s.heap.get? b = some o → h₁.get? b = some o := fun b o e => hsb.extBut b o (Nat.ne_of_lt (Heap.lt_size e)) (Heap.get?_push_of_some _ e)
  obtain ⟨t, ht, hq⟩ := hbody A outer s (unl H cs) vs _ E (hr.deeper _) hsp
  have I : Inv (NdefX.ncx CX0 P w K mg base N F.nf f A outer s (unl H cs) E) [] (NdefX.startF N vs ws) (unl H cs) { s with heap := h₁, toks := s.toks + (ps.zip us).length } := NdefX.inv_startN S hr.hd (env0_unl e0 g3) hl r (C.at g3 e0.hok) hns kp
  refine PySem.W.kla_codeExpr (wpAny_mono (ht.run [] _ _ _ _ I hq) (fun v s' hq => ?_) fun e s' hq => hq)
  obtain ⟨w', H', J', rv, q⟩ := hq
  exact ⟨w', H', J'.os, J'.bare, J'.base, J'.hok, rv, q⟩
end
section
variable {X : Cx} {pins : List (Addr × Obj)} {σ : L2.St} {H : Hp} {s : Shared}
def ownCells (X : Cx) (h : Heap) : Lent := (X.env.cells.map (·.1)).filterMap fun y => match X.env.cells.lookup y with
  | some c => (h.get? c).map fun o => (c, o)
  | none => none
theorem look_has {α β : Type} [BEq α] [LawfulBEq α] {a : α} {b : β} : ∀ {l : List (α × β)}, (a, b) ∈ l → ∃ b', l.lookup a = some b'
  | (x, y) :: r, h => by
    by_cases e : a = x
    · subst e
      exact ⟨y, by simp [List.lookup]⟩
    · rcases List.mem_cons.mp h with h | h
      · cases h
        exact absurd rfl e
      · obtain ⟨b', h'⟩ := look_has h
        refine ⟨b', ?_⟩
        have : (a == x) = false := by simpa using e
        simp [List.lookup, this, h']
theorem mem_look {α β : Type} [BEq α] [LawfulBEq α] {a : α} {b : β} : ∀ {l : List (α × β)}, l.lookup a = some b → (a, b) ∈ l
  | (x, y) :: r, h => by
    by_cases e : a = x
    · subst e
      simp [List.lookup] at h
      rw [h]
      exact List.mem_cons_self
    · have e2 : (a == x) = false := by simpa using e
      simp only [List.lookup, e2] at h
      exact List.mem_cons_of_mem _ (mem_look h)
theorem own_mem {c : Addr} {o : Obj} {h : Heap} (e : (c, o) ∈ ownCells X h) : h.get? c = some o ∧ ∃ y, X.env.cells.lookup y = some c := by
  unfold ownCells at e
  obtain ⟨y, _, hy⟩ := List.mem_filterMap.mp e
  cases hl : X.env.cells.lookup y with
  | none => rw [hl] at hy; cases hy
  | some c' =>
    rw [hl] at hy
    dsimp only at hy
    cases ho : h.get? c' with
    | none => rw [ho] at hy; cases hy
    | some o' =>
      rw [ho] at hy
      cases hy
      exact ⟨ho, y, hl⟩
theorem own_look {c : Addr} {o : Obj} {h : Heap} (e : (ownCells X h).lookup c = some o) : h.get? c = some o ∧ ∃ y, X.env.cells.lookup y = some c := own_mem (mem_look e)
theorem own_in {c : Addr} {o : Obj} {h : Heap} {y : Str} (hy : X.env.cells.lookup y = some c) (ho : h.get? c = some o) : (ownCells X h).lookup c = some o := by
  have hm : (c, o) ∈ ownCells X h := by
    unfold ownCells
    refine List.mem_filterMap.mpr ⟨y, List.mem_map.mpr ⟨_, PySem.mem_of_lookup hy, rfl⟩, ?_⟩
    rw [hy]
    dsimp only
    rw [ho]
    rfl
  obtain ⟨o', h'⟩ := look_has hm
  have := (own_look h').1
  rw [ho] at this
  cases this
  exact h'
structure Lends (X : Cx) (σ : L2.St) (H : Hp) (cs : Lent) : Prop where
  new : Fresh cs H
  cel : Cells cs
  got : ∀ (scope : PySem.Scope) (fr : List Str) (js : List Nat), NdefX.ndefB X.env.scope scope fr = true → js.map (fun j => X.N[j]?) = fr.map some → Caught (cloFrom X.env.cells scope.names []) fr (js.map (NdefX.slotAt σ)) cs
theorem lends_own (I : Inv X pins σ H s) : Lends X σ H (ownCells X s.heap) := by
  have cel : Cells (ownCells X s.heap) := fun c o e => by
    obtain ⟨h1, y, h2⟩ := own_look e
    obtain ⟨v, o', h3, h4⟩ := I.cell y c h2
    rw [h1] at h3
    cases h3
    exact ⟨v, h4⟩
  refine ⟨fun c o e => ?_, cel, fun scope fr js hfr hjs => ?_⟩
  · obtain ⟨_, y, h2⟩ := own_look e
    exact I.freeC y c h2
  · have C := NdefX.Caps.made I.ok (NdefX.ndef_free hfr) (NdefX.ndef_fr hfr) hjs
    have A := NdefX.cells_of I C
    refine ⟨A.len, fun y c e => ?_, A.inj, fun i y e => ?_⟩
    · obtain ⟨_, v, o, h1, h2⟩ := A.all y c e
      exact ⟨o, v, own_in (C.sub y c e) h1, h2⟩
    · obtain ⟨c, h1, h2⟩ := A.has i y e
      refine ⟨c, h1, fun v hv => ?_⟩
      obtain ⟨u, r, o, h3, h4⟩ := h2 v hv
      exact ⟨u, o, r, own_in (C.sub y c h1) h3, h4⟩
theorem env0_lend (I : Inv X pins σ H s) (hfn : ∀ x, X.fn x = true) : Env0 X.prog X.w X.K X.mg X.base X.A X.stack s (lend H (ownCells X s.heap)) := by
  have L := lends_own I
  have big : ∀ c o, (ownCells X s.heap).lookup c = some o → X.s_0.heap.objs.size ≤ c := fun c o e => by
    obtain ⟨_, y, h2⟩ := own_look e
    exact I.ok.cab y c (hfn y) h2
  refine ⟨I.ok.frames, I.ok.mod, fun b o e => ⟨(I.bs b o e).1, ?_⟩, Nat.le_trans I.ok.bsz I.sz, I.stack, fun b hb => ?_, hok_lend I.hok L.new (fun c o e => (own_look e).1), I.bare⟩
  · cases hl : (ownCells X s.heap).lookup b with
    | none => rw [lend_out hl]; exact (I.bs b o e).2
    | some ob =>
      exact absurd (Nat.lt_of_lt_of_le (Heap.lt_size e) I.ok.bsz) (Nat.not_lt.mpr (big _ _ hl))
  · cases hl : (ownCells X s.heap).lookup b with
    | none => rw [lend_out hl]; exact I.stkFree b hb
    | some ob =>
      exfalso
      rcases List.mem_cons.mp (I.stkSub b hb) with e | hb
      · obtain ⟨v, hv⟩ := L.cel _ _ hl
        obtain ⟨m, hn, _⟩ := I.loc
        obtain ⟨o2, es, ep, h1, h3, _⟩ := hn
        rw [← e, (own_look hl).1] at h1
        cases h1
        rw [hv] at h3
        cases h3
      · obtain ⟨_, o, ho, _⟩ := I.ok.funs.mem hb
        exact absurd (Heap.lt_size ho) (Nat.not_lt.mpr (big _ _ hl))
theorem pe_callLd {k : Nat} {f : Addr} {fd : FuncData} {ps : List Str} {sp : Sp} {x : Str} {p pos : Pos} {e : PySem.Expr} {es : List PySem.Expr} {t : TA} (F : FnOk X.prog X.w X.K X.mg X.base CX0 k f fd ps sp) (hr : Room k X.A) (hg : Gl X x) (hm : X.mg x = some (.ref f)) (hk : PySem.W.keepIn X.K (.ref f) = true) (hb : Binds X.K fd ps []) (hfn : ∀ x, X.fn x = true)
    (ha : PA X (e :: es) t) (hdb : (x == ("__debug__" : Str)) = false := by decide) (he : starEach (e :: es) X.env = (false, eval e X.env) :: starEach es X.env := by rfl) (hpl : (backTo pos (starEach es X.env)).any (·.1) = false := by rfl) :
    PE X (.Call (.Name x p) (e :: es) [] pos) (fun σ H Q => t σ H fun vs H1 => ∀ cs, Lends X σ H1 cs → sp vs (lend H1 cs) (fun v H2 => LentAt cs H2 ∧ Q v (unl H2 cs)) E0) := by
  refine ⟨fun pins s σ H Q I h => ?_⟩
  refine wpAny_Call_Name_kw (ld_glob I hg hm ?_ hdb)
  refine PySem.W.callWith_K (h₀ := X.base) I.ok.mod.kin hk (thn (ha.run pos pins s σ H _ I h) fun us s1 ⟨vs, H1, I1, r, q⟩ => ⟨I1.kIn, ?_⟩) he hpl
  have L := lends_own I1
  have q := q _ L
  have hl : us.length = ps.length := by rw [← r.length]; exact F.len _ _ _ _ q
  have hb' := hb s1 us I1.kIn (by rw [List.append_nil]; exact hl)
  rw [List.append_nil] at hb'
  refine wpAny_call (codeAny_mono (F.run X.A X.stack s1 _ ⟨us, []⟩ us vs _ E0 hr (env0_lend I1 hfn) hb' r q) fun r s' hq => ?_)
  cases r with
  | error e => exact (show False from hq).elim
  | ok fl =>
    cases fl with
    | ret u =>
      obtain ⟨v, H2, h1, h2, h3, h4, h5, h6, h7⟩ := hq
      exact I1.after ⟨v, unl H2 _, h1, h2, un_back h3 L.new h6 h4 (fun c o e => (own_look e).1), hok_unl h4 h6, h5, h7⟩
    | next => exact False.elim hq
    | brk => exact False.elim hq
    | cont => exact False.elim hq
end
theorem pe_lamXc {X : Cx} {c P : Addr} {params : Arguments} {body : PySem.Expr} {scope : PySem.Scope} {pos : Pos} {fr : List Str} (tb : LamX.TabB X.base X.mg c P) (hc : X.env.code = .ref c) (hd : defaultsOf params X.env = ([], []))
    (hfr : NdefX.ndefB X.env.scope scope fr = true) : PE X (.Lambda params body scope pos) (fun σ H Q => LamX.TabS H P (X.env.qual ++ "<lambda>") ∧ ∀ (f c : Addr) (H1 : Hp), Fr P H H1 → (∀ b, H1 b = none → H b = none) → LamX.TabS H1 P (X.env.qual ++ "<lambda>") → H f = none →
      H1 f = some (LamO f ⟨X.env.qual ++ "<lambda>", params, body, scope, cloFrom X.env.cells scope.names [], c⟩) → H1 c = some (LamX.CodeO c (X.env.qual ++ "<lambda>")) → Q (.ref f) H1) :=
  ⟨fun pins s σ H Q I h => (pe_lamX tb hc hd fun y hy e => ((NdefX.ndef_free hfr) y hy e).elim (fun z => I.ok.has _ (.inl z)) fun z => I.ok.has _ (.inr z)).run pins s σ H Q I h⟩


theorem cut_fromU (xs : List V) (k : Nat) (h : k ≤ xs.length) : cutV xs (some (k : Int)) none = xs.drop k := by
  have e : HT.sIx xs.length 0 (some (k : Int)) = k := by
    show (if (k : Int) < 0 then ((k : Int) + (xs.length : Int)).toNat else min ((k : Int).toNat) xs.length) = k
    rw [if_neg (by omega)]
    omega
  have e2 : HT.sIx xs.length xs.length none = xs.length := rfl
  unfold cutV
  rw [e, e2]
  exact List.take_of_length_le (by rw [List.length_drop]; omega)
theorem TabS.fr1 {H H' : Hp} {P p : Addr} {q : Str} {xs : List V} (h : LamX.TabS H P q) (hp : H p = some (.lst xs)) (f : Fr p H H') : LamX.TabS H' P q := by
  obtain ⟨ps, h1, h2, h3⟩ := h
  refine ⟨ps, f _ _ (fun e => by rw [e, hp] at h1; cases h1) h1, h2, fun pos cv hc => ?_⟩
  obtain ⟨c, e, h4⟩ := h3 pos cv hc
  exact ⟨c, e, f _ _ (fun e => by rw [e, hp] at h4; cases h4) h4⟩
mutual
theorem TrAt.kind1 {ok : Addr → Prop} {H : Hp} : ∀ (t : Tr) (v : V), TrAt ok H v t → TrAt (fun b => ok b ∧ ∀ ps, H b ≠ some (.tbl ps)) H v t
  | .node c ks, v, x => by
    cases x with
    | node h1 h2 k1 k2 c1 c2 r => exact .node h1 h2 ⟨k1, fun ps e => by rw [h1] at e; cases e⟩ ⟨k2, fun ps e => by rw [h2] at e; cases e⟩ c1 c2 (TrsAt.kind1 ks _ r)
theorem TrsAt.kind1 {ok : Addr → Prop} {H : Hp} : ∀ (ts : List Tr) (vs : List V), TrsAt ok H vs ts → TrsAt (fun b => ok b ∧ ∀ ps, H b ≠ some (.tbl ps)) H vs ts
  | [], vs, x => by cases x; exact .nil
  | t :: r, vs, x => by
    cases x with
    | cons a b => exact .cons (TrAt.kind1 t _ a) (TrsAt.kind1 r _ b)
end
section
variable {P : Program} {w : World} {K : PySem.W.Frag} {mg : Str → Option Value} {base : Heap}
theorem ok_built_upward (T : Txt K mg) (k : Nat) (hk : 5 ≤ k) (Pt : Addr) (qn : Str) : FnOk P w K mg base CX0 (k + 1) T.f_built_upward T.d_built_upward ["tree", "made"] (sp_built_upward P w K mg base k Pt qn) := by
  have G_parts_upward : FnOk P w K mg base CX0 5 T.f_parts_upward T.d_parts_upward ["tree"] sp_parts_upward := ok_parts_upward T
  refine T.F_built_upward.ok sc_built_upward (fun vs H Q E h => ?_) (fun cdv A outer s H vs Q E hr h => ?_)
  · obtain ⟨v, t, f, It, rfl, _⟩ := h
    rfl
  obtain ⟨v, t, f, It, rfl, ht, hz, hIt, hT, C, q⟩ := h
  have C_made := C
  refine ⟨_, (pss_cons (ps_set (i := 2) sc_built_upward.nd rfl (Or.inl rfl) (pe_lst pa_nil)) (pss_cons (ps_for PassesOwn.never rfl (pi_list (pe_call G_parts_upward (hr.mono (by omega)) (by rfl) T.m_parts_upward T.F_parts_upward.kp T.b_parts_upward .nil pass0 (pa_cons (pv 0) pa_nil))) (pg_tup rfl (pgs_cons (pg_name (i := 3) sc_built_upward.nd rfl (Or.inl rfl)) (pgs_cons (pg_name (i := 4) sc_built_upward.nd rfl (Or.inl rfl)) pgs_nil))) (pss_cons (ps_set (i := 5) sc_built_upward.nd rfl (Or.inl rfl) (pe_op op_sub (pe_callB call_len_seq (by rfl) T.z_len PySem.boot_len (pa_cons (pv 2) pa_nil)) (pe_callB call_len_seq (by rfl) T.z_len PySem.boot_len (pa_cons (pv 4) pa_nil)))) (pss_cons (ps_set (i := 6) sc_built_upward.nd rfl (Or.inl rfl) (pe_slice sl_list (pv 2) (po_some (pv 5)) po_none)) (pss_cons (ps_delFrom (pv 2) (pv 5)) (pss_one (ps_expr (pe_bm PySem.F.plainAttrs_list PySem.F.slot_list_append PySem.F.type_list_append mt_append (pv 2) (pa_cons (pe_calX (i := 1) C_made (hr.mono (by omega)) rfl (.inl (by rfl)) (pa_cons (pv 3) (pa_cons (pv 6) pa_nil))) pa_nil)))))))) (pss_one (ps_ret (pe_ix ix_list (pv 2) pe_int (fun _ _ => rfl)))))), ?_⟩
  obtain ⟨ps0, hP0, _, _⟩ := id hT
  refine ⟨(by show 0 ≤ sizeLine; decide), fun wl hwl => ?_⟩
  have nPw : Pt ≠ wl := ne_of_none hP0 hwl
  have ht1 := (ht.off hwl).same (same_new (o := .lst []) hwl)
  refine ⟨_, rfl, v, t, _, rfl, ht1, hz, fun r wsv H1 s1 hr0 hr1 hparts => ?_⟩
  have hw1 : H1 wl = some (.lst []) := s1 _ _ upd_same
  have nrw : r ≠ wl := fun e => by rw [e, upd_same] at hr0; cases hr0
  have sH1 : Same H H1 := (same_new hwl).trans s1
  have hr00 : H r = none := by rw [upd_ne nrw] at hr0; exact hr0
  have nPr : Pt ≠ r := ne_of_none hP0 hr00
  have hp2 : TrsAt (fun b => b ≠ wl ∧ b ≠ r ∧ b ≠ Pt) H1 wsv t.post := by
    exact (TrsAt.kind1 _ _ hparts).weak fun b ⟨⟨k, h⟩, n⟩ => ⟨k.2, fun e => h (by rw [e]; exact hr0), fun e => n ps0 (by rw [e]; exact sH1 _ _ hP0)⟩
  refine ⟨r, rfl, ⟨_, SqL.of hr1⟩, for_list (xs := wsv) (fun i σ H2 => ∃ (y3 y4 y5 y6 : Option V) (bs : List (V × Tr × List Addr)), σ = [some v, some (.ref f), some (.ref wl), y3, y4, y5, y6] ∧ H2 wl = some (.lst (bs.map (·.1))) ∧
      (∀ b ∈ bs, It (fun b => H b = none ∧ b ≠ wl) H2 b.1 b.2.1 b.2.2) ∧ (lstsI bs).Nodup ∧ Runs (bs.map (·.2.1)) (t.post.drop i) [t] ∧ sizes (bs.map (·.2.1)) ≤ i ∧ Fr Pt H H2 ∧ LamX.TabS H2 Pt qn ∧ H2 r = some (.lst wsv) ∧ TrsAt (fun b => b ≠ wl ∧ b ≠ r ∧ b ≠ Pt) H2 wsv t.post)
    ⟨none, none, none, none, [], rfl, hw1, (fun _ h => by cases h), List.nodup_nil, (by rw [List.drop_zero]; exact runs_all t), (Nat.le_refl _), Fr.same sH1, hT.ext sH1, hr1, hp2⟩ (fun i σ H2 _ ⟨_, _, _, _, _, _, _, _, _, _, _, _, _, h, _⟩ => SqL.of h) ?_ ?_⟩
  · rintro i x σ H2 hx ⟨y3, y4, y5, y6, bs, rfl, hw2, hb, hnd, hst, hsz, hf, hT2, hr2, hpp⟩
    obtain ⟨t1, ht1', hx2⟩ := hpp.getV hx
    have hdrop : t.post.drop i = t1 :: t.post.drop (i + 1) := by
      obtain ⟨hlt, e⟩ := List.getElem?_eq_some_iff.mp ht1'
      rw [← e]
      exact List.drop_eq_getElem_cons hlt
    have hi : i < t.size := by
      have := (List.getElem?_eq_some_iff.mp ht1').1
      rw [post_len] at this
      exact this
    rw [hdrop] at hst
    generalize hus : bs.map (·.2.1) = us0 at hst
    cases hst with
    | cons hst =>
    rename_i us ks c
    obtain ⟨b1, b2, rfl, e1, e2⟩ := List.map_eq_append_iff.mp hus
    subst e1
    subst e2
    rw [List.map_append, sizes_append] at hsz
    have lz := len_sizes (b2.map (·.2.1))
    have lz1 := len_sizes (b1.map (·.2.1))
    rw [List.length_map] at lz lz1
    cases hx2 with
    | node g1 g2 o1 o2 c1 c2 rr =>
      rename_i ax lx vx
      have lr := rr.len
      rw [List.length_map] at lr
      refine ⟨_, _, rfl, SqT.of g1, rfl, ?_⟩
      refine ⟨_, _, rfl, _, _, rfl, rfl, _, rfl, wl, _, rfl, .inl (SqL.of hw2), _, rfl, lx, _, rfl, .inl (SqL.of g2), _, _, rfl, rfl, ?_⟩
      rw [List.length_map, lr, List.length_append]
      have ek : (((b1.length + b2.length : Nat) : Int) - (b2.length : Int)) = (b1.length : Int) := by omega
      show gName 5 (.int (((b1.length + b2.length : Nat) : Int) - (b2.length : Int))) _ _ _
      rw [ek]
      refine ⟨_, rfl, _, rfl, _, rfl, wl, _, rfl, SqL.of hw2, fun p hp => ?_⟩
      rw [cut_fromU _ _ (by rw [List.length_map, List.length_append]; omega)]
      have hcut : ((b1 ++ b2).map (·.1)).drop b1.length = b2.map (·.1) := by
        rw [List.map_append, List.drop_left' (List.length_map _)]
      have htk : ((b1 ++ b2).map (·.1)).take b1.length = b1.map (·.1) := by
        rw [List.map_append, List.take_left' (List.length_map _)]
      rw [hcut]
      have nPp : Pt ≠ p := by
        intro e
        obtain ⟨_, e2, _⟩ := hT2
        rw [← e, e2] at hp
        cases hp
      have npw : p ≠ wl := fun e => by rw [e, hw2] at hp; cases hp
      have hp0 : H p = none := by
        cases e : H p with
        | none => rfl
        | some o => rw [hf p o nPp.symm e] at hp; cases hp
      have okP : ∀ b, (H b = none ∧ b ≠ wl) → b ≠ Pt := fun b h e => by rw [e, hP0] at h; cases h.1
      refine ⟨_, rfl, _, rfl, wl, _, b1.length, rfl, rfl, (by rw [upd_ne npw.symm]; exact hw2), (by rw [List.length_map, List.length_append]; omega), ?_⟩
      rw [htk]
      generalize hH5 : upd (upd H2 p (.lst (b2.map (·.1)))) wl (.lst (b1.map (·.1))) = H5
      have hw5 : H5 wl = some (.lst (b1.map (·.1))) := by rw [← hH5]; exact upd_same
      have hp5 : H5 p = some (.lst (b2.map (·.1))) := by rw [← hH5, upd_ne npw]; exact upd_same
      have k25 : ∀ b o, b ≠ wl → H2 b = some o → H5 b = some o := fun b o n e => by rw [← hH5, upd_ne n, upd_ne (ne_of_none e hp)]; exact e
      have T5 : LamX.TabS H5 Pt qn := TabS.fr1 hT2 hw2 fun b o n e => k25 b o n e
      have F5 : Fr Pt H H5 := fun b o n e => k25 _ _ (ne_of_none e hwl) (hf b o n e)
      refine ⟨_, rfl, .inl ⟨rfl, _, SqL.of hw5⟩, rfl, F5, _, rfl, _, rfl, F5, c, p, b2, (fun b => H b = none ∧ b ≠ wl), rfl, c1, c2, hp5, ⟨hp0, npw⟩, ?_, ?_, by omega, okP, T5, fun v' as H6 f6 T6 it6 nd6 ha6 => ?_⟩
      · exact fun b hb5 => hIt.imp (fun _ h => h) (fun b o h e => k25 b o h.2 e) (hb b (List.mem_append_right _ hb5))
      · have e0 : lstsI (b1 ++ b2) = lstsI b1 ++ lstsI b2 := by simp [lstsI]
        rw [e0] at hnd
        rw [List.nodup_cons]
        refine ⟨fun hm => ?_, (List.nodup_append.mp hnd).2.1⟩
        obtain ⟨as, ha, hl2⟩ := List.mem_flatten.mp hm
        obtain ⟨b, hb8, rfl⟩ := List.mem_map.mp ha
        obtain ⟨_, xs, e5⟩ := hIt.lst (hb b (List.mem_append_right _ hb8)) p hl2
        rw [hp] at e5
        cases e5
      have hw6 := f6 _ _ nPw.symm hw5
      refine ⟨wl, _, v', rfl, rfl, hw6, Nat.lt_of_le_of_lt (show (b1.map (·.1)).length ≤ 1000000 by rw [List.length_map]; omega) (by decide), ?_⟩
      have k27 : ∀ b o, b ≠ Pt → b ≠ wl → H2 b = some o → (upd H6 wl (.lst (b1.map (·.1) ++ [v']))) b = some o := fun b o n1 n2 e => by
        rw [upd_ne n2]
        exact f6 _ _ n1 (k25 _ _ n2 e)
      obtain ⟨ps5, hP5, _, _⟩ := id T5
      have free5 : ∀ b, H5 b = none → H b = none ∧ b ≠ wl := fun b h => by
        refine ⟨?_, fun e => by rw [e, hw5] at h; cases h⟩
        cases e : H b with
        | none => rfl
        | some o =>
          have n1 : b ≠ Pt := fun e2 => by rw [e2, hP5] at h; cases h
          rw [F5 _ _ n1 e] at h
          cases h
      refine ⟨_, _, _, _, b1 ++ [(v', .node c (b2.map (·.2.1)), as)], rfl, ?_, ?_, ?_, ?_, ?_, ?_, ?_, k27 _ _ nPr.symm nrw hr2, ?_⟩
      · rw [upd_same, List.map_append]
        rfl
      · intro b hb7
        rcases List.mem_append.mp hb7 with h | h
        · exact hIt.imp (fun _ h => h) (fun b o h e => k27 b o (okP b h) h.2 e) (hb b (List.mem_append_left _ h))
        · simp only [List.mem_singleton] at h
          subst h
          refine hIt.imp (fun b h => h.elim id (free5 b)) (fun b o h e => ?_) it6
          rw [upd_ne (h.elim (fun h => h.2) fun h => (free5 b h).2)]
          exact e
      · have e0 : lstsI (b1 ++ b2) = lstsI b1 ++ lstsI b2 := by simp [lstsI]
        have e1 : lstsI (b1 ++ [(v', Tr.node c (b2.map (·.2.1)), as)]) = lstsI b1 ++ as := by simp [lstsI]
        rw [e0] at hnd
        rw [e1]
        refine nodup_snoc (List.nodup_append.mp hnd).1 nd6 fun a h1 h2 => ?_
        obtain ⟨as1, hm1, hl1⟩ := List.mem_flatten.mp h1
        obtain ⟨b, hb8, rfl⟩ := List.mem_map.mp hm1
        obtain ⟨o1, xs, e5⟩ := hIt.lst (hb b (List.mem_append_left _ hb8)) a hl1
        rcases ha6 a h2 with h | h
        · rcases List.mem_cons.mp h with h | h
          · rw [h, hp] at e5; cases e5
          · exact (List.nodup_append.mp hnd).2.2 a h1 a h rfl
        · rw [k25 _ _ o1.2 e5] at h
          cases h
      · rw [List.map_append]
        exact hst
      · rw [List.map_append, sizes_append]
        simp only [List.map_cons, List.map_nil, sizes, Tr.size]
        omega
      · intro b o n e
        exact k27 b o n (ne_of_none e hwl) (hf b o n e)
      · exact TabS.fr1 T6 hw6 fun b o n e => by rw [upd_ne n]; exact e
      · exact hpp.keep fun b o h e => k27 b o h.2.2 h.1 e
  · rintro σ H2 ⟨y3, y4, y5, y6, bs, rfl, hw2, hb, hnd, hst, hsz, hf, hT2, hr2, hpp⟩
    rw [hpp.len, List.drop_length] at hst
    generalize hus : bs.map (·.2.1) = us0 at hst
    cases hst
    obtain ⟨b, rfl⟩ : ∃ b, bs = [b] := by
      have := congrArg List.length hus
      rw [List.length_map] at this
      exact List.length_eq_one_iff.mp this
    simp only [List.map_cons, List.map_nil, List.cons.injEq, and_true] at hus
    refine ⟨_, rfl, wl, _, 0, b.1, rfl, rfl, SqL.of hw2, atI_nat (j := 0) rfl, ?_⟩
    have hb1 := hb b (by simp)
    refine q b.1 b.2.2 H2 hf hT2 ?_ (by simpa [lstsI] using hnd)
    rw [← hus]
    exact hIt.imp (fun b h => h.1) (fun _ _ _ h => h) hb1
end

def FrX (E : Addr → Prop) (H H' : Hp) : Prop := ∀ b o, ¬ E b → H b = some o → H' b = some o
theorem FrX.refl {E : Addr → Prop} {H : Hp} : FrX E H H := fun _ _ _ h => h
theorem FrX.trans {E : Addr → Prop} {H H1 H2 : Hp} (a : FrX E H H1) (b : FrX E H1 H2) : FrX E H H2 := fun c o n h => b c o n (a c o n h)
theorem FrX.same {E : Addr → Prop} {H H' : Hp} (s : Same H H') : FrX E H H' := fun b o _ h => s b o h
def sp_madeJ (R : Tr → V) (E : Addr → Prop) (H0 : Hp) (J : List Tr → Hp → Prop) (t0 : Tr) : Sp := fun vs H Q _ => ∃ (c : Nat) (bl : Addr) (ks done rest : List Tr), vs = [.str (ch c), .ref bl] ∧ t0.post = done ++ .node c ks :: rest ∧ 97 ≤ c ∧ c ≤ 122 ∧ ks.length ≤ 1000000 ∧
  H bl = some (.lst (ks.map R)) ∧ H0 bl = none ∧ FrX E H0 H ∧ J done H ∧ ∀ H', FrX E H H' → J (done ++ [.node c ks]) H' → Q (R (.node c ks)) H'
def sp_built_upwardJ (P : Program) (w : World) (K : PySem.W.Frag) (mg : Str → Option Value) (base : Heap) (k : Nat) : Sp := fun vs H Q _ => ∃ (v : V) (t : Tr) (f : Addr) (R : Tr → V) (E : Addr → Prop) (J : List Tr → Hp → Prop), vs = [v, .ref f] ∧ TrAt (fun b => ¬ E b) H v t ∧ t.size ≤ 1000000 ∧
  (∀ b, E b → H b ≠ none) ∧ (∀ l H' b, J l H' → E b → H' b ≠ none) ∧ (∀ l H1 H2, (∀ b o, H b ≠ none → H1 b = some o → H2 b = some o) → J l H1 → J l H2) ∧ J [] H ∧
  CalX P w K mg base k f (fun H' => FrX E H H') 2 (sp_madeJ R E H J t) ∧ ∀ H', FrX E H H' → J t.post H' → Q (R t) H'
section
variable {P : Program} {w : World} {K : PySem.W.Frag} {mg : Str → Option Value} {base : Heap}
theorem ok_built_upwardJ (T : Txt K mg) (k : Nat) (hk : 5 ≤ k) : FnOk P w K mg base CX0 (k + 1) T.f_built_upward T.d_built_upward ["tree", "made"] (sp_built_upwardJ P w K mg base k) := by
  have G_parts_upward : FnOk P w K mg base CX0 5 T.f_parts_upward T.d_parts_upward ["tree"] sp_parts_upward := ok_parts_upward T
  refine T.F_built_upward.ok sc_built_upward (fun vs H Q E h => ?_) (fun cdv A outer s H vs Q E hr h => ?_)
  · obtain ⟨v, t, f, R, EE, J, rfl, _⟩ := h
    rfl
  obtain ⟨v, t, f, R, EE, J, rfl, ht, hz, hE, hJE, hJ, J0, C, q⟩ := h
  have C_made := C
  refine ⟨_, (pss_cons (ps_set (i := 2) sc_built_upward.nd rfl (Or.inl rfl) (pe_lst pa_nil)) (pss_cons (ps_for PassesOwn.never rfl (pi_list (pe_call G_parts_upward (hr.mono (by omega)) (by rfl) T.m_parts_upward T.F_parts_upward.kp T.b_parts_upward .nil pass0 (pa_cons (pv 0) pa_nil))) (pg_tup rfl (pgs_cons (pg_name (i := 3) sc_built_upward.nd rfl (Or.inl rfl)) (pgs_cons (pg_name (i := 4) sc_built_upward.nd rfl (Or.inl rfl)) pgs_nil))) (pss_cons (ps_set (i := 5) sc_built_upward.nd rfl (Or.inl rfl) (pe_op op_sub (pe_callB call_len_seq (by rfl) T.z_len PySem.boot_len (pa_cons (pv 2) pa_nil)) (pe_callB call_len_seq (by rfl) T.z_len PySem.boot_len (pa_cons (pv 4) pa_nil)))) (pss_cons (ps_set (i := 6) sc_built_upward.nd rfl (Or.inl rfl) (pe_slice sl_list (pv 2) (po_some (pv 5)) po_none)) (pss_cons (ps_delFrom (pv 2) (pv 5)) (pss_one (ps_expr (pe_bm PySem.F.plainAttrs_list PySem.F.slot_list_append PySem.F.type_list_append mt_append (pv 2) (pa_cons (pe_calX (i := 1) C_made (hr.mono (by omega)) rfl (.inl (by rfl)) (pa_cons (pv 3) (pa_cons (pv 6) pa_nil))) pa_nil)))))))) (pss_one (ps_ret (pe_ix ix_list (pv 2) pe_int (fun _ _ => rfl)))))), ?_⟩
  refine ⟨(by show 0 ≤ sizeLine; decide), fun wl hwl => ?_⟩
  have nEw : ∀ b, H b = none → ¬ EE b := fun b h e => hE b e h
  have ht1 := (ht.off hwl).same (same_new (o := .lst []) hwl)
  refine ⟨_, rfl, v, t, _, rfl, ht1, hz, fun r wsv H1 s1 hr0 hr1 hparts => ?_⟩
  have hw1 : H1 wl = some (.lst []) := s1 _ _ upd_same
  have nrw : r ≠ wl := fun e => by rw [e, upd_same] at hr0; cases hr0
  have sH1 : Same H H1 := (same_new hwl).trans s1
  have hr00 : H r = none := by rw [upd_ne nrw] at hr0; exact hr0
  have hp2 : TrsAt (fun b => b ≠ wl ∧ b ≠ r ∧ ¬ EE b) H1 wsv t.post := by
    exact hparts.weak fun b ⟨k, h⟩ => ⟨k.2, fun e => h (by rw [e]; exact hr0), k.1⟩
  refine ⟨r, rfl, ⟨_, SqL.of hr1⟩, for_list (xs := wsv) (fun i σ H2 => ∃ (y3 y4 y5 y6 : Option V) (us : List Tr), σ = [some v, some (.ref f), some (.ref wl), y3, y4, y5, y6] ∧ H2 wl = some (.lst (us.map R)) ∧
      Runs us (t.post.drop i) [t] ∧ sizes us ≤ i ∧ FrX EE H H2 ∧ J (t.post.take i) H2 ∧ H2 r = some (.lst wsv) ∧ TrsAt (fun b => b ≠ wl ∧ b ≠ r ∧ ¬ EE b) H2 wsv t.post)
    ⟨none, none, none, none, [], rfl, hw1, (by rw [List.drop_zero]; exact runs_all t), (Nat.le_refl _), FrX.same sH1, (by rw [List.take_zero]; exact hJ _ _ _ (fun b o _ e => sH1 b o e) J0), hr1, hp2⟩ (fun i σ H2 _ ⟨_, _, _, _, _, _, _, _, _, _, _, h, _⟩ => SqL.of h) ?_ ?_⟩
  · rintro i x σ H2 hx ⟨y3, y4, y5, y6, us0, rfl, hw2, hst, hsz, hf, hJ2, hr2, hpp⟩
    obtain ⟨t1, ht1', hx2⟩ := hpp.getV hx
    have hdrop : t.post.drop i = t1 :: t.post.drop (i + 1) := by
      obtain ⟨hlt, e⟩ := List.getElem?_eq_some_iff.mp ht1'
      rw [← e]
      exact List.drop_eq_getElem_cons hlt
    have hi : i < t.size := by
      have := (List.getElem?_eq_some_iff.mp ht1').1
      rw [post_len] at this
      exact this
    have hsplit : t.post = t.post.take i ++ t1 :: t.post.drop (i + 1) := by rw [← hdrop, List.take_append_drop]
    have htake : t.post.take (i + 1) = t.post.take i ++ [t1] := take_succ_of ht1'
    rw [hdrop] at hst
    cases hst with
    | cons hst =>
    rename_i us ks c
    rw [sizes_append] at hsz
    have lz := len_sizes ks
    have lz1 := len_sizes us
    cases hx2 with
    | node g1 g2 o1 o2 c1 c2 rr =>
      rename_i ax lx vx
      have lr := rr.len
      refine ⟨_, _, rfl, SqT.of g1, rfl, ?_⟩
      refine ⟨_, _, rfl, _, _, rfl, rfl, _, rfl, wl, _, rfl, .inl (SqL.of hw2), _, rfl, lx, _, rfl, .inl (SqL.of g2), _, _, rfl, rfl, ?_⟩
      rw [List.length_map, lr, List.length_append]
      have ek : (((us.length + ks.length : Nat) : Int) - (ks.length : Int)) = (us.length : Int) := by omega
      show gName 5 (.int (((us.length + ks.length : Nat) : Int) - (ks.length : Int))) _ _ _
      rw [ek]
      refine ⟨_, rfl, _, rfl, _, rfl, wl, _, rfl, SqL.of hw2, fun p hp => ?_⟩
      rw [cut_fromU _ _ (by rw [List.length_map, List.length_append]; omega)]
      have hcut : ((us ++ ks).map R).drop us.length = ks.map R := by
        rw [List.map_append, List.drop_left' (List.length_map _)]
      have htk : ((us ++ ks).map R).take us.length = us.map R := by
        rw [List.map_append, List.take_left' (List.length_map _)]
      rw [hcut]
      have npw : p ≠ wl := fun e => by rw [e, hw2] at hp; cases hp
      have hp0 : H p = none := by
        cases e : H p with
        | none => rfl
        | some o =>
          by_cases hEp : EE p
          · exact absurd hp (hJE _ _ _ hJ2 hEp)
          · rw [hf p o hEp e] at hp; cases hp
      refine ⟨_, rfl, _, rfl, wl, _, us.length, rfl, rfl, (by rw [upd_ne npw.symm]; exact hw2), (by rw [List.length_map, List.length_append]; omega), ?_⟩
      rw [htk]
      generalize hH5 : upd (upd H2 p (.lst (ks.map R))) wl (.lst (us.map R)) = H5
      have hw5 : H5 wl = some (.lst (us.map R)) := by rw [← hH5]; exact upd_same
      have hp5 : H5 p = some (.lst (ks.map R)) := by rw [← hH5, upd_ne npw]; exact upd_same
      have k25 : ∀ b o, b ≠ wl → H2 b = some o → H5 b = some o := fun b o n e => by rw [← hH5, upd_ne n, upd_ne (ne_of_none e hp)]; exact e
      have F5 : FrX EE H H5 := fun b o n e => k25 _ _ (ne_of_none e hwl) (hf b o n e)
      have J5 : J (t.post.take i) H5 := hJ _ _ _ (fun b o hb e => k25 b o (fun e2 => hb (by rw [e2]; exact hwl)) e) hJ2
      refine ⟨_, rfl, .inl ⟨rfl, _, SqL.of hw5⟩, rfl, F5, _, rfl, _, rfl, F5, c, p, ks, t.post.take i, _, rfl, hsplit, c1, c2, by omega, hp5, hp0, F5, J5, fun H6 f6 J6 => ?_⟩
      have hw6 := f6 _ _ (nEw _ hwl) hw5
      refine ⟨wl, _, _, rfl, rfl, hw6, Nat.lt_of_le_of_lt (show (us.map R).length ≤ 1000000 by rw [List.length_map]; omega) (by decide), ?_⟩
      have k27 : ∀ b o, ¬ EE b → b ≠ wl → H2 b = some o → (upd H6 wl (.lst (us.map R ++ [R (.node c ks)]))) b = some o := fun b o n1 n2 e => by
        rw [upd_ne n2]
        exact f6 _ _ n1 (k25 _ _ n2 e)
      refine ⟨_, _, _, _, us ++ [.node c ks], rfl, ?_, hst, ?_, ?_, ?_, k27 _ _ (nEw _ hr00) nrw hr2, ?_⟩
      · rw [upd_same, List.map_append]
        rfl
      · rw [sizes_append]
        simp only [sizes, Tr.size]
        omega
      · intro b o n e
        exact k27 b o n (ne_of_none e hwl) (hf b o n e)
      · rw [htake]
        exact hJ _ _ _ (fun b o hb e => by rw [upd_ne (fun e2 => hb (by rw [e2]; exact hwl))]; exact e) J6
      · exact hpp.keep fun b o h e => k27 b o h.2.2 h.1 e
  · rintro σ H2 ⟨y3, y4, y5, y6, us, rfl, hw2, hst, hsz, hf, hJ2, hr2, hpp⟩
    rw [hpp.len, List.drop_length] at hst
    rw [hpp.len, List.take_length] at hJ2
    cases hst
    exact ⟨_, rfl, wl, _, 0, R t, rfl, rfl, SqL.of hw2, atI_nat (j := 0) rfl, q H2 hf hJ2⟩
end

abbrev nI (n : Nat) : V := .int (n : Int)
theorem nI_map (xs : List Nat) : xs.map nI = (xs.map fun n : Nat => (n : Int)).map V.int := by rw [List.map_map]; rfl
theorem tabsN_fr1 {TT : List NdefX.NTab} {H H' : Hp} {p : Addr} {xs : List V} (h : NdefX.TabsN TT H) (hp : H p = some (.lst xs)) (f : Fr p H H') : NdefX.TabsN TT H' := fun z hz => by
  obtain ⟨ps, h1, h2, h3⟩ := h z hz
  refine ⟨ps, f _ _ (fun e => by rw [e, hp] at h1; cases h1) h1, h2, fun pos cv hc => ?_⟩
  obtain ⟨c, e, h4⟩ := h3 pos cv hc
  exact ⟨c, e, f _ _ (fun e => by rw [e, hp] at h4; unfold LamX.CodeO at h4; cases h4) h4⟩
theorem CalX.imp2 {P : Program} {w : World} {K : PySem.W.Frag} {mg : Str → Option Value} {base : Heap} {k j : Nat} {f : Addr} {G G' : Hp → Prop} {np : Nat} {sp sp' : Sp} (C : CalX P w K mg base k f G np sp) (hk : k ≤ j) (hl : ∀ vs H Q E, sp' vs H Q E → vs.length = np) (hG : ∀ H, G' H → G H) (hs : ∀ vs H Q E, G' H → sp' vs H Q E → sp vs H Q E) : CalX P w K mg base j f G' np sp' :=
  ⟨hl, fun s H a b g => C.at_ s H a b (hG H g), fun A outer s H us vs Q E hr e0 g r q => C.run A outer s H us vs Q E (hr.mono hk) e0 (hG H g) r (hs _ _ _ _ g q)⟩


def cnts (n : Nat) (xs : List Nat) : List Nat := (List.range n).map fun s => xs.count s
mutual
def St (fs : Nat → List Nat → Nat) (n : Nat) : Tr → Nat
  | .node c ks => fs c (cnts n (Sts fs n ks))
def Sts (fs : Nat → List Nat → Nat) (n : Nat) : List Tr → List Nat
  | [] => []
  | t :: r => St fs n t :: Sts fs n r
end
theorem Sts_map (fs : Nat → List Nat → Nat) (n : Nat) : ∀ ks : List Tr, Sts fs n ks = ks.map (St fs n)
  | [] => rfl
  | t :: r => by simp only [Sts, List.map_cons, Sts_map fs n r]
theorem count_cast (s : Nat) : ∀ xs : List Nat, (xs.map fun n : Nat => (n : Int)).count (s : Int) = xs.count s
  | [] => rfl
  | x :: r => by
    rw [List.map_cons, List.count_cons, List.count_cons, count_cast s r]
    by_cases e : x = s
    · subst e; simp
    · have : ¬ ((x : Int) = (s : Int)) := by omega
      simp [e, this]
def sp__numbers (K : PySem.W.Frag) : Sp := fun vs H Q _ => ∃ (b : Addr) (xs : List Nat) (n : Nat), vs = [.ref b, nI n] ∧ SqL K H b (xs.map nI) ∧ n ≤ 1000 ∧ ∀ r H', Same H H' → H r = none → H' r = some (.lst ((cnts n xs).map nI)) → Q (.ref r) H'
def sp_state_at (L : Str) (n : Nat) (fs : Nat → List Nat → Nat) : Sp := fun vs H Q _ => ∃ (c : Nat) (b : Addr) (cs : List Nat), vs = [.str (ch c), .ref b] ∧ c ∈ L.cps.toList ∧ cs.length = n ∧ (∀ x ∈ cs, x ≤ 1000000) ∧ H b = some (.lst (cs.map nI)) ∧ ∀ H', Same H H' → Q (nI (fs c cs)) H'
def sp_check_letters (K : PySem.W.Frag) : Sp := fun vs H Q _ => ∃ (a : Addr) (L : Str) (ws : List V) (ts : List Tr) (ok : Addr → Prop), vs = [.ref a, .str L] ∧ SqL K H a ws ∧ TrsAt ok H ws ts ∧ (∀ t ∈ ts, ∀ c ks, t = .node c ks → c ∈ L.cps.toList) ∧ ∀ H', Same H H' → Q .non H'
def sp_next_state (L : Str) (n : Nat) (fs : Nat → List Nat → Nat) (f p : Addr) (G : Hp → Prop) : List (Option V) → Sp := fun ws vs H Q _ => ∃ (c : Nat) (bl : Addr) (xs ds : List Nat), vs = [.str (ch c), .ref bl] ∧ ws = [some (.ref p), some (.ref f), some (nI n)] ∧ c ∈ L.cps.toList ∧ n ≤ 1000 ∧ xs.length ≤ 1000000 ∧ ds.length ≤ 1000000 ∧
  H bl = some (.lst (xs.map nI)) ∧ H p = some (.lst (ds.map nI)) ∧ (∀ H', Same H H' → G H') ∧ ∀ H', Fr p H H' → H' p = some (.lst ((ds ++ [fs c (cnts n xs)]).map nI)) → Q (nI (fs c (cnts n xs))) H'
def sp_states_upward (P : Program) (w : World) (K : PySem.W.Frag) (mg : Str → Option Value) (base : Heap) (TT : List NdefX.NTab) : Sp := fun vs H Q _ => ∃ (v : V) (t : Tr) (L : Str) (n : Nat) (f : Addr) (fs : Nat → List Nat → Nat), vs = [v, .str L, nI n, .ref f] ∧ TrAt (fun _ => True) H v t ∧ t.size ≤ 1000000 ∧
  t.lets (fun c => c ∈ L.cps.toList) ∧ n ≤ 1000 ∧ NdefX.TabsN TT H ∧ CalX P w K mg base 10 f (fun H' => LamX.ExtN H H') 2 (sp_state_at L n fs) ∧
  ∀ r H', LamX.ExtN H H' → NdefX.TabsN TT H' → H r = none → H' r = some (.lst ((t.post.map (St fs n)).map nI)) → Q (.ref r) H'
mutual
theorem lets_post {q : Nat → Prop} : ∀ t : Tr, t.lets q → ∀ u ∈ t.post, ∀ c ks, u = .node c ks → q c
  | .node c ks, h, u, hu, c', ks', e => by
    simp only [Tr.lets] at h
    simp only [Tr.post, List.mem_append, List.mem_singleton] at hu
    rcases hu with hu | hu
    · exact letss_post ks h.2 u hu c' ks' e
    · rw [hu] at e
      cases e
      exact h.1
theorem letss_post {q : Nat → Prop} : ∀ ts : List Tr, letss q ts → ∀ u ∈ posts ts, ∀ c ks, u = .node c ks → q c
  | [], _, u, hu, _, _, _ => by simp [posts] at hu
  | t :: r, h, u, hu, c', ks', e => by
    simp only [letss] at h
    simp only [posts, List.mem_append] at hu
    rcases hu with hu | hu
    · exact lets_post t h.1 u hu c' ks' e
    · exact letss_post r h.2 u hu c' ks' e
end
theorem TrAt.extN1 {ok : Addr → Prop} {H H' : Hp} {v : V} {t : Tr} (x : TrAt ok H v t) (f : LamX.ExtN H H') : TrAt ok H' v t :=
  ((TrAt.kind1 t v x).keep fun b o h e => f b o e fun ps e2 => h.2 ps (by rw [e, e2])).weak fun b h => h.1
theorem Same.fr {H H' : Hp} {p : Addr} (s : Same H H') : Fr p H H' := Fr.same s
section
variable {P : Program} {w : World} {K : PySem.W.Frag} {mg : Str → Option Value} {base : Heap}
theorem ok__numbers (T : Txt K mg) : FnOk P w K mg base CX0 1 T.f__numbers T.d__numbers ["below", "states"] (sp__numbers K) := by
  refine T.F__numbers.ok sc__numbers (fun vs H Q E h => ?_) (fun cdv A outer s H vs Q E hr h => ?_)
  · obtain ⟨b, xs, n, rfl, _⟩ := h
    rfl
  obtain ⟨b, xs, n, rfl, hb, hn, q⟩ := h
  refine ⟨_, (pss_one (ps_ret (pe_lc (own := [("state", 2)]) (g := gName 2) (te := tBM K "list" (rCntI K) (tVar 0) (tCons (tVar 2) tNil)) (tt := tYes) rfl sc__numbers.nd (pi_range1 (by rfl) T.z_range (pa_cons (pv 1) pa_nil)) (blkOk_by (own := [("state", 2)]) (N := ["below", "states", "state"]) (sc := (defScope s__numbers)) (by decide +kernel)) (fun _ _ _ _ _ => (pg_name (i := 2) sc__numbers.nd rfl (Or.inl rfl))) (fun _ _ _ _ _ => pts_nil) (fun _ _ _ _ _ => (by exact (pe_bm PySem.F.plainAttrs_list PySem.F.slot_list_count PySem.F.type_list_count mt_lcount (pv 0) (pa_cons (pv 2) pa_nil))))))), ?_⟩
  refine ⟨_, rfl, (n : Int), rfl, by omega, by omega, fun D hD => lc_range (lo := 0) (n := n) (fun i H3 => H3 D = some (.lst ((cnts i xs).map nI)) ∧ Same H H3)
    ⟨upd_same, same_new hD⟩ ?_ ?_⟩
  · rintro i H3 hi ⟨g1, g2⟩
    have hb3 := Same.seq g2 hb
    rw [nI_map] at hb3
    refine ⟨rfl, _, rfl, .inl ⟨rfl, _, hb3⟩, _, rfl, b, _, (i : Int), rfl, congrArg (fun z => [V.int z]) (Int.zero_add _), hb3, _, g1, ?_, ?_, same_add g2 hD⟩
    · rw [List.length_map]
      unfold cnts
      rw [List.length_map, List.length_range]
      exact Nat.lt_of_le_of_lt (show i ≤ 1000 by omega) (by decide)
    · rw [upd_same, count_cast]
      unfold cnts
      rw [List.range_succ, List.map_append, List.map_append]
      rfl
  · rintro H3 ⟨g1, g2⟩
    exact q D H3 g2 hD g1
theorem ok_check_letters (T : Txt K mg) : FnOk P w K mg base CX0 1 T.f_check_letters T.d_check_letters ["parts", "letters"] (sp_check_letters K) := by
  refine T.F_check_letters.ok sc_check_letters (fun vs H Q E h => ?_) (fun cdv A outer s H vs Q E hr h => ?_)
  · obtain ⟨a, L, ws, ts, ok, rfl, _⟩ := h
    rfl
  obtain ⟨a, L, ws, ts, ok, rfl, ha, ht, hL, q⟩ := h
  refine ⟨_, (pss_one (ps_for PassesOwn.never rfl (pi_list (pv 0)) (pg_tup rfl (pgs_cons (pg_name (i := 2) sc_check_letters.nd rfl (Or.inl rfl)) (pgs_cons (pg_name (i := 3) sc_check_letters.nd rfl (Or.inl rfl)) pgs_nil))) (pss_one (ps_if (pt_cmpR op_notInS (pv 2) (pv 1) (by rfl)) (pss_one ps_never) pss_nil)))), ?_⟩
  refine ⟨_, rfl, a, rfl, ⟨_, ha⟩, for_list (xs := ws) (fun i σ H2 => (∃ y2 y3, σ = [some (.ref a), some (.str L), y2, y3]) ∧ H2 = H) ⟨⟨_, _, rfl⟩, rfl⟩ (fun i σ H2 _ ⟨_, e⟩ => by rw [e]; exact ha) ?_ ?_⟩
  · rintro i x σ H2 hx ⟨⟨y2, y3, rfl⟩, rfl⟩
    obtain ⟨t1, ht1, hx2⟩ := ht.getV hx
    cases hx2 with
    | node g1 g2 o1 o2 c1 c2 rr =>
      rename_i ax lx vx c ks
      have hc := hL _ (List.mem_of_getElem? ht1) c ks rfl
      refine ⟨_, _, rfl, SqT.of g1, rfl, ?_⟩
      refine ⟨_, _, rfl, _, _, rfl, rfl, ?_⟩
      refine ⟨_, rfl, _, rfl, c, L, rfl, rfl, _, rfl, ?_⟩
      rw [decide_eq_true hc]
      exact iteF ⟨⟨_, _, rfl⟩, rfl⟩
  · rintro σ H2 ⟨⟨y2, y3, rfl⟩, rfl⟩
    exact q _ (Same.refl _)
theorem ok_next_state (T : Txt K mg) {f p : Addr} {G : Hp → Prop} {L : Str} {n : Nat} {fs : Nat → List Nat → Nat} (C_state_at : CalX P w K mg base 10 f G 2 (sp_state_at L n fs)) (qual : Str) (cl : List (Str × Addr)) (c' nf : Addr) :
    NdefX.NOk P w K mg base CX0 11 nf (NdefX.NF.of n_states_upward__next_state "next_state" qual cl c') ["letter", "below"] ["told", "state_at", "states"] (sp_next_state L n fs f p G) := by
  have G__numbers : FnOk P w K mg base CX0 1 T.f__numbers T.d__numbers ["below", "states"] (sp__numbers K) := ok__numbers T
  refine NdefX.nok_of sc_states_upward__next_state (fun doc pm ctv us hl => match us, hl with | [_, _], _ => rfl) (fun ws vs H Q E h => ?_) (fun A outer s H vs ws Q E hr hf hc hw h => ?_)
  · obtain ⟨c, bl, xs, ds, rfl, _⟩ := h
    rfl
  obtain ⟨c, bl, xs, ds, rfl, rfl, hcL, hn, hx, hd, hbl, hp, hG, q⟩ := h
  refine ⟨_, (pss_cons (ps_expr (pe_bm PySem.F.plainAttrs_list PySem.F.slot_list_append PySem.F.type_list_append mt_append (pv 2) (pa_cons (pe_calX (i := 3) C_state_at (hr.mono (by omega)) rfl (.inr (.inr (by rfl))) (pa_cons (pv 0) (pa_cons (pe_call G__numbers (hr.mono (by omega)) (by rfl) T.m__numbers T.F__numbers.kp T.b__numbers .nil pass0 (pa_cons (pv 1) (pa_cons (pv 4) pa_nil))) pa_nil))) pa_nil))) (pss_one (ps_ret (pe_ix ix_list (pv 2) (pe_un un_neg pe_int) (fun _ _ => rfl))))), ?_⟩
  refine ⟨_, rfl, .inl ⟨rfl, _, SqL.of hp⟩, rfl, hG _ (Same.refl _), _, rfl, _, rfl, _, rfl, bl, xs, n, rfl, SqL.of hbl, hn, fun r H1 s1 hr1 hr2 => ⟨hG _ s1, c, r, _, rfl, hcL, ?_, ?_, hr2, fun H2 s2 => ?_⟩⟩
  · unfold cnts
    rw [List.length_map, List.length_range]
  · intro x hx2
    obtain ⟨s', _, rfl⟩ := List.mem_map.mp hx2
    exact Nat.le_trans List.count_le_length hx
  have hp2 := s2 _ _ (s1 _ _ hp)
  refine ⟨p, _, _, rfl, rfl, hp2, ?_, ?_⟩
  · rw [List.length_map]
    exact Nat.lt_of_le_of_lt hd (by decide)
  have e1 : ds.map nI ++ [nI (fs c (cnts n xs))] = (ds ++ [fs c (cnts n xs)]).map nI := by rw [List.map_append]; rfl
  rw [e1]
  refine ⟨_, rfl, 1, rfl, p, _, -1, _, rfl, rfl, SqL.of upd_same, ?_, q _ ?_ upd_same⟩
  · rw [← e1]
    exact atI_last _ _
  · intro b o nb e
    rw [upd_ne nb]
    exact s2 _ _ (s1 _ _ e)
theorem ok_states_upward (T : Txt K mg) (B : Tbs T base) (TT : List NdefX.NTab) (hTT : (T.P_states_upward, fun _ _ => q_states_upward) ∈ TT) (hu : ∀ z ∈ TT, z.1 = T.P_states_upward → z.2 = fun _ _ => q_states_upward) : FnOk P w K mg base CX0 14 T.f_states_upward T.d_states_upward ["tree", "letters", "states", "state_at"] (sp_states_upward P w K mg base TT) := by
  have G_check_letters : FnOk P w K mg base CX0 1 T.f_check_letters T.d_check_letters ["parts", "letters"] (sp_check_letters K) := ok_check_letters T
  have G_parts_upward : FnOk P w K mg base CX0 5 T.f_parts_upward T.d_parts_upward ["tree"] sp_parts_upward := ok_parts_upward T
  have G_built_upward : FnOk P w K mg base CX0 12 T.f_built_upward T.d_built_upward ["tree", "made"] (sp_built_upwardJ P w K mg base 11) := ok_built_upwardJ T 11 (by decide)
  refine okC T.F_states_upward T.h_states_upward sc_states_upward (fun vs H Q E h => ?_) (fun A outer s H vs Q E hr h => ?_)
  · obtain ⟨v, t, L, n, f, fs, rfl, _⟩ := h
    rfl
  obtain ⟨v, t, L, n, f, fs, rfl, ht, hz, hL, hn, hT, C, q⟩ := h
  refine ⟨_, (pss_cons (ps_expr (pe_call G_check_letters (hr.mono (by omega)) (by rfl) T.m_check_letters T.F_check_letters.kp T.b_check_letters .nil pass0 (pa_cons (pe_call G_parts_upward (hr.mono (by omega)) (by rfl) T.m_parts_upward T.F_parts_upward.kp T.b_parts_upward .nil pass0 (pa_cons (pv 0) pa_nil)) (pa_cons (pv 1) pa_nil)))) (pss_cons (ps_set (i := 4) sc_states_upward.nd rfl (Or.inr rfl) (pe_lst pa_nil)) (pss_cons (NdefX.ps_ndefMS (T := TT) (nm := fun _ _ => q_states_upward) (i := 5) (st := n_states_upward__next_state) rfl B.tb_states_upward rfl hTT rfl hu (NdefX.ndef_free nd_states_upward__next_state) rfl rfl rfl sc_states_upward.nd rfl (Or.inl rfl) (.inl rfl)) (pss_cons (ps_expr (pe_callLd G_built_upward (hr.mono (by omega)) (by rfl) T.m_built_upward T.F_built_upward.kp T.b_built_upward (fun _ => rfl) (pa_cons (pv 0) (pa_cons (pv 5) pa_nil)))) (pss_one (ps_ret (pv 4))))))), ?_⟩
  refine ⟨_, rfl, v, t, _, rfl, ht, hz, fun r ws H1 s1 hr0 hr1 hparts => ⟨_, rfl, r, L, ws, t.post, _, rfl, SqL.of hr1, hparts, lets_post t hL, fun H2 s2 => ?_⟩⟩
  refine ⟨(by show 0 ≤ sizeLine; decide), fun p hp => ?_⟩
  have S3 : Same H (upd H2 p (.lst [])) := (s1.trans s2).trans (same_new hp)
  have hp0 : H p = none := (s1.trans s2).free hp
  have k3 := upd_same (H := H2) (a := p) (o := .lst [])
  generalize hH3 : upd H2 p (.lst []) = H3 at *
  refine ⟨hT.ext S3, fun nf c' H4 e4 n4 T4 hf0 hf hc => ?_⟩
  have hp4 : H4 p = some (.lst []) := e4 _ _ k3 (fun _ e => by cases e)
  have E4 : LamX.ExtN H H4 := (LamX.ExtN.of S3).trans e4
  refine ⟨_, rfl, _, rfl, fun cs hcs => ?_⟩
  have Cc := hcs.got (C8.fnScope n_states_upward__next_state) ["told", "state_at", "states"] [4, 3, 2] nd_states_upward__next_state rfl
  have hnew := hcs.new
  have hcel := hcs.cel
  clear hcs
  generalize (cloFrom _ _ [] : List (Str × Addr)) = cl at *
  have N0 := ok_next_state T C (q_states_upward) cl c' nf (p := p)
  have X0 := calX_ndef N0 Cc hcel
  have hpL : (lend H4 cs) p = some (.lst []) := lend_some hnew hp4
  have npf : nf ≠ p := fun e => by rw [e, hp4] at hf; unfold NdefX.FnO at hf; cases hf
  have npc : c' ≠ p := fun e => by rw [e, hp4] at hc; unfold LamX.CodeO at hc; cases hc
  have hE0 : ∀ H', FrX (fun b => b = p) (lend H4 cs) H' → Fr p H4 (unl H' cs) := fun H' f b o n e => by
    rw [unl_out (hnew.out e)]
    exact f b o n (lend_some hnew e)
  have hlt : ∀ H', FrX (fun b => b = p) (lend H4 cs) H' → LentAt cs H' := fun H' f c o e => f c _ (fun e2 => by
    have := hnew c o e
    rw [show c = p from e2, hp4] at this
    cases this) (lend_in e)
  refine ⟨v, t, nf, fun u => nI (St fs n u), (fun b => b = p), (fun l H' => H' p = some (.lst ((l.map (St fs n)).map nI))), rfl, ?_, hz, ?_, ?_, ?_, hpL, ?_, fun H5 f5 J5 => ⟨?_, ?_⟩⟩
  · exact ((TrAt.extN1 (TrAt.there t v ht) E4).same (lend_same hnew)).weak fun b ⟨_, o, e⟩ e2 => by rw [e2, hp0] at e; cases e
  · rintro b rfl; rw [hpL]; simp
  · rintro l H' b e rfl; rw [e]; simp
  · intro l Ha Hb k e
    exact k _ _ (by rw [hpL]; simp) e
  · refine CalX.imp2 X0 (Nat.le_refl _) (fun vs H Q E h => ?_) (fun H' f => ⟨f _ _ npf (lend_some hnew hf), f _ _ npc (lend_some hnew hc), hlt H' f⟩) (fun vs H' Q E f h => ?_)
    · obtain ⟨c, bl, ks, done, rest, rfl, _⟩ := h
      rfl
    · obtain ⟨c, bl, ks, done, rest, rfl, hsplit, c1, c2, hk, hbl, hbl0, hf', hJ, qq⟩ := h
      have hl' := hlt H' f
      have hlen : done.length ≤ 1000000 := by
        have e1 := congrArg List.length hsplit
        rw [post_len, List.length_append] at e1
        omega
      have eS : (ks.map (St fs n)).map nI = ks.map fun u => nI (St fs n u) := by rw [List.map_map]; rfl
      have eN : St fs n (.node c ks) = fs c (cnts n (ks.map (St fs n))) := by simp only [St, Sts_map]
      refine ⟨c, bl, ks.map (St fs n), done.map (St fs n), rfl, rfl, lets_post t hL (.node c ks) (by rw [hsplit]; simp) c ks rfl, hn, by rw [List.length_map]; exact hk, by rw [List.length_map]; exact hlen, ?_, unl_keep hl' hJ (fun _ e => by cases e), fun H2 s2 b o e nt => s2 _ _ (hE0 H' f b o (fun e2 => by rw [e2, hp0] at e; cases e) (E4 b o e nt)), fun H2 f2 e2 => ?_⟩
      · rw [eS]; exact unl_keep hl' hbl (fun _ e => by cases e)
      · rw [← eN] at e2 ⊢
        refine qq (lend H2 cs) (fun b o nb e => ?_) ?_
        · cases hb : cs.lookup b with
          | some ob =>
            rw [lend_in hb, ← hl' b ob hb]
            exact e
          | none =>
            rw [lend_out hb]
            exact f2 b o nb (by rw [unl_out hb]; exact e)
        · show (lend H2 cs) p = some (.lst (((done ++ [Tr.node c ks]).map (St fs n)).map nI))
          rw [lend_out (hnew.out hp4), e2]
          simp only [List.map_append, List.map_cons, List.map_nil]
  · exact hlt H5 f5
  · refine ⟨_, rfl, q p (unl H5 cs) (fun b o e nt => hE0 H5 f5 b o (fun e2 => by rw [e2, hp0] at e; cases e) (E4 b o e nt)) (tabsN_fr1 T4 hp4 (hE0 H5 f5)) hp0 (unl_keep (hlt H5 f5) J5 (fun _ e => by cases e))⟩
end


def Pool (H : Hp) (p : Addr) (n : Nat) : Prop := ∃ x f s : Int, H p = some (.lst [.int x, .int f, .int s]) ∧ 0 ≤ s ∧ s ≤ (n : Int)
theorem Pool.mono {H : Hp} {p : Addr} {n m : Nat} (h : Pool H p n) (l : n ≤ m) : Pool H p m := let ⟨x, f, s, a, b, c⟩ := h; ⟨x, f, s, a, b, by omega⟩
theorem Pool.keep {H H' : Hp} {p : Addr} {n : Nat} (h : Pool H p n) (e : Same H H') : Pool H' p n := let ⟨x, f, s, a, b, c⟩ := h; ⟨x, f, s, e _ _ a, b, c⟩
theorem Pool.ne {H : Hp} {p q : Addr} {n : Nat} (h : Pool H p n) (e : H q = none) : p ≠ q := let ⟨_, _, _, a, _⟩ := h; ne_of_none a e
theorem Pool.some {H : Hp} {p : Addr} {n : Nat} (h : Pool H p n) : H p ≠ none := let ⟨_, _, _, a, _⟩ := h; by rw [a]; simp
def sp__law_pool (K : PySem.W.Frag) : Sp := fun vs H Q _ => ∃ (a : Addr) (ns : List Int) (k : Int), vs = [.ref a, .int k] ∧ SqL K H a (ns.map V.int) ∧ ns.length ≤ 63 ∧ 0 ≤ k ∧ k ≤ 63 ∧
  ∀ p H', H p = none → Chg p H H' → Pool H' p 3000 → Q (.ref p) H'
def sp__law_take : Sp := fun vs H Q _ => ∃ (p : Addr) (m : Int) (n : Nat), vs = [.ref p, .int m] ∧ Pool H p n ∧ n < 1000000 ∧ 0 < m ∧ m < 2 ^ 60 ∧
  ∀ r H', 0 ≤ r → r < m → Chg p H H' → Pool H' p (n + 1) → Q (.int r) H'
section
variable {P : Program} {w : World} {K : PySem.W.Frag} {mg : Str → Option Value} {base : Heap}
theorem ok__law_pool (T : Txt K mg) : FnOk P w K mg base CX0 1 T.f__law_pool T.d__law_pool ["script", "k"] (sp__law_pool K) := by
  refine T.F__law_pool.ok sc__law_pool (fun vs H Q E h => ?_) (fun cdv A outer s H vs Q E hr h => ?_)
  · obtain ⟨a, ns, k, rfl, _⟩ := h
    rfl
  obtain ⟨a, ns, k, rfl, hS, h63, h0, h1, q⟩ := h
  refine ⟨_, (pss_cons (ps_set (i := 2) sc__law_pool.nd rfl (Or.inl rfl) pe_int) (pss_cons (ps_if (pt_cmpR op_lt (pv 1) (pe_callB call_len_seq (by rfl) T.z_len PySem.boot_len (pa_cons (pv 0) pa_nil)) (nomark _)) (pss_one (ps_set (i := 2) sc__law_pool.nd rfl (Or.inl rfl) (pe_ix ix_list (pv 0) (pv 1) (fun _ _ => rfl)))) pss_nil) (pss_cons (ps_if (pt_cmpR op_ge (pv 2) (pe_op op_pow pe_int pe_int) (nomark _)) (pss_one (ps_ret (pe_lst (pa_cons (pe_op op_sub (pv 2) (pe_op op_pow pe_int pe_int)) (pa_cons pe_int (pa_cons pe_int pa_nil)))))) pss_nil) (pss_one (ps_ret (pe_lst (pa_cons (pv 2) (pa_cons pe_int (pa_cons (pe_op op_mul pe_int (pv 1)) pa_nil))))))))), ?_⟩
  have fin : ∀ p, H p = none → ∀ x f s : Int, 0 ≤ s → s ≤ 3000 → Q (.ref p) (upd H p (.lst [.int x, .int f, .int s])) := fun p hp x f s hs0 hs1 =>
    q p _ hp Chg.upd ⟨x, f, s, upd_same, hs0, by omega⟩
  refine ⟨_, rfl, _, rfl, a, _, rfl, .inl hS, _, _, rfl, rfl, _, rfl, ?_⟩
  refine ite2 (fun c => ?_) (fun c => ?_)
  · have hk : k.toNat < ns.length := by
      have c' : k < (((ns.map V.int).length : Nat) : Int) := of_decide_eq_true c
      rw [List.length_map] at c'
      omega
    refine ⟨_, rfl, _, rfl, a, _, _, _, rfl, rfl, hS, at_of (j := k.toNat) (v := V.int ns[k.toNat]) (by omega) (by rw [List.getElem?_map, List.getElem?_eq_getElem hk]; rfl), ?_⟩
    refine ⟨_, rfl, 10, 18, rfl, rfl, ⟨by decide, by decide, by decide⟩, _, _, rfl, rfl, _, rfl, ?_⟩
    refine ite2 (fun c2 => ?_) (fun c2 => ?_)
    · refine ⟨_, rfl, 10, 18, rfl, rfl, ⟨by decide, by decide, by decide⟩, _, _, rfl, rfl, (by show 3 ≤ sizeLine; decide), fun p hp => ?_⟩
      exact fin p hp _ _ _ (by decide) (by decide)
    · refine ⟨_, rfl, _, rfl, _, _, rfl, rfl, .inl ⟨by decide, by decide⟩, (by show 3 ≤ sizeLine; decide), fun p hp => ?_⟩
      exact fin p hp _ _ _ (by omega) (by omega)
  · refine ⟨_, rfl, 10, 18, rfl, rfl, ⟨by decide, by decide, by decide⟩, _, _, rfl, rfl, _, rfl, ?_⟩
    refine ite2 (fun c2 => ?_) (fun c2 => ?_)
    · exact absurd (of_decide_eq_true c2) (by decide)
    · refine ⟨_, rfl, _, rfl, _, _, rfl, rfl, .inl ⟨by decide, by decide⟩, (by show 3 ≤ sizeLine; decide), fun p hp => ?_⟩
      exact fin p hp _ _ _ (by omega) (by omega)
theorem ok__law_take (T : Txt K mg) : FnOk P w K mg base CX0 1 T.f__law_take T.d__law_take ["pool", "many"] sp__law_take := by
  refine T.F__law_take.ok sc__law_take (fun vs H Q E h => ?_) (fun cdv A outer s H vs Q E hr h => ?_)
  · obtain ⟨p, m, n, rfl, _⟩ := h
    rfl
  obtain ⟨p, m, n, rfl, ⟨x, f, t, hp, ht0, ht1⟩, hn, hm0, hm1, q⟩ := h
  refine ⟨_, (pss_cons (ps_if (pt_cmpR op_eq (pe_ix ix_list (pv 0) pe_int (fun _ _ => rfl)) pe_int (nomark _)) (pss_cons (ps_set (i := 2) sc__law_take.nd rfl (Or.inl rfl) (pe_op op_mod (pe_ix ix_list (pv 0) pe_int (fun _ _ => rfl)) (pv 1))) (pss_cons (ps_asg (pe_op op_fdivW (pe_ix ix_list (pv 0) pe_int (fun _ _ => rfl)) (pv 1)) (pg_sub (pv 0) pe_int set_list)) (pss_one (ps_ret (pv 2))))) pss_nil) (pss_cons (ps_asg (pe_op op_add (pe_ix ix_list (pv 0) pe_int (fun _ _ => rfl)) pe_int) (pg_sub (pv 0) pe_int set_list)) (pss_cons (ps_set (i := 3) sc__law_take.nd rfl (Or.inl rfl) (pe_ix ix_list (pv 0) pe_int (fun _ _ => rfl))) (pss_cons (ps_set (i := 4) sc__law_take.nd rfl (Or.inl rfl) (pe_op op_mul (pe_op op_add (pe_op op_mod (pe_ix ix_list (pv 0) pe_int (fun _ _ => rfl)) pe_int) pe_int) (pe_op op_add (pe_op op_mul pe_int (pv 3)) pe_int))) (pss_cons (ps_set (i := 4) sc__law_take.nd rfl (Or.inl rfl) (pe_op op_add (pv 4) (pe_op op_mul (pe_op op_mul pe_int (pv 3)) (pv 3)))) (pss_cons (ps_set (i := 4) sc__law_take.nd rfl (Or.inl rfl) (pe_op op_mod (pe_op op_mul (pv 4) (pv 4)) pe_int)) (pss_one (ps_ret (pe_op op_mod (pe_op op_fdivW (pe_op op_mod (pe_op op_mul (pv 4) (pe_op op_add (pv 4) pe_int)) pe_int) pe_int) (pv 1)))))))))), ?_⟩
  have i0 : atI [V.int x, V.int f, V.int t] 0 = some (.int x) := atI_nat (j := 0) rfl
  have i1 : atI [V.int x, V.int f, V.int t] 1 = some (.int f) := atI_nat (j := 1) rfl
  have i2 : atI [V.int x, V.int f, V.int t] 2 = some (.int t) := atI_nat (j := 2) rfl
  refine ⟨_, rfl, p, _, 1, _, rfl, rfl, SqL.of hp, i1, rfl, _, rfl, ?_⟩
  refine ite2 (fun c => ?_) (fun c => ?_)
  · -- the digits
    refine ⟨_, rfl, p, _, 0, _, rfl, rfl, SqL.of hp, i0, _, rfl, x, m, rfl, rfl, hm0, ?_⟩
    refine ⟨_, rfl, p, _, 0, _, rfl, rfl, SqL.of hp, i0, _, rfl, x, m, rfl, rfl, divW hm0 hm1, ?_⟩
    refine ⟨_, rfl, p, _, 0, 0, rfl, rfl, hp, rfl, ?_⟩
    refine ⟨_, rfl, q _ _ (Int.emod_nonneg _ (by omega)) (Int.emod_lt_of_pos _ hm0) Chg.upd ⟨_, _, _, upd_same, ht0, by omega⟩⟩
  · -- mixed
    refine ⟨_, rfl, p, _, 2, _, rfl, rfl, SqL.of hp, i2, t, 1, rfl, rfl, ?_⟩
    refine ⟨_, rfl, p, _, 2, 2, rfl, rfl, hp, rfl, ?_⟩
    have hp' : (upd H p (.lst [V.int x, V.int f, V.int (t + 1)])) p = some (.lst [V.int x, V.int f, V.int (t + 1)]) := upd_same
    have j0 : atI [V.int x, V.int f, V.int (t + 1)] 0 = some (.int x) := atI_nat (j := 0) rfl
    have j2 : atI [V.int x, V.int f, V.int (t + 1)] 2 = some (.int (t + 1)) := atI_nat (j := 2) rfl
    refine ⟨_, rfl, p, _, 2, _, rfl, rfl, SqL.of hp', j2, ?_⟩
    have a0 : 0 ≤ x % 9999999557 := Int.emod_nonneg _ (by decide)
    have a1 : x % 9999999557 < 9999999557 := Int.emod_lt_of_pos _ (by decide)
    refine ⟨_, rfl, p, _, 0, _, rfl, rfl, SqL.of hp', j0, x, 9999999557, rfl, rfl, (by show (0 : Int) < 9999999557; decide), _, 1013, rfl, rfl, _, rfl, 41, t + 1, rfl, rfl, .inl ⟨by decide, by decide⟩, _, 71, rfl, rfl, _, _, rfl, rfl, .inl ⟨by omega, by omega⟩, ?_⟩
    have b1 := nn_mul (a := x % 9999999557 + 1013) (A := 10000000570) (b := 41 * (t + 1) + 71) (B := 41000112) (by omega) (by omega) (by omega) (by omega)
    obtain ⟨M, hM⟩ : ∃ M, (x % 9999999557 + 1013) * (41 * (t + 1) + 71) = M := ⟨_, rfl⟩
    rw [hM] at b1
    have b2 := nn_mul (a := 3571 * (t + 1)) (A := 3571000000) (b := t + 1) (B := 1000000) (by omega) (by omega) (by omega) (by omega)
    refine ⟨_, rfl, _, rfl, 3571, t + 1, rfl, rfl, .inl ⟨by decide, by decide⟩, _, rfl, _, t + 1, rfl, rfl, .inl ⟨by omega, by omega⟩, M, _, congrArg V.int hM, rfl, ?_⟩
    obtain ⟨M2, hM2⟩ : ∃ M2, M + 3571 * (t + 1) * (t + 1) = M2 := ⟨_, rfl⟩
    refine ⟨_, rfl, _, rfl, M2, M2, congrArg V.int hM2, congrArg V.int hM2, .inl ⟨by omega, by omega⟩, _, 99999999587, rfl, rfl, (by show (0 : Int) < 99999999587; decide), ?_⟩
    have d0 : 0 ≤ M2 * M2 % 99999999587 := Int.emod_nonneg _ (by decide)
    have d1 : M2 * M2 % 99999999587 < 99999999587 := Int.emod_lt_of_pos _ (by decide)
    obtain ⟨M3, hM3⟩ : ∃ M3, M2 * M2 % 99999999587 = M3 := ⟨_, rfl⟩
    rw [hM3] at d0 d1
    refine ⟨_, rfl, _, rfl, M3, 53, congrArg V.int hM3, rfl, M3, M3 + 53, congrArg V.int hM3, rfl, .inl ⟨by omega, by omega⟩, _, 99999999881, rfl, rfl, (by show (0 : Int) < 99999999881; decide), _, 103, rfl, rfl, divW (by decide) (by decide), _, rfl, _, m, rfl, rfl, hm0, ?_⟩
    exact q _ _ (Int.emod_nonneg _ (by omega)) (Int.emod_lt_of_pos _ hm0) Chg.upd ⟨_, _, _, upd_same, by omega, by omega⟩
end


section
variable {ok : Addr → Prop} {H : Hp} {p : Addr} {x : Int} {zs : List V}
mutual
theorem TrAt.offL (hp : H p = some (.lst (.int x :: zs))) : ∀ (t : Tr) (v : V), TrAt ok H v t → TrAt (fun b => ok b ∧ b ≠ p) H v t
  | .node c ks, v, h => by
    cases h with
    | node h1 h2 k1 k2 c1 c2 r =>
      refine .node h1 h2 ⟨k1, ne_of h1 hp (by intro z; cases z)⟩ ⟨k2, fun e => ?_⟩ c1 c2 (TrsAt.offL hp ks _ r)
      subst e
      rw [h2] at hp
      cases hp
      cases r with
      | cons a _ => cases a
theorem TrsAt.offL (hp : H p = some (.lst (.int x :: zs))) : ∀ (ts : List Tr) (vs : List V), TrsAt ok H vs ts → TrsAt (fun b => ok b ∧ b ≠ p) H vs ts
  | [], _, h => by cases h; exact .nil
  | t :: r, _, h => by
    cases h with
    | cons a b => exact .cons (TrAt.offL hp t _ a) (TrsAt.offL hp r _ b)
end
end
theorem Pool.off {ok : Addr → Prop} {H : Hp} {p : Addr} {n : Nat} {v : V} {t : Tr} (hp : Pool H p n) (h : TrAt ok H v t) : TrAt (fun b => ok b ∧ b ≠ p) H v t := let ⟨_, _, _, hx, _⟩ := hp; TrAt.offL hx t v h
theorem Pool.offs {ok : Addr → Prop} {H : Hp} {p : Addr} {n : Nat} {vs : List V} {ts : List Tr} (hp : Pool H p n) (h : TrsAt ok H vs ts) : TrsAt (fun b => ok b ∧ b ≠ p) H vs ts := let ⟨_, _, _, hx, _⟩ := hp; TrsAt.offL hx ts vs h
theorem TrAt.fr {ok : Addr → Prop} {H H' : Hp} {p : Addr} {v : V} {t : Tr} (h : TrAt (fun b => ok b ∧ b ≠ p) H v t) (f : Fr p H H') : TrAt (fun b => ok b ∧ b ≠ p) H' v t := h.keep fun b o k e => f b o k.2 e
theorem TrsAt.fr {ok : Addr → Prop} {H H' : Hp} {p : Addr} {vs : List V} {ts : List Tr} (h : TrsAt (fun b => ok b ∧ b ≠ p) H vs ts) (f : Fr p H H') : TrsAt (fun b => ok b ∧ b ≠ p) H' vs ts := h.keep fun b o k e => f b o k.2 e
theorem Pool.new {H : Hp} {p q : Addr} {n : Nat} {o : HO} (hp : Pool H p n) (h : H q = none) : Pool (upd H q o) p n := hp.keep (same_new h)
theorem Pool.ne' {H : Hp} {p q : Addr} {n : Nat} (hp : Pool H p n) (h : H q = none) : q ≠ p := fun e => (hp.ne h) e.symm
theorem Pool.upd {H : Hp} {p q : Addr} {n : Nat} {o : HO} (hp : Pool H p n) (h : q ≠ p) : Pool (upd H q o) p n := by
  obtain ⟨x, f, s, a, b, c⟩ := hp
  exact ⟨x, f, s, by rw [upd_ne (fun e => h e.symm)]; exact a, b, c⟩
theorem erase_perm {α : Type} : ∀ (l : List α) (i : Nat) (h : i < l.length), l.Perm (l[i] :: l.eraseIdx i)
  | a :: r, 0, _ => .refl _
  | a :: r, i + 1, h => by
    have ih := erase_perm r i (by simpa using h)
    exact (ih.cons a).trans (.swap _ _ _)
def sp__law_mixed_up (K : PySem.W.Frag) : Sp := fun vs H Q _ => ∃ (p l : Addr) (n : Nat) (xs : List V), vs = [.ref p, .ref l] ∧ Pool H p n ∧ n + xs.length < 1000000 ∧ SqL K H l xs ∧
  (∀ H', Fr p H H' → ∀ v ∈ xs, DatOk K H' v) ∧ ∀ r ws H', xs.Perm ws → H r = none → Fr p H H' → H' r = some (.lst ws) → Pool H' p (n + xs.length) → Q (.ref r) H'
section
variable {P : Program} {w : World} {K : PySem.W.Frag} {mg : Str → Option Value} {base : Heap}
theorem ok__law_mixed_up (T : Txt K mg) : FnOk P w K mg base CX0 2 T.f__law_mixed_up T.d__law_mixed_up ["pool", "things"] (sp__law_mixed_up K) := by
  have G__law_take : FnOk P w K mg base CX0 1 T.f__law_take T.d__law_take ["pool", "many"] sp__law_take := ok__law_take T
  refine T.F__law_mixed_up.ok sc__law_mixed_up (fun vs H Q E h => ?_) (fun cdv A outer s H vs Q E hr h => ?_)
  · obtain ⟨p, l, n, xs, rfl, _⟩ := h
    rfl
  obtain ⟨p, l, n, xs, rfl, hp, hn, hl, hd, q⟩ := h
  refine ⟨_, (pss_cons (ps_set (i := 2) sc__law_mixed_up.nd rfl (Or.inl rfl) (pe_callTy call_list_of (by rfl) T.z_list (by decide +kernel) (pa_cons (pv 1) pa_nil))) (pss_cons (ps_set (i := 3) sc__law_mixed_up.nd rfl (Or.inl rfl) (pe_lst pa_nil)) (pss_cons (ps_while PassesOwn.never (pt_cmpR (op_neD hr.units) (pv 2) (pe_lst pa_nil) (nomark _)) (pss_one (ps_expr (pe_bm PySem.F.plainAttrs_list PySem.F.slot_list_append PySem.F.type_list_append mt_append (pv 3) (pa_cons (pe_bm PySem.F.plainAttrs_list PySem.F.slot_list_pop PySem.F.type_list_pop mt_popAt (pv 2) (pa_cons (pe_call G__law_take (hr.mono (by omega)) (by rfl) T.m__law_take T.F__law_take.kp T.b__law_take .nil pass0 (pa_cons (pv 0) (pa_cons (pe_callB call_len_seq (by rfl) T.z_len PySem.boot_len (pa_cons (pv 2) pa_nil)) pa_nil))) pa_nil)) pa_nil))))) (pss_one (ps_ret (pv 3)))))), ?_⟩
  refine ⟨_, rfl, l, xs, rfl, .inl hl, fun a ha => ?_⟩
  refine ⟨(by show 0 ≤ sizeLine; decide), fun f hf => ?_⟩
  have naf : a ≠ f := fun e => by rw [e, upd_same] at hf; cases hf
  have hf0 : H f = none := by rw [upd_ne (fun e => naf e.symm)] at hf; exact hf
  have nap : a ≠ p := hp.ne' ha
  have nfp : f ≠ p := hp.ne' hf0
  refine ⟨fun m σ H' => ∃ us ys, σ = [some (.ref p), some (.ref l), some (.ref a), some (.ref f)] ∧ H' a = some (.lst us) ∧ H' f = some (.lst ys) ∧ xs.Perm (us ++ ys) ∧ m = us.length ∧ Pool H' p (n + ys.length) ∧ Fr p H H',
    ⟨xs.length, xs, [], rfl, by rw [upd_ne naf]; exact upd_same, upd_same, by rw [List.append_nil], rfl, (hp.new ha).new hf, ((Fr.refl p H).new ha).new hf0⟩, ?_⟩
  rintro m σ H' ⟨us, ys, rfl, hA, hF, hP, rfl, pp, fr⟩
  have hlen : us.length + ys.length = xs.length := by
    have := hP.length_eq
    rw [List.length_append] at this
    omega
  refine ⟨_, rfl, (by show 0 ≤ sizeLine; decide), fun e he => ?_⟩
  have he0 : H e = none := fr.free pp.some he
  have fr2 : Fr p H (upd H' e (.lst [])) := fr.new he0
  obtain ⟨ds, hds, hsh, hdl⟩ := DatOk.all (K := K) (H := upd H' e (.lst [])) (vs := us) fun v hv => hd _ fr2 v (hP.mem_iff.mpr (List.mem_append_left _ hv))
  have hA2 : (upd H' e (.lst [])) a = some (.lst us) := by rw [upd_ne (ne_of_none hA he)]; exact hA
  have hF2 : (upd H' e (.lst [])) f = some (.lst ys) := by rw [upd_ne (ne_of_none hF he)]; exact hF
  refine ⟨_, _, .lst (SqL.of hA2) hds, dp_nil upd_same, hsh, shaped_nil, _, rfl, ?_⟩
  rw [eqv_nil, hdl]
  by_cases hu : us.length = 0
  · rw [decide_eq_true hu]
    refine iteF ?_
    have : us = [] := List.length_eq_zero_iff.mp hu
    subst this
    refine ⟨_, rfl, q f ys _ (by simpa using hP) hf0 fr2 hF2 ?_⟩
    have e1 : ys.length = xs.length := by simpa using hlen
    rw [← e1]
    exact pp.new he
  · rw [decide_eq_false hu]
    refine iteT ?_
    refine ⟨fun σ2 H2 => ∃ us2 ys, σ2 = [some (.ref p), some (.ref l), some (.ref a), some (.ref f)] ∧ H2 a = some (.lst us2) ∧ H2 f = some (.lst ys) ∧ xs.Perm (us2 ++ ys) ∧ us2.length < us.length ∧ Pool H2 p (n + ys.length) ∧ Fr p H H2,
      fun σ2 H2 ⟨us2, ys, e1, e2, e3, e4, e5, e6, e7⟩ => ⟨us2.length, e5, us2, ys, e1, e2, e3, e4, rfl, e6, e7⟩, ?_⟩
    refine ⟨_, rfl, .inl ⟨rfl, _, SqL.of hF2⟩, _, rfl, .inl ⟨rfl, _, SqL.of hA2⟩, _, rfl, _, rfl, a, us, rfl, .inl (SqL.of hA2), ?_⟩
    refine ⟨p, _, n + ys.length, rfl, pp.new he, by omega, by omega, by omega, fun r H2 r0 r1 c2 p2 => ?_⟩
    obtain ⟨k, rfl⟩ : ∃ k : Nat, r = (k : Int) := ⟨r.toNat, by omega⟩
    have hk : k < us.length := by omega
    have hA3 := c2.at hA2 nap
    have hF3 := c2.at hF2 nfp
    refine ⟨a, us, k, k, us[k], rfl, rfl, hA3, by omega, by omega, PySem.seqIndex_of (by omega) (by omega) |>.trans (by simp), List.getElem?_eq_getElem hk, ?_⟩
    have hF4 : (upd H2 a (.lst (us.eraseIdx k))) f = some (.lst ys) := by rw [upd_ne (fun e => naf e.symm)]; exact hF3
    refine ⟨f, ys, us[k], rfl, rfl, hF4, Nat.lt_of_le_of_lt (show ys.length ≤ 1000000 by omega) (by decide), ?_⟩
    refine ⟨us.eraseIdx k, ys ++ [us[k]], rfl, by rw [upd_ne naf]; exact upd_same, upd_same, ?_, ?_, ?_, ?_⟩
    · refine hP.trans ?_
      have pe : us.Perm (us[k] :: us.eraseIdx k) := erase_perm us k hk
      refine (pe.append_right ys).trans ?_
      rw [← List.append_assoc, List.cons_append]
      exact (List.perm_append_singleton _ _).symm
    · rw [List.length_eraseIdx_of_lt hk]
      omega
    · rw [List.length_append, List.length_singleton, ← Nat.add_assoc]
      exact (p2.upd nap).upd nfp
    · intro b o hb e
      have nb1 : b ≠ f := ne_of_none e hf0
      have nb2 : b ≠ a := ne_of_none e ha
      rw [upd_ne nb1, upd_ne nb2]
      exact c2.at (fr2 b o hb e) hb
end

def Lets (L : Str) : Prop := 1 ≤ L.length ∧ L.length ≤ 26 ∧ ∀ c ∈ L.cps.toList, 97 ≤ c ∧ c ≤ 122
def sp__law_shuffled (d : Nat) : Sp := fun vs H Q _ => ∃ (p : Addr) (n : Nat) (v : V) (t : Tr), vs = [.ref p, v] ∧ Pool H p n ∧ n + t.size < 1000000 ∧ TrAt (fun _ => True) H v t ∧ t.depth ≤ d ∧ t.depth ≤ 32 ∧
  ∀ r u H', Sh t u → Fr p H H' → TrAt (fun b => H b = none) H' r u → Pool H' p (n + (t.size - 1)) → Q r H'
def sp__law_copy (d : Nat) : Sp := fun vs H Q _ => ∃ (v : V) (t : Tr), vs = [v] ∧ TrAt (fun _ => True) H v t ∧ t.depth ≤ d ∧ t.size ≤ 1000000 ∧
  ∀ r H', Same H H' → TrAt (fun b => H b = none) H' r t → Q r H'
def sp__law_letters : Sp := fun vs H Q _ => ∃ (p : Addr) (n : Nat), vs = [.ref p] ∧ Pool H p n ∧ n < 1000000 ∧ ∀ L H', Lets L → Fr p H H' → Pool H' p (n + 1) → Q (.str L) H'
theorem none_of {sp : Sp} {P : Program} {w : World} {K : PySem.W.Frag} {mg : Str → Option Value} {base : Heap} {f : Addr} {fd : FuncData} {ps : List Str} {k : Nat} (no : ∀ vs H Q E, ¬ sp vs H Q E) : FnOk P w K mg base CX0 k f fd ps sp :=
  ⟨fun vs H Q E h => absurd h (no vs H Q E), fun A outer s H args us vs Q E _ _ _ _ h => absurd h (no vs H Q E)⟩
theorem depth_pos : ∀ t : Tr, 1 ≤ t.depth
  | .node c ks => by simp only [Tr.depth]; omega
section
variable {P : Program} {w : World} {K : PySem.W.Frag} {mg : Str → Option Value} {base : Heap}
theorem ok__law_shuffled (T : Txt K mg) : ∀ d : Nat, FnOk P w K mg base CX0 (d + 2) T.f__law_shuffled T.d__law_shuffled ["pool", "tree"] (sp__law_shuffled d)
  | 0 => none_of fun vs H Q E ⟨p, n, v, t, _, _, _, _, h, _⟩ => by have := depth_pos t; omega
  | d + 1 => by
    have G__law_shuffled : FnOk P w K mg base CX0 (d + 2) T.f__law_shuffled T.d__law_shuffled ["pool", "tree"] (sp__law_shuffled d) := ok__law_shuffled T d
    have G__law_mixed_up : FnOk P w K mg base CX0 2 T.f__law_mixed_up T.d__law_mixed_up ["pool", "things"] (sp__law_mixed_up K) := ok__law_mixed_up T
    refine T.F__law_shuffled.ok sc__law_shuffled (fun vs H Q E h => ?_) (fun cdv A outer s H vs Q E hr h => ?_)
    · obtain ⟨p, n, v, t, rfl, _⟩ := h
      rfl
    obtain ⟨p, n, v, t, rfl, hp, hn, ht, hd, hd2, q⟩ := h
    refine ⟨_, (pss_one (ps_ret (pe_tup (pa_cons (pe_ix ix_tup (pv 1) pe_int (fun _ _ => rfl)) (pa_cons (pe_lc (own := [("child", 2)]) (g := gName 2) (tt := tYes) rfl sc__law_shuffled.nd (pi_list (pe_call G__law_mixed_up (hr.mono (by omega)) (by rfl) T.m__law_mixed_up T.F__law_mixed_up.kp T.b__law_mixed_up .nil pass0 (pa_cons (pv 0) (pa_cons (pe_ix ix_tup (pv 1) pe_int (fun _ _ => rfl)) pa_nil)))) (blkOk_by (own := [("child", 2)]) (N := ["pool", "tree", "child"]) (sc := (defScope s__law_shuffled)) (by decide +kernel)) (fun _ _ _ _ _ => (pg_name (i := 2) sc__law_shuffled.nd rfl (Or.inl rfl))) (fun _ _ _ _ _ => pts_nil) (fun _ _ _ _ _ => (pe_call G__law_shuffled (hr.mono (by omega)) (by rfl) T.m__law_shuffled T.F__law_shuffled.kp T.b__law_shuffled .nil pass0 (pa_cons (pv 0) (pa_cons (pv 2) pa_nil))))) pa_nil))))), ?_⟩
    obtain ⟨c, ks⟩ := t
    simp only [Tr.depth] at hd hd2
    simp only [Tr.size] at hn q
    have lz := len_sizes ks
    cases hp.off ht with
    | node h1 h2 k1 k2 c1 c2 r =>
      rename_i a l xs
      have lr := r.len
      refine ⟨_, rfl, _, _, 0, _, rfl, rfl, SqT.of h1, atI_nat (j := 0) rfl, ?_⟩
      refine ⟨_, rfl, _, rfl, _, _, 1, _, rfl, rfl, SqT.of h1, atI_nat (j := 1) rfl, p, l, n, xs, rfl, hp, by omega, SqL.of h2, ?_, fun m ws H1 pw m0 f1 hm p1 => ?_⟩
      · intro H' f v hv
        obtain ⟨i, hi⟩ := List.getElem?_of_mem hv
        obtain ⟨t1, ht1, hx⟩ := (r.fr f).getV hi
        have dt := depths_mem (List.mem_of_getElem? ht1)
        exact datOk_tr hx (by omega)
      obtain ⟨us, pu, hus⟩ := (r.fr f1).perm pw
      have lu := hus.len
      have zu := sizes_perm pu
      have du := depths_perm pu
      have nu := pu.length_eq
      refine ⟨m, rfl, ⟨_, SqL.of hm⟩, fun D hD => ?_⟩
      have hD0 : H D = none := f1.free p1.some hD
      have hmD : m ≠ D := ne_of_none hm hD
      have nmp : m ≠ p := hp.ne' m0
      have nDp : D ≠ p := p1.ne' hD
      have husD := hus.off hD
      refine lc_list (xs := ws) (fun i H2 => ∃ acc vs2, H2 D = some (.lst acc) ∧ TrsAt (fun b => H b = none ∧ b ≠ D) H2 acc vs2 ∧ Shs (us.take i) vs2 ∧ H2 m = some (.lst ws) ∧ Pool H2 p (n + xs.length + (sizes (us.take i) - i)) ∧ Fr p H1 H2 ∧ i ≤ us.length)
        ⟨[], [], upd_same, .nil, .nil, by rw [upd_ne hmD]; exact hm, p1.new hD, (Fr.refl p H1).new hD, Nat.zero_le _⟩ (fun i H2 _ ⟨_, _, _, _, _, s, _⟩ => SqL.of s) ?_ ?_
      · rintro i x H2 hx ⟨acc, vs2, g1, g2, g3, g4, g5, g6, g7⟩
        obtain ⟨t1, ht1, hx2⟩ := hus.getV hx
        have dt := depths_mem (List.mem_of_getElem? ht1)
        have st := sizes_mem (List.mem_of_getElem? ht1)
        have tk := congrArg sizes (List.take_append_drop (i + 1) us)
        rw [sizes_append] at tk
        have e1 := take_succ_of ht1
        have li : i < us.length := (List.getElem?_eq_some_iff.mp ht1).1
        have lt := len_sizes (us.take i)
        rw [List.length_take] at lt
        have ld := len_sizes (us.drop (i + 1))
        rw [List.length_drop] at ld
        have pz := size_pos t1
        have la := g2.len
        have lb := Shs.len g3
        rw [List.length_take] at lb
        have e2 : sizes (us.take (i + 1)) = sizes (us.take i) + t1.size := by
          rw [e1, sizes_append]
          simp only [sizes]
          omega
        refine ⟨rfl, _, rfl, _, rfl, p, _, x, t1, rfl, g5, by omega, (hx2.fr g6).weak fun _ _ => trivial, by omega, by omega, fun y u H3 hsh f3 hy p3 => ?_⟩
        have g1' := f3 _ _ nDp g1
        refine ⟨acc, g1', Nat.lt_of_le_of_lt (show acc.length ≤ 1000000 by omega) (by decide), acc ++ [y], vs2 ++ [u], upd_same, ?_, ?_, ?_, ?_, ?_, by omega⟩
        · have hy2 : TrAt (fun b => H b = none ∧ b ≠ D) H3 y u := hy.weak fun b hb => ⟨f1.free p1.some (g6.free g5.some hb), fun e => by rw [e, g1] at hb; cases hb⟩
          refine ((?_ : TrsAt (fun b => H b = none ∧ b ≠ D) H3 acc vs2).append (.cons hy2 .nil)).keep (upd_keep fun b h => h.2)
          exact g2.keep fun b o k e => f3 b o (hp.ne' k.1) e
        · rw [e1]
          exact g3.append (.cons hsh .nil)
        · rw [upd_ne hmD]
          exact f3 _ _ nmp g4
        · refine (p3.upd nDp).mono ?_
          omega
        · exact (g6.trans f3).new hD
      · rintro H2 ⟨acc, vs2, g1, g2, g3, g4, g5, g6, g7⟩
        rw [lu, List.take_length] at g3 g5
        refine ⟨(by show 2 ≤ sizeLine; decide), fun e he => ?_⟩
        have he0 := f1.free p1.some (g6.free g5.some he)
        have nDe : D ≠ e := ne_of_none g1 he
        refine q _ (.node c vs2) _ (.node pu g3) ((f1.trans g6).new he0) (.node upd_same (by rw [upd_ne nDe]; exact g1) he0 hD0 c1 c2 ?_) ((g5.new he).mono ?_)
        · exact (g2.same (same_new he)).weak fun b h => h.1
        · omega
end


def rowOf (par : Nat → Nat) (k i : Nat) : List Nat := (List.range k).filter fun j => decide (1 ≤ j ∧ par j = i)
def setF {α : Type} (f : Nat → α) (k : Nat) (v : α) : Nat → α := fun j => if j = k then v else f j
theorem setF_same {α : Type} {f : Nat → α} {k : Nat} {v : α} : setF f k v k = v := if_pos rfl
theorem setF_ne {α : Type} {f : Nat → α} {k j : Nat} {v : α} (h : j ≠ k) : setF f k v j = f j := if_neg h
theorem rng_set {α β : Type} (G : α → β) (f : Nat → α) (k : Nat) (v : α) : ((List.range (k + 1)).map fun j => G (setF f k v j)) = ((List.range k).map fun j => G (f j)) ++ [G v] := by
  rw [List.range_succ, List.map_append]
  refine congr (congrArg _ (List.map_congr_left fun j hj => ?_)) ?_
  · rw [setF_ne (Nat.ne_of_lt (List.mem_range.mp hj))]
  · show [G (setF f k v k)] = [G v]
    rw [setF_same]
theorem rng_get {α : Type} (F : Nat → α) {k j : Nat} (h : j < k) : ((List.range k).map F)[j]? = some (F j) := by
  rw [List.getElem?_map, List.getElem?_range h]
  rfl
theorem row_succ (par : Nat → Nat) (k h i : Nat) (hk : 1 ≤ k) : rowOf (setF par k h) (k + 1) i = rowOf par k i ++ (if i = h then [k] else []) := by
  unfold rowOf
  rw [List.range_succ, List.filter_append]
  refine congr (congrArg _ (List.filter_congr fun j hj => ?_)) ?_
  · rw [setF_ne (Nat.ne_of_lt (List.mem_range.mp hj))]
  · rw [List.filter_cons, List.filter_nil, setF_same]
    by_cases e : i = h
    · subst e
      rw [if_pos rfl, if_pos (by simpa using hk)]
    · rw [if_neg e, if_neg (by simp; intro _ z; exact e z.symm)]
theorem row_out (par : Nat → Nat) (k i : Nat) (h : ∀ j, 1 ≤ j → j < k → par j < j) (hi : k ≤ i) : rowOf par k i = [] := by
  unfold rowOf
  rw [List.filter_eq_nil_iff]
  intro j hj e
  have e' := of_decide_eq_true e
  have hj' := List.mem_range.mp hj
  have := h j e'.1 hj'
  omega
theorem row_mem {par : Nat → Nat} {k i j : Nat} (h : j ∈ rowOf par k i) : 1 ≤ j ∧ par j = i ∧ j < k := by
  unfold rowOf at h
  have a := List.mem_filter.mp h
  have b := of_decide_eq_true a.2
  exact ⟨b.1, b.2, List.mem_range.mp a.1⟩
theorem row_len (par : Nat → Nat) (k i : Nat) : (rowOf par k i).length ≤ k := by
  have := List.length_filter_le (fun j => decide (1 ≤ j ∧ par j = i)) (List.range k)
  rw [List.length_range] at this
  exact this
def tot (par f : Nat → Nat) (s : Nat) : Nat → Nat
  | 0 => 0
  | m + 1 => tot par f s m + if s ≤ m ∧ (m = 0 ∨ par m < s) then f m else 0
def rowSum (par f : Nat → Nat) (i : Nat) : Nat → Nat
  | 0 => 0
  | m + 1 => rowSum par f i m + if 1 ≤ m ∧ par m = i then f m else 0
theorem rowSum_eq (par f : Nat → Nat) (i : Nat) : ∀ m, ((rowOf par m i).map f).sum = rowSum par f i m
  | 0 => rfl
  | m + 1 => by
    have ih := rowSum_eq par f i m
    unfold rowOf at ih ⊢
    rw [List.range_succ, List.filter_append, List.map_append, List.sum_append, ih, List.filter_cons, List.filter_nil]
    by_cases e : 1 ≤ m ∧ par m = i
    · rw [if_pos (decide_eq_true e)]
      simp only [rowSum, if_pos e, List.map_cons, List.map_nil, List.sum_cons, List.sum_nil, Nat.add_zero]
    · rw [if_neg (by simpa using e)]
      simp only [rowSum, if_neg e, List.map_nil, List.sum_nil]
theorem tot_step (par f : Nat → Nat) (s g : Nat) : ∀ m, (∀ j, 1 ≤ j → j < m → par j < j) → tot par (setF f s g) s m + rowSum par f s m = tot par f (s + 1) m + if s < m then g else 0
  | 0, _ => by simp [tot, rowSum]
  | m + 1, h => by
    have ih := tot_step par f s g m fun j a b => h j a (by omega)
    have hm := h m
    simp only [tot, rowSum]
    by_cases e : m = s
    · subst e
      rw [setF_same, if_pos (show m ≤ m ∧ (m = 0 ∨ par m < m) by omega), if_neg (show ¬ (1 ≤ m ∧ par m = m) by omega), if_neg (show ¬ (m + 1 ≤ m ∧ (m = 0 ∨ par m < m + 1)) by omega), if_pos (show m < m + 1 by omega)]
      rw [if_neg (show ¬ m < m by omega)] at ih
      omega
    · rw [setF_ne e]
      split <;> split <;> split <;> split <;> (split at ih) <;> omega
theorem tot_top (par f : Nat → Nat) : ∀ m, tot par f 0 (m + 1) = f 0
  | 0 => by simp [tot]
  | m + 1 => by
    have ih := tot_top par f m
    rw [tot, ih, if_neg (by omega)]
    rfl
theorem tot_none (par f : Nat → Nat) (s : Nat) : ∀ m, m ≤ s → tot par f s m = 0
  | 0, _ => rfl
  | m + 1, h => by
    rw [tot, tot_none par f s m (by omega), if_neg (by omega)]
theorem perm_map {α β : Type} (f : α → β) {l ws : List β} (p : l.Perm ws) : ∀ {xs : List α}, l = xs.map f → ∃ us, xs.Perm us ∧ ws = us.map f := by
  induction p with
  | nil =>
    intro xs e
    exact ⟨xs, .refl _, e⟩
  | cons x _ ih =>
    intro xs e
    cases xs with
    | nil => cases e
    | cons a r =>
      rw [List.map_cons] at e
      injection e with e1 e2
      obtain ⟨us, h1, h2⟩ := ih e2
      exact ⟨a :: us, h1.cons a, by rw [h2, e1, List.map_cons]⟩
  | swap x y l =>
    intro xs e
    match xs, e with
    | a :: b :: r, e =>
      simp only [List.map_cons, List.cons.injEq] at e
      exact ⟨b :: a :: r, .swap _ _ _, by simp only [List.map_cons, e.1, e.2.1, e.2.2]⟩
  | trans _ _ ih1 ih2 =>
    intro xs e
    obtain ⟨us, h1, h2⟩ := ih1 e
    obtain ⟨ws, h3, h4⟩ := ih2 h2
    exact ⟨ws, h1.trans h3, h4⟩
theorem trs_map {ok : Addr → Prop} {H : Hp} (tv : Nat → V) (tt : Nat → Tr) : ∀ {us : List Nat}, (∀ c ∈ us, TrAt ok H (tv c) (tt c)) → TrsAt ok H (us.map tv) (us.map tt)
  | [], _ => .nil
  | c :: r, h => .cons (h c List.mem_cons_self) (trs_map tv tt fun d hd => h d (List.mem_cons_of_mem _ hd))
theorem sizes_map (tt : Nat → Tr) : ∀ us : List Nat, sizes (us.map tt) = (us.map fun c => (tt c).size).sum
  | [] => rfl
  | c :: r => by simp only [List.map_cons, sizes, List.sum_cons, sizes_map tt r]
theorem depths_map (tt : Nat → Tr) (b : Nat) : ∀ us : List Nat, (∀ c ∈ us, (tt c).depth ≤ b) → depths (us.map tt) ≤ b
  | [], _ => Nat.zero_le _
  | c :: r, h => by
    have h1 := h c List.mem_cons_self
    have h2 := depths_map tt b r fun d hd => h d (List.mem_cons_of_mem _ hd)
    simp only [List.map_cons, depths]
    omega
theorem letss_map {p : Nat → Prop} (tt : Nat → Tr) : ∀ us : List Nat, (∀ c ∈ us, (tt c).lets p) → letss p (us.map tt)
  | [], _ => trivial
  | c :: r, h => by
    simp only [List.map_cons, letss]
    exact ⟨h c List.mem_cons_self, letss_map tt r fun d hd => h d (List.mem_cons_of_mem _ hd)⟩
theorem sum_perm {a b : List Nat} (p : a.Perm b) : a.sum = b.sum := by
  induction p with
  | nil => rfl
  | cons x _ ih => simp only [List.sum_cons, ih]
  | swap x y l => simp only [List.sum_cons]; omega
  | trans _ _ h1 h2 => exact h1.trans h2
theorem rep_rng {α : Type} (x : α) : ∀ k : Nat, (List.replicate k [x]).flatten = (List.range k).map fun _ => x
  | 0 => rfl
  | k + 1 => by
    rw [List.replicate_succ', List.flatten_append, rep_rng x k, List.range_succ, List.map_append]
    rfl
theorem ixN_nat {n k : Nat} (h : k < n) : ixN n (k : Int) = some k := by
  unfold ixN
  rw [if_pos (by omega), if_pos (by omega)]
  simp
theorem set_rng {α : Type} {F F' : Nat → α} {n k : Nat} {v : α} (h : ∀ j, j < n → j ≠ k → F j = F' j) (hk : F' k = v) : ((List.range n).map F).set k v = (List.range n).map F' := by
  refine List.ext_getElem? fun j => ?_
  rw [List.getElem?_set]
  by_cases hj : j < n
  · by_cases e : k = j
    · subst e
      rw [if_pos rfl, if_pos (by rw [List.length_map, List.length_range]; exact hj), rng_get _ hj, hk]
    · rw [if_neg e, rng_get _ hj, rng_get _ hj, h j hj (fun z => e z.symm)]
  · have o1 : ((List.range n).map F)[j]? = none := List.getElem?_eq_none_iff.mpr (by rw [List.length_map, List.length_range]; omega)
    have o2 : ((List.range n).map F')[j]? = none := List.getElem?_eq_none_iff.mpr (by rw [List.length_map, List.length_range]; omega)
    rw [o1, o2]
    split
    · rw [if_neg (by rw [List.length_map, List.length_range]; omega)]
    · rfl
theorem setF_size (tt : Nat → Tr) (k : Nat) (u : Tr) : (fun j => (setF tt k u j).size) = setF (fun j => (tt j).size) k u.size := by
  funext j
  unfold setF
  split <;> rfl
structure Rows (H0 H' : Hp) (p ro de : Addr) (n k : Nat) (par dep : Nat → Nat) (ad : Nat → Addr) : Prop where
  fr : Fr p H0 H'
  pool : Pool H' p n
  ro_ : H' ro = some (.lst ((List.range k).map fun j => V.ref (ad j)))
  de_ : H' de = some (.lst ((List.range k).map fun j => V.int (dep j : Nat)))
  row : ∀ j, j < k → H' (ad j) = some (.lst ((rowOf par k j).map fun i : Nat => V.int (i : Nat)))
  new : H0 ro = none ∧ H0 de = none ∧ ro ≠ de
  off : ∀ j, j < k → H0 (ad j) = none ∧ ad j ≠ ro ∧ ad j ≠ de
  inj : ∀ i j, i < k → j < k → ad i = ad j → i = j
  par_ : ∀ j, 1 ≤ j → j < k → par j < j ∧ dep j = dep (par j) + 1
  dep_ : ∀ j, j < k → 1 ≤ dep j ∧ dep j ≤ 30
  dep0 : dep 0 = 1
theorem Rows.go {H0 H' H2 : Hp} {p ro de : Addr} {n n2 k : Nat} {par dep : Nat → Nat} {ad : Nat → Addr} (R : Rows H0 H' p ro de n k par dep ad) (hp : H0 p ≠ none) (f : Fr p H' H2) (p2 : Pool H2 p n2) : Rows H0 H2 p ro de n2 k par dep ad := by
  have np : ∀ b, H0 b = none → b ≠ p := fun b h e => hp (by rw [← e]; exact h)
  exact ⟨R.fr.trans f, p2, f _ _ (np _ R.new.1) R.ro_, f _ _ (np _ R.new.2.1) R.de_, fun j hj => f _ _ (np _ (R.off j hj).1) (R.row j hj), R.new, R.off, R.inj, R.par_, R.dep_, R.dep0⟩
theorem Rows.step {H0 H' : Hp} {p ro de b : Addr} {n k h : Nat} {par dep : Nat → Nat} {ad : Nat → Addr} (R : Rows H0 H' p ro de n k par dep ad) (hp : H0 p ≠ none) (hk : 1 ≤ k) (hh : h < k) (hd : dep h ≤ 29)
    (hb : (upd H' (ad h) (.lst (((rowOf par k h).map fun i : Nat => V.int (i : Nat)) ++ [V.int (k : Nat)]))) b = none) :
    Rows H0 (upd (upd (upd (upd H' (ad h) (.lst (((rowOf par k h).map fun i : Nat => V.int (i : Nat)) ++ [V.int (k : Nat)]))) b (.lst [])) ro (.lst (((List.range k).map fun j => V.ref (ad j)) ++ [V.ref b]))) de (.lst (((List.range k).map fun j => V.int (dep j : Nat)) ++ [V.int ((dep h + 1 : Nat) : Int)])))
      p ro de n (k + 1) (setF par k h) (setF dep k (dep h + 1)) (setF ad k b) := by
  have np : ∀ b, H0 b = none → b ≠ p := fun b h e => hp (by rw [← e]; exact h)
  obtain ⟨n1, n2, n3⟩ := R.new
  have nah := R.off h hh
  have nb1 : b ≠ ad h := fun e => by rw [e, upd_same] at hb; cases hb
  have hb' : H' b = none := by rw [upd_ne nb1] at hb; exact hb
  have hb0 : H0 b = none := R.fr.free R.pool.some hb'
  have nbr : b ≠ ro := fun e => by rw [e, R.ro_] at hb'; cases hb'
  have nbd : b ≠ de := fun e => by rw [e, R.de_] at hb'; cases hb'
  have nba : ∀ j, j < k → b ≠ ad j := fun j hj e => by rw [e, R.row j hj] at hb'; cases hb'
  refine ⟨?_, ?_, ?_, ?_, fun j hj => ?_, R.new, fun j hj => ?_, fun i j hi hj e => ?_, fun j h1 hj => ?_, fun j hj => ?_, ?_⟩
  · intro c o hc e
    rw [upd_ne (ne_of_none e n2), upd_ne (ne_of_none e n1), upd_ne (ne_of_none e hb0), upd_ne (ne_of_none e nah.1)]
    exact R.fr c o hc e
  · exact (((R.pool.upd (np _ nah.1)).upd (np _ hb0)).upd (np _ n1)).upd (np _ n2)
  · rw [upd_ne n3, upd_same, rng_set V.ref]
  · rw [upd_same, rng_set (fun d : Nat => V.int (d : Nat))]
  · by_cases e : j = k
    · subst e
      rw [setF_same, upd_ne nbd, upd_ne nbr, upd_same, row_succ _ _ _ _ hk, if_neg (by omega), row_out par j j (fun i a c => (R.par_ i a c).1) (Nat.le_refl _)]
      rfl
    · have hj' : j < k := by omega
      have o := R.off j hj'
      rw [setF_ne e, upd_ne o.2.2, upd_ne o.2.1, upd_ne (fun z => nba j hj' z.symm), row_succ _ _ _ _ hk]
      by_cases ej : j = h
      · subst ej
        rw [upd_same, if_pos rfl, List.map_append]
        rfl
      · rw [upd_ne (fun z => ej (R.inj j h hj' hh z)), if_neg ej, List.append_nil]
        exact R.row j hj'
  · by_cases e : j = k
    · subst e
      rw [setF_same]
      exact ⟨hb0, nbr, nbd⟩
    · rw [setF_ne e]
      exact R.off j (by omega)
  · by_cases e1 : i = k
    · by_cases e2 : j = k
      · omega
      · rw [e1, setF_same, setF_ne e2] at e
        exact absurd e (nba j (by omega))
    · by_cases e2 : j = k
      · rw [e2, setF_same, setF_ne e1] at e
        exact absurd e.symm (nba i (by omega))
      · rw [setF_ne e1, setF_ne e2] at e
        exact R.inj i j (by omega) (by omega) e
  · by_cases e : j = k
    · subst e
      rw [setF_same, setF_same, setF_ne (by omega)]
      exact ⟨hh, rfl⟩
    · have q := R.par_ j h1 (by omega)
      rw [setF_ne e, setF_ne e, setF_ne (by omega)]
      exact q
  · by_cases e : j = k
    · subst e
      rw [setF_same]
      omega
    · rw [setF_ne e]
      exact R.dep_ j (by omega)
  · rw [setF_ne (by omega)]
    exact R.dep0
def sp__law_grown : Sp := fun vs H Q _ => ∃ (p : Addr) (n : Nat) (m : Nat) (L : Str), vs = [.ref p, .int m, .str L] ∧ Pool H p n ∧ n + 20000 < 1000000 ∧ 1 ≤ m ∧ m ≤ 100 ∧ Lets L ∧
  ∀ r t H', t.size ≤ m → t.depth ≤ 30 → t.lets (fun c => c ∈ L.cps.toList) → Fr p H H' → TrAt (fun b => H b = none) H' r t → Pool H' p (n + 20000) → Q r H'
section
variable {P : Program} {w : World} {K : PySem.W.Frag} {mg : Str → Option Value} {base : Heap}
theorem ok__law_grown (T : Txt K mg) : FnOk P w K mg base CX0 3 T.f__law_grown T.d__law_grown ["pool", "most", "letters"] sp__law_grown := by
  have G__law_take : FnOk P w K mg base CX0 1 T.f__law_take T.d__law_take ["pool", "many"] sp__law_take := ok__law_take T
  have G__law_mixed_up : FnOk P w K mg base CX0 2 T.f__law_mixed_up T.d__law_mixed_up ["pool", "things"] (sp__law_mixed_up K) := ok__law_mixed_up T
  refine T.F__law_grown.ok sc__law_grown (fun vs H Q E h => ?_) (fun cdv A outer s H vs Q E hr h => ?_)
  · obtain ⟨p, n, m, L, rfl, _⟩ := h
    rfl
  obtain ⟨p, n, m, L, rfl, hp, hn, hm0, hm1, hL, q⟩ := h
  refine ⟨_, (pss_cons (ps_set (i := 3) sc__law_grown.nd rfl (Or.inl rfl) (pe_op op_add pe_int (pe_ix ix_list (pe_lst (pa_cons (pe_call G__law_take (hr.mono (by omega)) (by rfl) T.m__law_take T.F__law_take.kp T.b__law_take .nil pass0 (pa_cons (pv 0) (pa_cons (pe_callB (call_min2 rfl) (by rfl) T.z_min (by decide +kernel) (pa_cons (pv 1) (pa_cons pe_int pa_nil))) pa_nil))) (pa_cons (pe_call G__law_take (hr.mono (by omega)) (by rfl) T.m__law_take T.F__law_take.kp T.b__law_take .nil pass0 (pa_cons (pv 0) (pa_cons (pv 1) pa_nil))) pa_nil))) (pe_call G__law_take (hr.mono (by omega)) (by rfl) T.m__law_take T.F__law_take.kp T.b__law_take .nil pass0 (pa_cons (pv 0) (pa_cons pe_int pa_nil))) (fun _ _ => rfl)))) (pss_cons (ps_set (i := 4) sc__law_grown.nd rfl (Or.inl rfl) (pe_call G__law_take (hr.mono (by omega)) (by rfl) T.m__law_take T.F__law_take.kp T.b__law_take .nil pass0 (pa_cons (pv 0) (pa_cons pe_int pa_nil)))) (pss_cons (ps_set (i := 5) sc__law_grown.nd rfl (Or.inl rfl) (pe_lst (pa_cons pe_int pa_nil))) (pss_cons (ps_set (i := 6) sc__law_grown.nd rfl (Or.inl rfl) (pe_lst (pa_cons (pe_lst pa_nil) pa_nil))) (pss_cons (ps_for PassesOwn.never rfl (pi_range2 (by rfl) T.z_range (pa_cons pe_int (pa_cons (pv 3) pa_nil))) (pg_name (i := 7) sc__law_grown.nd rfl (Or.inl rfl)) (pss_cons (ps_set (i := 8) sc__law_grown.nd rfl (Or.inl rfl) (pe_ix ix_list (pe_lst (pa_cons (pe_call G__law_take (hr.mono (by omega)) (by rfl) T.m__law_take T.F__law_take.kp T.b__law_take .nil pass0 (pa_cons (pv 0) (pa_cons (pv 7) pa_nil))) (pa_cons (pe_op op_sub (pv 7) pe_int) (pa_cons (pe_call G__law_take (hr.mono (by omega)) (by rfl) T.m__law_take T.F__law_take.kp T.b__law_take .nil pass0 (pa_cons (pv 0) (pa_cons (pe_callB (call_min2 rfl) (by rfl) T.z_min (by decide +kernel) (pa_cons (pv 7) (pa_cons pe_int pa_nil))) pa_nil))) pa_nil)))) (pv 4) (fun _ _ => rfl))) (C8.pss_cut (ps_if (pt_cmpR op_gt (pe_ix ix_list (pv 5) (pv 8) (fun _ _ => rfl)) pe_int (nomark _)) (pss_one (ps_set (i := 8) sc__law_grown.nd rfl (Or.inl rfl) pe_int)) pss_nil) (pss_cons (ps_expr (pe_bm PySem.F.plainAttrs_list PySem.F.slot_list_append PySem.F.type_list_append mt_append (pe_ix ix_list (pv 6) (pv 8) (fun _ _ => rfl)) (pa_cons (pv 7) pa_nil))) (pss_cons (ps_expr (pe_bm PySem.F.plainAttrs_list PySem.F.slot_list_append PySem.F.type_list_append mt_append (pv 6) (pa_cons (pe_lst pa_nil) pa_nil))) (pss_one (ps_expr (pe_bm PySem.F.plainAttrs_list PySem.F.slot_list_append PySem.F.type_list_append mt_append (pv 5) (pa_cons (pe_op op_add (pe_ix ix_list (pv 5) (pv 8) (fun _ _ => rfl)) pe_int) pa_nil))))))))) (pss_cons (ps_set (i := 9) sc__law_grown.nd rfl (Or.inr rfl) (pe_op op_rep (pe_lst (pa_cons pe_non pa_nil)) (pv 3))) (pss_cons (ps_for PassesOwn.never rfl (pi_range3 (by rfl) T.z_range (pa_cons (pe_op op_sub (pv 3) pe_int) (pa_cons (pe_un un_neg pe_int) (pa_cons (pe_un un_neg pe_int) pa_nil)))) (pg_name (i := 7) sc__law_grown.nd rfl (Or.inl rfl)) (pss_cons (ps_setLc (i := 10) (own := [("child", 11)]) (g := gName 11) (te := tOp (rIxL K) (tVar 9) (tVar 11)) (tt := tYes) rfl sc__law_grown.nd rfl rfl (sw_true rfl rfl rfl (by decide +kernel)) (pi_list (pe_call G__law_mixed_up (hr.mono (by omega)) (by rfl) T.m__law_mixed_up T.F__law_mixed_up.kp T.b__law_mixed_up .nil pass0 (pa_cons (pv 0) (pa_cons (pe_ix ix_list (pv 6) (pv 7) (fun _ _ => rfl)) pa_nil)))) (blkOk_by (own := [("child", 11)]) (N := ["pool", "most", "letters", "many", "way", "depths", "rows", "k", "head", "trees", "children", "child"]) (sc := (defScope s__law_grown)) (by decide +kernel)) (fun _ _ _ _ _ => (pg_name (i := 11) sc__law_grown.nd rfl (Or.inl rfl))) (fun _ _ _ _ _ => pts_nil) (fun _ _ _ _ _ => (pe_ix ix_list (pv 9) (pv 11) (fun _ _ => rfl)))) (pss_one (ps_asg (pe_tup (pa_cons (pe_ix ix_str (pv 2) (pe_call G__law_take (hr.mono (by omega)) (by rfl) T.m__law_take T.F__law_take.kp T.b__law_take .nil pass0 (pa_cons (pv 0) (pa_cons (pe_callB call_len_str (by rfl) T.z_len PySem.boot_len (pa_cons (pv 2) pa_nil)) pa_nil))) (fun _ _ => rfl)) (pa_cons (pv 10) pa_nil))) (pg_sub (pv 9) (pv 7) set_list))))) (pss_one (ps_ret (pe_ix ix_list (pv 9) pe_int (fun _ _ => rfl))))))))))), ?_⟩
  refine ⟨_, rfl, _, rfl, m, 7, rfl, p, _, n, rfl, hp, by omega, ?_, ?_, fun r1 H1 a0 a1 c1 p1 => ?_⟩
  · split <;> omega
  · split <;> omega
  refine ⟨_, rfl, _, rfl, p, m, n + 1, rfl, p1, by omega, by omega, by omega, fun r2 H2 b0 b1 c2 p2 => ?_⟩
  refine ⟨(by show 2 ≤ sizeLine; decide), fun l1 hl1 => ?_⟩
  refine ⟨_, rfl, p, 2, n + 2, rfl, p2.new hl1, by omega, by decide, by decide, fun r3 H3 d0 d1 c3 p3 => ?_⟩
  have nl1 : l1 ≠ p := p2.ne' hl1
  have hl3 := c3.at (upd_same (H := H2) (a := l1) (o := .lst [.int r1, .int r2])) nl1
  obtain ⟨many, hmany, hmv⟩ : ∃ many : Nat, (1 ≤ many ∧ many ≤ m) ∧ ∃ z : Int, atI [V.int r1, V.int r2] r3 = some (.int z) ∧ 1 + z = (many : Int) := by
    have a1' : r1 < m := by
      have := a1
      split at this <;> omega
    by_cases e : r3 = 0
    · subst e
      exact ⟨(1 + r1).toNat, by omega, r1, atI_nat (j := 0) rfl, by omega⟩
    · have e1 : r3 = 1 := by omega
      subst e1
      exact ⟨(1 + r2).toNat, by omega, r2, atI_nat (j := 1) rfl, by omega⟩
  obtain ⟨z, hz, hzm⟩ := hmv
  refine ⟨l1, _, r3, _, rfl, rfl, SqL.of hl3, hz, 1, z, rfl, rfl, ?_⟩
  have f3 : Fr p H H3 := (((Fr.chg c1).trans (Fr.chg c2)).new (by
    have := (c1.trans c2) l1 nl1
    rw [hl1] at this
    exact this.symm)).trans (Fr.chg c3)
  refine ⟨_, rfl, p, 3, n + 3, rfl, p3, by omega, by decide, by decide, fun way H4 w0 w1 c4 p4 => ?_⟩
  refine ⟨(by show 1 ≤ sizeLine; decide), fun de hde => ?_⟩
  refine ⟨(by show 0 ≤ sizeLine; decide), fun a0_ ha0 => ⟨(by show 1 ≤ sizeLine; decide), fun ro hro => ?_⟩⟩
  have n0 : H4 de = none := hde
  have na0 : a0_ ≠ de := fun e => by rw [e, upd_same] at ha0; cases ha0
  have ha0' : H4 a0_ = none := by rw [upd_ne na0] at ha0; exact ha0
  have nro1 : ro ≠ a0_ := fun e => by rw [e, upd_same] at hro; cases hro
  have hro1 := hro
  rw [upd_ne nro1] at hro1
  have nro2 : ro ≠ de := fun e => by rw [e, upd_same] at hro1; cases hro1
  rw [upd_ne nro2] at hro1
  have f4 : Fr p H H4 := f3.trans (Fr.chg c4)
  have e0 : ∀ {b}, H4 b = none → H b = none := fun h => f4.free p4.some h
  have hps : H p ≠ none := hp.some
  have np : ∀ b, H b = none → b ≠ p := fun b h e => hps (by rw [← e]; exact h)
  have R0 : Rows H (upd (upd (upd H4 de (.lst [V.int 1])) a0_ (.lst [])) ro (.lst [V.ref a0_])) p ro de (n + 4) 1 (fun _ => 0) (fun _ => 1) (fun _ => a0_) := by
    refine ⟨((f4.new (e0 hde)).new (e0 ha0')).new (e0 hro1), ?_, upd_same, by rw [upd_ne (fun e => nro2 e.symm), upd_ne (fun e => na0 e.symm)]; exact upd_same, fun j hj => ?_, ⟨e0 hro1, e0 hde, nro2⟩, fun j hj => ⟨e0 ha0', fun e => nro1 e.symm, na0⟩, fun i j hi hj _ => by omega, fun j h1 h2 => by omega, fun j hj => ⟨Nat.le_refl _, by decide⟩, rfl⟩
    · exact ((p4.upd (np _ (e0 hde))).upd (np _ (e0 ha0'))).upd (np _ (e0 hro1))
    · rw [upd_ne (fun e => nro1 e.symm)]
      exact upd_same
  refine ⟨_, rfl, 1, many, congrArg (fun x => [V.int 1, V.int x]) hzm, ⟨by decide, by decide, by omega, by omega⟩, for_range (lo := 1) (n := ((many : Int) - 1).toNat)
    (fun i σ H' => ∃ par dep ad y7 y8 y9 y10 y11, σ = [some (.ref p), some (.int m), some (.str L), some (.int many), some (.int way), some (.ref de), some (.ref ro), y7, y8, y9, y10, y11] ∧ Rows H H' p ro de (n + 4 + 2 * i) (1 + i) par dep ad)
    ⟨_, _, _, none, none, none, none, none, by rw [← hzm]; rfl, R0⟩ ?_ ?_⟩
  · rintro i σ H5 hi ⟨par, dep, ad, y7, y8, y9, y10, y11, rfl, R⟩
    have hk : 1 + i < many := by omega
    rw [show (1 : Int) + (i : Int) = ((1 + i : Nat) : Int) by omega]
    refine ⟨_, rfl, _, rfl, p, _, _, rfl, R.pool, by omega, by omega, by omega, fun s1 H6 a0 a1 c6 p6 => ?_⟩
    refine ⟨_, rfl, _, 1, rfl, rfl, _, rfl, _, rfl, _, 3, rfl, p, _, _, rfl, p6, by omega, ?_, ?_, fun s2 H7 b0 b1 c7 p7 => ?_⟩
    · split <;> omega
    · split <;> omega
    refine ⟨(by show 3 ≤ sizeLine; decide), fun e he => ?_⟩
    obtain ⟨hd, hdk, hdv⟩ : ∃ hd : Nat, hd < 1 + i ∧ atI [V.int s1, V.int (((1 + i : Nat) : Int) - 1), V.int s2] way = some (.int (hd : Nat)) := by
      have b1' : s2 < ((1 + i : Nat) : Int) := by
        have := b1
        split at this <;> omega
      obtain rfl | rfl | rfl : way = 0 ∨ way = 1 ∨ way = 2 := by omega
      · exact ⟨s1.toNat, by omega, at_of (j := 0) rfl (congrArg (fun z => some (V.int z)) (show s1 = ((s1.toNat : Nat) : Int) by omega))⟩
      · exact ⟨i, by omega, at_of (j := 1) rfl (congrArg (fun z => some (V.int z)) (show ((1 + i : Nat) : Int) - 1 = (i : Int) by omega))⟩
      · exact ⟨s2.toNat, by omega, at_of (j := 2) rfl (congrArg (fun z => some (V.int z)) (show s2 = ((s2.toNat : Nat) : Int) by omega))⟩
    have R7 : Rows H (upd H7 e (.lst [V.int s1, V.int (((1 + i : Nat) : Int) - 1), V.int s2])) p ro de (n + 4 + 2 * i + 2) (1 + i) par dep ad :=
      R.go hps ((Fr.chg (c6.trans c7)).new (by
        have := (c6.trans c7) e (p7.ne' he)
        rw [he] at this
        exact this.symm)) (p7.new he)
    refine ⟨_, rfl, e, _, way, _, rfl, rfl, SqL.of upd_same, hdv, ?_⟩
    generalize (upd H7 e (.lst [V.int s1, V.int (((1 + i : Nat) : Int) - 1), V.int s2])) = H8 at R7
    refine ⟨fun σ' H' => ∃ hd : Nat, hd < 1 + i ∧ dep hd ≤ 29 ∧ H' = H8 ∧ σ' = [some (.ref p), some (.int m), some (.str L), some (.int many), some (.int way), some (.ref de), some (.ref ro), some (.int ((1 + i : Nat) : Int)), some (.int (hd : Nat)), y9, y10, y11], ?_, ?_⟩
    · refine ⟨_, rfl, _, rfl, de, _, hd, _, rfl, rfl, SqL.of R7.de_, at_of (j := hd) rfl (rng_get _ hdk), _, 29, rfl, rfl, _, rfl, ?_⟩
      refine ite2 (fun c => ?_) (fun c => ?_)
      · exact ⟨0, by omega, by rw [R7.dep0]; decide, rfl, rfl⟩
      · have c' : ¬ (29 : Int) < (dep hd : Nat) := of_decide_eq_false (Bool.eq_false_iff.mpr c)
        exact ⟨hd, hdk, by omega, rfl, rfl⟩
    · rintro σ' H' ⟨hd, hdk, hd29, rfl, rfl⟩
      have rl := row_len par (1 + i) hd
      refine ⟨_, rfl, _, rfl, ro, _, hd, _, rfl, rfl, SqL.of R7.ro_, at_of (j := hd) rfl (rng_get _ hdk), .inl ⟨rfl, _, SqL.of (R7.row hd hdk)⟩, _, rfl, ad hd, _, _, rfl, rfl, R7.row hd hdk, ?_, ?_⟩
      · rw [List.length_map]
        exact small1000 (by omega)
      have o := R7.off hd hdk
      have hro9 : (upd H' (ad hd) (.lst (((rowOf par (1 + i) hd).map fun i : Nat => V.int (i : Nat)) ++ [V.int ((1 + i : Nat) : Int)]))) ro = some (.lst ((List.range (1 + i)).map fun j => V.ref (ad j))) := by
        rw [upd_ne (fun z => o.2.1 z.symm)]
        exact R7.ro_
      refine ⟨_, rfl, .inl ⟨rfl, _, SqL.of hro9⟩, (by show 0 ≤ sizeLine; decide), fun b hb => ?_⟩
      have nrb : ro ≠ b := ne_of_none hro9 hb
      refine ⟨ro, _, .ref b, rfl, rfl, by rw [upd_ne nrb]; exact hro9, by rw [List.length_map, List.length_range]; exact small1000 (by omega), ?_⟩
      have hde9 : (upd H' (ad hd) (.lst (((rowOf par (1 + i) hd).map fun i : Nat => V.int (i : Nat)) ++ [V.int ((1 + i : Nat) : Int)]))) de = some (.lst ((List.range (1 + i)).map fun j => V.int (dep j : Nat))) := by
        rw [upd_ne (fun z => o.2.2 z.symm)]
        exact R7.de_
      have hde10 : ∀ o1 o2, (upd (upd (upd H' (ad hd) (.lst (((rowOf par (1 + i) hd).map fun i : Nat => V.int (i : Nat)) ++ [V.int ((1 + i : Nat) : Int)]))) b o1) ro o2) de = some (.lst ((List.range (1 + i)).map fun j => V.int (dep j : Nat))) := fun o1 o2 => by
        rw [upd_ne (fun z => R7.new.2.2 z.symm), upd_ne (ne_of_none hde9 hb)]
        exact hde9
      refine ⟨_, rfl, .inl ⟨rfl, _, SqL.of (hde10 _ _)⟩, _, rfl, _, rfl, de, _, hd, _, rfl, rfl, SqL.of (hde10 _ _), at_of (j := hd) rfl (rng_get _ hdk), _, 1, rfl, rfl, de, _, _, rfl, rfl, hde10 _ _, by rw [List.length_map, List.length_range]; exact small1000 (by omega), ?_⟩
      have R8 := R7.step hps (by omega) hdk hd29 hb
      exact ⟨_, _, _, _, _, _, _, _, rfl, R8⟩
  · rintro σ H5 ⟨par, dep, ad, y7, y8, y9, y10, y11, rfl, R⟩
    have ek : 1 + ((many : Int) - 1).toNat = many := by omega
    rw [ek] at R
    refine ⟨(by show 1 ≤ sizeLine; decide), fun t0 ht0 => ⟨_, rfl, t0, many, [.non], rfl, rfl, upd_same, by omega, by omega, Nat.le_trans (show 1 * (many : Int).toNat ≤ 1000 by omega) (by decide), fun tr htr => ?_⟩⟩
    have nt : tr ≠ t0 := fun e => by rw [e, upd_same] at htr; cases htr
    have htr5 : H5 tr = none := by rw [upd_ne nt] at htr; exact htr
    have htr0 : H tr = none := R.fr.free R.pool.some htr5
    have ntp : tr ≠ p := np _ htr0
    refine ⟨_, rfl, _, 1, rfl, rfl, _, rfl, _, rfl, (many : Int) - 1, -1, -1, many, rfl, ?_, for_rangeC (lo := (many : Int) - 1) (c := -1) (n := many)
      (fun i σ H' => ∃ tv tt y7 y8 y10 y11, σ = [some (.ref p), some (.int m), some (.str L), some (.int many), some (.int way), some (.ref de), some (.ref ro), y7, y8, some (.ref tr), y10, y11] ∧
        H' tr = some (.lst ((List.range many).map fun j => if many - i ≤ j then tv j else .non)) ∧ (∀ j, many - i ≤ j → j < many → TrAt (fun b => H b = none ∧ b ≠ tr) H' (tv j) (tt j) ∧ (tt j).depth + dep j ≤ 31 ∧ (tt j).lets (fun c => c ∈ L.cps.toList)) ∧
        tot par (fun j => (tt j).size) (many - i) many = i ∧ Fr p H5 H' ∧ Pool H' p (n + 300 + 101 * i))
      ⟨fun _ => .non, fun _ => .node 97 [], _, _, _, _, rfl, ?_, fun j h1 h2 => by omega, tot_none _ _ _ _ (by omega), ((Fr.refl p H5).new (by exact ht0)).new htr5, ((R.pool.new ht0).new htr).mono (by omega)⟩ ?_ ?_⟩
    · have e := RgC.neg (i := (many : Int) - 1) (j := -1) (by omega) (by omega) (by omega) (by omega)
      rw [show ((many : Int) - 1 - -1).toNat = many by omega] at e
      exact e
    · rw [upd_same, show (many : Int).toNat = many by omega, rep_rng]
      refine congrArg (fun z => some (HO.lst z)) (List.map_congr_left fun j hj => ?_)
      rw [if_neg (by have := List.mem_range.mp hj; omega)]
    · rintro i σ H6 hi ⟨tv, tt, y7, y8, y10, y11, rfl, hT, hTr, hTot, f6, p6⟩
      obtain ⟨k, hk⟩ : ∃ k : Nat, k + 1 + i = many := ⟨many - 1 - i, by omega⟩
      rw [show (many : Int) - 1 + (i : Int) * -1 = (k : Int) by omega]
      have R6 := R.go hps f6 p6
      have hkm : k < many := by omega
      have rl := row_len par many k
      refine ⟨_, rfl, _, rfl, _, rfl, ro, _, k, _, rfl, rfl, SqL.of R6.ro_, at_of (j := k) rfl (rng_get _ hkm), p, ad k, _, _, rfl, p6, by rw [List.length_map]; omega, SqL.of (R6.row k hkm), ?_, fun mm ws H7 pw m0 f7 hm p7 => ?_⟩
      · intro H' f v hv
        obtain ⟨c, _, rfl⟩ := List.mem_map.mp hv
        exact datOk_int _
      obtain ⟨us, pu, rfl⟩ := perm_map _ pw rfl
      have lu : us.length = (rowOf par many k).length := pu.length_eq.symm
      have mem : ∀ c ∈ us, 1 ≤ c ∧ par c = k ∧ c < many ∧ k < c := fun c hc => by
        have a := row_mem (pu.mem_iff.mpr hc)
        have b := (R.par_ c a.1 a.2.2).1
        omega
      refine ⟨mm, rfl, ⟨_, SqL.of hm⟩, fun D hD => ?_⟩
      have hD6 : H6 D = none := f7.free p7.some hD
      have hD0 : H D = none := R6.fr.free p6.some hD6
      have nDt : D ≠ tr := fun e => by rw [e, hT] at hD6; cases hD6
      have hT7 := f7 _ _ ntp hT
      have nmD : mm ≠ D := ne_of_none hm hD
      refine lc_list (xs := us.map fun i : Nat => V.int (i : Nat)) (fun j H8 => H8 = upd H7 D (.lst ((us.take j).map tv))) rfl (fun j H8 _ e => by rw [e]; exact SqL.of (by rw [upd_ne nmD]; exact hm)) ?_ ?_
      · rintro j x H8 hx rfl
        rw [List.getElem?_map] at hx
        cases hc : us[j]? with
        | none => rw [hc] at hx; cases hx
        | some c =>
          rw [hc] at hx
          cases hx
          have hcm := mem c (List.mem_of_getElem? hc)
          have hg : ((List.range many).map fun j => if many - i ≤ j then tv j else .non)[c]? = some (tv c) := by
            rw [rng_get _ hcm.2.2.1, if_pos (by omega)]
          refine ⟨rfl, _, rfl, _, rfl, tr, _, c, tv c, rfl, rfl, SqL.of (by rw [upd_ne (fun z => nDt z.symm)]; exact hT7), at_of (j := c) rfl hg, _, upd_same, ?_, ?_⟩
          · rw [List.length_map, List.length_take]
            exact small1000 (by omega)
          · rw [upd_upd, take_succ_of hc, List.map_append]
            rfl
      · rintro H8 rfl
        rw [List.length_map, List.take_length]
        have hT8 : (upd H7 D (.lst (us.map tv))) tr = some (.lst ((List.range many).map fun j => if many - i ≤ j then tv j else .non)) := by
          rw [upd_ne (fun z => nDt z.symm)]
          exact hT7
        have hLs : L.cps.toList.length = L.length := by
          show L.cps.toList.length = L.cps.size
          exact Array.length_toList
        have p8 : Pool (upd H7 D (.lst (us.map tv))) p _ := p7.new hD
        refine ⟨_, rfl, _, rfl, _, rfl, L, rfl, Nat.le_trans hL.2.1 (by decide), p, _, _, rfl, p8, by rw [List.length_map]; omega, by have := hL.1; omega, by have := hL.2.1; omega, fun r H9 r0 r1 c9 p9 => ?_⟩
        obtain ⟨rn, rfl⟩ : ∃ rn : Nat, r = (rn : Int) := ⟨r.toNat, by omega⟩
        have hrn : rn < L.cps.toList.length := by rw [hLs]; omega
        obtain ⟨c, hc⟩ : ∃ c, L.cps.toList[rn]? = some c := ⟨_, List.getElem?_eq_getElem hrn⟩
        have cL := hL.2.2 c (List.mem_of_getElem? hc)
        refine ⟨L, rn, c, rfl, rfl, Nat.le_trans hL.2.1 (by decide), atI_nat hc, _, rfl, (by show 2 ≤ sizeLine; decide), fun g hg => ?_⟩
        have hT9 := c9.at hT8 ntp
        have ngt : g ≠ tr := fun e => by rw [e, hT9] at hg; cases hg
        have f9 : Fr p H6 H9 := (f7.new hD6).trans (Fr.chg c9)
        have hg6 : H6 g = none := f9.free p9.some hg
        have hg0 : H g = none := R6.fr.free p6.some hg6
        have hD9 : H9 D = some (.lst (us.map tv)) := c9.at upd_same (np _ hD0)
        have nDg : D ≠ g := ne_of_none hD9 hg
        refine ⟨_, rfl, _, rfl, tr, _, k, k, rfl, rfl, by rw [upd_ne (fun z => ngt z.symm)]; exact hT9, ixN_nat (by rw [List.length_map, List.length_range]; exact hkm), ?_⟩
        have keep : ∀ v t, TrAt (fun b => H b = none ∧ b ≠ tr) H6 v t → ∀ o, TrAt (fun b => H b = none ∧ b ≠ tr) (upd (upd H9 g (.tup [.str (ch c), .ref D])) tr o) v t := fun v t h o =>
          ((h.keep fun b o k e => f9 b o (np b k.1) e).same (same_new hg)).keep (upd_keep fun b k => k.2)
        refine ⟨setF tv k (.ref g), setF tt k (.node c (us.map tt)), _, _, _, _, rfl, ?_, ?_, ?_, ?_, ?_⟩
        · rw [upd_same]
          refine congrArg (fun z => some (HO.lst z)) (set_rng (fun j hj ne => ?_) ?_)
          · rw [setF_ne ne]
            by_cases e : many - i ≤ j
            · rw [if_pos e, if_pos (by omega)]
            · rw [if_neg e, if_neg (by omega)]
          · rw [if_pos (by omega), setF_same]
        · intro j h1 h2
          by_cases e : j = k
          · subst e
            rw [setF_same, setF_same]
            refine ⟨.node (by rw [upd_ne ngt]; exact upd_same) (by rw [upd_ne nDt, upd_ne nDg]; exact hD9) ⟨hg0, ngt⟩ ⟨hD0, nDt⟩ cL.1 cL.2 (trs_map tv tt fun d hd => keep _ _ (hTr d (by have := mem d hd; omega) (mem d hd).2.2.1).1 _), ?_, ?_⟩
            · have := depths_map tt (30 - dep j) us fun d hd => by
                have a := mem d hd
                have b := (hTr d (by omega) a.2.2.1).2.1
                have e := (R.par_ d a.1 a.2.2.1).2
                rw [a.2.1] at e
                omega
              have b := R.dep_ j hkm
              simp only [Tr.depth]
              omega
            · simp only [Tr.lets]
              exact ⟨List.mem_of_getElem? hc, letss_map tt us fun d hd => (hTr d (by have := mem d hd; omega) (mem d hd).2.2.1).2.2⟩
          · rw [setF_ne e, setF_ne e]
            have a := hTr j (by omega) h2
            exact ⟨keep _ _ a.1 _, a.2⟩
        · have st := tot_step par (fun j => (tt j).size) k (1 + sizes (us.map tt)) many fun j a b => (R.par_ j a b).1
          rw [← rowSum_eq, if_pos hkm, sum_perm (pu.map fun j => (tt j).size)] at st
          rw [setF_size, show many - (i + 1) = k by omega]
          rw [show many - i = k + 1 by omega] at hTot
          simp only [Tr.size]
          rw [sizes_map] at st ⊢
          omega
        · intro b o hb e
          rw [upd_ne (ne_of_none e htr5)]
          exact same_new hg _ _ (f9 b o hb (f6 b o hb e))
        · refine ((p9.new hg).upd ntp).mono ?_
          rw [List.length_map]
          omega
    · rintro σ H6 ⟨tv, tt, y7, y8, y10, y11, rfl, hT, hTr, hTot, f6, p6⟩
      have h0 := hTr 0 (by omega) (by omega)
      rw [show many - many = 0 by omega] at hTot
      obtain ⟨m', rfl⟩ : ∃ m', many = m' + 1 := ⟨many - 1, by omega⟩
      rw [tot_top] at hTot
      have hd0 := R.dep0
      refine ⟨_, rfl, tr, _, 0, tv 0, rfl, rfl, SqL.of hT, at_of (j := 0) rfl (by rw [rng_get _ (by omega), if_pos (by omega)]), ?_⟩
      refine q _ (tt 0) _ (by omega) (by omega) h0.2.2 (R.fr.trans f6) (h0.1.weak fun b k => k.1) (p6.mono (by omega))
end

section
variable {P : Program} {w : World} {K : PySem.W.Frag} {mg : Str → Option Value} {base : Heap}
end


theorem TrAt.go {H H1 H2 : Hp} {p : Addr} {v : V} {t : Tr} (x : TrAt (fun b => H b = none) H1 v t) (hp : H p ≠ none) (f : Fr p H1 H2) : TrAt (fun b => H b = none) H2 v t :=
  x.keep fun b o k e => f b o (fun z => hp (by rw [← z]; exact k)) e
theorem TrsAt.go {H H1 H2 : Hp} {p : Addr} {vs : List V} {ts : List Tr} (x : TrsAt (fun b => H b = none) H1 vs ts) (hp : H p ≠ none) (f : Fr p H1 H2) : TrsAt (fun b => H b = none) H2 vs ts :=
  x.keep fun b o k e => f b o (fun z => hp (by rw [← z]; exact k)) e
theorem TrAt.base {H H1 H2 : Hp} {p : Addr} {v : V} {t : Tr} (x : TrAt (fun b => H1 b = none) H2 v t) (f : Fr p H H1) (hp : H1 p ≠ none) : TrAt (fun b => H b = none) H2 v t := x.weak fun _ h => f.free hp h
theorem letss_of {p : Nat → Prop} : ∀ {ts : List Tr}, (∀ t ∈ ts, t.lets p) → letss p ts
  | [], _ => trivial
  | t :: r, h => by
    simp only [letss]
    exact ⟨h t List.mem_cons_self, letss_of fun u hu => h u (List.mem_cons_of_mem _ hu)⟩
def sp__law_tree : Sp := fun vs H Q _ => ∃ (p : Addr) (n : Nat) (m : Nat) (L : Str), vs = [.ref p, .int m, .str L] ∧ Pool H p n ∧ n + 50000 < 1000000 ∧ 6 ≤ m ∧ m ≤ 100 ∧ Lets L ∧
  ∀ r t H', t.size ≤ m → t.depth ≤ 31 → t.lets (fun c => c ∈ L.cps.toList) → Fr p H H' → TrAt (fun b => H b = none) H' r t → Pool H' p (n + 50000) → Q r H'
section
variable {P : Program} {w : World} {K : PySem.W.Frag} {mg : Str → Option Value} {base : Heap}
theorem ok__law_tree (T : Txt K mg) : FnOk P w K mg base CX0 40 T.f__law_tree T.d__law_tree ["pool", "most", "letters"] sp__law_tree := by
  have G__law_take : FnOk P w K mg base CX0 1 T.f__law_take T.d__law_take ["pool", "many"] sp__law_take := ok__law_take T
  have G__law_grown : FnOk P w K mg base CX0 3 T.f__law_grown T.d__law_grown ["pool", "most", "letters"] sp__law_grown := ok__law_grown T
  have G__law_mixed_up : FnOk P w K mg base CX0 2 T.f__law_mixed_up T.d__law_mixed_up ["pool", "things"] (sp__law_mixed_up K) := ok__law_mixed_up T
  have G__law_shuffled : FnOk P w K mg base CX0 (32 + 2) T.f__law_shuffled T.d__law_shuffled ["pool", "tree"] (sp__law_shuffled 32) := ok__law_shuffled T 32
  refine T.F__law_tree.ok sc__law_tree (fun vs H Q E h => ?_) (fun cdv A outer s H vs Q E hr h => ?_)
  · obtain ⟨p, n, m, L, rfl, _⟩ := h
    rfl
  obtain ⟨p, n, m, L, rfl, hp, hn, hm0, hm1, hL, q⟩ := h
  refine ⟨_, (pss_cons (ps_if (pt_cmpR op_eq (pe_call G__law_take (hr.mono (by omega)) (by rfl) T.m__law_take T.F__law_take.kp T.b__law_take .nil pass0 (pa_cons (pv 0) (pa_cons pe_int pa_nil))) pe_int (nomark _)) (pss_one (ps_ret (pe_call G__law_grown (hr.mono (by omega)) (by rfl) T.m__law_grown T.F__law_grown.kp T.b__law_grown .nil pass0 (pa_cons (pv 0) (pa_cons (pv 1) (pa_cons (pv 2) pa_nil)))))) pss_nil) (pss_cons (ps_set (i := 3) sc__law_tree.nd rfl (Or.inl rfl) (pe_call G__law_grown (hr.mono (by omega)) (by rfl) T.m__law_grown T.F__law_grown.kp T.b__law_grown .nil pass0 (pa_cons (pv 0) (pa_cons (pe_op op_fdivW (pv 1) pe_int) (pa_cons (pv 2) pa_nil))))) (pss_cons (ps_set (i := 4) sc__law_tree.nd rfl (Or.inl rfl) (pe_call G__law_grown (hr.mono (by omega)) (by rfl) T.m__law_grown T.F__law_grown.kp T.b__law_grown .nil pass0 (pa_cons (pv 0) (pa_cons (pe_op op_sub (pe_op op_fdivW (pv 1) pe_int) pe_int) (pa_cons (pv 2) pa_nil))))) (pss_cons (ps_set (i := 5) sc__law_tree.nd rfl (Or.inl rfl) (pe_lst (pa_cons (pe_lst (pa_cons (pv 3) (pa_cons (pe_call G__law_shuffled (hr.mono (by omega)) (by rfl) T.m__law_shuffled T.F__law_shuffled.kp T.b__law_shuffled .nil pass0 (pa_cons (pv 0) (pa_cons (pv 3) pa_nil))) pa_nil))) (pa_cons (pe_lst (pa_cons (pv 3) (pa_cons (pv 4) (pa_cons (pe_call G__law_shuffled (hr.mono (by omega)) (by rfl) T.m__law_shuffled T.F__law_shuffled.kp T.b__law_shuffled .nil pass0 (pa_cons (pv 0) (pa_cons (pv 3) pa_nil))) pa_nil)))) (pa_cons (pe_lst (pa_cons (pv 4) (pa_cons (pv 3) (pa_cons (pv 3) pa_nil)))) pa_nil))))) (pss_one (ps_ret (pe_tup (pa_cons (pe_ix ix_str (pv 2) (pe_call G__law_take (hr.mono (by omega)) (by rfl) T.m__law_take T.F__law_take.kp T.b__law_take .nil pass0 (pa_cons (pv 0) (pa_cons (pe_callB call_len_str (by rfl) T.z_len PySem.boot_len (pa_cons (pv 2) pa_nil)) pa_nil))) (fun _ _ => rfl)) (pa_cons (pe_call G__law_mixed_up (hr.mono (by omega)) (by rfl) T.m__law_mixed_up T.F__law_mixed_up.kp T.b__law_mixed_up .nil pass0 (pa_cons (pv 0) (pa_cons (pe_ix ix_list (pv 5) (pe_call G__law_take (hr.mono (by omega)) (by rfl) T.m__law_take T.F__law_take.kp T.b__law_take .nil pass0 (pa_cons (pv 0) (pa_cons pe_int pa_nil))) (fun _ _ => rfl)) pa_nil))) pa_nil))))))))), ?_⟩
  have hps : H p ≠ none := hp.some
  have np : ∀ b, H b = none → b ≠ p := fun b h e => hps (by rw [← e]; exact h)
  refine ⟨_, rfl, p, 2, n, rfl, hp, by omega, by decide, by decide, fun r0 H1 a0 a1 c1 p1 => ⟨rfl, _, rfl, ?_⟩⟩
  have f1 : Fr p H H1 := Fr.chg c1
  refine ite2 (fun _ => ?_) (fun _ => ?_)
  · refine ⟨_, rfl, _, rfl, _, rfl, p, n + 1, m, L, rfl, p1, by omega, by omega, hm1, hL, fun r t H' z1 z2 z3 f T1 p2 => ?_⟩
    exact q r t H' z1 (by omega) z3 (f1.trans f) (T1.base f1 p1.some) (p2.mono (by omega))
  · refine ⟨_, rfl, _, rfl, m, 3, rfl, rfl, divW (by decide) (by decide), _, rfl, p, n + 1, m / 3, L, congrArg (fun z => [V.ref p, V.int z, V.str L]) (show (m : Int) / 3 = ((m / 3 : Nat) : Int) by omega), p1, by omega, by omega, by omega, hL, fun one t1 H2 z1 d1 l1 f2 T1 p2 => ?_⟩
    refine ⟨_, rfl, _, rfl, m, 3, rfl, rfl, divW (by decide) (by decide), (m : Int) / 3, 1, rfl, rfl, _, rfl, p, _, m / 3 - 1, L, congrArg (fun z => [V.ref p, V.int z, V.str L]) (show (m : Int) / 3 - 1 = ((m / 3 - 1 : Nat) : Int) by omega), p2, by omega, by omega, by omega, hL, fun other t2 H3 z2 d2 l2 f3 T2 p3 => ?_⟩
    have T1a := T1.base f1 p1.some
    have T2a := T2.base (f1.trans f2) p2.some
    have T1b := T1a.go hps f3
    refine ⟨_, rfl, _, rfl, _, rfl, p, _, one, t1, rfl, p3, by omega, T1b.weak fun _ _ => trivial, by omega, by omega, fun s1 u1 H4 sh1 f4 S1 p4 => ⟨(by show 2 ≤ sizeLine; decide), fun ra hra => ?_⟩⟩
    have S1a := S1.base ((f1.trans f2).trans f3) p3.some
    have p5 := p4.new (o := .lst [one, s1]) hra
    have f5 : Fr p H4 (upd H4 ra (.lst [one, s1])) := (Fr.refl p H4).new hra
    have F5 := (((f1.trans f2).trans f3).trans f4).trans f5
    have T1c := T1b.go hps (f4.trans f5)
    have e1 := sh1.size
    have e2 := sh1.depth
    refine ⟨_, rfl, _, rfl, _, rfl, _, rfl, p, _, one, t1, rfl, p5, by omega, T1c.weak fun _ _ => trivial, by omega, by omega, fun s2 u2 H6 sh2 f6 S2 p6 => ⟨(by show 3 ≤ sizeLine; decide), fun rb hrb => ?_⟩⟩
    have S2a := S2.base F5 p5.some
    have e3 := sh2.size
    have e4 := sh2.depth
    have p7 := p6.new (o := .lst [one, other, s2]) hrb
    have f7 : Fr p H6 (upd H6 rb (.lst [one, other, s2])) := (Fr.refl p H6).new hrb
    refine ⟨_, rfl, _, rfl, _, rfl, (by show 3 ≤ sizeLine; decide), fun rc hrc => ⟨(by show 3 ≤ sizeLine; decide), fun rr hrr => ?_⟩⟩
    have nab : H (ra) = none := (((f1.trans f2).trans f3).trans f4).free p4.some hra
    have nbb : H rb = none := (F5.trans f6).free p6.some hrb
    have p8 := (p7.new (o := .lst [other, one, one]) hrc).new (o := .lst [.ref ra, .ref rb, .ref rc]) hrr
    have f8 : Fr p (upd H6 rb (.lst [one, other, s2])) _ := ((Fr.refl p _).new (o := .lst [other, one, one]) hrc).trans ((Fr.refl p _).new (o := .lst [.ref ra, .ref rb, .ref rc]) hrr)
    have ncb : H rc = none := ((F5.trans f6).trans f7).free p7.some hrc
    have nrb : H rr = none := ((F5.trans f6).trans f7).free p7.some (by
      by_cases e : rr = rc
      · rw [e, upd_same] at hrr; cases hrr
      · rw [upd_ne e] at hrr; exact hrr)
    have nrc : rr ≠ rc := fun e => by rw [e, upd_same] at hrr; cases hrr
    have hLs : L.cps.toList.length = L.length := by
      show L.cps.toList.length = L.cps.size
      exact Array.length_toList
    refine ⟨_, rfl, _, rfl, _, rfl, L, rfl, Nat.le_trans hL.2.1 (by decide), p, _, _, rfl, p8, by omega, by have := hL.1; omega, by have := hL.2.1; omega, fun r H9 r0 r1 c9 p9 => ?_⟩
    obtain ⟨rn, rfl⟩ : ∃ rn : Nat, r = (rn : Int) := ⟨r.toNat, by omega⟩
    have hrn : rn < L.cps.toList.length := by rw [hLs]; omega
    obtain ⟨c, hc⟩ : ∃ c, L.cps.toList[rn]? = some c := ⟨_, List.getElem?_eq_getElem hrn⟩
    have cL := hL.2.2 c (List.mem_of_getElem? hc)
    refine ⟨L, rn, c, rfl, rfl, Nat.le_trans hL.2.1 (by decide), atI_nat hc, _, rfl, _, rfl, _, rfl, p, 3, _, rfl, p9, by omega, by decide, by decide, fun r' H10 b0 b1 c10 p10 => ?_⟩
    have f10 : Fr p (upd H6 rb (.lst [one, other, s2])) H10 := (f8.trans (Fr.chg c9)).trans (Fr.chg c10)
    have F10 := ((F5.trans f6).trans f7).trans f10
    have T1e := T1c.go hps ((f6.trans f7).trans f10)
    have T2e := T2a.go hps ((((f4.trans f5).trans f6).trans f7).trans f10)
    have S1e := S1a.go hps (((f5.trans f6).trans f7).trans f10)
    have S2e := S2a.go hps (f7.trans f10)
    have hrr10 : H10 rr = some (.lst [.ref ra, .ref rb, .ref rc]) := c10.at (c9.at upd_same (np _ nrb)) (np _ nrb)
    have hra10 : H10 ra = some (.lst [one, s1]) := ((f6.trans f7).trans f10) _ _ (np _ nab) upd_same
    have hrb10 : H10 rb = some (.lst [one, other, s2]) := f10 _ _ (np _ nbb) upd_same
    have hrc10 : H10 rc = some (.lst [other, one, one]) := c10.at (c9.at (by rw [upd_ne (fun e => nrc e.symm)]; exact upd_same) (np _ ncb)) (np _ ncb)
    have done : ∀ (x : Addr) (xs : List V) (ts : List Tr), H10 x = some (.lst xs) → TrsAt (fun b => H b = none) H10 xs ts → 1 + sizes ts ≤ m → depths ts ≤ 30 → letss (fun c => c ∈ L.cps.toList) ts → ts.length ≤ 3 →
        sp__law_mixed_up K [.ref p, .ref x] H10 (fun y H' => 2 ≤ sizeLine ∧ ∀ e, H' e = none → Q (.ref e) (upd H' e (.tup [.str (ch c), y]))) E0 := by
      intro x xs ts hx hts hz hdp hlt hln
      have hlen := hts.len
      refine ⟨p, x, _, xs, rfl, p10, by omega, SqL.of hx, fun H' f v hv => ?_, fun r ws H' pw r0 f11 hr' p11 => ⟨by decide, fun e he => ?_⟩⟩
      · obtain ⟨i, hi⟩ := List.getElem?_of_mem hv
        obtain ⟨t1, ht1, hx⟩ := (hts.go hps f).getV hi
        have dt := depths_mem (List.mem_of_getElem? ht1)
        exact datOk_tr hx (by omega)
      · obtain ⟨us, pu, hus⟩ := (hts.go hps f11).perm pw
        have zu := sizes_perm pu
        have du := depths_perm pu
        have nr0 : H r = none := F10.free p10.some r0
        have ne0 : H e = none := (F10.trans f11).free p11.some he
        refine q _ (.node c us) _ (by simp only [Tr.size]; omega) (by simp only [Tr.depth]; omega) ?_ ((F10.trans f11).new ne0) (.node upd_same (by rw [upd_ne (ne_of_none hr' he)]; exact hr') ne0 nr0 cL.1 cL.2 (hus.same (same_new he))) ((p11.new he).mono (by omega))
        simp only [Tr.lets]
        exact ⟨List.mem_of_getElem? hc, letss_perm pu hlt⟩
    obtain rfl | rfl | rfl : r' = 0 ∨ r' = 1 ∨ r' = 2 := by omega
    · refine ⟨rr, _, 0, .ref ra, rfl, rfl, SqL.of hrr10, at_of (j := 0) rfl rfl, done ra _ [t1, u1] hra10 (.cons T1e (.cons S1e .nil)) ?_ ?_ ?_ (by simp)⟩
      · simp only [sizes]; omega
      · simp only [depths]; omega
      · simp only [letss]; exact ⟨l1, sh1.lets l1, trivial⟩
    · refine ⟨rr, _, 1, .ref rb, rfl, rfl, SqL.of hrr10, at_of (j := 1) rfl rfl, done rb _ [t1, t2, u2] hrb10 (.cons T1e (.cons T2e (.cons S2e .nil))) ?_ ?_ ?_ (by simp)⟩
      · simp only [sizes]; omega
      · simp only [depths]; omega
      · simp only [letss]; exact ⟨l1, l2, sh2.lets l1, trivial⟩
    · refine ⟨rr, _, 2, .ref rc, rfl, rfl, SqL.of hrr10, at_of (j := 2) rfl rfl, done rc _ [t2, t1, t1] hrc10 (.cons T2e (.cons T1e (.cons T1e .nil))) ?_ ?_ ?_ (by simp)⟩
      · simp only [sizes]; omega
      · simp only [depths]; omega
      · simp only [letss]; exact ⟨l2, l1, l1, trivial⟩
end

mutual
inductive Dt (ok : Addr → Prop) (H : Hp) : V → PyData → Prop
  | non : Dt ok H .non .none
  | bl (b : Bool) : Dt ok H (.bl b) (.bool b)
  | int (i : Int) : Dt ok H (.int i) (.int i)
  | str (x : Str) : Dt ok H (.str x) (.str x)
  | dic {a : Addr} : H a = some (.dK []) → ok a → Dt ok H (.ref a) (.dict [])
  | lst {a : Addr} {xs : List V} {ds : List PyData} : H a = some (.lst xs) → ok a → xs.length ≤ 1000 → DtAll ok H xs ds → Dt ok H (.ref a) (.list ds)
  | tup {a : Addr} {xs : List V} {ds : List PyData} : H a = some (.tup xs) → ok a → xs.length ≤ 1000 → DtAll ok H xs ds → Dt ok H (.ref a) (.tuple ds)
inductive DtAll (ok : Addr → Prop) (H : Hp) : List V → List PyData → Prop
  | nil : DtAll ok H [] []
  | cons {v : V} {vs : List V} {d : PyData} {ds : List PyData} : Dt ok H v d → DtAll ok H vs ds → DtAll ok H (v :: vs) (d :: ds)
end
section
variable {ok ok' : Addr → Prop} {H H' : Hp} {K : PySem.W.Frag}
mutual
theorem Dt.imp (hk : ∀ b o, ok b → H b = some o → ok' b) (h : ∀ b o, ok b → H b = some o → H' b = some o) : ∀ {v : V} {d : PyData}, Dt ok H v d → Dt ok' H' v d
  | _, _, .non => .non
  | _, _, .bl b => .bl b
  | _, _, .int i => .int i
  | _, _, .str x => .str x
  | _, _, .dic e k => .dic (h _ _ k e) (hk _ _ k e)
  | _, _, .lst e k l r => .lst (h _ _ k e) (hk _ _ k e) l (DtAll.imp hk h r)
  | _, _, .tup e k l r => .tup (h _ _ k e) (hk _ _ k e) l (DtAll.imp hk h r)
theorem DtAll.imp (hk : ∀ b o, ok b → H b = some o → ok' b) (h : ∀ b o, ok b → H b = some o → H' b = some o) : ∀ {vs : List V} {ds : List PyData}, DtAll ok H vs ds → DtAll ok' H' vs ds
  | _, _, .nil => .nil
  | _, _, .cons a b => .cons (Dt.imp hk h a) (DtAll.imp hk h b)
end
theorem Dt.keep {v : V} {d : PyData} (x : Dt ok H v d) (h : ∀ b o, ok b → H b = some o → H' b = some o) : Dt ok H' v d := x.imp (fun _ _ k _ => k) h
theorem Dt.same {v : V} {d : PyData} (x : Dt ok H v d) (s : Same H H') : Dt ok H' v d := x.keep fun b o _ h => s b o h
theorem Dt.weak {v : V} {d : PyData} (x : Dt ok H v d) (h : ∀ b, ok b → ok' b) : Dt ok' H v d := x.imp (fun b _ k _ => h b k) fun _ _ _ e => e
theorem Dt.any {v : V} {d : PyData} (x : Dt ok H v d) : Dt (fun _ => True) H v d := x.weak fun _ _ => trivial
theorem Dt.off {w : Addr} {v : V} {d : PyData} (x : Dt ok H v d) (h : H w = none) : Dt (fun b => ok b ∧ b ≠ w) H v d := x.imp (fun _ _ k e => ⟨k, ne_of_none e h⟩) fun _ _ _ e => e
theorem DtAll.keep {vs : List V} {ds : List PyData} (x : DtAll ok H vs ds) (h : ∀ b o, ok b → H b = some o → H' b = some o) : DtAll ok H' vs ds := x.imp (fun _ _ k _ => k) h
theorem DtAll.same {vs : List V} {ds : List PyData} (x : DtAll ok H vs ds) (s : Same H H') : DtAll ok H' vs ds := x.keep fun b o _ h => s b o h
theorem DtAll.weak {vs : List V} {ds : List PyData} (x : DtAll ok H vs ds) (h : ∀ b, ok b → ok' b) : DtAll ok' H vs ds := x.imp (fun b _ k _ => h b k) fun _ _ _ e => e
mutual
theorem Dt.dp : ∀ {v : V} {d : PyData}, Dt ok H v d → d.canLay0 = true → Dp K H v d
  | _, _, .non, _ => .non
  | _, _, .bl b, _ => .bl b
  | _, _, .int i, _ => .int i
  | _, _, .str x, _ => .str x
  | _, _, .dic _ _, h => by simp [PyData.canLay0] at h
  | _, _, .lst e _ _ r, h => .lst (SqL.of e) (DtAll.dp r (by simpa only [PyData.canLay0] using h))
  | _, _, .tup e _ _ r, h => .tup (SqT.of e) (DtAll.dp r (by simpa only [PyData.canLay0] using h))
theorem DtAll.dp : ∀ {vs : List V} {ds : List PyData}, DtAll ok H vs ds → PyData.canLayAll0 ds = true → DpAll K H vs ds
  | _, _, .nil, _ => .nil
  | _, _, .cons a b, h => by
    simp only [PyData.canLayAll0, Bool.and_eq_true] at h
    exact .cons (Dt.dp a h.1) (DtAll.dp b h.2)
end
theorem DtAll.len : ∀ {vs : List V} {ds : List PyData}, DtAll ok H vs ds → vs.length = ds.length
  | _, _, .nil => rfl
  | _, _, .cons _ b => by simp only [List.length_cons, DtAll.len b]
theorem DtAll.getV : ∀ {vs : List V} {ds : List PyData} {i : Nat} {x : V}, DtAll ok H vs ds → vs[i]? = some x → ∃ d, ds[i]? = some d ∧ Dt ok H x d
  | _, _, 0, _, .cons a _, h => by cases h; exact ⟨_, rfl, a⟩
  | _, _, i + 1, _, .cons _ b, h => by
    rw [List.getElem?_cons_succ] at h
    obtain ⟨d, h1, h2⟩ := DtAll.getV b h
    exact ⟨d, by rw [List.getElem?_cons_succ]; exact h1, h2⟩
theorem DtAll.snoc : ∀ {vs : List V} {ds : List PyData} {v : V} {d : PyData}, DtAll ok H vs ds → Dt ok H v d → DtAll ok H (vs ++ [v]) (ds ++ [d])
  | _, _, _, _, .nil, y => .cons y .nil
  | _, _, _, _, .cons a b, y => .cons a (DtAll.snoc b y)
theorem dt_ints : ∀ xs : List Int, DtAll ok H (xs.map V.int) (xs.map PyData.int)
  | [] => .nil
  | x :: r => .cons (.int x) (dt_ints r)
theorem dt_intsL {a : Addr} {xs : List Int} (h : H a = some (.lst (xs.map V.int))) (k : ok a) (l : xs.length ≤ 1000) : Dt ok H (.ref a) (.list (xs.map PyData.int)) := .lst h k (by rw [List.length_map]; exact l) (dt_ints xs)
theorem dtAll_ints : ∀ {w : List Int} {vs : List V}, DtAll ok H vs (w.map PyData.int) → vs = w.map V.int
  | [], _, h => by cases h; rfl
  | x :: r, _, h => by
    cases h with
    | cons a b =>
      cases a
      rw [dtAll_ints b]
      rfl
theorem Dt.intsL {v : V} {w : List Int} (h : Dt ok H v (.list (w.map PyData.int))) : ∃ a, v = .ref a ∧ H a = some (.lst (w.map V.int)) ∧ ok a := by
  cases h with
  | lst e k l r =>
    rw [dtAll_ints r] at e
    exact ⟨_, rfl, e, k⟩
end
theorem layAll_mem {d : PyData} : ∀ {ds : List PyData}, PyData.canLayAll0 ds = true → d ∈ ds → d.canLay0 = true
  | x :: r, h, hm => by
    simp only [PyData.canLayAll0, Bool.and_eq_true] at h
    rcases List.mem_cons.mp hm with rfl | hm
    · exact h.1
    · exact layAll_mem h.2 hm
theorem depthAll_mem {d : PyData} : ∀ {ds : List PyData}, d ∈ ds → d.depth ≤ PyData.depthAll ds
  | x :: r, h => by
    simp only [PyData.depthAll]
    rcases List.mem_cons.mp h with rfl | h
    · omega
    · have := depthAll_mem h
      omega
theorem eqT {x y : V} {i : Decidable (x = y)} {A B : Prop} (h : x = y) (k : A) : if (@decide (x = y) i) = true then A else B := by
  rw [decide_eq_true h]
  exact iteT k
theorem eqF {x y : V} {i : Decidable (x = y)} {A B : Prop} (h : x ≠ y) (k : B) : if (@decide (x = y) i) = true then A else B := by
  rw [decide_eq_false h]
  exact iteF k
theorem noneOf {sp : Sp} {P : Program} {w : World} {K : PySem.W.Frag} {mg : Str → Option Value} {base : Heap} {f : Addr} {fd : FuncData} {ps : List Str} {k : Nat} (no : ∀ vs H Q E, ¬ sp vs H Q E) : FnOk P w K mg base CX0 k f fd ps sp :=
  ⟨fun vs H Q E h => absurd h (no vs H Q E), fun A outer s H args us vs Q E _ _ _ _ h => absurd h (no vs H Q E)⟩

mutual
inductive NK (H : Hp) : NestedKey → V → Prop
  | int (i : Int) : NK H (.num i) (.int i)
  | text (x : Str) : NK H (.text x) (.str x)
  | tup {a : Addr} {vs : List V} {ks : List NestedKey} : H a = some (.tup vs) → NKs H ks vs → NK H (.tup ks) (.ref a)
inductive NKs (H : Hp) : List NestedKey → List V → Prop
  | nil : NKs H [] []
  | cons {k : NestedKey} {v : V} {ks : List NestedKey} {vs : List V} : NK H k v → NKs H ks vs → NKs H (k :: ks) (v :: vs)
end
section
variable {X : Cx} {pins : List (Addr × Obj)} {σ : L2.St} {H H' : Hp} {s : Shared}
mutual
theorem NK.is (I : Inv X pins σ H s) : ∀ {k : NestedKey} {v : V} {u : Value}, NK H k v → RelV v u → NestedIs s.heap k u
  | _, _, _, .int i, r => by
    obtain ⟨t, rfl⟩ := r
    exact .int i t
  | _, _, _, .text x, r => by
    obtain ⟨t, rfl⟩ := r
    exact .text x t
  | _, _, _, .tup h1 h2, r => by
    cases r
    obtain ⟨_, its, rv, o, e1, e2, n, e3⟩ := I.hok _ _ h1
    exact .tup e1 e2 e3 (by simpa using NKs.is I h2 rv)
theorem NKs.is (I : Inv X pins σ H s) : ∀ {ks : List NestedKey} {vs : List V} {us : List Value}, NKs H ks vs → Vals vs us → NestedAll s.heap ks us
  | _, _, _, .nil, r => by cases r; exact .nil
  | _, _, _, .cons a b, r => by
    cases r with
    | cons r1 r2 => exact .cons (NK.is I a r1) (NKs.is I b r2)
end
mutual
theorem NK.keep (f : ∀ b xs, H b = some (.tup xs) → H' b = some (.tup xs)) : ∀ {k : NestedKey} {v : V}, NK H k v → NK H' k v
  | _, _, .int i => .int i
  | _, _, .text x => .text x
  | _, _, .tup h1 h2 => .tup (f _ _ h1) (NKs.keep f h2)
theorem NKs.keep (f : ∀ b xs, H b = some (.tup xs) → H' b = some (.tup xs)) : ∀ {ks : List NestedKey} {vs : List V}, NKs H ks vs → NKs H' ks vs
  | _, _, .nil => .nil
  | _, _, .cons a b => .cons (NK.keep f a) (NKs.keep f b)
end
end
abbrev NRow := NestedKey × Addr × V
def DictN (P : Program) (w : World) (a : Addr) (xs : List NRow) : HO := .ext fun h => (a == sysModules) = false ∧ xs.length ≤ sizeLine ∧ ∃ us : List (NestedKey × Addr × Value), Paired (fun (p : NRow) (q : NestedKey × Addr × Value) => p.1 = q.1 ∧ p.2.1 = q.2.1 ∧ RelV p.2.2 q.2.2) xs us ∧
  ∃ o es ep, h.get? a = some o ∧ o.ExactDict ∧ o.data = .dict es ep ∧ es.toList = us.map (entryOfKey (nestedKind P w)) ∧ (us.map (·.1)).Nodup
theorem dictN_ok {P : Program} {w : World} {H : Hp} {h : Heap} {a : Addr} {xs : List NRow} (h1 : (a == sysModules) = false) (h2 : xs.length ≤ sizeLine) {us : List (NestedKey × Addr × Value)} (h3 : Paired (fun (p : NRow) (q : NestedKey × Addr × Value) => p.1 = q.1 ∧ p.2.1 = q.2.1 ∧ RelV p.2.2 q.2.2) xs us)
    (h4 : ∃ o es ep, h.get? a = some o ∧ o.ExactDict ∧ o.data = .dict es ep ∧ es.toList = us.map (entryOfKey (nestedKind P w)) ∧ (us.map (·.1)).Nodup) : ObjOk P w H h a (DictN P w a xs) :=
  ⟨⟨h1, h2, us, h3, h4⟩, (let ⟨o, _, _, e, _⟩ := h4; ⟨o, e⟩), fun _ _ ⟨b1, b2, us, b3, o, es, ep, e, r⟩ k => ⟨b1, b2, us, b3, o, es, ep, k o e, r⟩⟩
def RowsN (H : Hp) (xs : List NRow) : Prop := ∀ x ∈ xs, NK H x.1 (.ref x.2.1) ∧ x.1.depth ≤ 8
def atN (xs : List NRow) (k : NestedKey) : Option V := (xs.find? fun x => decide (x.1 = k)).map (·.2.2)
section
variable {X : Cx} {pins : List (Addr × Obj)} {σ : L2.St} {H : Hp} {s : Shared} {a : Addr} {xs : List NRow}
theorem dictN_of (I : Inv X pins σ H s) (h : H a = some (DictN X.prog X.w a xs)) (hk : RowsN H xs) : (a == sysModules) = false ∧ ∃ us : List (NestedKey × Addr × Value), Paired (fun (p : NRow) (q : NestedKey × Addr × Value) => p.1 = q.1 ∧ p.2.1 = q.2.1 ∧ RelV p.2.2 q.2.2) xs us ∧ s.heap.DictOfH (nestedKind X.prog X.w) a us := by
  obtain ⟨⟨h1, h2, us, h3, o, es, ep, e1, e2, e3, e4, e5⟩, _, _⟩ := I.hok _ _ h
  refine ⟨h1, us, h3, o, es, ep, e1, e2, e3, e4, fun u hu => ?_, e5⟩
  have : ∀ (xs : List NRow) (us : List (NestedKey × Addr × Value)), Paired (fun (p : NRow) (q : NestedKey × Addr × Value) => p.1 = q.1 ∧ p.2.1 = q.2.1 ∧ RelV p.2.2 q.2.2) xs us → RowsN H xs → ∀ u ∈ us, (nestedKind X.prog X.w).is s.heap u.1 u.2.1 := by
    intro xs us p
    induction p with
    | nil => intro _ u hu; cases hu
    | cons r t ih =>
      intro hk u hu
      rcases List.mem_cons.mp hu with rfl | hu
      · obtain ⟨n1, n2⟩ := hk _ List.mem_cons_self
        refine ⟨?_, ?_⟩
        · rw [← r.1, ← r.2.1]
          exact NK.is I n1 rfl
        · rw [← r.1]
          exact n2
      · exact ih (fun x hx => hk x (List.mem_cons_of_mem _ hx)) u hu
  exact this _ _ h3 hk u hu
def tDGetN (P : Program) (w : World) (td ty : TE) : TE := fun σ H Q => td σ H fun x H1 => ty σ H1 fun y H2 => ∃ (a b : Addr) (xs : List NRow) (k : NestedKey) (v : V), x = .ref a ∧ y = .ref b ∧ H2 a = some (DictN P w a xs) ∧ RowsN H2 xs ∧ NK H2 k (.ref b) ∧ k.depth ≤ 8 ∧ atN xs k = some v ∧ Q v H2
theorem atN_pairs {k : NestedKey} {xs : List NRow} {us : List (NestedKey × Addr × Value)} (p : Paired (fun (p : NRow) (q : NestedKey × Addr × Value) => p.1 = q.1 ∧ p.2.1 = q.2.1 ∧ RelV p.2.2 q.2.2) xs us) : (∃ v u, atN xs k = some v ∧ valueAt (pairsH us) k = some u ∧ RelV v u) ∨ (atN xs k = none ∧ valueAt (pairsH us) k = none) := by
  induction p with
  | nil => exact .inr ⟨rfl, rfl⟩
  | cons r t ih =>
    rename_i x u xs us
    by_cases e : x.1 = k
    · have e2 : u.1 = k := r.1.symm.trans e
      exact .inl ⟨x.2.2, u.2.2, by simp [atN, e], by simp [valueAt, pairsH, e2], r.2.2⟩
    · have e2 : ¬ u.1 = k := fun z => e (r.1.trans z)
      have a1 : atN (x :: xs) k = atN xs k := by simp [atN, List.find?_cons, e]
      have a2 : valueAt (pairsH (u :: us)) k = valueAt (pairsH us) k := by simp [valueAt, pairsH, List.find?_cons, e2]
      rw [a1, a2]
      exact ih
theorem pe_dgetN {o i : PySem.Expr} {td ty : TE} {pos : Pos} (hu : X.A.units + 9 < cLine) (ho : PE X o td) (hi : PE X i ty) (hs : NoSl i) : PE X (.Subscript o i pos) (tDGetN X.prog X.w td ty) := by
  refine ⟨fun pins s σ H Q I h => ?_⟩
  refine subD_of PySem.F.slot_dict_getitem.lookup hs (thn (ho.run pins s σ H _ I h) fun u s1 ⟨x, H1, I1, rx, q1⟩ => thn (hi.run pins s1 σ H1 _ I1 q1) fun iv s2 ⟨y, H2, I2, ry, a, b, xs, k, v, ex, ey, g, gr, gk, gd, ga, q2⟩ => ?_)
  subst ex ey
  cases rx
  cases ry
  obtain ⟨ha, us, hp, hm⟩ := dictN_of I2 g gr
  rcases atN_pairs (k := k) hp with ⟨v', uv, e1, e2, rv⟩ | ⟨e1, _⟩
  · have ev := Option.some.inj (e1.symm.trans ga)
    subst ev
    exact ⟨hm.typeIs, getItem_keyed (knd := nestedKind X.prog X.w) (show X.A.units + 1 + 8 < cLine by omega) ⟨NK.is I2 gk rfl, gd⟩ ⟨us, hm, rfl⟩ e2 ⟨_, H2, I2.tok _, rv, q2⟩⟩
  · rw [ga] at e1
    cases e1
def rInN (P : Program) (w : World) : R2 := fun y x H Q => ∃ (a b : Addr) (xs : List NRow) (k : NestedKey), x = .ref a ∧ y = .ref b ∧ H a = some (DictN P w a xs) ∧ RowsN H xs ∧ NK H k (.ref b) ∧ k.depth ≤ 8 ∧ Q (.bl (atN xs k).isSome) H
theorem op_inN (hu : X.A.units + 9 < cLine) : OpR X (compareOp .In) (rInN X.prog X.w) := by
  intro pins s σ H y x u iv Q I ry rx h
  obtain ⟨a, b, xs, k, rfl, rfl, g, gr, gk, gd, q⟩ := h
  cases rx
  cases ry
  obtain ⟨ha, us, hp, hm⟩ := dictN_of I g gr
  refine in_keyed (knd := nestedKind X.prog X.w) (show X.A.units + 1 + 8 < cLine by omega) ⟨NK.is I gk rfl, gd⟩ ha ⟨us, hm, rfl⟩ ?_
  rcases atN_pairs (k := k) hp with ⟨v', uv, e1, e2, _⟩ | ⟨e1, e2⟩
  · rw [e1] at q
    rw [e2]
    exact ⟨.bl true, H, I.tok _, rfl, q⟩
  · rw [e1] at q
    rw [e2]
    exact ⟨.bl false, H, I.tok _, rfl, q⟩
def rNotInN (P : Program) (w : World) : R2 := fun y x H Q => ∃ (a b : Addr) (xs : List NRow) (k : NestedKey), x = .ref a ∧ y = .ref b ∧ H a = some (DictN P w a xs) ∧ RowsN H xs ∧ NK H k (.ref b) ∧ k.depth ≤ 8 ∧ Q (.bl (!(atN xs k).isSome)) H
theorem op_notInN (hu : X.A.units + 9 < cLine) : OpR X (compareOp .NotIn) (rNotInN X.prog X.w) := by
  intro pins s σ H y x u iv Q I ry rx h
  obtain ⟨a, b, xs, k, rfl, rfl, g, gr, gk, gd, q⟩ := h
  cases rx
  cases ry
  obtain ⟨ha, us, hp, hm⟩ := dictN_of I g gr
  refine notIn_keyed (knd := nestedKind X.prog X.w) (show X.A.units + 1 + 8 < cLine by omega) ⟨NK.is I gk rfl, gd⟩ ha ⟨us, hm, rfl⟩ ?_
  rcases atN_pairs (k := k) hp with ⟨v', uv, e1, e2, _⟩ | ⟨e1, e2⟩
  · rw [e1] at q
    rw [e2]
    exact ⟨.bl false, H, I.tok _, rfl, q⟩
  · rw [e1] at q
    rw [e2]
    exact ⟨.bl true, H, I.tok _, rfl, q⟩
def storedN (xs : List NRow) (k : NestedKey) (b : Addr) (v : V) : List NRow := if (atN xs k).isSome then xs.map (fun x => if x.1 = k then (x.1, x.2.1, v) else x) else xs ++ [(k, b, v)]
abbrev RowsP (xs : List NRow) (us : List (NestedKey × Addr × Value)) : Prop := Paired (fun (p : NRow) (q : NestedKey × Addr × Value) => p.1 = q.1 ∧ p.2.1 = q.2.1 ∧ RelV p.2.2 q.2.2) xs us
theorem rows_map {k : NestedKey} {v : V} {u : Value} (rv : RelV v u) : ∀ {xs : List NRow} {us : List (NestedKey × Addr × Value)}, RowsP xs us → RowsP (xs.map (fun x => if x.1 = k then (x.1, x.2.1, v) else x)) (us.map (putAt k u))
  | _, _, .nil => .nil
  | x :: xs, y :: us, .cons r t => by
    refine .cons ?_ (rows_map rv t)
    show (if x.1 = k then (x.1, x.2.1, v) else x).1 = (putAt k u y).1 ∧ (if x.1 = k then (x.1, x.2.1, v) else x).2.1 = (putAt k u y).2.1 ∧ RelV (if x.1 = k then (x.1, x.2.1, v) else x).2.2 (putAt k u y).2.2
    unfold putAt
    by_cases e : x.1 = k
    · rw [if_pos e, if_pos (r.1.symm.trans e)]
      exact ⟨r.1, r.2.1, rv⟩
    · rw [if_neg e, if_neg (fun z => e (r.1.trans z))]
      exact r
theorem rows_app {k : NestedKey} {b : Addr} {v : V} {u : Value} (rv : RelV v u) : ∀ {xs : List NRow} {us : List (NestedKey × Addr × Value)}, RowsP xs us → RowsP (xs ++ [(k, b, v)]) (us ++ [(k, b, u)])
  | _, _, .nil => .cons ⟨rfl, rfl, rv⟩ .nil
  | _ :: _, _ :: _, .cons r t => .cons r (rows_app rv t)
theorem stored_pairs {k : NestedKey} {b : Addr} {v : V} {u : Value} (rv : RelV v u) {xs : List NRow} {us : List (NestedKey × Addr × Value)} (p : Paired (fun (p : NRow) (q : NestedKey × Addr × Value) => p.1 = q.1 ∧ p.2.1 = q.2.1 ∧ RelV p.2.2 q.2.2) xs us) :
    Paired (fun (p : NRow) (q : NestedKey × Addr × Value) => p.1 = q.1 ∧ p.2.1 = q.2.1 ∧ RelV p.2.2 q.2.2) (storedN xs k b v) (storedH us k b u) := by
  have hs : (atN xs k).isSome = (atKey us k).isSome := by
    have e : valueAt (pairsH us) k = (atKey us k).map (·.2) := valueAt_pairsH us k
    rcases atN_pairs (k := k) p with ⟨v', u', e1, e2, _⟩ | ⟨e1, e2⟩
    · rw [e1]
      rw [e2] at e
      cases h : atKey us k with
      | none => rw [h] at e; cases e
      | some _ => rfl
    · rw [e1]
      rw [e2] at e
      cases h : atKey us k with
      | none => rfl
      | some _ => rw [h] at e; cases e
  unfold storedN storedH
  rw [hs]
  split
  · exact rows_map rv p
  · exact rows_app rv p
theorem storedN_len (xs : List NRow) (k : NestedKey) (b : Addr) (v : V) : (storedN xs k b v).length ≤ xs.length + 1 := by
  unfold storedN
  split
  · rw [List.length_map]; omega
  · rw [List.length_append]; exact Nat.le_refl _
def sDPutN (P : Program) (w : World) (td ty tv : TE) : TS := fun D σ H => tv σ H fun v H1 => td σ H1 fun x H2 => ty σ H2 fun y H3 => ∃ (a b : Addr) (xs : List NRow) (k : NestedKey), x = .ref a ∧ y = .ref b ∧ H3 a = some (DictN P w a xs) ∧ RowsN H3 xs ∧ NK H3 k (.ref b) ∧ k.depth ≤ 8 ∧ xs.length < sizeLine ∧ D.nx σ (upd H3 a (DictN P w a (storedN xs k b v)))
theorem ps_dputN {o i value : PySem.Expr} {td ty tv : TE} {pos pos' : Pos} (hu : X.A.units + 9 < cLine) (ho : PE X o td) (hi : PE X i ty) (hv : PE X value tv) (hs : swapsWith value (some (.Subscript o i pos')) pos.line X.env = pure false) :
    PS X (.Assign [.Subscript o i pos'] value pos) (sDPutN X.prog X.w td ty tv) := by
  refine ⟨fun pins s σ H D I h => ?_⟩
  refine wpAny_Assign_Subscript (thn (hv.run pins s σ H _ I h) fun r s1 ⟨v, H1, I1, rv, q1⟩ => thn (ho.run pins s1 σ H1 _ I1 q1) fun u s2 ⟨x, H2, I2, rx, q2⟩ => thn (hi.run pins s2 σ H2 _ I2 q2) fun iv s3 ⟨y, H3, I3, ry, a, b, xs, k, ex, ey, g, gr, gk, gd, gz, q3⟩ => ?_) hs
  subst ex ey
  cases rx
  cases ry
  obtain ⟨ha, us, hp, hm⟩ := dictN_of I3 g gr
  have hl : us.length ≤ sizeLine := by rw [← Paired.length hp]; omega
  refine wpAny_setItem_heap (knd := nestedKind X.prog X.w) (hsz := hl) (show X.A.units + 1 + 8 < cLine by omega) ⟨NK.is I3 gk rfl, gd⟩ hm fun h' hm' sb => ?_
  obtain ⟨ob, es, ep, e1, e2, e3, e4, _, e5⟩ := hm'
  have hz : (storedN xs k b v).length ≤ sizeLine := by have := storedN_len xs k b v; omega
  exact ⟨σ, _, d_write I3 (by rw [g]; exact True.intro) sb ⟨ob, e1⟩ (dictN_ok ha hz (stored_pairs rv hp) ⟨ob, es, ep, e1, e2, e3, e4, e5⟩), q3⟩
theorem pe_dnewN {pos : Pos} : PE X (.Dict [] [] pos) (fun _ H Q => ∀ p, H p = none → Q (.ref p) (upd H p (DictN X.prog X.w p []))) := ⟨fun pins s σ H Q I h =>
  wpAny_Dict_empty ⟨.ref s.heap.objs.size, _, I.laid (a := s.heap.objs.size) (o := DictN X.prog X.w s.heap.objs.size []) (t' := s.toks) (fun _ _ q => Heap.get?_push_of_some _ q) (Nat.le_refl _)
    (dictN_ok (beq_eq_false_iff_ne.mpr (Ne.symm (Nat.ne_of_lt I.big))) (Nat.zero_le _) .nil ⟨_, #[], 0, Heap.get?_push_size _ rfl, ⟨rfl, rfl, rfl⟩, rfl, rfl, List.nodup_nil⟩), rfl, h _ (I.hok.fresh (Nat.le_refl _))⟩⟩
end
theorem frzN {X : Cx} {pins : List (Addr × Obj)} {σ : L2.St} {H : Hp} {s : Shared} {a : Addr} {o : Obj} {xs : List NRow} (I : Inv X pins σ H s) (h : H a = some (.frz o (DictN X.prog X.w a xs))) :
    (a == sysModules) = false ∧ s.heap.get? a = some o ∧ o.ExactDict ∧ ∃ (es : Array DictEntry) (ep : Nat), o.data = .dict es ep ∧ es.size = xs.length ∧ ∀ (i : Nat) (row : NRow), xs[i]? = some row → ∃ en : DictEntry, es[i]? = some en ∧ en.key = Value.ref row.2.1 ∧ RelV row.2.2 en.val := by
  obtain ⟨hg, ⟨h1, h2, us, h3, o2, es, ep, e1, e2, e3, e4, e5⟩, _, _⟩ := I.hok _ _ h
  have eo : o2 = o := Option.some.inj (e1.symm.trans hg)
  subst eo
  have hl : us.length = es.size := by
    have := congrArg List.length e4
    rw [List.length_map, Array.length_toList] at this
    exact this.symm
  refine ⟨h1, hg, e2, es, ep, e3, by rw [← hl]; exact (Paired.length h3).symm, fun i row hr => ?_⟩
  have : ∀ (xs : List NRow) (us : List (NestedKey × Addr × Value)), RowsP xs us → ∀ (i : Nat) (row : NRow), xs[i]? = some row → ∃ u : NestedKey × Addr × Value, us[i]? = some u ∧ u.2.1 = row.2.1 ∧ RelV row.2.2 u.2.2 := by
    intro xs us p
    induction p with
    | nil => intro i row h; cases h
    | cons r t ih =>
      intro i row h
      cases i with
      | zero => cases h; exact ⟨_, rfl, r.2.1.symm, r.2.2⟩
      | succ i => exact ih i row (by simpa using h)
  obtain ⟨u, hu, k1, k2⟩ := this _ _ h3 i row hr
  refine ⟨entryOfKey (nestedKind X.prog X.w) u, ?_, by show Value.ref u.2.1 = _; rw [k1], k2⟩
  rw [← Array.getElem?_toList, e4, List.getElem?_map, hu]
  rfl
def ItkN (P : Program) (w : World) (d : Addr) (o : Obj) (xs : List NRow) : It :=
  ⟨fun i H => H d = some (.frz o (DictN P w d xs)) ∧ i < xs.length, fun i H x H' => H' = H ∧ ∃ row, xs[i]? = some row ∧ x = .ref row.2.1, fun i H => H d = some (.frz o (DictN P w d xs)) ∧ xs.length ≤ i⟩
theorem turn_keysN {P : Program} {w : World} {K : PySem.W.Frag} {tg : PySem.Expr} {d : Addr} {o : Obj} {es : Array DictEntry} {ep : Nat} {xs : List NRow} (it : Addr) (hod : o.data = .dict es ep) : Turn P w K tg (ItkN P w d o xs) [it] it (fun i h => h.IsKeyIter it d i xs.length ep) where
  mem := List.mem_singleton.mpr rfl
  obj := by
    intro i h st b hb
    cases List.mem_singleton.mp hb
    obtain ⟨x, e, c, dd⟩ := st
    exact ⟨x, e, fun v z => by rw [dd] at z; cases z⟩
  keep := by
    intro i h h' st k
    exact st.at fun x e => k it (List.mem_singleton.mpr rfl) x e
  item := by
    intro X hP hw hK hc i pins s σ H E I hf st hg
    subst hP hw hK
    obtain ⟨hd, hi⟩ := hg
    obtain ⟨z0, z1, z2, z3, z4, z5⟩ := hf it (List.mem_singleton.mpr rfl)
    obtain ⟨hs, hgd, hx, es2, ep2, hdt, hsz, ent⟩ := frzN I hd
    obtain ⟨rfl, rfl⟩ := dict_ep hod hdt
    obtain ⟨row, hrow⟩ : ∃ row, xs[i]? = some row := ⟨_, List.getElem?_eq_getElem hi⟩
    obtain ⟨en, hen, hkey, _⟩ := ent i row hrow
    refine next_key_item st hgd hdt hsz hen fun h' st' sb => ?_
    have J : Inv X pins σ H { s with heap := h' } := I.turned (t' := s.toks) (fun b ob hb e => (sb.2 b hb).trans e) z0 z1 z3 z4 z5
    obtain ⟨x, e, c, dd⟩ := id st'
    exact ⟨en.key, rfl, go_of (s := { s with heap := h' }) e c dd (by decide) ⟨.ref row.2.1, H, J, hkey, ⟨rfl, row, hrow, rfl⟩, st', fun b hb => (hf b hb).1⟩⟩
  done := by
    intro X hP hw hK hc i pins s σ H E I hf st hg
    subst hP hw hK
    obtain ⟨hd, hi⟩ := hg
    obtain ⟨z0, z1, z2, z3, z4, z5⟩ := hf it (List.mem_singleton.mpr rfl)
    obtain ⟨hs, hgd, hx, es2, ep2, hdt, hsz, ent⟩ := frzN I hd
    obtain ⟨rfl, rfl⟩ := dict_ep hod hdt
    exact next_key_end (I.ok.hd hc) st hgd hdt hsz hi fun h' eb => ⟨rfl, I.turned (t' := s.toks) (fun b ob hb e => eb b ob hb e) z0 z1 z3 z4 z5⟩
  self := fun A i s Q E st h => wpAny_pyIter_keyiter st h
def iKeysN (P : Program) (w : World) (td : TE) : TI := fun σ H R => td σ H fun x H1 => ∃ d o xs, x = .ref d ∧ H1 d = some (.frz o (DictN P w d xs)) ∧ R (ItkN P w d o xs) H1
theorem pi_keysN {X : Cx} {tg e : PySem.Expr} {td : TE} (he : PE X e td) : PI X tg e (iKeysN X.prog X.w td) := by
  refine ⟨fun pins s σ H R I h => ?_⟩
  refine thn (he.run pins s σ H _ I h) fun u s1 ⟨x, H1, I1, rx, d, o, xs, ex, hd, q⟩ => ?_
  subst ex
  cases rx
  obtain ⟨hs, hgd, hx, es, ep, hdt, hsz, ent⟩ := frzN I1 hd
  refine iter_keys hs hgd hx hdt (pi_one (tk := s1.toks) I1 _ (turn_keysN _ hdt) ⟨_, Heap.get?_push_size _ rfl, rfl, ?_⟩ q)
  rw [hsz] <;> rfl
theorem walk_keysN {P : Program} {w : World} {d : Addr} {o : Obj} {xs : List NRow} : Walk (ItkN P w d o xs) xs.length (fun H => H d = some (.frz o (DictN P w d xs))) (fun i H x H' => H' = H ∧ ∃ row, xs[i]? = some row ∧ x = .ref row.2.1) :=
  ⟨fun _ _ hi q => ⟨q, hi⟩, fun _ q => ⟨q, Nat.le_refl _⟩, fun _ _ _ _ _ _ y => y⟩
theorem roomN {k : Nat} {A : Around} (r : Room k A) : A.units + 9 < cLine := by have := r.un; omega
theorem call_lenN {X : Cx} : CallR X (.builtin "len") (fun xs H Q => ∃ (a : Addr) (rows : List NRow), xs = [.ref a] ∧ H a = some (DictN X.prog X.w a rows) ∧ RowsN H rows ∧ Q (.int (rows.length : Nat)) H) := by
  intro pins s σ H xs us Q I r h
  obtain ⟨a, rows, rfl, g, gr, q⟩ := h
  have hz : rows.length ≤ sizeLine := by
    obtain ⟨⟨_, h2, _⟩, _, _⟩ := I.hok _ _ g
    exact h2
  cases r with
  | cons r1 r2 =>
    cases r2
    cases r1
    obtain ⟨ha, us, hp, hm⟩ := dictN_of I g gr
    have hl : (pairsH us).length = rows.length := by
      rw [pairsH_length]
      exact (Paired.length hp).symm
    refine PyProof.Rows.call_len_slot (n := (pairsH us).length) hm.typeIs PySem.F.slot_dict_len (fun Q' hq => len_keyed (knd := nestedKind X.prog X.w) ha ⟨us, hm, rfl⟩ hq) (by omega) (by rw [hl]; rw [sizeLine_eq] at hz; omega) ?_
    rw [hl]
    exact ⟨.int _, H, I.tok _, ⟨_, rfl⟩, q⟩

def ItiN (P : Program) (w : World) (d : Addr) (o : Obj) (xs : List NRow) : It :=
  ⟨fun n H => H d = some (.frz o (DictN P w d xs)) ∧ n < xs.length, fun n H v H' => ∃ (p : Addr) (row : NRow), xs[n]? = some row ∧ v = .ref p ∧ H p = none ∧ H' = upd H p (.tup [.ref row.2.1, row.2.2]), fun n H => H d = some (.frz o (DictN P w d xs)) ∧ xs.length ≤ n⟩
theorem turn_itemsN {P : Program} {w : World} {K : PySem.W.Frag} {parts : List PySem.Expr} {many : Nat} {at_ : Pos} {d : Addr} {o : Obj} {es : Array DictEntry} {ep : Nat} {xs : List NRow} (it : Addr) (hod : o.data = .dict es ep) :
    Turn P w K (.Tuple parts many at_) (ItiN P w d o xs) [it] it (fun n h => ∃ x y, IsItemIter h it d n xs.length ep x y) where
  mem := List.mem_singleton.mpr rfl
  obj := by
    rintro n h ⟨x, y, e⟩ b hb
    cases List.mem_singleton.mp hb
    exact ⟨_, e, fun v z => nomatch z⟩
  keep := by
    rintro n h h' ⟨x, y, e⟩ k
    exact ⟨x, y, k it (List.mem_singleton.mpr rfl) _ e⟩
  item := by
    rintro X rfl rfl rfl calm n pins s σ H E I free ⟨x, y, here⟩ ⟨hd, more⟩
    obtain ⟨sys, got, exact_, es2, ep2, hdt, hsz, ent⟩ := frzN I hd
    obtain ⟨rfl, rfl⟩ := dict_ep hod hdt
    obtain ⟨row, hrow⟩ : ∃ row, xs[n]? = some row := ⟨_, List.getElem?_eq_getElem more⟩
    obtain ⟨en, hen, hkey, hval⟩ := ent n row hrow
    rw [← hsz] at here more
    have een : es2[n] = en := by
      have := List.getElem?_eq_some_iff.mp (show es2.toList[n]? = some en by rw [Array.getElem?_toList]; exact hen)
      simpa using this.2
    have low : it < s.heap.objs.size := Heap.lt_size here
    refine DT.nextI here ⟨o, got, exact_, hdt⟩ more fun h1 out tup _ stays => ?_
    refine ⟨_, rfl, wpAny_letOwnedTupleGo_items (s := { s with heap := h1 }) out fun h2 back but => ?_⟩
    rw [een] at tup back
    have tup2 : h2.get? s.heap.objs.size = some { cls := .type "tuple", data := .seq #[en.key, en.val] } := (but.2 _ (Nat.ne_of_gt low)).trans tup
    have made : ObjOk X.prog X.w (upd H s.heap.objs.size (.tup [.ref row.2.1, row.2.2])) h2 s.heap.objs.size (.tup [.ref row.2.1, row.2.2]) :=
      ⟨by show 2 ≤ sizeLine; decide, [en.key, en.val], .cons hkey (.cons hval .nil), _, tup2, rfl, _, rfl⟩
    have J : Inv X pins σ (upd H s.heap.objs.size (.tup [.ref row.2.1, row.2.2])) { s with heap := h2 } :=
      I.turnedNew (t' := s.toks) (ch := [it]) (fun b ob hb e => by
        have ne : b ≠ it := fun z => hb (by rw [z]; exact List.mem_singleton.mpr rfl)
        exact (but.2 b ne).trans (stays b ob ne e)) free (Nat.le_refl _) made
    refine ⟨.ref s.heap.objs.size, _, J, rfl, ⟨_, row, hrow, rfl, I.hok.fresh (Nat.le_refl _), rfl⟩, ⟨en.key, en.val, ?_⟩, fun b hb => ?_⟩
    · rw [← hsz]
      exact back
    · cases List.mem_singleton.mp hb
      rw [upd_ne (Nat.ne_of_lt low)]
      exact (free it (List.mem_singleton.mpr rfl)).1
  done := by
    rintro X rfl rfl rfl calm n pins s σ H E I free ⟨x, y, here⟩ ⟨hd, over⟩
    obtain ⟨z0, z1, z2, z3, z4, z5⟩ := free it (List.mem_singleton.mpr rfl)
    obtain ⟨sys, got, exact_, es2, ep2, hdt, hsz, _⟩ := frzN I hd
    obtain ⟨rfl, rfl⟩ := dict_ep hod hdt
    rw [← hsz] at here over
    exact DT.endI (I.ok.hd calm) here ⟨o, got, exact_, hdt⟩ over fun h' eb => ⟨rfl, I.turned (t' := s.toks) (fun b ob hb e => eb b ob hb e) z0 z1 z3 z4 z5⟩
  self := fun A i s Q E st h => let ⟨_, _, e⟩ := st; PySem.W.kcp_self e h
def iItemsN (P : Program) (w : World) (td : TE) : TI := fun σ H R => td σ H fun x H1 => ∃ d o xs, x = .ref d ∧ H1 d = some (.frz o (DictN P w d xs)) ∧ R (ItiN P w d o xs) H1
theorem pi_itemsN {X : Cx} {e : PySem.Expr} {td : TE} {parts : List PySem.Expr} {many : Nat} {at_ at1 at2 : Pos} (he : PE X e td) (base : attributeBase e "items" X.env (eval e X.env) = eval e X.env := by rfl) (line : (at1.endLine == at2.line) = true := by rfl) :
    PI X (.Tuple parts many at_) (.Call (.Attribute e "items" at1) [] [] at2) (iItemsN X.prog X.w td) := by
  refine ⟨fun pins s σ H R I h => wpAny_Call_method (T := "dict") (id := "dict.items") base rfl line F.plainAttrs_dict F.slot_dict_items F.type_dict_items (thn (he.run pins s σ H _ I h) ?_)⟩
  rintro u s1 ⟨x, H1, I1, rx, d, o, xs, rfl, hd, q⟩
  obtain rfl : u = Value.ref d := rx
  obtain ⟨sys, got, exact_, es, ep, hdt, hsz, _⟩ := frzN I1 hd
  have raw : DT.Raw s1.heap d es ep := ⟨o, got, exact_, hdt⟩
  refine ⟨raw.typeIs, (fun a e => by cases e; exact ⟨o, got, exact_.2.1⟩), ?_⟩
  have I2 : Inv X pins σ H1 { s1 with heap := s1.heap.push { cls := .type "dict_items", data := .fields #[.ref d] } } := I1.kept (t' := s1.toks) fun b ob z => Heap.get?_push_of_some _ z
  have go : wpAny (model X.prog X.w) X.A (pyIter (.ref s1.heap.objs.size)) (PIE X pins σ (.Tuple parts many at_) R) X.xe { s1 with heap := s1.heap.push { cls := .type "dict_items", data := .fields #[.ref d] } } := by
    refine DT.iterI (d := d) (es := es) (ep := ep) ⟨_, Heap.get?_push_size _ rfl, rfl, rfl⟩ (raw.push _) (pi_one (tk := s1.toks) I2 _ (turn_itemsN _ hdt) ⟨.none, .none, ?_⟩ q)
    rw [← hsz]
    exact Heap.get?_push_size _ rfl
  show wpAny _ _ (callWith at2 (.builtin "dict.items") [.ref d] [] []) _ X.xe s1
  exact method_meetsIn F.slot_dict_items F.entry_dict_items rfl (PySem.evalArgs_none ⟨rfl, raw.typeIs, F.args_dict_items_1 _, _, DT.meetsItems (es := es) (ep := ep) sys, raw, go⟩)
theorem walk_itemsN {P : Program} {w : World} {d : Addr} {o : Obj} {xs : List NRow} : Walk (ItiN P w d o xs) xs.length (fun H => H d = some (.frz o (DictN P w d xs))) (fun i H x H' => ∃ (p : Addr) (row : NRow), xs[i]? = some row ∧ x = .ref p ∧ H p = none ∧ H' = upd H p (.tup [.ref row.2.1, row.2.2])) :=
  ⟨fun _ _ hi q => ⟨q, hi⟩, fun _ q => ⟨q, Nat.le_refl _⟩, fun _ _ _ _ _ _ y => y⟩
def rIsN (P : Program) (w : World) (K : PySem.W.Frag) : List V → Hp → VK → Prop := fun xs H Q => ∃ (a : Addr) (rows : List NRow) (y : V) (u : Value) (b : Bool), xs = [.ref a, y] ∧ H a = some (DictN P w a rows) ∧ ClsV y u ∧ PySem.W.kitOne K (.type "dict") u = some b ∧ Q (.bl b) H
theorem call_isN {X : Cx} : CallR X (.builtin "isinstance") (rIsN X.prog X.w X.K) := by
  rintro pins s σ H _ us Q I r ⟨a, rows, y, u, b, rfl, ha, hy, hk, q⟩
  obtain ⟨_, u2, rfl, r1, r2⟩ := vals2 r
  obtain rfl := hy.eq r2
  cases r1
  obtain ⟨⟨_, _, _, _, o, _, _, e1, e2, _⟩, _, _⟩ := I.hok a _ ha
  exact PySem.W.kia_one PySem.W.kitx_dict I.kIn ⟨o, e1, e2.1⟩ hk (fun z => nomatch z) fun tk => ⟨.bl b, H, I.tok tk, rfl, q⟩

abbrev InBlk (X : Cx) (scope : PySem.Scope) (F : Cx → Prop) : Prop := ∀ (s : Shared) (H : Hp) (C : Addr) (cl : List (Str × Addr)) (fp : List Addr), F (X.blk s H scope (compEnvC scope cl C X.env) fp)
def tDcN (P : Program) (w : World) (wi : TI) (g : TG) (tt : TT) (tk tv : TE) (vs : List Nat) : TE := fun σ H Q => wi σ H fun J H1 => ∀ D, H1 D = none → ∃ W : Nat → Nat → Hp → Prop, (∃ m, W 0 m (upd H1 D (DictN P w D []))) ∧ ∀ n m H, W n m H →
  ((J.stop n H ∧ Q (.ref D) H) ∨ (J.go n H ∧ ∃ Nx : Hp → Prop, (∀ H', Nx H' → ∃ less, less < m ∧ W (n + 1) less H') ∧ ∀ x H', J.yld n H x H' → g x (wipe σ vs) H' fun σ2 H2 => wipe σ2 vs = wipe σ vs ∧ tt σ2 H2 fun yes H3 =>
    if yes = true then tk σ2 H3 fun y H4 => tv σ2 H4 fun z H5 => ∃ (xs : List NRow) (k : NestedKey) (b : Addr), y = .ref b ∧ H5 D = some (DictN P w D xs) ∧ RowsN H5 xs ∧ NK H5 k (.ref b) ∧ k.depth ≤ 8 ∧ xs.length < sizeLine ∧ Nx (upd H5 D (DictN P w D (storedN xs k b z))) else Nx H3))
section
variable {X : Cx} {pins : List (Addr × Obj)} {σ : L2.St} {H : Hp} {s : Shared}
theorem put_rowN {D b : Addr} {xs : List NRow} {k : NestedKey} {z : V} {r : Value} {E : Value → Shared → Prop} {Q : Unit → Shared → Prop} (hu : X.A.units + 9 < cLine) (I : Inv X pins σ H s) (hD : H D = some (DictN X.prog X.w D xs)) (hr : RowsN H xs) (hk : NK H k (.ref b)) (hd : k.depth ≤ 8) (hz : xs.length < sizeLine) (rv : RelV z r)
    (h : ∀ s', Inv X pins σ (upd H D (DictN X.prog X.w D (storedN xs k b z))) s' → Q () s') : wpAny (model X.prog X.w) X.A (dictSet D (.ref b) r) Q E s := by
  obtain ⟨hs, us, hp, hm⟩ := dictN_of I hD hr
  have hl : us.length ≤ sizeLine := by rw [← Paired.length hp]; omega
  refine wpAny_dictSet_heap (knd := nestedKind X.prog X.w) (hsz := hl) (show X.A.units + 8 < cLine by omega) ⟨NK.is I hk rfl, hd⟩ hm fun h' hm' but => h _ ?_
  obtain ⟨ob, es, ep, e1, e2, e3, e4, _, e5⟩ := hm'
  have fits : (storedN xs k b z).length ≤ sizeLine := by have := storedN_len xs k b z; omega
  exact d_write I (by rw [hD]; exact True.intro) but ⟨ob, e1⟩ (dictN_ok hs fits (stored_pairs rv hp) ⟨ob, es, ep, e1, e2, e3, e4, e5⟩)
theorem pe_dcN {kx vx tg iter : PySem.Expr} {ifs : List PySem.Expr} {scope : PySem.Scope} {own : List (Str × Nat)} {pos : Pos} {wi : TI} {g : TG} {tt : TT} {tk tv : TE} (hu : X.A.units + 9 < cLine) (calm : X.calm = true) (nd : X.N.Nodup) (hi : PI X tg iter wi) (ok : BlkOk X.N X.env.scope scope own)
    (hg : InBlk X scope fun Y => PG Y tg g) (ht : InBlk X scope fun Y => PTs Y ifs tt) (hk : InBlk X scope fun Y => PE Y kx tk) (he : InBlk X scope fun Y => PE Y vx tv) (plain : ∀ x, foldedSetIterable iter X.env x = pure x := by intro _; rfl) :
    PE X (.DictComp kx vx [⟨tg, iter, ifs, 0⟩] scope pos) (tDcN X.prog X.w wi g tt tk tv (own.map (·.2))) := by
  refine ⟨fun pins s σ H Q I h => ?_⟩
  rw [arm_eval_DictComp]
  have known : ∀ y ∈ scope.names, y.2 = .free → ∃ c, X.env.cells.lookup y.1 = some c := fun y hy e => (ok.free y hy e).elim (fun k => I.ok.has _ (.inl k)) (fun k => I.ok.has _ (.inr k))
  refine wpAny_comprehension_free (use := none) rfl plain (closure_ok known) ok.kind (fun y hy e => by rw [ok.uniq y hy, e]) (thn (hi.run pins s σ H _ I h) fun _ t1 a1 => thn a1 fun _ t2 a2 => ?_)
  obtain ⟨it, fp, tn, J, H2, rfl, I2, T, st2, apart, q⟩ := a2
  refine wpAny_newObj_type (newEnv_comp ?_)
  obtain ⟨W, ⟨m0, w0⟩, turn⟩ := q _ (I2.hok.fresh (Nat.le_refl _))
  have nsys : (t2.heap.objs.size == sysModules) = false := beq_eq_false_iff_ne.mpr (Ne.symm (Nat.ne_of_lt I2.big))
  have I3 : Inv X pins σ (upd H2 t2.heap.objs.size (DictN X.prog X.w t2.heap.objs.size [])) { t2 with heap := t2.heap.push { cls := .type "dict", data := .dict #[] } } :=
    I2.laid (t' := t2.toks) (fun _ _ z => Heap.get?_push_of_some _ z) (Nat.le_refl _) (dictN_ok nsys (Nat.zero_le _) .nil ⟨_, #[], 0, Heap.get?_push_size _ rfl, ⟨rfl, rfl, rfl⟩, rfl, rfl, List.nodup_nil⟩)
  have ahead : ∀ b ∈ fp, b < t2.heap.objs.size := fun b hb => let ⟨_, z, _⟩ := T.obj _ _ st2 b hb; Heap.lt_size z
  generalize e3 : ({ t2 with heap := t2.heap.push { cls := .type "dict", data := .dict #[] } } : Shared) = t3 at I3
  have h3 : t3.heap = t2.heap.push { cls := .type "dict", data := .dict #[] } := by rw [← e3]
  have fp3 : ∀ b ∈ fp, FpOk X pins (upd H2 t2.heap.objs.size (DictN X.prog X.w t2.heap.objs.size [])) b ∧ b < t3.heap.objs.size := fun b hb => by
    refine ⟨⟨?_, (apart b hb).2⟩, ?_⟩
    · rw [upd_ne (Nat.ne_of_lt (ahead b hb))]
      exact (apart b hb).1
    · rw [h3, Heap.size_push]
      exact Nat.lt_succ_of_lt (ahead b hb)
  have st3 : tn 0 t3.heap := T.keep _ _ _ st2 fun b _ o z => by rw [h3]; exact Heap.get?_push_of_some _ z
  have I4 := block_start I3 ok nd fp3
  generalize eD : t2.heap.objs.size = D at *
  generalize eH : upd H2 D (DictN X.prog X.w D []) = H3 at *
  have pg := hg t3 H3 t3.heap.objs.size (cellsFrom (t3.heap.objs.size + 1) scope.names (cloFrom X.env.cells scope.names [])) fp
  have pt := ht t3 H3 t3.heap.objs.size (cellsFrom (t3.heap.objs.size + 1) scope.names (cloFrom X.env.cells scope.names [])) fp
  have pk := hk t3 H3 t3.heap.objs.size (cellsFrom (t3.heap.objs.size + 1) scope.names (cloFrom X.env.cells scope.names [])) fp
  have pv := he t3 H3 t3.heap.objs.size (cellsFrom (t3.heap.objs.size + 1) scope.names (cloFrom X.env.cells scope.names [])) fp
  show codeAny _ _ (.compStart (.DictComp kx vx [⟨tg, iter, ifs, 0⟩] scope pos) 0 (.ref it) (.ref D) (compEnvC scope (cellsFrom (t3.heap.objs.size + 1) scope.names (cloFrom X.env.cells scope.names [])) t3.heap.objs.size X.env)) (compPost (model X.prog X.w) X.A X.xe none (EP X pins σ Q) (.ref D) t3.heap.objs.size) { t3 with heap := pushCells (t3.heap.push { cls := .type "dict", data := .dict #[] }) scope.names }
  have off : ∀ b ∈ fp, H3 b = none := fun b hb => (fp3 b hb).1.1
  generalize eC : compEnvC scope (cellsFrom (t3.heap.objs.size + 1) scope.names (cloFrom X.env.cells scope.names [])) t3.heap.objs.size X.env = ce at I4 pg pt pk pv ⊢
  have place : ce.locals = t3.heap.objs.size := by rw [← eC]; rfl
  generalize e4 : ({ t3 with heap := pushCells (t3.heap.push { cls := .type "dict", data := .dict #[] }) scope.names } : Shared) = t4 at I4 ⊢
  have st4 : tn 0 t4.heap := T.keep _ _ _ st3 fun b _ o z => by rw [← e4]; exact pushCells_keeps _ _ _ _ (Heap.get?_push_of_some _ z)
  have still : ∀ {σ' : L2.St} {H' : Hp} {t : Shared}, Inv (X.blk t3 H3 scope ce fp) [] σ' H' t → (∀ b ∈ fp, H' b = none) → ∀ b ∈ fp, FpOk (X.blk t3 H3 scope ce fp) [] H' b := fun J n b hb =>
    ⟨n b hb, (J.ok.exf b hb).1, J.ok.exfs b hb, .inl hb, fun x c z => (J.ok.exf b hb).2 x c z, fun z hz => absurd (show z ∈ ([] : List (Addr × Obj)) ++ [] from hz) (by simp)⟩
  have main : codeAny (model X.prog X.w) X.A (.compLoop (.DictComp kx vx [⟨tg, iter, ifs, 0⟩] scope pos) 0 (.ref it) (.ref D) ce) (compPost (model X.prog X.w) X.A X.xe none (EP X pins σ Q) (.ref D) t3.heap.objs.size) t4 := by
    refine compLoop_anyD (fun m t => ∃ n Hn, Inv (X.blk t3 H3 scope ce fp) [] (wipe σ (own.map (·.2))) Hn t ∧ tn n t.heap ∧ (∀ b ∈ fp, Hn b = none) ∧ W n m Hn) ?_ m0 ⟨0, H3, I4, st4, off, w0⟩
    rintro m t5 ⟨n, H5, I5, st5, off5, w5⟩
    rcases turn n m H5 w5 with ⟨stop, over⟩ | ⟨go, Nx, lower, step⟩
    · refine thnF (T.done (X.blk t3 H3 scope ce fp) rfl rfl rfl calm n [] t5 _ H5 (fun _ _ => False) I5 (still I5 off5) st5 stop) ?_
      rintro _ t6 ⟨rfl, I6⟩
      have I7 : Inv X pins σ H5 t6 := I3.call' (ch := fp) I6.os I6.base I6.hok I6.bare fun b hb => let z := (fp3 b hb).1.2; ⟨z.2.2.1, z.1, z.2.2.2.1, z.2.2.2.2⟩
      have gone : H5 t3.heap.objs.size = none := by rw [← place]; exact I6.free
      obtain ⟨names, hn, _⟩ := I6.loc
      have hn2 : t6.heap.Ns ce.locals names := hn
      rw [place] at hn2
      obtain ⟨z0, z1, z2, z3, z4, z5⟩ := I3.fpOk (Nat.le_refl _) gone
      exact ⟨names, hn2, fun h7 but => ⟨.ref D, H5, I7.turned (t' := t6.toks) (fun b ob hb z => (but.2 b hb).trans z) z0 z1 z3 z4 z5, rfl, over⟩⟩
    · refine thnF (T.item (X.blk t3 H3 scope ce fp) rfl rfl rfl calm n [] t5 _ H5 (fun _ _ => False) I5 (still I5 off5) st5 go) ?_
      rintro _ t6 ⟨u, rfl, a6⟩
      refine thnF a6 ?_
      rintro _ t7 ⟨x, H7, I7, rx, yx, st7, off7⟩
      refine thnF (pg.run _ t7 _ H7 x u _ (I7.pinned (still I7 off7) (T.obj _ _ st7)) rx (step x H7 yx)) ?_
      rintro _ t8 ⟨σ8, H8, I8, same8, q8⟩
      have close : ∀ {t : Shared} {Hn : Hp}, Inv (X.blk t3 H3 scope ce fp) ([] ++ pinsAt fp t7.heap) σ8 Hn t → Nx Hn → ∃ less, less < m ∧ ∃ n Hn, Inv (X.blk t3 H3 scope ce fp) [] (wipe σ (own.map (·.2))) Hn t ∧ tn n t.heap ∧ (∀ b ∈ fp, Hn b = none) ∧ W n less Hn := fun {t Hn} J nx => by
        obtain ⟨less, hl, wl⟩ := lower Hn nx
        have kept : ∀ b ∈ fp, ∀ o, t7.heap.get? b = some o → t.heap.get? b = some o ∧ Hn b = none := fun b hb o z =>
          let y := J.pin (b, o) (List.mem_append_right _ (List.mem_append_right _ (mem_pinsAt hb z)))
          ⟨y.1, y.2.1⟩
        refine ⟨less, hl, n + 1, Hn, (J.unpinned (pins := [])).weak (by rw [← same8, wipe_length]) fun j v z => ?_, T.keep _ _ _ st7 fun b hb o z => (kept b hb o z).1, fun b hb => ?_, wl⟩
        · rw [← same8] at z
          exact (wipe_some z).1
        · obtain ⟨o, z, _⟩ := T.obj _ _ st7 b hb
          exact (kept b hb o z).2
      refine thnF (pt.run _ t8 σ8 H8 _ I8 q8) ?_
      rintro yes t9 ⟨H9, I9, q9⟩
      cases yes with
      | false => exact close I9 (by simpa using q9)
      | true =>
        simp only [if_true] at q9 ⊢
        refine thnF (pk.run _ t9 σ8 H9 _ I9 q9) ?_
        rintro uk t10 ⟨y, H10, I10, ry, q10⟩
        refine thnF (pv.run _ t10 σ8 H10 _ I10 q10) ?_
        rintro uz t11 ⟨z, H11, I11, rz, xs, k, b, rfl, g1, g2, g3, g4, g5, nx⟩
        cases ry
        exact put_rowN (X := X.blk t3 H3 scope ce fp) hu I11 g1 g2 g3 g4 g5 rz fun t12 I12 => close I12 nx
  exact codeAny_compStart_dict main (T.self X.A 0 _ _ _ st4 main)
end

def rLcm : List V → Hp → VK → Prop := fun vs H Q => ∃ a b : Nat, vs = [nI a, nI b] ∧ a < 1000 ∧ b < 1000 ∧ Q (nI (a.lcm b)) H
theorem cr_lcm {X : Cx} : CallR X (.builtin "math.lcm") rLcm := by
  intro pins s σ H vs us Q I r ⟨a, b, e, ha, hb, q⟩
  subst e
  obtain ⟨t, u, rfl⟩ := Vals.int2 r
  refine PySem.W.mc_lcm (by rw [Int.natAbs_natCast]; exact Nat.lt_trans ha (by decide)) (by rw [Int.natAbs_natCast]; exact Nat.lt_trans hb (by decide)) fun _ => ⟨nI (a.lcm b), H, I.tok _, ⟨s.toks, ?_⟩, q⟩
  simp

theorem lc_outT {K : PySem.W.Frag} {a : Addr} {xs : List V} {Bd : V → Hp → (Hp → Prop) → Prop} {Qd : Hp → Prop} {H0 : Hp} (Pv : Nat → Hp → Prop) (h0 : Pv 0 H0) (hl : ∀ i H, i ≤ xs.length → Pv i H → SqT K H a xs)
    (hs : ∀ i x H, xs[i]? = some x → Pv i H → Bd x H (Pv (i + 1))) (hd : ∀ H, Pv xs.length H → Qd H) :
    ∃ W : Nat → Nat → Hp → Prop, (∃ m, W 0 m H0) ∧ ∀ i m H, W i m H → ((Itt K a).stop i H ∧ Qd H) ∨ ((Itt K a).go i H ∧ ∃ Nx : Hp → Prop, (∀ H', Nx H' → ∃ m', m' < m ∧ W (i + 1) m' H') ∧ ∀ x H', (Itt K a).yld i H x H' → Bd x H' Nx) := by
  refine ⟨fun i m H => m = xs.length - i ∧ i ≤ xs.length ∧ Pv i H, ⟨xs.length, by simp, Nat.zero_le _, h0⟩, ?_⟩
  rintro i m H ⟨rfl, hi, p⟩
  have q := hl i H hi p
  rcases Nat.lt_or_ge i xs.length with lt | ge
  · exact .inr ⟨⟨xs, xs[i], q, by simp [lt]⟩, Pv (i + 1), fun H' p' => ⟨_, by omega, rfl, lt, p'⟩, fun x H' y => by
      obtain ⟨e, y⟩ := y
      subst e
      exact hs i x _ (y xs q) p⟩
  · obtain rfl : i = xs.length := by omega
    exact .inl ⟨⟨xs, q, Nat.le_refl _⟩, hd H p⟩
theorem cut1 {x : V} {r : List V} : cutV (x :: r) (some 1) none = r := by
  have h1 : HT.sIx (x :: r).length 0 (some 1) = 1 := by
    have := HT.sIx_nat (x :: r).length 0 1
    rw [show ((1 : Nat) : Int) = 1 from rfl] at this
    rw [this, List.length_cons]
    omega
  unfold cutV
  rw [h1, HT.sIx_none, List.length_cons, List.drop_succ_cons, List.drop_zero, Nat.add_sub_cancel, List.take_length]
theorem cut1_not {x : V} {r : List V} : ¬ (HT.sIx (x :: r).length 0 (some 1) = 0 ∧ HT.sIx (x :: r).length (x :: r).length none = (x :: r).length) := by
  have h1 : HT.sIx (x :: r).length 0 (some 1) = 1 := by
    have := HT.sIx_nat (x :: r).length 0 1
    rw [show ((1 : Nat) : Int) = 1 from rfl] at this
    rw [this, List.length_cons]
    omega
  rw [h1]
  omega
theorem dtAll_app {ok : Addr → Prop} {H : Hp} : ∀ {xs ys : List V} {ds es : List PyData}, DtAll ok H xs ds → DtAll ok H ys es → DtAll ok H (xs ++ ys) (ds ++ es)
  | _, _, _, _, .nil, y => y
  | _, _, _, _, .cons a b, y => .cons a (dtAll_app b y)
theorem flat_take {α β : Type} (f : α → List β) {l : List α} {i : Nat} {x : α} (h : l[i]? = some x) : (l.take (i + 1)).flatMap f = (l.take i).flatMap f ++ f x := by
  rw [take_succ_of h, List.flatMap_append]
  simp


def rowsTo : Nat → Nat → List (List Nat)
  | 0, _ => [[]]
  | n + 1, k => (rowsTo n k).flatMap fun r => (List.range k).map fun x => r ++ [x]
def keysOf (L : Str) (n k : Nat) : List (Nat × List Nat) := L.cps.toList.flatMap fun c => (rowsTo n k).map fun r => (c, r)
def RowsAt (H : Hp) (as : List Addr) (rows : List (List Nat)) : Prop := Paired (fun (a : Addr) (row : List Nat) => H a = some (.tup (row.map nI))) as rows
def KeysAt (H : Hp) (bs : List Addr) (keys : List (Nat × List Nat)) : Prop := Paired (fun (b : Addr) (key : Nat × List Nat) => ∃ a, H b = some (.tup [.str (ch key.1), .ref a]) ∧ H a = some (.tup (key.2.map nI))) bs keys
theorem ext_len (k : Nat) : ∀ l : List (List Nat), (l.flatMap fun r => (List.range k).map fun x => r ++ [x]).length = l.length * k
  | [] => by simp
  | a :: t => by rw [List.flatMap_cons, List.length_append, List.length_map, List.length_range, ext_len k t, List.length_cons, Nat.succ_mul, Nat.add_comm]
theorem rowsTo_len (k : Nat) : ∀ n, (rowsTo n k).length = k ^ n
  | 0 => rfl
  | n + 1 => by rw [rowsTo, ext_len, rowsTo_len k n, Nat.pow_succ]
theorem rowsTo_mem {k : Nat} : ∀ {n : Nat} {r : List Nat}, r ∈ rowsTo n k → r.length = n ∧ ∀ x ∈ r, x < k
  | 0, r, h => by simp [rowsTo] at h; subst h; simp
  | n + 1, r, h => by
    simp only [rowsTo, List.mem_flatMap, List.mem_map, List.mem_range] at h
    obtain ⟨r0, h0, x, hx, rfl⟩ := h
    obtain ⟨a, b⟩ := rowsTo_mem h0
    refine ⟨by simp [a], fun y hy => ?_⟩
    rcases List.mem_append.mp hy with hy | hy
    · exact b y hy
    · rw [List.mem_singleton.mp hy]; exact hx
theorem prd_app {α β : Type} {F : α → β → Prop} : ∀ {as cs : List α} {bs ds : List β}, Paired F as bs → Paired F cs ds → Paired F (as ++ cs) (bs ++ ds)
  | _, _, _, _, .nil, y => y
  | _, _, _, _, .cons r t, y => .cons r (prd_app t y)
theorem prd_at {α β : Type} {F : α → β → Prop} : ∀ {as : List α} {bs : List β} {i : Nat} {a : α}, Paired F as bs → as[i]? = some a → ∃ b, bs[i]? = some b ∧ F a b
  | _, _, 0, _, .cons r _, h => by cases h; exact ⟨_, rfl, r⟩
  | _, _, i + 1, _, .cons _ t, h => by
    rw [List.getElem?_cons_succ] at h
    obtain ⟨b, h1, h2⟩ := prd_at t h
    exact ⟨b, by rw [List.getElem?_cons_succ]; exact h1, h2⟩
theorem RowsAt.keep {H H' : Hp} {as : List Addr} {rows : List (List Nat)} (x : RowsAt H as rows) (h : ∀ b xs, H b = some (.tup xs) → H' b = some (.tup xs)) : RowsAt H' as rows := Paired.mapP x fun _ _ e => h _ _ e
theorem KeysAt.keep {H H' : Hp} {as : List Addr} {ks : List (Nat × List Nat)} (x : KeysAt H as ks) (h : ∀ b xs, H b = some (.tup xs) → H' b = some (.tup xs)) : KeysAt H' as ks := Paired.mapP x fun _ _ ⟨a, e1, e2⟩ => ⟨a, h _ _ e1, h _ _ e2⟩
theorem upd_tup {H : Hp} {D : Addr} {xs : List V} {o : HO} (hD : H D = some (.lst xs)) : ∀ b ys, H b = some (.tup ys) → (upd H D o) b = some (.tup ys) := fun b ys e => by
  rw [upd_ne (fun z => by rw [z, hD] at e; cases e)]
  exact e
theorem lc_walk {J : It} {len : Nat} {G : Hp → Prop} {Y : Nat → Hp → V → Hp → Prop} (wk : Walk J len G Y) {Bd : V → Hp → (Hp → Prop) → Prop} {Qd : Hp → Prop} {H0 : Hp} (Pv : Nat → Hp → Prop) (h0 : Pv 0 H0) (hp : ∀ i H, i ≤ len → Pv i H → G H)
    (hs : ∀ i x H H', i < len → Pv i H → Y i H x H' → Bd x H' (Pv (i + 1))) (hd : ∀ H, Pv len H → Qd H) :
    ∃ W : Nat → Nat → Hp → Prop, (∃ m, W 0 m H0) ∧ ∀ i m H, W i m H → (J.stop i H ∧ Qd H) ∨ (J.go i H ∧ ∃ Nx : Hp → Prop, (∀ H', Nx H' → ∃ m', m' < m ∧ W (i + 1) m' H') ∧ ∀ x H', J.yld i H x H' → Bd x H' Nx) := by
  refine ⟨fun i m H => m = len - i ∧ i ≤ len ∧ Pv i H, ⟨len, by simp, Nat.zero_le _, h0⟩, ?_⟩
  rintro i m H ⟨rfl, hi, p⟩
  have g := hp i H hi p
  rcases Nat.lt_or_ge i len with lt | ge
  · exact .inr ⟨wk.goes i H lt g, Pv (i + 1), fun H' p' => ⟨_, by omega, rfl, lt, p'⟩, fun x H' y => hs i x H H' lt p (wk.yields i H x H' lt g y)⟩
  · obtain rfl : i = len := by omega
    exact .inl ⟨wk.stops H g, hd H p⟩
def sp_tuples_due : Sp := fun vs H Q _ => ∃ (L : Str) (n k : Nat), vs = [.str L, nI n, nI k] ∧ L.length ≤ 26 ∧ n ≤ 6 ∧ k ≤ 20 ∧ Q (nI (L.length * k ^ n)) H
def sp_class_rows : Sp := fun vs H Q _ => ∃ (n k : Nat), vs = [nI n, nI k] ∧ n ≤ 6 ∧ 1 ≤ k ∧ k ≤ 20 ∧ k ^ n ≤ 600 ∧ ∀ r as H', Same H H' → H r = none → H' r = some (.lst (as.map V.ref)) → RowsAt H' as (rowsTo n k) → Q (.ref r) H'
def sp_keys_due : Sp := fun vs H Q _ => ∃ (L : Str) (n k : Nat), vs = [.str L, nI n, nI k] ∧ Lets L ∧ n ≤ 6 ∧ 1 ≤ k ∧ k ≤ 20 ∧ L.length * k ^ n ≤ 600 ∧ ∀ r bs H', Same H H' → H r = none → H' r = some (.lst (bs.map V.ref)) → KeysAt H' bs (keysOf L n k) → Q (.ref r) H'
section
variable {P : Program} {w : World} {K : PySem.W.Frag} {mg : Str → Option Value} {base : Heap}
theorem ok_tuples_due (T : Txt K mg) : FnOk P w K mg base CX0 1 T.f_tuples_due T.d_tuples_due ["letters", "states", "classes"] sp_tuples_due := by
  refine T.F_tuples_due.ok sc_tuples_due (fun vs H Q E h => ?_) (fun cdv A outer s H vs Q E hr h => ?_)
  · obtain ⟨L, n, k, rfl, _⟩ := h
    rfl
  obtain ⟨L, n, k, rfl, hl, h6, k20, q⟩ := h
  refine ⟨_, (pss_cons (ps_set (i := 3) sc_tuples_due.nd rfl (Or.inl rfl) (pe_callB call_len_str (by rfl) T.z_len PySem.boot_len (pa_cons (pv 0) pa_nil))) (pss_cons (ps_for PassesOwn.never rfl (pi_range1 (by rfl) T.z_range (pa_cons (pv 1) pa_nil)) (pg_name (i := 4) sc_tuples_due.nd rfl (Or.inl rfl)) (pss_one (ps_set (i := 3) sc_tuples_due.nd rfl (Or.inl rfl) (pe_op op_mul (pv 3) (pv 2))))) (pss_one (ps_ret (pv 3))))), ?_⟩
  refine ⟨_, rfl, L, rfl, Nat.le_of_lt (Nat.lt_of_le_of_lt (show _ ≤ 1000000 by omega) (by decide)), _, rfl, n, rfl, by omega, by omega, for_range (lo := 0) (n := n) (fun i σ H' => ∃ y4, σ = [some (.str L), some (nI n), some (nI k), some (nI (L.length * k ^ i)), y4] ∧ H' = H) ⟨_, by rw [Nat.pow_zero, Nat.mul_one]; rfl, rfl⟩ ?_ ?_⟩
  · rintro i σ H1 hi ⟨y4, rfl, rfl⟩
    refine ⟨_, rfl, _, rfl, _, _, rfl, rfl, .inr ⟨by omega, by omega⟩, ?_⟩
    refine ⟨some (V.int (0 + (i : Int))), ?_, rfl⟩
    have e : ((L.length * k ^ i : Nat) : Int) * (k : Int) = ((L.length * k ^ (i + 1) : Nat) : Int) := by
      rw [Nat.pow_succ, ← Nat.mul_assoc]
      push_cast
      rfl
    show ([some (V.str L), some (nI n), some (nI k), some (V.int (((L.length * k ^ i : Nat) : Int) * (k : Int))), some (V.int (0 + (i : Int)))] : List (Option V)) = _
    rw [e]
  · rintro σ H1 ⟨y4, rfl, rfl⟩
    exact ⟨_, rfl, q⟩
end

def keyN (c : Nat) (row : List Nat) : NestedKey := .tup [.text (ch c), .tup (row.map fun x : Nat => .num (x : Int))]
def RowsJ (xs : List NRow) (keys : List (Nat × List Nat)) (fs : Nat → List Nat → Nat) : Prop := Paired (fun (x : NRow) (key : Nat × List Nat) => x.1 = keyN key.1 key.2 ∧ x.2.2 = nI (fs key.1 key.2)) xs keys
def Rises (L : Str) : Prop := L.cps.toList.Pairwise (· < ·)
def sp_at (L : Str) (n : Nat) (fs : Nat → List Nat → Nat) : Sp := fun vs H Q _ => ∃ (c : Nat) (b : Addr) (row : List Nat), vs = [.str (ch c), .ref b] ∧ c ∈ L.cps.toList ∧ row.length = n ∧ H b = some (.tup (row.map nI)) ∧ ∀ H', Same H H' → Q (nI (fs c row)) H'
def sp_table_made (P : Program) (w : World) (K : PySem.W.Frag) (mg : Str → Option Value) (base : Heap) : Sp := fun vs H Q _ => ∃ (L : Str) (n few turn : Nat) (f : Addr) (fs : Nat → List Nat → Nat), vs = [.str L, nI n, nI few, nI turn, .ref f] ∧ Lets L ∧ Rises L ∧ n ≤ 6 ∧ few ≤ 4 ∧ 1 ≤ turn ∧ turn ≤ 4 ∧ L.length * (few + turn) ^ n ≤ 600 ∧
  CalX P w K mg base 8 f (fun H' => Same H H') 2 (sp_at L n fs) ∧ ∀ d xs H', Same H H' → H d = none → H' d = some (DictN P w d xs) → RowsN H' xs → RowsJ xs (keysOf L n (few + turn)) fs → Q (.ref d) H'
theorem ch_inj {a b : Nat} (h : ch a = ch b) : a = b := by
  have := congrArg (fun s : Str => s.cps.toList) h
  simpa [ch] using this
theorem keyN_inj {c c' : Nat} {r r' : List Nat} (h : keyN c r = keyN c' r') : c = c' ∧ r = r' := by
  unfold keyN at h
  injection h with h
  injection h with h1 h2
  injection h1 with h1
  injection h2 with h2
  injection h2 with h2
  refine ⟨ch_inj h1, ?_⟩
  clear h1
  induction r generalizing r' with
  | nil => cases r' with | nil => rfl | cons a b => cases h2
  | cons a b ih => cases r' with
    | nil => cases h2
    | cons a' b' =>
      rw [List.map_cons, List.map_cons] at h2
      injection h2 with e1 e2
      injection e1 with e1
      rw [ih e2, show a = a' by omega]
theorem keyN_depth (c : Nat) (r : List Nat) : (keyN c r).depth ≤ 8 := by
  have : ∀ r : List Nat, NestedKey.depthAll (r.map fun x : Nat => NestedKey.num (x : Int)) ≤ 1 := by
    intro r
    induction r with
    | nil => simp [NestedKey.depthAll]
    | cons a b ih => simp only [List.map_cons, NestedKey.depthAll, NestedKey.depth]; omega
  have := this r
  simp only [keyN, NestedKey.depth, NestedKey.depthAll]
  omega
theorem nk_nums {H : Hp} : ∀ r : List Nat, NKs H (r.map fun x : Nat => .num (x : Int)) (r.map nI)
  | [] => .nil
  | x :: r => .cons (.int _) (nk_nums r)
theorem nk_key {H : Hp} {b a : Addr} {c : Nat} {r : List Nat} (hb : H b = some (.tup [.str (ch c), .ref a])) (ha : H a = some (.tup (r.map nI))) : NK H (keyN c r) (.ref b) := .tup hb (.cons (.text _) (.cons (.tup ha (nk_nums r)) .nil))
theorem rowsTo_nd (k : Nat) : ∀ n, (rowsTo n k).Pairwise (· ≠ ·)
  | 0 => by simp [rowsTo]
  | n + 1 => by
    rw [rowsTo, List.pairwise_flatMap]
    refine ⟨fun r _ => ?_, (rowsTo_nd k n).imp fun {a b} hab x hx y hy e => ?_⟩
    · rw [List.pairwise_map]
      exact List.nodup_range.imp fun h e => h (by simpa using e)
    · simp only [List.mem_map] at hx hy
      obtain ⟨p, _, rfl⟩ := hx
      obtain ⟨q, _, rfl⟩ := hy
      exact hab (List.append_inj' e rfl).1
theorem keysOf_nd {L : Str} (h : Rises L) (n k : Nat) : (keysOf L n k).Pairwise (· ≠ ·) := by
  unfold keysOf
  rw [List.pairwise_flatMap]
  refine ⟨fun c _ => ?_, h.imp fun {a b} hab x hx y hy e => ?_⟩
  · rw [List.pairwise_map]
    exact (rowsTo_nd k n).imp fun h e => h (by simpa using e)
  · simp only [List.mem_map] at hx hy
    obtain ⟨p, _, rfl⟩ := hx
    obtain ⟨q, _, rfl⟩ := hy
    have : a = b := (Prod.mk.inj e).1
    omega
theorem atN_none {xs : List NRow} {k : NestedKey} (h : ∀ x ∈ xs, x.1 ≠ k) : atN xs k = none := by
  unfold atN
  rw [List.find?_eq_none.mpr fun x hx => by simpa using h x hx]
  rfl
theorem storedN_new {xs : List NRow} {k : NestedKey} {b : Addr} {v : V} (h : ∀ x ∈ xs, x.1 ≠ k) : storedN xs k b v = xs ++ [(k, b, v)] := by
  unfold storedN
  rw [atN_none h]
  rfl
theorem prd_mem {α β : Type} {F : α → β → Prop} {as : List α} {bs : List β} {a : α} (p : Paired F as bs) (h : a ∈ as) : ∃ b ∈ bs, F a b := by
  obtain ⟨i, hi⟩ := List.getElem?_of_mem h
  obtain ⟨b, h1, h2⟩ := prd_at p hi
  exact ⟨b, List.mem_of_getElem? h1, h2⟩
theorem ahead_ne {α : Type} {l : List α} {i : Nat} {x : α} (h : l.Pairwise (· ≠ ·)) (hx : l[i]? = some x) : ∀ y ∈ l.take i, y ≠ x := fun y hy e => by
  obtain ⟨j, hj⟩ := List.getElem?_of_mem hy
  have lt := (List.getElem?_eq_some_iff.mp hj).1
  rw [List.length_take] at lt
  rw [List.getElem?_take_of_lt (by omega)] at hj
  have h1 := List.getElem?_eq_some_iff.mp hj
  have h2 := List.getElem?_eq_some_iff.mp hx
  exact (List.pairwise_iff_getElem.mp h) j i h1.1 h2.1 (by omega) (by rw [h1.2, h2.2]; exact e)
theorem dF {p : Prop} {i : Decidable p} {A B : Prop} (h : ¬p) (k : B) : if (@decide p i) = true then A else B := by
  rw [decide_eq_false h]
  exact iteF k
theorem dT {p : Prop} {i : Decidable p} {A B : Prop} (h : p) (k : A) : if (@decide p i) = true then A else B := by
  rw [decide_eq_true h]
  exact iteT k
theorem RowsN.keep {H H' : Hp} {xs : List NRow} (x : RowsN H xs) (h : ∀ b ys, H b = some (.tup ys) → H' b = some (.tup ys)) : RowsN H' xs := fun r hr => ⟨NK.keep h (x r hr).1, (x r hr).2⟩
theorem upd_tupN {H : Hp} {D : Addr} {P : Program} {w : World} {d : Addr} {xs : List NRow} {o : HO} (hD : H D = some (DictN P w d xs)) : ∀ b ys, H b = some (.tup ys) → (upd H D o) b = some (.tup ys) := fun b ys e => by
  rw [upd_ne (fun z => by rw [z, hD] at e; unfold DictN at e; cases e)]
  exact e
theorem upd_lstN {H : Hp} {D : Addr} {P : Program} {w : World} {d : Addr} {xs : List NRow} {o : HO} (hD : H D = some (DictN P w d xs)) : ∀ b ys, H b = some (.lst ys) → (upd H D o) b = some (.lst ys) := fun b ys e => by
  rw [upd_ne (fun z => by rw [z, hD] at e; unfold DictN at e; cases e)]
  exact e
section
variable {P : Program} {w : World} {K : PySem.W.Frag} {mg : Str → Option Value} {base : Heap}
end

theorem inV_nI (x : Nat) : ∀ g : List Nat, inV (nI x) (g.map nI) = decide (x ∈ g)
  | [] => rfl
  | y :: r => by
    have ih := inV_nI x r
    unfold inV at ih ⊢
    rw [List.map_cons, List.any_cons, ih]
    have e : eqV (nI y) (nI x) = decide (x = y) := by
      show ((y : Int) == (x : Int)) = _
      rw [Bool.eq_iff_iff]
      simp
      omega
    rw [e]
    simp
theorem flat_nI : ∀ g : List Nat, (g.map nI).all flatV = true
  | [] => rfl
  | y :: r => by rw [List.map_cons, List.all_cons, flat_nI r]; rfl
theorem post_last : ∀ t : Tr, ∃ l, t.post = l ++ [t]
  | .node c ks => ⟨posts ks, rfl⟩

def ItzS (x y : Str) : It := ⟨fun n _ => n < x.cps.size ∧ n < y.cps.size,
  fun n H v H' => ∃ (p : Addr) (c d : Nat), v = .ref p ∧ H p = none ∧ H' = upd H p (.tup [.str (ch c), .str (ch d)]) ∧ x.cps[n]? = some c ∧ y.cps[n]? = some d,
  fun n _ => n ≤ x.cps.size ∧ n ≤ y.cps.size ∧ (n = x.cps.size ∨ n = y.cps.size)⟩
theorem five {z TI TO i1 i2 b : Addr} (h : b ∈ [z, TI, TO, i1, i2]) : b = z ∨ b = TI ∨ b = TO ∨ b = i1 ∨ b = i2 := by simpa using h
theorem turn_zipS {P : Program} {w : World} {K : PySem.W.Frag} {parts : List PySem.Expr} {many : Nat} {at_ : Pos} {z TI TO i1 i2 : Addr} (S : ZipSep2 z TI TO i1 i2 [i1] [i2]) (x y : Str) (t u : Tok) :
    Turn P w K (.Tuple parts many at_) (ItzS x y) [z, TI, TO, i1, i2] z (fun n h => IsZip h z TI TO .none ∧ IsTupOf2 h TI (.ref i1) (.ref i2) ∧ (∃ a b, IsTupOf2 h TO a b) ∧ h.IsStrIter i1 (strIterType x) x t n ∧ h.IsStrIter i2 (strIterType y) y u n) where
  mem := List.mem_cons_self
  obj := by
    rintro n h ⟨hz, hTI, ⟨a, b, hTO⟩, ⟨o1, e1, _, d1⟩, ⟨o2, e2, _, d2⟩⟩ c hc
    rcases five hc with rfl | rfl | rfl | rfl | rfl
    · exact ⟨_, hz, fun v q => nomatch q⟩
    · exact ⟨_, hTI, fun v q => nomatch q⟩
    · exact ⟨_, hTO, fun v q => nomatch q⟩
    · exact ⟨o1, e1, fun v q => by rw [d1] at q; cases q⟩
    · exact ⟨o2, e2, fun v q => by rw [d2] at q; cases q⟩
  keep := by
    rintro n h h' ⟨hz, hTI, ⟨a, b, hTO⟩, ⟨o1, e1, r1⟩, ⟨o2, e2, r2⟩⟩ k
    exact ⟨k z (by simp) _ hz, k TI (by simp) _ hTI, ⟨a, b, k TO (by simp) _ hTO⟩, ⟨o1, k i1 (by simp) _ e1, r1⟩, ⟨o2, k i2 (by simp) _ e2, r2⟩⟩
  item := by
    rintro X rfl rfl rfl calm n pins s σ H E I free ⟨hz, hTI, ⟨a, b, hTO⟩, h1, h2⟩ ⟨lt1, lt2⟩
    have D1 := Draws.text (prog := X.prog) (w := X.w) (A := X.A.in1) (I.ok.hd calm) i1 x t
    have D2 := Draws.text (prog := X.prog) (w := X.w) (A := X.A.in1) (I.ok.hd calm) i2 y u
    have low : z < s.heap.objs.size := Heap.lt_size hz
    refine wpAny_pyNext_zipD2_item S D1 D2 hz hTI hTO h1 h2 lt1 lt2 ?_
    rintro _ _ h3 tk ⟨c, tc, hc, rfl⟩ ⟨d, td, hd, rfl⟩ out pair n1 n2 made _ stays
    refine ⟨_, rfl, wpAny_letOwnedTupleGo_zip (s := { s with heap := h3, toks := tk }) out fun h4 back but => ?_⟩
    have made4 : h4.get? s.heap.objs.size = some { cls := .type "tuple", data := .seq #[.str ⟨#[c]⟩ tc, .str ⟨#[d]⟩ td] } := (but.2 _ (Nat.ne_of_gt low)).trans made
    have new : ObjOk X.prog X.w (upd H s.heap.objs.size (.tup [.str (ch c), .str (ch d)])) h4 s.heap.objs.size (.tup [.str (ch c), .str (ch d)]) :=
      ⟨by show 2 ≤ sizeLine; decide, [.str ⟨#[c]⟩ tc, .str ⟨#[d]⟩ td], .cons ⟨_, rfl⟩ (.cons ⟨_, rfl⟩ .nil), _, made4, rfl, _, rfl⟩
    have J : Inv X pins σ (upd H s.heap.objs.size (.tup [.str (ch c), .str (ch d)])) { s with heap := h4, toks := tk } :=
      I.turnedNew (t' := tk) (ch := [z, TI, TO, i1, i2]) (fun b ob hb e => by
        have ne : b ≠ z ∧ b ≠ TO ∧ b ≠ i1 ∧ b ≠ i2 := ⟨fun q => hb (by simp [q]), fun q => hb (by simp [q]), fun q => hb (by simp [q]), fun q => hb (by simp [q])⟩
        exact (but.2 b ne.1).trans (stays b ob ne.1 ne.2.1 ne.2.2.1 ne.2.2.2 e)) free (Nat.le_refl _) new
    refine ⟨.ref s.heap.objs.size, _, J, rfl, ⟨_, c, d, rfl, I.hok.fresh (Nat.le_refl _), rfl, hc, hd⟩, ⟨back, ?_, ⟨_, _, (but.2 _ S.TOz).trans pair⟩, D1.over n1 but S.zf1, D2.over n2 but S.zf2⟩, fun b hb => ?_⟩
    · exact (but.2 _ S.TIz).trans (stays _ _ S.TIz S.TITO S.TIi1 S.TIi2 hTI)
    · have lt : b < s.heap.objs.size := by
        rcases five hb with rfl | rfl | rfl | rfl | rfl
        · exact low
        · exact Heap.lt_size hTI
        · exact Heap.lt_size hTO
        · obtain ⟨_, e, _⟩ := h1; exact Heap.lt_size e
        · obtain ⟨_, e, _⟩ := h2; exact Heap.lt_size e
      rw [upd_ne (Nat.ne_of_lt lt)]
      exact (free b hb).1
  done := by
    rintro X rfl rfl rfl calm n pins s σ H E I free ⟨hz, hTI, ⟨a, b, hTO⟩, h1, h2⟩ ⟨le1, le2, over⟩
    have D1 := Draws.text (prog := X.prog) (w := X.w) (A := X.A.in1) (I.ok.hd calm) i1 x t
    have D2 := Draws.text (prog := X.prog) (w := X.w) (A := X.A.in1) (I.ok.hd calm) i2 y u
    exact wpAny_pyNext_zipD2_end S D1 D2 hz hTI hTO h1 h2 le1 le2 over fun h' tk stays => ⟨rfl, I.turnedL (t' := tk) (ch := [z, TI, TO, i1, i2]) (fun b ob hb e =>
      stays b ob (fun q => hb (by simp [q])) (fun q => hb (by simp [q])) (fun q => hb (by simp [q])) (fun q => hb (by simp [q])) e) free⟩
  self := fun A n s Q E st h => wpAny_pyIter_zip st.1 h
def iZipS (ta : TA) : TI := fun σ H R => ta σ H fun vs H1 => ∃ x y, vs = [.str x, .str y] ∧ R (ItzS x y) H1
theorem sep_new (n : Nat) : ZipSep2 (n + 4) (n + 2) (n + 3) n (n + 1) [n] [n + 1] := by
  constructor <;> simp <;> omega
theorem pi_zipS {X : Cx} {e e2 : PySem.Expr} {ta : TA} {p pos at_ : Pos} {parts : List PySem.Expr} {many : Nat} (hg : Gl X "zip") (hm : X.mg "zip" = none) (ha : PA X [e, e2] ta)
    (hs : starEach [e, e2] X.env = (false, eval e X.env) :: starEach [e2] X.env := by rfl) (hpl : (backTo pos (starEach [e2] X.env)).any (·.1) = false := by rfl) :
    PI X (.Tuple parts many at_) (.Call (.Name "zip" p) [e, e2] [] pos) (iZipS ta) := by
  refine ⟨fun pins s σ H R I h => Call_ (ld_blt I hg hm PyProof.Rows.boot_zip (PyProof.Rows.callWith_type1 (thn (ha.run pos pins s σ H _ I h) ?_) hs hpl))⟩
  rintro us s1 ⟨_, H1, I1, r1, x, y, rfl, q⟩
  obtain ⟨_, _, rfl, ⟨t, rfl⟩, u, rfl⟩ := Vals.two r1
  refine zip_begins2 (begins_text x t) (begins_text y u) trivial trivial fun h' hz hTI hTO g1 g2 _ keep => wpAny_pyIter_zip hz ?_
  refine ⟨s1.heap.objs.size + 4, [s1.heap.objs.size + 4, s1.heap.objs.size + 2, s1.heap.objs.size + 3, s1.heap.objs.size, s1.heap.objs.size + 1], _, _, H1, rfl, I1.kept (t' := s1.toks) keep, turn_zipS (sep_new _) x y t u, ⟨hz, hTI, ⟨_, _, hTO⟩, ⟨_, g1, rfl, rfl⟩, ⟨_, g2, rfl, rfl⟩⟩, fun b hb => ?_, q⟩
  have hle : s1.heap.objs.size ≤ b := by rcases five hb with rfl | rfl | rfl | rfl | rfl <;> omega
  exact I1.fpOk hle (I1.hok.fresh hle)
theorem walk_zipS {x y : Str} {n : Nat} (hn : n = min x.cps.size y.cps.size) : Walk (ItzS x y) n (fun _ => True) (fun i H v H' => ∃ (p : Addr) (c d : Nat), v = .ref p ∧ H p = none ∧ H' = upd H p (.tup [.str (ch c), .str (ch d)]) ∧ x.cps[i]? = some c ∧ y.cps[i]? = some d) :=
  ⟨fun i _ hi _ => ⟨by omega, by omega⟩, fun _ _ => ⟨by omega, by omega, by omega⟩, fun _ _ _ _ _ _ y => y⟩


def sp_is_whole : Sp := fun vs H Q _ => ∃ i : Int, vs = [.int i] ∧ Q (.bl true) H
def sp_is_whole_within : Sp := fun vs H Q _ => ∃ i lo hi : Int, vs = [.int i, .int lo, .int hi] ∧ lo ≤ i ∧ i ≤ hi ∧ Q (.bl true) H
def sp__rises_str : Sp := fun vs H Q _ => ∃ L : Str, vs = [.str L] ∧ Lets L ∧ Rises L ∧ ∀ H', Same H H' → Q (.bl true) H'
def sp__rises_lst (K : PySem.W.Frag) : Sp := fun vs H Q _ => ∃ (a : Addr) (g : List Nat), vs = [.ref a] ∧ H a = some (.lst (g.map nI)) ∧ g.Pairwise (· < ·) ∧ g.length ≤ 100 ∧ ∀ H', Same H H' → Q (.bl true) H'
def sp_are_letters : Sp := fun vs H Q _ => ∃ L : Str, vs = [.str L] ∧ Lets L ∧ Rises L ∧ ∀ H', Same H H' → Q (.bl true) H'
def sp_are_rising_states : Sp := fun vs H Q _ => ∃ (a : Addr) (g : List Nat) (n : Nat), vs = [.ref a, nI n] ∧ H a = some (.lst (g.map nI)) ∧ g.Pairwise (· < ·) ∧ g.length ≤ 100 ∧ (∀ x ∈ g, x < n) ∧ ∀ H', Same H H' → Q (.bl true) H'
theorem rep_succ {α : Type} (n : Nat) (x : α) : List.replicate (n + 1) x = List.replicate n x ++ [x] := by
  rw [List.replicate_succ']
theorem all_rep (n : Nat) : (List.replicate n true).all id = true := by
  rw [List.all_eq_true]
  intro x hx
  rw [List.eq_of_mem_replicate hx]
  rfl
theorem cut_str {L : Str} (h : 1 ≤ L.length) : (cutS L (some 1) none).cps = (L.cps.toList.drop 1).toArray := by
  have h1 : HT.sIx L.length 0 (some 1) = 1 := by
    have := HT.sIx_nat L.length 0 1
    rw [show ((1 : Nat) : Int) = 1 from rfl] at this
    rw [this]
    omega
  unfold cutS
  rw [h1, HT.sIx_none]
  have : (L.cps.toList.drop 1).take (L.length - 1) = L.cps.toList.drop 1 := List.take_of_length_le (by rw [List.length_drop, Array.length_toList]; exact Nat.le_refl _)
  rw [this]
theorem cut_one {L : Str} (h : 1 ≤ L.length) (j : Nat) : (cutS L (some 1) none).cps[j]? = L.cps[j + 1]? := by
  rw [cut_str h, List.getElem?_toArray, List.getElem?_drop, Array.getElem?_toList, Nat.add_comm]
theorem cut_size {L : Str} (h : 1 ≤ L.length) : (cutS L (some 1) none).cps.size = L.cps.size - 1 := by
  rw [cut_str h, List.size_toArray, List.length_drop, Array.length_toList]
section
variable {P : Program} {w : World} {K : PySem.W.Frag} {mg : Str → Option Value} {base : Heap}
theorem ok_is_whole (T : Txt K mg) : FnOk P w K mg base CX0 1 T.f_is_whole T.d_is_whole ["thing"] sp_is_whole := by
  refine T.F_is_whole.ok sc_is_whole (fun vs H Q E h => ?_) (fun cdv A outer s H vs Q E hr h => ?_)
  · obtain ⟨i, rfl, _⟩ := h
    rfl
  obtain ⟨i, rfl, q⟩ := h
  refine ⟨_, (pss_one (ps_ret (pe_and (pe_callB call_isi (by rfl) T.z_isinstance (by decide +kernel) (pa_cons (pv 0) (pa_cons (pe_bltn (v := .ty "int") (by rfl) T.z_int (by decide +kernel) rfl) pa_nil))) (pe_one (pe_not (pe_callB call_isi (by rfl) T.z_isinstance (by decide +kernel) (pa_cons (pv 0) (pa_cons (pe_bltn (v := .ty "bool") (by rfl) T.z_bool (by decide +kernel) rfl) pa_nil)))))))), ?_⟩
  refine ⟨_, rfl, _, _, _, _, true, rfl, .ty "int", .base (.int _), kit_ty (by decide +kernel), _, rfl, iteT ?_⟩
  exact ⟨_, rfl, _, _, _, _, false, rfl, .ty "bool", .base (.int _), kit_ty (by decide +kernel), _, rfl, q⟩
theorem ok_is_whole_within (T : Txt K mg) : FnOk P w K mg base CX0 2 T.f_is_whole_within T.d_is_whole_within ["thing", "low", "high"] sp_is_whole_within := by
  have G_is_whole : FnOk P w K mg base CX0 1 T.f_is_whole T.d_is_whole ["thing"] sp_is_whole := ok_is_whole T
  refine T.F_is_whole_within.ok sc_is_whole_within (fun vs H Q E h => ?_) (fun cdv A outer s H vs Q E hr h => ?_)
  · obtain ⟨i, lo, hi, rfl, _⟩ := h
    rfl
  obtain ⟨i, lo, hi, rfl, h1, h2, q⟩ := h
  refine ⟨_, (pss_one (ps_ret (pe_and (pe_call G_is_whole (hr.mono (by omega)) (by rfl) T.m_is_whole T.F_is_whole.kp T.b_is_whole .nil pass0 (pa_cons (pv 0) pa_nil)) (pe_one (pe_chain op_le op_le (pv 1) (pv 0) (pv 2)))))), ?_⟩
  refine ⟨_, rfl, i, rfl, _, rfl, iteT ?_⟩
  refine ⟨_, rfl, _, rfl, _, _, rfl, rfl, _, rfl, dT h1 ?_⟩
  refine ⟨_, rfl, _, _, rfl, rfl, ?_⟩
  show Q (V.bl (decide (i ≤ hi))) H
  rw [decide_eq_true h2]
  exact q
theorem ok__rises_str (T : Txt K mg) : FnOk P w K mg base CX0 1 T.f__rises T.d__rises ["row"] sp__rises_str := by
  refine T.F__rises.ok sc__rises (fun vs H Q E h => ?_) (fun cdv A outer s H vs Q E hr h => ?_)
  · obtain ⟨L, rfl, _⟩ := h
    rfl
  obtain ⟨L, rfl, hL, hR, q⟩ := h
  refine ⟨_, (pss_one (ps_ret (pe_callB (cr_all rfl) (by rfl) T.z_all (by decide +kernel) (pa_cons (pe_lc (own := [("low", 1), ("high", 2)]) (g := gTup K 2 (gCons (gName 1) (gCons (gName 2) gNil))) (tt := tYes) rfl sc__rises.nd (pi_zipS (by rfl) T.z_zip (pa_cons (pv 0) (pa_cons (pe_slice sl_str (pv 0) (po_some pe_int) po_none) pa_nil))) (blkOk_by (own := [("low", 1), ("high", 2)]) (N := ["row", "low", "high"]) (sc := (defScope s__rises)) (by decide +kernel)) (fun _ _ _ _ _ => (pg_tup rfl (pgs_cons (pg_name (i := 1) sc__rises.nd rfl (Or.inl rfl)) (pgs_cons (pg_name (i := 2) sc__rises.nd rfl (Or.inl rfl)) pgs_nil)))) (fun _ _ _ _ _ => pts_nil) (fun _ _ _ _ _ => (pe_cmpR op_lt_str (pv 1) (pv 2) (nomark _)))) pa_nil)))), ?_⟩
  have lsz : L.cps.size = L.cps.toList.length := (Array.length_toList).symm
  have l26 : L.cps.toList.length ≤ 26 := by rw [← lsz]; exact hL.2.1
  have hcut : ∀ j : Nat, (cutS L (some 1) none).cps[j]? = L.cps[j + 1]? := cut_one hL.1
  have hsz : (cutS L (some 1) none).cps.size = L.cps.size - 1 := cut_size hL.1
  refine ⟨_, rfl, _, rfl, 1, rfl, L, rfl, Nat.le_of_lt (Nat.lt_of_le_of_lt (show _ ≤ 1000000 by have := hL.2.1; omega) (by decide)), L, _, rfl, fun D hD => ?_⟩
  refine lc_it (n := L.cps.size - 1) (walk_zipS (by rw [hsz]; omega)) (fun i H2 => H2 D = some (.lst ((List.replicate i true).map V.bl)) ∧ Same H H2) ⟨upd_same, same_new hD⟩ (fun _ _ _ _ => trivial) ?_ ?_
  · rintro i x H2 H3 hi ⟨g1, g2⟩ ⟨p, c, d, rfl, hp, rfl, hc, hd⟩
    rw [hcut] at hd
    have lt : c < d := by
      have h1 := Array.getElem?_eq_some_iff.mp hc
      have h2 := Array.getElem?_eq_some_iff.mp hd
      have := (List.pairwise_iff_getElem.mp hR) i (i + 1) (by rw [← lsz]; exact h1.1) (by rw [← lsz]; exact h2.1) (by omega)
      simpa [h1.2, h2.2] using this
    have sp := same_new (o := .tup [.str (ch c), .str (ch d)]) hp
    have kp := upd_same (H := H2) (a := p) (o := .tup [.str (ch c), .str (ch d)])
    generalize upd H2 p (.tup [.str (ch c), .str (ch d)]) = H4 at *
    refine ⟨p, _, rfl, SqT.of kp, rfl, _, _, rfl, _, _, rfl, rfl, rfl, _, rfl, _, rfl, _, _, rfl, rfl, ?_⟩
    have e : decide ((ch c).cps.toList < (ch d).cps.toList) = true := decide_eq_true (List.cons_lt_cons_iff.mpr (.inl lt))
    rw [e]
    refine ⟨_, sp _ _ g1, ?_, ?_, same_add (g2.trans sp) hD⟩
    · rw [List.length_map, List.length_replicate]
      exact Nat.lt_of_le_of_lt (show _ ≤ 1000000 by omega) (by decide)
    · rw [upd_same, rep_succ, List.map_append]
      rfl
  · rintro H2 ⟨g1, g2⟩
    refine ⟨D, _, rfl, SqL.of g1, ?_⟩
    rw [all_rep]
    exact q H2 g2
end

theorem tru_str {K : PySem.W.Frag} {H : Hp} {L : Str} (h : 1 ≤ L.length) (h2 : L.length ≤ 26) : TruV K (.str L) H true := by
  refine ⟨Nat.le_of_lt (Nat.lt_of_le_of_lt (show _ ≤ 1000000 by omega) (by decide)), ?_⟩
  have : (L.length : Int) ≠ 0 := by omega
  have h3 : ¬ L.length = 0 := by omega
  simp [h3]
section
variable {P : Program} {w : World} {K : PySem.W.Frag} {mg : Str → Option Value} {base : Heap}
theorem ok__rises_lst (T : Txt K mg) : FnOk P w K mg base CX0 1 T.f__rises T.d__rises ["row"] (sp__rises_lst K) := by
  refine T.F__rises.ok sc__rises (fun vs H Q E h => ?_) (fun cdv A outer s H vs Q E hr h => ?_)
  · obtain ⟨a, g, rfl, _⟩ := h
    rfl
  obtain ⟨a, g, rfl, ha, hR, h100, q⟩ := h
  refine ⟨_, (pss_one (ps_ret (pe_callB (cr_all rfl) (by rfl) T.z_all (by decide +kernel) (pa_cons (pe_lc (own := [("low", 1), ("high", 2)]) (g := gTup K 2 (gCons (gName 1) (gCons (gName 2) gNil))) (tt := tYes) rfl sc__rises.nd (pi_zip (by rfl) T.z_zip (pa_cons (pv 0) (pa_cons (pe_slice sl_list (pv 0) (po_some pe_int) po_none) pa_nil))) (blkOk_by (own := [("low", 1), ("high", 2)]) (N := ["row", "low", "high"]) (sc := (defScope s__rises)) (by decide +kernel)) (fun _ _ _ _ _ => (pg_tup rfl (pgs_cons (pg_name (i := 1) sc__rises.nd rfl (Or.inl rfl)) (pgs_cons (pg_name (i := 2) sc__rises.nd rfl (Or.inl rfl)) pgs_nil)))) (fun _ _ _ _ _ => pts_nil) (fun _ _ _ _ _ => (pe_cmpR op_lt (pv 1) (pv 2) (nomark _)))) pa_nil)))), ?_⟩
  have hcut : cutV (g.map nI) (some 1) none = (g.drop 1).map nI := by
    cases g with
    | nil => rfl
    | cons x r => rw [List.map_cons, cut1]; rfl
  refine ⟨_, rfl, _, rfl, 1, rfl, a, _, rfl, SqL.of ha, fun p hp => ?_⟩
  rw [hcut]
  have sp := same_new (o := .lst ((g.drop 1).map nI)) hp
  have kp := upd_same (H := H) (a := p) (o := .lst ((g.drop 1).map nI))
  have ka := sp _ _ ha
  generalize upd H p (.lst ((g.drop 1).map nI)) = H1 at *
  refine ⟨a, p, _, _, rfl, SqL.of ka, SqL.of kp, fun D hD => ?_⟩
  refine lc_it (n := g.length - 1) (walk_zip (K := K) (a := a) (b := p) (xs := g.map nI) (ys := (g.drop 1).map nI) (by rw [List.length_map, List.length_map, List.length_drop]; omega)) (fun i H2 => H2 D = some (.lst ((List.replicate i true).map V.bl)) ∧ Same H1 H2) ⟨upd_same, same_new hD⟩ (fun i H2 _ h => ⟨SqL.of (h.2 _ _ ka), SqL.of (h.2 _ _ kp)⟩) ?_ ?_
  · rintro i x H2 H3 hi ⟨g1, g2⟩ ⟨T, u, v, rfl, hT, rfl, hu, hv⟩
    dsimp only at hu hv
    rw [List.getElem?_map] at hu hv
    rw [List.getElem?_drop] at hv
    cases hc : g[i]? with
    | none => rw [hc] at hu; cases hu
    | some c =>
    cases hd : g[1 + i]? with
    | none => rw [hd] at hv; cases hv
    | some d =>
    rw [hc] at hu
    rw [hd] at hv
    cases hu
    cases hv
    have lt : c < d := by
      have h1 := List.getElem?_eq_some_iff.mp hc
      have h2 := List.getElem?_eq_some_iff.mp hd
      have := (List.pairwise_iff_getElem.mp hR) i (1 + i) h1.1 h2.1 (by omega)
      simpa [h1.2, h2.2] using this
    have sT := same_new (o := .tup [nI c, nI d]) hT
    have kT := upd_same (H := H2) (a := T) (o := .tup [nI c, nI d])
    generalize upd H2 T (.tup [nI c, nI d]) = H4 at *
    refine ⟨T, _, rfl, SqT.of kT, rfl, _, _, rfl, _, _, rfl, rfl, rfl, _, rfl, _, rfl, _, _, rfl, rfl, ?_⟩
    have e : decide ((c : Int) < (d : Int)) = true := decide_eq_true (by omega)
    refine ⟨_, sT _ _ g1, ?_, ?_, same_add (g2.trans sT) hD⟩
    · rw [List.length_map, List.length_replicate]
      exact Nat.lt_of_le_of_lt (show _ ≤ 1000000 by omega) (by decide)
    · show (upd H4 D (.lst ((List.replicate i true).map V.bl ++ [V.bl (decide ((c : Int) < (d : Int)))]))) D = _
      rw [upd_same, e, rep_succ, List.map_append]
      rfl
  · rintro H2 ⟨g1, g2⟩
    refine ⟨D, _, rfl, SqL.of g1, ?_⟩
    rw [all_rep]
    exact q H2 (sp.trans g2)
theorem ok_are_letters (T : Txt K mg) : FnOk P w K mg base CX0 2 T.f_are_letters T.d_are_letters ["thing"] sp_are_letters := by
  have G_is_letter : FnOk P w K mg base CX0 1 T.f_is_letter T.d_is_letter ["thing"] sp_is_letter := ok_is_letter T
  have G__rises : FnOk P w K mg base CX0 1 T.f__rises T.d__rises ["row"] sp__rises_str := ok__rises_str T
  refine T.F_are_letters.ok sc_are_letters (fun vs H Q E h => ?_) (fun cdv A outer s H vs Q E hr h => ?_)
  · obtain ⟨L, rfl, _⟩ := h
    rfl
  obtain ⟨L, rfl, hL, hR, q⟩ := h
  refine ⟨_, (pss_cons (ps_if (PW.pt (pw_or (pt_not (pt_val (pe_callB call_isi (by rfl) T.z_isinstance (by decide +kernel) (pa_cons (pv 0) (pa_cons (pe_bltn (v := .ty "str") (by rfl) T.z_str (by decide +kernel) rfl) pa_nil))))) (pw_or1 (pt_not (pt_truth (pv 0) (by intro _; rfl)))))) (pss_one (ps_ret pe_bl)) pss_nil) (pss_one (ps_ret (pe_and (pe_callB (cr_all rfl) (by rfl) T.z_all (by decide +kernel) (pa_cons (pe_lc (own := [("sign", 1)]) (g := gName 1) (tt := tYes) rfl sc_are_letters.nd (pi_str (pv 0)) (blkOk_by (own := [("sign", 1)]) (N := ["thing", "sign"]) (sc := (defScope s_are_letters)) (by decide +kernel)) (fun _ _ _ _ _ => (pg_name (i := 1) sc_are_letters.nd rfl (Or.inl rfl))) (fun _ _ _ _ _ => pts_nil) (fun _ _ _ _ _ => (pe_call G_is_letter (hr.mono (by omega)) (by rfl) T.m_is_letter T.F_is_letter.kp T.b_is_letter .nil pass0 (pa_cons (pv 1) pa_nil)))) pa_nil)) (pe_one (pe_call G__rises (hr.mono (by omega)) (by rfl) T.m__rises T.F__rises.kp T.b__rises .nil pass0 (pa_cons (pv 0) pa_nil))))))), ?_⟩
  have lsz : L.cps.size = L.cps.toList.length := (Array.length_toList).symm
  have l26 : L.cps.toList.length ≤ 26 := by rw [← lsz]; exact hL.2.1
  refine ⟨_, rfl, _, _, _, _, true, rfl, .ty "str", .base (.str _), kit_ty (by decide +kernel), _, rfl, iteF ?_⟩
  refine ⟨_, rfl, true, tru_str hL.1 hL.2.1, iteF ?_⟩
  refine ⟨_, rfl, L, rfl, fun D hD => ?_⟩
  refine lc_it (n := L.cps.size) walk_str (fun i H2 => H2 D = some (.lst ((List.replicate i true).map V.bl)) ∧ Same H H2) ⟨upd_same, same_new hD⟩ (fun _ _ _ _ => trivial) ?_ ?_
  · rintro i x H2 H3 hi ⟨g1, g2⟩ ⟨rfl, c, hc, rfl⟩
    have hm := hL.2.2 c (by have := Array.getElem?_eq_some_iff.mp hc; rw [← this.2]; exact Array.mem_toList_iff.mpr (Array.getElem_mem this.1))
    refine ⟨rfl, _, rfl, c, rfl, hm.1, hm.2, _, g1, ?_, ?_, same_add g2 hD⟩
    · rw [List.length_map, List.length_replicate]
      exact Nat.lt_of_le_of_lt (show _ ≤ 1000000 by omega) (by decide)
    · rw [upd_same, rep_succ, List.map_append]
      rfl
  · rintro H2 ⟨g1, g2⟩
    refine ⟨D, _, rfl, SqL.of g1, ?_⟩
    rw [all_rep]
    exact ⟨_, rfl, iteT ⟨_, rfl, L, rfl, hL, hR, fun H3 s3 => q H3 (g2.trans s3)⟩⟩
theorem ok_are_rising_states (T : Txt K mg) : FnOk P w K mg base CX0 3 T.f_are_rising_states T.d_are_rising_states ["thing", "states"] sp_are_rising_states := by
  have G_is_whole_within : FnOk P w K mg base CX0 2 T.f_is_whole_within T.d_is_whole_within ["thing", "low", "high"] sp_is_whole_within := ok_is_whole_within T
  have G__rises : FnOk P w K mg base CX0 1 T.f__rises T.d__rises ["row"] (sp__rises_lst K) := ok__rises_lst T
  refine T.F_are_rising_states.ok sc_are_rising_states (fun vs H Q E h => ?_) (fun cdv A outer s H vs Q E hr h => ?_)
  · obtain ⟨a, g, n, rfl, _⟩ := h
    rfl
  obtain ⟨a, g, n, rfl, ha, hR, h100, hn, q⟩ := h
  refine ⟨_, (pss_cons (ps_if (pt_not (pt_val (pe_callB call_isi (by rfl) T.z_isinstance (by decide +kernel) (pa_cons (pv 0) (pa_cons (pe_bltn (v := .ty "list") (by rfl) T.z_list (by decide +kernel) rfl) pa_nil))))) (pss_one (ps_ret pe_bl)) pss_nil) (pss_one (ps_ret (pe_and (pe_callB (cr_all rfl) (by rfl) T.z_all (by decide +kernel) (pa_cons (pe_lc (own := [("state", 2)]) (g := gName 2) (tt := tYes) rfl sc_are_rising_states.nd (pi_list (pv 0)) (blkOk_by (own := [("state", 2)]) (N := ["thing", "states", "state"]) (sc := (defScope s_are_rising_states)) (by decide +kernel)) (fun _ _ _ _ _ => (pg_name (i := 2) sc_are_rising_states.nd rfl (Or.inl rfl))) (fun _ _ _ _ _ => pts_nil) (fun _ _ _ _ _ => (pe_call G_is_whole_within (hr.mono (by omega)) (by rfl) T.m_is_whole_within T.F_is_whole_within.kp T.b_is_whole_within .nil pass0 (pa_cons (pv 2) (pa_cons pe_int (pa_cons (pe_op op_sub (pv 1) pe_int) pa_nil)))))) pa_nil)) (pe_one (pe_call G__rises (hr.mono (by omega)) (by rfl) T.m__rises T.F__rises.kp T.b__rises .nil pass0 (pa_cons (pv 0) pa_nil))))))), ?_⟩
  refine ⟨_, rfl, _, _, _, _, true, rfl, .ty "list", .base (.lst ha), kit_ty (by decide +kernel), _, rfl, iteF ?_⟩
  refine ⟨_, rfl, a, rfl, ⟨_, SqL.of ha⟩, fun D hD => ?_⟩
  refine lc_list (xs := g.map nI) (fun i H2 => H2 D = some (.lst ((List.replicate i true).map V.bl)) ∧ Same H H2) ⟨upd_same, same_new hD⟩ (fun i H2 _ ⟨_, s⟩ => SqL.of (s _ _ ha)) ?_ ?_
  · rintro i x H2 hx ⟨g1, g2⟩
    rw [List.getElem?_map] at hx
    cases hc : g[i]? with
    | none => rw [hc] at hx; cases hx
    | some z =>
    rw [hc] at hx
    cases hx
    have hz := hn z (List.mem_of_getElem? hc)
    have hi := (List.getElem?_eq_some_iff.mp hc).1
    refine ⟨rfl, _, rfl, _, rfl, _, _, rfl, rfl, z, 0, n - 1, rfl, by omega, by omega, _, g1, ?_, ?_, same_add g2 hD⟩
    · rw [List.length_map, List.length_replicate]
      exact Nat.lt_of_le_of_lt (show _ ≤ 1000000 by omega) (by decide)
    · rw [upd_same, rep_succ, List.map_append]
      rfl
  · rintro H2 ⟨g1, g2⟩
    refine ⟨D, _, rfl, SqL.of g1, ?_⟩
    rw [all_rep]
    exact ⟨_, rfl, iteT ⟨_, rfl, a, g, rfl, g2 _ _ ha, hR, h100, fun H3 s3 => q H3 (g2.trans s3)⟩⟩
end

theorem neS {x y : V} {i : Decidable (x = y)} {A B : Prop} (h : x = y) (k : B) : if (!@decide (x = y) i) = true then A else B := by
  rw [decide_eq_true h]
  exact iteF k
def FrD (d : Addr) (H H' : Hp) : Prop := ∀ b o, b ≠ d → H b = some o → H' b = some o
theorem keysOf_len (L : Str) (n k : Nat) : (keysOf L n k).length = L.length * k ^ n := by
  have e : (keysOf L n k).length = L.cps.toList.length * (rowsTo n k).length := by
    unfold keysOf
    generalize L.cps.toList = l
    induction l with
    | nil => simp
    | cons a t ih => rw [List.flatMap_cons, List.length_append, List.length_map, ih, List.length_cons, Nat.succ_mul, Nat.add_comm]
  rw [e, rowsTo_len, Array.length_toList]
  rfl
theorem keysOf_mem {L : Str} {n k : Nat} {key : Nat × List Nat} (h : key ∈ keysOf L n k) : key.1 ∈ L.cps.toList ∧ key.2.length = n ∧ ∀ x ∈ key.2, x < k := by
  simp only [keysOf, List.mem_flatMap, List.mem_map] at h
  obtain ⟨c, hc, row, hrow, rfl⟩ := h
  exact ⟨hc, rowsTo_mem hrow⟩
theorem nks_nums {H : Hp} : ∀ {r : List Nat} {vs : List V}, NKs H (r.map fun x : Nat => .num (x : Int)) vs → vs = r.map nI
  | [], _, h => by cases h; rfl
  | x :: r, _, h => by
    cases h with
    | cons a b =>
      cases a
      rw [nks_nums b]
      rfl
theorem nk_inv {H : Hp} {b : Addr} {c : Nat} {r : List Nat} (h : NK H (keyN c r) (.ref b)) : ∃ a, H b = some (.tup [.str (ch c), .ref a]) ∧ H a = some (.tup (r.map nI)) := by
  unfold keyN at h
  cases h with
  | tup h1 h2 =>
    cases h2 with
    | cons a1 a2 =>
    cases a1
    cases a2 with
    | cons b1 b2 =>
    cases b2
    cases b1 with
    | tup c1 c2 =>
    rw [nks_nums c2] at c1
    exact ⟨_, h1, c1⟩

/- may_have_table of letters and numbers within a judge's bounds: whether the tuples due are not too many. -/
def sp_may_have_table : Sp := fun vs H Q _ => ∃ (L : Str) (n few turn : Nat), vs = [.str L, nI n, nI few, nI turn] ∧ Lets L ∧ Rises L ∧ 1 ≤ n ∧ n ≤ 6 ∧ few ≤ 4 ∧ 1 ≤ turn ∧ turn ≤ 4 ∧ ∀ H', Same H H' → Q (.bl (decide (L.length * (few + turn) ^ n ≤ 600))) H'
section
variable {P : Program} {w : World} {K : PySem.W.Frag} {mg : Str → Option Value} {base : Heap}
theorem ok_may_have_table (T : Txt K mg) : FnOk P w K mg base CX0 4 T.f_may_have_table T.d_may_have_table ["letters", "states", "few", "turn"] sp_may_have_table := by
  have G_are_letters : FnOk P w K mg base CX0 2 T.f_are_letters T.d_are_letters ["thing"] sp_are_letters := ok_are_letters T
  have G_is_whole_within : FnOk P w K mg base CX0 2 T.f_is_whole_within T.d_is_whole_within ["thing", "low", "high"] sp_is_whole_within := ok_is_whole_within T
  have G_tuples_due : FnOk P w K mg base CX0 1 T.f_tuples_due T.d_tuples_due ["letters", "states", "classes"] sp_tuples_due := ok_tuples_due T
  refine T.F_may_have_table.ok sc_may_have_table (fun vs H Q E h => ?_) (fun cdv A outer s H vs Q E hr h => ?_)
  · obtain ⟨L, n, few, turn, rfl, _⟩ := h
    rfl
  obtain ⟨L, n, few, turn, rfl, hL, hR, n1, n6, f4, t1, t4, q⟩ := h
  refine ⟨_, (pss_cons (ps_if (PW.pt (pw_or (pt_not (pt_val (pe_call G_are_letters (hr.mono (by omega)) (by rfl) T.m_are_letters T.F_are_letters.kp T.b_are_letters .nil pass0 (pa_cons (pv 0) pa_nil)))) (pw_or1 (pt_not (pt_val (pe_call G_is_whole_within (hr.mono (by omega)) (by rfl) T.m_is_whole_within T.F_is_whole_within.kp T.b_is_whole_within .nil pass0 (pa_cons (pv 1) (pa_cons pe_int (pa_cons (pe_glob (v := .int (6)) rfl T.g_MOST_STATES ⟨_, rfl⟩) pa_nil))))))))) (pss_one (ps_ret pe_bl)) pss_nil) (pss_cons (ps_if (PW.pt (pw_or (pt_not (pt_val (pe_call G_is_whole_within (hr.mono (by omega)) (by rfl) T.m_is_whole_within T.F_is_whole_within.kp T.b_is_whole_within .nil pass0 (pa_cons (pv 2) (pa_cons pe_int (pa_cons (pe_glob (v := .int (4)) rfl T.g_MOST_FEW ⟨_, rfl⟩) pa_nil)))))) (pw_or1 (pt_not (pt_val (pe_call G_is_whole_within (hr.mono (by omega)) (by rfl) T.m_is_whole_within T.F_is_whole_within.kp T.b_is_whole_within .nil pass0 (pa_cons (pv 3) (pa_cons pe_int (pa_cons (pe_glob (v := .int (4)) rfl T.g_MOST_TURN ⟨_, rfl⟩) pa_nil))))))))) (pss_one (ps_ret pe_bl)) pss_nil) (pss_one (ps_ret (pe_cmpR op_le (pe_call G_tuples_due (hr.mono (by omega)) (by rfl) T.m_tuples_due T.F_tuples_due.kp T.b_tuples_due .nil pass0 (pa_cons (pv 0) (pa_cons (pv 1) (pa_cons (pe_op op_add (pv 2) (pv 3)) pa_nil)))) (pe_glob (v := .int (600)) rfl T.g_MOST_TUPLES ⟨_, rfl⟩) (nomark _)))))), ?_⟩
  refine ⟨_, rfl, L, rfl, hL, hR, fun H1 s1 => ⟨_, rfl, iteF ?_⟩⟩
  refine ⟨_, rfl, n, 1, 6, rfl, by omega, by omega, _, rfl, iteF ?_⟩
  refine ⟨_, rfl, few, 0, 4, rfl, by omega, by omega, _, rfl, iteF ?_⟩
  refine ⟨_, rfl, turn, 1, 4, rfl, by omega, by omega, _, rfl, iteF ?_⟩
  refine ⟨_, rfl, _, rfl, _, rfl, _, rfl, _, _, rfl, rfl, L, n, few + turn, rfl, hL.2.1, n6, by omega, ?_⟩
  have e : decide (((L.length * (few + turn) ^ n : Nat) : Int) ≤ 600) = decide (L.length * (few + turn) ^ n ≤ 600) := by
    by_cases h : L.length * (few + turn) ^ n ≤ 600
    · rw [decide_eq_true h, decide_eq_true (by omega)]
    · rw [decide_eq_false h, decide_eq_false (by omega)]
  have q1 := q H1 s1
  rw [← e] at q1
  exact ⟨_, _, rfl, rfl, q1⟩
end

def sp__is_key : Sp := fun vs H Q _ => ∃ (b a : Addr) (L : Str) (n k c : Nat) (row : List Nat), vs = [.ref b, .str L, nI n, nI k] ∧ H b = some (.tup [.str (ch c), .ref a]) ∧ H a = some (.tup (row.map nI)) ∧ Lets L ∧ c ∈ L.cps.toList ∧ row.length = n ∧ n ≤ 6 ∧ (∀ x ∈ row, x < k) ∧ ∀ H', Same H H' → Q (.bl true) H'
def sp__is_table (P : Program) (w : World) : Sp := fun vs H Q _ => ∃ (d : Addr) (L : Str) (n k : Nat) (xs : List NRow) (fs : Nat → List Nat → Nat), vs = [.ref d, .str L, nI n, nI k] ∧ H d = some (DictN P w d xs) ∧ RowsN H xs ∧ RowsJ xs (keysOf L n k) fs ∧ Lets L ∧ n ≤ 6 ∧ k ≤ 20 ∧ L.length * k ^ n ≤ 600 ∧ (∀ key ∈ keysOf L n k, fs key.1 key.2 < n) ∧ ∀ H', Same H H' → Q (.bl true) H'
def sp_is_judge (P : Program) (w : World) : Sp := fun vs H Q _ => ∃ (j d g : Addr) (L : Str) (n few turn : Nat) (xs : List NRow) (fs : Nat → List Nat → Nat) (good : List Nat), vs = [.ref j] ∧ H j = some (.tup [.str L, nI n, nI few, nI turn, .ref d, .ref g]) ∧ H d = some (DictN P w d xs) ∧ RowsN H xs ∧ RowsJ xs (keysOf L n (few + turn)) fs ∧ Lets L ∧ Rises L ∧ 1 ≤ n ∧ n ≤ 6 ∧ few ≤ 4 ∧ 1 ≤ turn ∧ turn ≤ 4 ∧ L.length * (few + turn) ^ n ≤ 600 ∧
  (∀ key ∈ keysOf L n (few + turn), fs key.1 key.2 < n) ∧ H g = some (.lst (good.map nI)) ∧ good.Pairwise (· < ·) ∧ good.length ≤ 100 ∧ (∀ x ∈ good, x < n) ∧ ∀ H', Same H H' → Q (.bl true) H'
section
variable {P : Program} {w : World} {K : PySem.W.Frag} {mg : Str → Option Value} {base : Heap}
theorem ok__is_key (T : Txt K mg) : FnOk P w K mg base CX0 3 T.f__is_key T.d__is_key ["thing", "letters", "states", "classes"] sp__is_key := by
  have G_is_letter : FnOk P w K mg base CX0 1 T.f_is_letter T.d_is_letter ["thing"] sp_is_letter := ok_is_letter T
  have G_is_whole_within : FnOk P w K mg base CX0 2 T.f_is_whole_within T.d_is_whole_within ["thing", "low", "high"] sp_is_whole_within := ok_is_whole_within T
  refine T.F__is_key.ok sc__is_key (fun vs H Q E h => ?_) (fun cdv A outer s H vs Q E hr h => ?_)
  · obtain ⟨b, a, L, n, k, c, row, rfl, _⟩ := h
    rfl
  obtain ⟨b, a, L, n, k, c, row, rfl, hb, ha, hL, hc, hl, h6, hk, q⟩ := h
  refine ⟨_, (pss_cons (ps_if (PW.pt (pw_or (pt_not (pt_val (pe_callB call_isi (by rfl) T.z_isinstance (by decide +kernel) (pa_cons (pv 0) (pa_cons (pe_bltn (v := .ty "tuple") (by rfl) T.z_tuple (by decide +kernel) rfl) pa_nil))))) (pw_or1 (pt_cmpR op_ne (pe_callB call_len_seq (by rfl) T.z_len PySem.boot_len (pa_cons (pv 0) pa_nil)) pe_int (nomark _))))) (pss_one (ps_ret pe_bl)) pss_nil) (pss_cons (ps_asg (pv 0) (pg_tup rfl (pgs_cons (pg_name (i := 4) sc__is_key.nd rfl (Or.inl rfl)) (pgs_cons (pg_name (i := 5) sc__is_key.nd rfl (Or.inl rfl)) pgs_nil)))) (pss_cons (ps_if (PW.pt (pw_or (pt_not (pt_val (pe_call G_is_letter (hr.mono (by omega)) (by rfl) T.m_is_letter T.F_is_letter.kp T.b_is_letter .nil pass0 (pa_cons (pv 4) pa_nil)))) (pw_or1 (pt_cmpR op_notInS (pv 4) (pv 1) (by rfl))))) (pss_one (ps_ret pe_bl)) pss_nil) (pss_cons (ps_if (PW.pt (pw_or (pt_not (pt_val (pe_callB call_isi (by rfl) T.z_isinstance (by decide +kernel) (pa_cons (pv 5) (pa_cons (pe_bltn (v := .ty "tuple") (by rfl) T.z_tuple (by decide +kernel) rfl) pa_nil))))) (pw_or1 (pt_cmpR op_ne (pe_callB call_len_seq (by rfl) T.z_len PySem.boot_len (pa_cons (pv 5) pa_nil)) (pv 2) (nomark _))))) (pss_one (ps_ret pe_bl)) pss_nil) (pss_one (ps_ret (pe_callB (cr_all rfl) (by rfl) T.z_all (by decide +kernel) (pa_cons (pe_lc (own := [("number", 6)]) (g := gName 6) (tt := tYes) rfl sc__is_key.nd (pi_tup (pv 5)) (blkOk_by (own := [("number", 6)]) (N := ["thing", "letters", "states", "classes", "letter", "row", "number"]) (sc := (defScope s__is_key)) (by decide +kernel)) (fun _ _ _ _ _ => (pg_name (i := 6) sc__is_key.nd rfl (Or.inl rfl))) (fun _ _ _ _ _ => pts_nil) (fun _ _ _ _ _ => (pe_call G_is_whole_within (hr.mono (by omega)) (by rfl) T.m_is_whole_within T.F_is_whole_within.kp T.b_is_whole_within .nil pass0 (pa_cons (pv 6) (pa_cons pe_int (pa_cons (pe_op op_sub (pv 3) pe_int) pa_nil)))))) pa_nil)))))))), ?_⟩
  have hm := hL.2.2 c hc
  refine ⟨_, rfl, _, _, _, _, true, rfl, .ty "tuple", .base (.tup hb), kit_ty (by decide +kernel), _, rfl, iteF ?_⟩
  refine ⟨_, rfl, b, _, rfl, .inr (SqT.of hb), rfl, _, rfl, neS rfl ?_⟩
  refine ⟨_, rfl, b, _, rfl, SqT.of hb, rfl, _, _, rfl, _, _, rfl, rfl, ?_⟩
  refine ⟨_, rfl, c, rfl, hm.1, hm.2, _, rfl, iteF ?_⟩
  refine ⟨_, rfl, _, rfl, c, L, rfl, rfl, _, rfl, ?_⟩
  rw [decide_eq_true hc]
  refine iteF ?_
  refine ⟨_, rfl, _, _, _, _, true, rfl, .ty "tuple", .base (.tup ha), kit_ty (by decide +kernel), _, rfl, iteF ?_⟩
  refine ⟨_, rfl, a, _, rfl, .inr (SqT.of ha), _, rfl, rfl, _, rfl, neS (by rw [List.length_map, hl]) ?_⟩
  refine ⟨_, rfl, a, rfl, ⟨_, SqT.of ha⟩, fun D hD => ?_⟩
  refine lc_tup (xs := row.map nI) (fun i H2 => H2 D = some (.lst ((List.replicate i true).map V.bl)) ∧ Same H H2) ⟨upd_same, same_new hD⟩ (fun i H2 _ ⟨_, s⟩ => SqT.of (s _ _ ha)) ?_ ?_
  · rintro i x H2 hx ⟨g1, g2⟩
    rw [List.getElem?_map] at hx
    cases hz : row[i]? with
    | none => rw [hz] at hx; cases hx
    | some z =>
    rw [hz] at hx
    cases hx
    have hk1 := hk z (List.mem_of_getElem? hz)
    have hi := (List.getElem?_eq_some_iff.mp hz).1
    refine ⟨rfl, _, rfl, _, rfl, _, _, rfl, rfl, z, 0, k - 1, rfl, by omega, by omega, _, g1, ?_, ?_, same_add g2 hD⟩
    · rw [List.length_map, List.length_replicate]
      exact Nat.lt_of_le_of_lt (show _ ≤ 1000000 by omega) (by decide)
    · rw [upd_same, rep_succ, List.map_append]
      rfl
  · rintro H2 ⟨g1, g2⟩
    refine ⟨D, _, rfl, SqL.of g1, ?_⟩
    rw [all_rep]
    exact q H2 g2
theorem ok__is_table (T : Txt K mg) : FnOk P w K mg base CX0 4 T.f__is_table T.d__is_table ["thing", "letters", "states", "classes"] (sp__is_table P w) := by
  have G_tuples_due : FnOk P w K mg base CX0 1 T.f_tuples_due T.d_tuples_due ["letters", "states", "classes"] sp_tuples_due := ok_tuples_due T
  have G__is_key : FnOk P w K mg base CX0 3 T.f__is_key T.d__is_key ["thing", "letters", "states", "classes"] sp__is_key := ok__is_key T
  have G_is_whole_within : FnOk P w K mg base CX0 2 T.f_is_whole_within T.d_is_whole_within ["thing", "low", "high"] sp_is_whole_within := ok_is_whole_within T
  refine T.F__is_table.ok sc__is_table (fun vs H Q E h => ?_) (fun cdv A outer s H vs Q E hr h => ?_)
  · obtain ⟨d, L, n, k, xs, fs, rfl, _⟩ := h
    rfl
  obtain ⟨d, L, n, k, xs, fs, rfl, hd, hrn, hrj, hL, h6, k20, h600, hfs, q⟩ := h
  refine ⟨_, (pss_cons (ps_if (PW.pt (pw_or (pt_not (pt_val (pe_callB call_isN (by rfl) T.z_isinstance (by decide +kernel) (pa_cons (pv 0) (pa_cons (pe_bltn (v := .ty "dict") (by rfl) T.z_dict (by decide +kernel) rfl) pa_nil))))) (pw_or1 (pt_cmpR op_ne (pe_callB call_lenN (by rfl) T.z_len PySem.boot_len (pa_cons (pv 0) pa_nil)) (pe_call G_tuples_due (hr.mono (by omega)) (by rfl) T.m_tuples_due T.F_tuples_due.kp T.b_tuples_due .nil pass0 (pa_cons (pv 1) (pa_cons (pv 2) (pa_cons (pv 3) pa_nil)))) (nomark _))))) (pss_one (ps_ret pe_bl)) pss_nil) (pss_cons (ps_lock (ps_for PassesOwn.never rfl (pi_itemsN (pv 0)) (pg_tup rfl (pgs_cons (pg_name (i := 4) sc__is_table.nd rfl (Or.inl rfl)) (pgs_cons (pg_name (i := 5) sc__is_table.nd rfl (Or.inl rfl)) pgs_nil))) (pss_one (ps_if (PW.pt (pw_or (pt_not (pt_val (pe_call G__is_key (hr.mono (by omega)) (by rfl) T.m__is_key T.F__is_key.kp T.b__is_key .nil pass0 (pa_cons (pv 4) (pa_cons (pv 1) (pa_cons (pv 2) (pa_cons (pv 3) pa_nil))))))) (pw_or1 (pt_not (pt_val (pe_call G_is_whole_within (hr.mono (by omega)) (by rfl) T.m_is_whole_within T.F_is_whole_within.kp T.b_is_whole_within .nil pass0 (pa_cons (pv 5) (pa_cons pe_int (pa_cons (pe_op op_sub (pv 2) pe_int) pa_nil))))))))) (pss_one (ps_ret pe_bl)) pss_nil)))) (pss_one (ps_ret pe_bl)))), ?_⟩
  have lk : xs.length = L.length * k ^ n := by rw [Paired.length hrj, keysOf_len]
  refine ⟨_, rfl, d, xs, _, _, true, rfl, hd, .ty "dict", kit_ty (by decide +kernel), _, rfl, iteF ?_⟩
  refine ⟨_, rfl, d, xs, rfl, hd, hrn, _, rfl, _, rfl, _, rfl, L, n, k, rfl, hL.2.1, h6, k20, rfl, _, rfl, neS (by rw [lk]) ?_⟩
  refine ⟨d, _, hd, trivial, fun od => ?_⟩
  refine ⟨_, rfl, d, od, xs, rfl, upd_same, ?_⟩
  have base0 : FrD d H (upd H d (.frz od (DictN P w d xs))) := fun b o ne e => by rw [upd_ne ne]; exact e
  refine for_it walk_itemsN (fun i σ H' => (∃ y5 y6, σ = [some (.ref d), some (.str L), some (nI n), some (nI k), y5, y6]) ∧ H' d = some (.frz od (DictN P w d xs)) ∧ FrD d H H') ⟨⟨_, _, rfl⟩, upd_same, base0⟩ (fun i σ H' _ h => h.2.1) ?_ ?_
  · rintro i x σ H2 H3 hi ⟨⟨y5, y6, rfl⟩, g1, g2⟩ ⟨p, row, hrow, rfl, hp, rfl⟩
    obtain ⟨⟨c, rw0⟩, hkey, e1, e2⟩ := prd_at hrj hrow
    have hm := List.mem_of_getElem? hkey
    obtain ⟨hc, hlen, hkk⟩ := keysOf_mem hm
    have hv : fs c rw0 < n := hfs _ hm
    obtain ⟨hn1, _⟩ := hrn row (List.mem_of_getElem? hrow)
    rw [e1] at hn1
    obtain ⟨a, kb, ka⟩ := nk_inv hn1
    have ntup : ∀ (q : Addr) (ys : List V), H q = some (.tup ys) → q ≠ d := fun q ys e z => by rw [z, hd] at e; unfold DictN at e; cases e
    have sp := same_new (o := .tup [.ref row.2.1, row.2.2]) hp
    have kp := upd_same (H := H2) (a := p) (o := .tup [.ref row.2.1, row.2.2])
    have g1' := sp _ _ g1
    generalize upd H2 p (.tup [.ref row.2.1, row.2.2]) = H4 at *
    rw [e2] at kp
    refine ⟨p, _, rfl, SqT.of kp, rfl, _, _, rfl, _, _, rfl, rfl, ?_⟩
    have G4 : FrD d H H4 := fun b o ne e => sp _ _ (g2 b o ne e)
    refine ⟨_, rfl, _, rfl, _, rfl, _, rfl, row.2.1, a, L, n, k, c, rw0, rfl, G4 _ _ (ntup _ _ kb) kb, G4 _ _ (ntup _ _ ka) ka, hL, hc, hlen, h6, hkk, fun H5 s5 => ⟨_, rfl, iteF ?_⟩⟩
    refine ⟨_, rfl, _, rfl, _, _, rfl, rfl, fs c rw0, 0, n - 1, rfl, by omega, by omega, _, rfl, iteF ?_⟩
    exact ⟨⟨_, _, rfl⟩, s5 _ _ g1', fun b o ne e => s5 _ _ (G4 b o ne e)⟩
  · rintro σ H2 ⟨⟨y5, y6, rfl⟩, g1, g2⟩
    refine ⟨g1, q _ fun b o e => ?_⟩
    by_cases hb : b = d
    · rw [hb, upd_same, ← e, hb]; exact hd.symm
    · rw [upd_ne hb]; exact g2 b o hb e
theorem ok_is_judge (T : Txt K mg) : FnOk P w K mg base CX0 5 T.f_is_judge T.d_is_judge ["thing"] (sp_is_judge P w) := by
  have G_may_have_table : FnOk P w K mg base CX0 4 T.f_may_have_table T.d_may_have_table ["letters", "states", "few", "turn"] sp_may_have_table := ok_may_have_table T
  have G__is_table : FnOk P w K mg base CX0 4 T.f__is_table T.d__is_table ["thing", "letters", "states", "classes"] (sp__is_table P w) := ok__is_table T
  have G_are_rising_states : FnOk P w K mg base CX0 3 T.f_are_rising_states T.d_are_rising_states ["thing", "states"] sp_are_rising_states := ok_are_rising_states T
  refine T.F_is_judge.ok sc_is_judge (fun vs H Q E h => ?_) (fun cdv A outer s H vs Q E hr h => ?_)
  · obtain ⟨j, d, g, L, n, few, turn, xs, fs, good, rfl, _⟩ := h
    rfl
  obtain ⟨j, d, g, L, n, few, turn, xs, fs, good, rfl, hj, hd, hrn, hrj, hL, hR, n1, n6, f4, t1, t4, h600, hfs, hg, hup, h100, hgn, q⟩ := h
  refine ⟨_, (pss_cons (ps_if (PW.pt (pw_or (pt_not (pt_val (pe_callB call_isi (by rfl) T.z_isinstance (by decide +kernel) (pa_cons (pv 0) (pa_cons (pe_bltn (v := .ty "tuple") (by rfl) T.z_tuple (by decide +kernel) rfl) pa_nil))))) (pw_or1 (pt_cmpR op_ne (pe_callB call_len_seq (by rfl) T.z_len PySem.boot_len (pa_cons (pv 0) pa_nil)) pe_int (nomark _))))) (pss_one (ps_ret pe_bl)) pss_nil) (pss_cons (ps_asg (pv 0) (pg_tup rfl (pgs_cons (pg_name (i := 1) sc_is_judge.nd rfl (Or.inl rfl)) (pgs_cons (pg_name (i := 2) sc_is_judge.nd rfl (Or.inl rfl)) (pgs_cons (pg_name (i := 3) sc_is_judge.nd rfl (Or.inl rfl)) (pgs_cons (pg_name (i := 4) sc_is_judge.nd rfl (Or.inl rfl)) (pgs_cons (pg_name (i := 5) sc_is_judge.nd rfl (Or.inl rfl)) (pgs_cons (pg_name (i := 6) sc_is_judge.nd rfl (Or.inl rfl)) pgs_nil)))))))) (pss_cons (ps_if (pt_not (pt_val (pe_call G_may_have_table (hr.mono (by omega)) (by rfl) T.m_may_have_table T.F_may_have_table.kp T.b_may_have_table .nil pass0 (pa_cons (pv 1) (pa_cons (pv 2) (pa_cons (pv 3) (pa_cons (pv 4) pa_nil))))))) (pss_one (ps_ret pe_bl)) pss_nil) (pss_one (ps_ret (pe_and (pe_call G__is_table (hr.mono (by omega)) (by rfl) T.m__is_table T.F__is_table.kp T.b__is_table .nil pass0 (pa_cons (pv 5) (pa_cons (pv 1) (pa_cons (pv 2) (pa_cons (pe_op op_add (pv 3) (pv 4)) pa_nil))))) (pe_one (pe_call G_are_rising_states (hr.mono (by omega)) (by rfl) T.m_are_rising_states T.F_are_rising_states.kp T.b_are_rising_states .nil pass0 (pa_cons (pv 6) (pa_cons (pv 2) pa_nil)))))))))), ?_⟩
  refine ⟨_, rfl, _, _, _, _, true, rfl, .ty "tuple", .base (.tup hj), kit_ty (by decide +kernel), _, rfl, iteF ?_⟩
  refine ⟨_, rfl, j, _, rfl, .inr (SqT.of hj), rfl, _, rfl, neS rfl ?_⟩
  refine ⟨_, rfl, j, _, rfl, SqT.of hj, rfl, _, _, rfl, _, _, rfl, _, _, rfl, _, _, rfl, _, _, rfl, _, _, rfl, rfl, ?_⟩
  refine ⟨_, rfl, _, rfl, _, rfl, _, rfl, L, n, few, turn, rfl, hL, hR, n1, n6, f4, t1, t4, fun H1 s1 => ?_⟩
  rw [decide_eq_true h600]
  refine ⟨_, rfl, iteF ?_⟩
  refine ⟨_, rfl, _, rfl, _, rfl, _, rfl, _, rfl, _, _, rfl, rfl, d, L, n, few + turn, xs, fs, rfl, s1 _ _ hd, hrn.keep fun b ys e => s1 _ _ e, hrj, hL, n6, by omega, h600, hfs, fun H2 s2 => ⟨_, rfl, iteT ?_⟩⟩
  have s12 := s1.trans s2
  exact ⟨_, rfl, _, rfl, g, good, n, rfl, s12 _ _ hg, hup, h100, hgn, fun H3 s3 => q H3 (s12.trans s3)⟩
end

theorem tabsN_frP {TT : List NdefX.NTab} {H H' : Hp} {P : Addr} {q : Str} (h : NdefX.TabsN TT H) (hm : (P, fun _ _ => q) ∈ TT) (hu : ∀ z ∈ TT, z.1 = P → z.2 = fun _ _ => q) (f : Fr P H H') (t : LamX.TabS H' P q) : NdefX.TabsN TT H' := fun z hz => by
  by_cases e : z.1 = P
  · rw [hu z hz e, e]
    exact NdefX.TabN.of t
  · obtain ⟨ps, h1, h2, h3⟩ := h z hz
    refine ⟨ps, f _ _ e h1, h2, fun pos cv hc => ?_⟩
    obtain ⟨c, e1, h4⟩ := h3 pos cv hc
    obtain ⟨ps0, g1, _⟩ := h _ hm
    exact ⟨c, e1, f _ _ (fun e2 => by rw [e2, g1] at h4; unfold LamX.CodeO at h4; cases h4) h4⟩
theorem extN_of_frP {H H' : Hp} {P : Addr} {TT : List NdefX.NTab} {q : Str} (h : NdefX.TabsN TT H) (hm : (P, fun _ _ => q) ∈ TT) (f : Fr P H H') : LamX.ExtN H H' := fun b o e n => f b o (fun e2 => by
  obtain ⟨ps0, g1, _⟩ := h _ hm
  rw [e2, g1] at e
  cases e
  exact n _ rfl) e
theorem lent_extN {cs : Lent} {H H' : Hp} (f : LamX.ExtN (lend H cs) H') : LentAt cs H' := fun c o e => f c _ (lend_in e) (fun ps z => by unfold CellO at z; cases z)
theorem same_lend {cs : Lent} {H H2 : Hp} (l : LentAt cs H) (s : Same (unl H cs) H2) : Same H (lend H2 cs) := fun b o e => by
  cases hb : cs.lookup b with
  | some ob => rw [lend_in hb, ← l b ob hb]; exact e
  | none => rw [lend_out hb]; exact s b o (by rw [unl_out hb]; exact e)
theorem extN_unl {cs : Lent} {H H' : Hp} (hn : Fresh cs H) (f : LamX.ExtN (lend H cs) H') : LamX.ExtN H (unl H' cs) := fun b o e n => by
  rw [unl_out (hn.out e)]
  exact f b o (lend_some hn e) n
theorem tabsN_unl {cs : Lent} {TT : List NdefX.NTab} {H H' : Hp} (hn : Fresh cs H) (h : NdefX.TabsN TT H') (l : LentAt cs H') (hcel : Cells cs) : NdefX.TabsN TT (unl H' cs) := fun z hz => by
  obtain ⟨ps, h1, h2, h3⟩ := h z hz
  refine ⟨ps, unl_keep l h1 (fun _ e => by cases e), h2, fun pos cv hc => ?_⟩
  obtain ⟨c, e, h4⟩ := h3 pos cv hc
  refine ⟨c, e, ?_⟩
  cases hb : cs.lookup c with
  | none => rw [unl_out hb]; exact h4
  | some ob =>
    obtain ⟨v, hv⟩ := hcel _ _ hb
    rw [l c ob hb] at h4
    exact absurd (Option.some.inj h4).symm (codeO_cell hv)

def clsN (few turn x : Nat) : Nat := if x < few + turn then x else few + (x - few) % turn
theorem clsN_lt {few turn : Nat} (h : 1 ≤ turn) (x : Nat) : clsN few turn x < few + turn := by
  unfold clsN
  split
  · assumption
  · have := Nat.mod_lt (x - few) (show turn > 0 by omega)
    omega
theorem clsN_low {few turn x : Nat} (h : x < few + turn) : clsN few turn x = x := by
  unfold clsN
  rw [if_pos h]
theorem clsN_few {few turn x : Nat} (h : few ≤ x) : few ≤ clsN few turn x := by
  unfold clsN
  split <;> omega
theorem clsN_dvd {few turn m : Nat} (hm : m ∣ turn) (x : Nat) : ((clsN few turn x : Nat) : Int) % (m : Int) = ((x : Nat) : Int) % (m : Int) := by
  unfold clsN
  split
  · rfl
  · obtain ⟨q, rfl⟩ := hm
    have e := Nat.div_add_mod (x - few) (m * q)
    have e2 : x = (few + (x - few) % (m * q)) + m * (q * ((x - few) / (m * q))) := by
      rw [← Nat.mul_assoc]
      omega
    have e3 : ((x : Nat) : Int) = ((few + (x - few) % (m * q) : Nat) : Int) + (m : Int) * ((q * ((x - few) / (m * q)) : Nat) : Int) := by
      rw [← Int.natCast_mul, ← Int.natCast_add, ← e2]
    rw [e3, Int.add_mul_emod_self_left]

theorem atN_rows {c : Nat} {row : List Nat} {fs : Nat → List Nat → Nat} : ∀ {xs : List NRow} {keys : List (Nat × List Nat)}, RowsJ xs keys fs → (c, row) ∈ keys → atN xs (keyN c row) = some (nI (fs c row))
  | _, _, .nil, h => by cases h
  | x :: xs, (c', row') :: keys, .cons r t, h => by
    obtain ⟨e1, e2⟩ := r
    by_cases e : (c', row') = (c, row)
    · cases e
      simp [atN, e1, e2]
    · have hm : (c, row) ∈ keys := (List.mem_cons.mp h).resolve_left fun z => e z.symm
      have ne : ¬ x.1 = keyN c row := fun z => e (by
        obtain ⟨a, b⟩ := keyN_inj (e1.symm.trans z)
        dsimp only at a b
        rw [a, b])
      have : atN (x :: xs) (keyN c row) = atN xs (keyN c row) := by simp [atN, List.find?_cons, ne]
      rw [this]
      exact atN_rows t hm


structure JD where
  L : Str
  n : Nat
  few : Nat
  turn : Nat
  fs : Nat → List Nat → Nat
  good : List Nat
def JD.keys (J : JD) : List (Nat × List Nat) := keysOf J.L J.n (J.few + J.turn)
def JD.sf (J : JD) (c : Nat) (row : List Nat) : Nat := J.fs c (row.map (clsN J.few J.turn))
structure JD.ok (J : JD) : Prop where
  L : Lets J.L
  n1 : 1 ≤ J.n
  n6 : J.n ≤ 6
  f4 : J.few ≤ 4
  t1 : 1 ≤ J.turn
  t4 : J.turn ≤ 4
  h600 : J.L.length * (J.few + J.turn) ^ J.n ≤ 600
  lt : ∀ key ∈ J.keys, J.fs key.1 key.2 < J.n
  g6 : J.good.length ≤ 6
  gn : ∀ g ∈ J.good, g < J.n
def JAt (P : Program) (w : World) (H : Hp) (v : V) (J : JD) : Prop := ∃ (j d g : Addr) (xs : List NRow) (keys : List (Nat × List Nat)), v = .ref j ∧ H j = some (.tup [.str J.L, nI J.n, nI J.few, nI J.turn, .ref d, .ref g]) ∧ H d = some (DictN P w d xs) ∧ RowsN H xs ∧ RowsJ xs keys J.fs ∧ keys.Perm J.keys ∧ H g = some (.lst (J.good.map nI))
theorem not_tbl {P : Program} {w : World} {d : Addr} {xs : List NRow} : ∀ ps, DictN P w d xs ≠ .tbl ps := fun ps z => by unfold DictN at z; cases z
theorem JAt.extN {P : Program} {w : World} {H H' : Hp} {v : V} {J : JD} (x : JAt P w H v J) (f : LamX.ExtN H H') : JAt P w H' v J := by
  obtain ⟨j, d, g, xs, keys, rfl, h1, h2, h3, h4, h5, h6⟩ := x
  exact ⟨j, d, g, xs, keys, rfl, f _ _ h1 (fun _ z => by cases z), f _ _ h2 not_tbl, h3.keep fun b ys e => f _ _ e (fun _ z => by cases z), h4, h5, f _ _ h6 (fun _ z => by cases z)⟩
theorem JAt.same {P : Program} {w : World} {H H' : Hp} {v : V} {J : JD} (x : JAt P w H v J) (f : Same H H') : JAt P w H' v J := x.extN (.of f)
theorem rowsTo_all {k : Nat} : ∀ {n : Nat} {r : List Nat}, r.length = n → (∀ x ∈ r, x < k) → r ∈ rowsTo n k
  | 0, r, h, _ => by
    rw [List.length_eq_zero_iff] at h
    subst h
    simp [rowsTo]
  | n + 1, r, h, hx => by
    obtain ⟨a, b, rfl⟩ := concat_of (l := r) (by intro z; rw [z] at h; cases h)
    rw [List.length_append, List.length_singleton] at h
    simp only [rowsTo, List.mem_flatMap, List.mem_map, List.mem_range]
    exact ⟨a, rowsTo_all (by omega) fun x hm => hx x (List.mem_append_left _ hm), b, hx b (List.mem_append_right _ (List.mem_singleton.mpr rfl)), rfl⟩
theorem keysOf_all {L : Str} {n k c : Nat} {row : List Nat} (hc : c ∈ L.cps.toList) (hl : row.length = n) (hx : ∀ x ∈ row, x < k) : (c, row) ∈ keysOf L n k :=
  List.mem_flatMap.mpr ⟨c, hc, List.mem_map.mpr ⟨row, rowsTo_all hl hx, rfl⟩⟩
theorem JD.ok.key {J : JD} (h : J.ok) {c : Nat} {row : List Nat} (hc : c ∈ J.L.cps.toList) (hl : row.length = J.n) : (c, row.map (clsN J.few J.turn)) ∈ J.keys :=
  keysOf_all hc (by rw [List.length_map, hl]) fun x hx => by
    obtain ⟨y, _, rfl⟩ := List.mem_map.mp hx
    exact clsN_lt h.t1 y
theorem JD.ok.sf_lt {J : JD} (h : J.ok) {c : Nat} {row : List Nat} (hc : c ∈ J.L.cps.toList) (hl : row.length = J.n) : J.sf c row < J.n := h.lt _ (h.key hc hl)
def NewN (H : Hp) (r : Addr) : Prop := ∀ o, H r = some o → ∃ ps, o = .tbl ps
def sp_class_of : Sp := fun vs H Q _ => ∃ x few turn : Nat, vs = [nI x, nI few, nI turn] ∧ 1 ≤ turn ∧ Q (nI (clsN few turn x)) H
def sp_state_by_numbers (P : Program) (w : World) : Sp := fun vs H Q _ => ∃ (v : V) (J : JD) (c : Nat) (b : Addr) (row : List Nat), vs = [v, .str (ch c), .ref b] ∧ JAt P w H v J ∧ J.ok ∧ c ∈ J.L.cps.toList ∧ row.length = J.n ∧ H b = some (.lst (row.map nI)) ∧ ∀ H', Same H H' → Q (nI (J.sf c row)) H'
def sp_part_states (P : Program) (w : World) (TT : List NdefX.NTab) : Sp := fun vs H Q _ => ∃ (v u : V) (J : JD) (t : Tr), vs = [v, u] ∧ JAt P w H v J ∧ J.ok ∧ TrAt (fun _ => True) H u t ∧ t.size ≤ 1000000 ∧ t.lets (fun c => c ∈ J.L.cps.toList) ∧ NdefX.TabsN TT H ∧
  ∀ r H', LamX.ExtN H H' → NdefX.TabsN TT H' → NewN H r → H' r = some (.lst ((t.post.map (St J.sf J.n)).map nI)) → Q (.ref r) H'
def sp_state_of (P : Program) (w : World) (TT : List NdefX.NTab) : Sp := fun vs H Q _ => ∃ (v u : V) (J : JD) (t : Tr), vs = [v, u] ∧ JAt P w H v J ∧ J.ok ∧ TrAt (fun _ => True) H u t ∧ t.size ≤ 1000000 ∧ t.lets (fun c => c ∈ J.L.cps.toList) ∧ NdefX.TabsN TT H ∧
  ∀ H', LamX.ExtN H H' → NdefX.TabsN TT H' → Q (nI (St J.sf J.n t)) H'
def sp_lets_by (P : Program) (w : World) (TT : List NdefX.NTab) : Sp := fun vs H Q _ => ∃ (v u : V) (J : JD) (t : Tr), vs = [v, u] ∧ JAt P w H v J ∧ J.ok ∧ TrAt (fun _ => True) H u t ∧ t.size ≤ 1000000 ∧ t.lets (fun c => c ∈ J.L.cps.toList) ∧ NdefX.TabsN TT H ∧
  ∀ H', LamX.ExtN H H' → NdefX.TabsN TT H' → Q (.bl (decide (St J.sf J.n t ∈ J.good))) H'
structure TTp {K : PySem.W.Frag} {mg : Str → Option Value} (T : Txt K mg) (TT : List NdefX.NTab) : Prop where
  s1 : (T.P_states_upward, fun _ _ => q_states_upward) ∈ TT
  s2 : ∀ z ∈ TT, z.1 = T.P_states_upward → z.2 = fun _ _ => q_states_upward
  r1 : (T.P_part_states, fun _ _ => q_part_states) ∈ TT
  r2 : ∀ z ∈ TT, z.1 = T.P_part_states → z.2 = fun _ _ => q_part_states
section
variable {P : Program} {w : World} {K : PySem.W.Frag} {mg : Str → Option Value} {base : Heap}
theorem ok_class_of (T : Txt K mg) : FnOk P w K mg base CX0 1 T.f_class_of T.d_class_of ["number", "few", "turn"] sp_class_of := by
  refine T.F_class_of.ok sc_class_of (fun vs H Q E h => ?_) (fun cdv A outer s H vs Q E hr h => ?_)
  · obtain ⟨x, few, turn, rfl, _⟩ := h
    rfl
  obtain ⟨x, few, turn, rfl, ht, q⟩ := h
  refine ⟨_, (pss_cons (ps_if (pt_cmpR op_lt (pv 0) (pe_op op_add (pv 1) (pv 2)) (nomark _)) (pss_one (ps_ret (pv 0))) pss_nil) (pss_one (ps_ret (pe_op op_add (pv 1) (pe_op op_mod (pe_op op_sub (pv 0) (pv 1)) (pv 2)))))), ?_⟩
  refine ⟨_, rfl, _, rfl, _, rfl, _, _, rfl, rfl, _, _, rfl, rfl, _, rfl, ?_⟩
  by_cases hx : x < few + turn
  · rw [clsN_low hx] at q
    exact dT (by omega) ⟨_, rfl, q⟩
  · refine dF (by omega) ⟨_, rfl, _, rfl, _, rfl, _, _, rfl, rfl, _, rfl, _, _, rfl, rfl, by omega, _, _, rfl, rfl, ?_⟩
    have e : (few : Int) + ((x : Int) - (few : Int)) % (turn : Int) = ((clsN few turn x : Nat) : Int) := by
      unfold clsN
      rw [if_neg hx]
      have : ((x : Int) - (few : Int)) = ((x - few : Nat) : Int) := by omega
      rw [this]
      push_cast
      rfl
    show Q (V.int ((few : Int) + ((x : Int) - (few : Int)) % (turn : Int))) H
    rw [e]
    exact q
theorem ok_state_by_numbers (T : Txt K mg) : FnOk P w K mg base CX0 2 T.f_state_by_numbers T.d_state_by_numbers ["judge", "letter", "numbers"] (sp_state_by_numbers P w) := by
  have G_class_of : FnOk P w K mg base CX0 1 T.f_class_of T.d_class_of ["number", "few", "turn"] sp_class_of := ok_class_of T
  refine T.F_state_by_numbers.ok sc_state_by_numbers (fun vs H Q E h => ?_) (fun cdv A outer s H vs Q E hr h => ?_)
  · obtain ⟨v, J, c, b, row, rfl, _⟩ := h
    rfl
  obtain ⟨v, J, c, b, row, rfl, hJ, hok, hc, hl, hb, q⟩ := h
  refine ⟨_, (pss_cons (ps_setLc (i := 3) (own := [("number", 4)]) (g := gName 4) (te := tCall sp_class_of [] E0 (tCons (tVar 4) (tCons (tOp (rIxT K) (tVar 0) (tC (.int 2))) (tCons (tOp (rIxT K) (tVar 0) (tC (.int 3))) tNil)))) (tt := tYes) rfl sc_state_by_numbers.nd rfl rfl (sw_true rfl rfl rfl (by decide +kernel)) (pi_list (pv 2)) (blkOk_by (own := [("number", 4)]) (N := ["judge", "letter", "numbers", "row", "number"]) (sc := (defScope s_state_by_numbers)) (by decide +kernel)) (fun _ _ _ _ _ => (pg_name (i := 4) sc_state_by_numbers.nd rfl (Or.inl rfl))) (fun _ _ _ _ _ => pts_nil) (fun _ _ _ _ _ => (pe_call G_class_of (hr.mono (by omega)) (by rfl) T.m_class_of T.F_class_of.kp T.b_class_of .nil pass0 (pa_cons (pv 4) (pa_cons (pe_ix ix_tup (pv 0) pe_int (fun _ _ => rfl)) (pa_cons (pe_ix ix_tup (pv 0) pe_int (fun _ _ => rfl)) pa_nil)))))) (pss_one (ps_ret (pe_dgetN (roomN hr) (pe_ix ix_tup (pv 0) pe_int (fun _ _ => rfl)) (pe_tup (pa_cons (pv 1) (pa_cons (pe_callTy call_tuple_of (by rfl) T.z_tuple (by decide +kernel) (pa_cons (pv 3) pa_nil)) pa_nil))) (fun _ _ => rfl))))), ?_⟩
  have hkey := hok.key hc hl
  have l6 : row.length ≤ 6 := by rw [hl]; exact hok.n6
  obtain ⟨j, d, g, xs, keys, rfl, hj, hd, hrn, hrj, hper, hg⟩ := hJ
  have hat := atN_rows hrj (hper.mem_iff.mpr hkey)
  refine ⟨_, rfl, b, rfl, ⟨_, SqL.of hb⟩, fun D hD => ?_⟩
  refine lc_list (xs := row.map nI) (fun i H2 => H2 D = some (.lst (((row.take i).map (clsN J.few J.turn)).map nI)) ∧ Same H H2) ⟨upd_same, same_new hD⟩ (fun i H2 _ ⟨_, s⟩ => SqL.of (s _ _ hb)) ?_ ?_
  · rintro i x H2 hx ⟨g1, g2⟩
    rw [List.getElem?_map] at hx
    cases hz : row[i]? with
    | none => rw [hz] at hx; cases hx
    | some z =>
    rw [hz] at hx
    cases hx
    refine ⟨rfl, _, rfl, _, rfl, j, _, 2, _, rfl, rfl, SqT.of (g2 _ _ hj), atI_nat (j := 2) rfl, _, rfl, j, _, 3, _, rfl, rfl, SqT.of (g2 _ _ hj), atI_nat (j := 3) rfl, z, J.few, J.turn, rfl, hok.t1, _, g1, ?_, ?_, same_add g2 hD⟩
    · rw [List.length_map, List.length_map, List.length_take]
      exact Nat.lt_of_le_of_lt (show _ ≤ 1000000 by omega) (by decide)
    · rw [upd_same, take_succ_of hz, List.map_append, List.map_append]
      rfl
  · rintro H2 ⟨g1, g2⟩
    rw [List.length_map, List.take_length] at g1
    refine ⟨_, rfl, j, _, 4, .ref d, rfl, rfl, SqT.of (g2 _ _ hj), atI_nat (j := 4) rfl, _, rfl, _, rfl, D, _, rfl, .inl ⟨SqL.of g1, fun t ht => ?_⟩⟩
    have s3 := same_new ht (o := .tup ((row.map (clsN J.few J.turn)).map nI))
    have k3 := upd_same (H := H2) (a := t) (o := .tup ((row.map (clsN J.few J.turn)).map nI))
    generalize upd H2 t (.tup ((row.map (clsN J.few J.turn)).map nI)) = H3 at *
    refine ⟨(by show 2 ≤ sizeLine; decide), fun b2 hb2 => ?_⟩
    have s4 := same_new hb2 (o := .tup [.str (ch c), .ref t])
    have k4 := upd_same (H := H3) (a := b2) (o := .tup [.str (ch c), .ref t])
    generalize upd H3 b2 (.tup [.str (ch c), .ref t]) = H4 at *
    have S := (g2.trans s3).trans s4
    exact ⟨d, b2, xs, keyN c (row.map (clsN J.few J.turn)), _, rfl, rfl, S _ _ hd, hrn.keep fun b ys e => S _ _ e, nk_key k4 (s4 _ _ k3), keyN_depth _ _, hat, q H4 S⟩
def sp_judge_lam (P : Program) (w : World) (J : JD) (v : V) : Sp := fun vs H Q _ => ∃ (c : Nat) (b : Addr) (cs : List Nat), vs = [.str (ch c), .ref b] ∧ c ∈ J.L.cps.toList ∧ cs.length = J.n ∧ H b = some (.lst (cs.map nI)) ∧ JAt P w H v J ∧ ∀ H', Same H H' → Q (nI (J.sf c cs)) H'
theorem ok_part_states (T : Txt K mg) (B : Tbs T base) {TT : List NdefX.NTab} (hTT : TTp T TT) : FnOk P w K mg base CX0 15 T.f_part_states T.d_part_states ["judge", "tree"] (sp_part_states P w TT) := by
  have G_states_upward : FnOk P w K mg base CX0 14 T.f_states_upward T.d_states_upward ["tree", "letters", "states", "state_at"] (sp_states_upward P w K mg base TT) := ok_states_upward T B TT hTT.s1 hTT.s2
  refine okC T.F_part_states T.h_part_states sc_part_states (fun vs H Q E h => ?_) (fun A outer s H vs Q E hr h => ?_)
  · obtain ⟨v, u, J, t, rfl, _⟩ := h
    rfl
  obtain ⟨v, u, J, t, rfl, hJ, hok, ht, hz, hL, hT, q⟩ := h
  refine ⟨_, (pss_one (ps_ret (pe_callLd G_states_upward (hr.mono (by omega)) (by rfl) T.m_states_upward T.F_states_upward.kp T.b_states_upward (fun _ => rfl) (pa_cons (pv 1) (pa_cons (pe_ix ix_tup (pv 0) pe_int (fun _ _ => rfl)) (pa_cons (pe_ix ix_tup (pv 0) pe_int (fun _ _ => rfl)) (pa_cons (pe_lamXc B.tb_part_states rfl (by rfl) (fr := ["judge"]) (by show NdefX.ndefB (defScope s_part_states) _ _ = true; decide +kernel)) pa_nil))))))), ?_⟩
  have hJ0 := hJ
  obtain ⟨j, d, g, xs, keys, rfl, hj, hd, hrn, hrj, hper, hg⟩ := hJ0
  refine ⟨_, rfl, _, rfl, j, _, 0, _, rfl, rfl, SqT.of hj, atI_nat (j := 0) rfl, _, rfl, j, _, 1, _, rfl, rfl, SqT.of hj, atI_nat (j := 1) rfl, NdefX.TabN.to (hT _ hTT.r1), fun f c H1 f1 n1 T1 hf0 hf hc cs hcs => ?_⟩
  have hnew := hcs.new
  have E1 : LamX.ExtN H H1 := extN_of_frP hT hTT.r1 f1
  have TN1 : NdefX.TabsN TT H1 := tabsN_frP hT hTT.r1 hTT.r2 f1 T1
  have hJ1 := hJ.extN E1
  refine ⟨u, t, J.L, J.n, f, J.sf, rfl, (ht.extN1 E1).same (lend_same hnew), hz, hL, Nat.le_trans hok.n6 (by decide), TN1.ext (fun b o e => lend_some hnew e), ?_, fun r H2 e2 T2 hr0 hr2 => ⟨lent_extN e2, ?_⟩⟩
  · refine CalX.imp2 (k := 9 + 1) (calX_lamC (k := 9) (N := ["letter", "numbers", "judge"]) (ps := ["letter", "numbers"]) (f := f) (F := _) (sp := sp_judge_lam P w J (.ref j)) (NdefX.nscope_by (by dsimp only; decide +kernel)) (hcs.got _ ["judge"] [0] (by show NdefX.ndefB (defScope s_part_states) _ _ = true; decide +kernel) rfl) hcs.cel (fun pm ctv us hl => match us, hl with | [_, _], _ => rfl) (fun vs H Q E h => ?_) (fun A outer s H vs Q E hr h => ?_)) (Nat.le_refl _) (fun vs H Q E h => ?_) (fun H' e => ⟨e _ _ (lend_some hnew hf) (fun ps z => by unfold LamO at z; cases z), e _ _ (lend_some hnew hc) (fun ps z => by unfold LamX.CodeO at z; cases z), lent_extN e⟩) (fun vs H' Q E e h => ?_)
    · obtain ⟨c, b, cs, rfl, _⟩ := h
      rfl
    · obtain ⟨c, b, cs, rfl, hc, hl, hb, hJ', qq⟩ := h
      have G_state_by_numbers : FnOk P w K mg base CX0 2 T.f_state_by_numbers T.d_state_by_numbers ["judge", "letter", "numbers"] (sp_state_by_numbers P w) := ok_state_by_numbers T
      refine ⟨_, (pe_call G_state_by_numbers (hr.mono (by omega)) (by rfl) T.m_state_by_numbers T.F_state_by_numbers.kp T.b_state_by_numbers .nil pass0 (pa_cons (pv 2) (pa_cons (pv 0) (pa_cons (pv 1) pa_nil)))), ?_⟩
      exact ⟨_, rfl, _, rfl, _, rfl, _, J, c, b, cs, rfl, hJ', hok, hc, hl, hb, fun H2 s2 => qq H2 s2⟩
    · obtain ⟨c, b, cs, rfl, _⟩ := h
      rfl
    · obtain ⟨c, b, ds, rfl, hc', hl, _, hb, qq⟩ := h
      have lt := lent_extN e
      exact ⟨c, b, ds, rfl, hc', hl, unl_keep lt hb (fun _ z => by cases z), hJ1.extN (extN_unl hnew e), fun H2 s2 => qq _ (same_lend lt s2)⟩
  · have lt := lent_extN e2
    have hr3 := unl_keep lt hr2 (fun _ z => by cases z)
    refine q r _ (E1.trans (extN_unl hnew e2)) (tabsN_unl hnew T2 lt hcs.cel) (fun o hh => Classical.byContradiction fun ht => ?_) hr3
    have := E1 _ _ hh fun ps z => ht ⟨ps, z⟩
    rw [lend_some hnew this] at hr0
    cases hr0
theorem ok_state_of (T : Txt K mg) (B : Tbs T base) {TT : List NdefX.NTab} (hTT : TTp T TT) : FnOk P w K mg base CX0 16 T.f_state_of T.d_state_of ["judge", "tree"] (sp_state_of P w TT) := by
  have G_part_states : FnOk P w K mg base CX0 15 T.f_part_states T.d_part_states ["judge", "tree"] (sp_part_states P w TT) := ok_part_states T B hTT
  refine T.F_state_of.ok sc_state_of (fun vs H Q E h => ?_) (fun cdv A outer s H vs Q E hr h => ?_)
  · obtain ⟨v, u, J, t, rfl, _⟩ := h
    rfl
  obtain ⟨v, u, J, t, rfl, hJ, hok, ht, hz, hL, hT, q⟩ := h
  refine ⟨_, (pss_one (ps_ret (pe_ix ix_list (pe_call G_part_states (hr.mono (by omega)) (by rfl) T.m_part_states T.F_part_states.kp T.b_part_states .nil pass0 (pa_cons (pv 0) (pa_cons (pv 1) pa_nil))) (pe_un un_neg pe_int) (fun _ _ => rfl)))), ?_⟩
  refine ⟨_, rfl, _, rfl, v, u, J, t, rfl, hJ, hok, ht, hz, hL, hT, fun r H2 e2 T2 hr0 hr2 => ?_⟩
  obtain ⟨l, hl⟩ := post_last t
  rw [hl, List.map_append, List.map_append] at hr2
  exact ⟨1, rfl, r, _, -1, _, rfl, rfl, SqL.of hr2, atI_last _ _, q _ e2 T2⟩
theorem ok_lets_by (T : Txt K mg) (B : Tbs T base) {TT : List NdefX.NTab} (hTT : TTp T TT) : FnOk P w K mg base CX0 17 T.f_lets_by T.d_lets_by ["judge", "tree"] (sp_lets_by P w TT) := by
  have G_state_of : FnOk P w K mg base CX0 16 T.f_state_of T.d_state_of ["judge", "tree"] (sp_state_of P w TT) := ok_state_of T B hTT
  refine T.F_lets_by.ok sc_lets_by (fun vs H Q E h => ?_) (fun cdv A outer s H vs Q E hr h => ?_)
  · obtain ⟨v, u, J, t, rfl, _⟩ := h
    rfl
  obtain ⟨v, u, J, t, rfl, hJ, hok, ht, hz, hL, hT, q⟩ := h
  refine ⟨_, (pss_one (ps_ret (pe_cmpR op_in_seq (pe_call G_state_of (hr.mono (by omega)) (by rfl) T.m_state_of T.F_state_of.kp T.b_state_of .nil pass0 (pa_cons (pv 0) (pa_cons (pv 1) pa_nil))) (pe_ix ix_tup (pv 0) pe_int (fun _ _ => rfl)) (by rfl)))), ?_⟩
  refine ⟨_, rfl, _, rfl, v, u, J, t, rfl, hJ, hok, ht, hz, hL, hT, fun H2 e2 T2 => ?_⟩
  obtain ⟨j, d, g, xs, keys, rfl, hj, hd, hrn, hrj, hper, hg⟩ := hJ.extN e2
  exact ⟨_, rfl, j, _, 5, _, rfl, rfl, SqT.of hj, atI_nat (j := 5) rfl, g, _, rfl, .inl (SqL.of hg), rfl, flat_nI _, by rw [if_neg (by decide), inV_nI]; exact q H2 e2 T2⟩
end

theorem depth_pos1 : ∀ t : Tr, 1 ≤ t.depth
  | .node c ks => by simp only [Tr.depth]; omega
theorem cnts_len (n : Nat) (xs : List Nat) : (cnts n xs).length = n := by unfold cnts; rw [List.length_map, List.length_range]
theorem cnts_nil (n : Nat) : cnts n [] = List.replicate n 0 := by
  unfold cnts
  refine List.ext_getElem (by simp) fun i h1 h2 => by simp
theorem cnts_at {n s : Nat} (xs : List Nat) (h : s < n) : (cnts n xs)[s]? = some (xs.count s) := by
  unfold cnts
  rw [List.getElem?_map, List.getElem?_range h]
  rfl
theorem cnts_set {n s : Nat} (xs : List Nat) (h : s < n) : (cnts n xs).set s (xs.count s + 1) = cnts n (xs ++ [s]) := by
  refine List.ext_getElem? fun j => ?_
  rw [List.getElem?_set]
  by_cases hj : j < n
  · rw [cnts_at _ hj]
    by_cases e : s = j
    · subst e
      rw [if_pos rfl, if_pos (by rw [cnts_len]; exact hj), cnts_at _ hj, List.count_append]
      simp
    · rw [if_neg e, cnts_at _ hj, List.count_append, List.count_singleton]
      have : (s == j) = false := by simpa using e
      simp [this]
  · have o1 : (cnts n xs)[j]? = none := List.getElem?_eq_none (by rw [cnts_len]; omega)
    have o2 : (cnts n (xs ++ [s]))[j]? = none := List.getElem?_eq_none (by rw [cnts_len]; omega)
    rw [o1, o2]
    split
    · rw [if_neg (by rw [cnts_len]; omega)]
    · rfl
theorem set_nI {xs : List Nat} {i x : Nat} : (xs.map nI).set i (nI x) = (xs.set i x).map nI := by
  rw [List.map_set]

theorem St_ltJ {J : JD} (hok : J.ok) : ∀ t : Tr, t.lets (fun c => c ∈ J.L.cps.toList) → St J.sf J.n t < J.n
  | .node c ks, h => by
    simp only [Tr.lets] at h
    simp only [St]
    exact hok.sf_lt h.1 (cnts_len _ _)

section
variable {ok : Addr → Prop} {H H' : Hp}
theorem DtAll.take : ∀ {vs : List V} {ds : List PyData} (n : Nat), DtAll ok H vs ds → DtAll ok H (vs.take n) (ds.take n)
  | _, _, 0, _ => .nil
  | _, _, n + 1, .nil => .nil
  | _, _, n + 1, .cons a b => .cons a (DtAll.take n b)
theorem DtAll.drop : ∀ {vs : List V} {ds : List PyData} (n : Nat), DtAll ok H vs ds → DtAll ok H (vs.drop n) (ds.drop n)
  | _, _, 0, h => h
  | _, _, n + 1, .nil => .nil
  | _, _, n + 1, .cons a b => DtAll.drop n b
theorem DtAll.app : ∀ {vs us : List V} {ds es : List PyData}, DtAll ok H vs ds → DtAll ok H us es → DtAll ok H (vs ++ us) (ds ++ es)
  | _, _, _, _, .nil, y => y
  | _, _, _, _, .cons a b, y => .cons a (DtAll.app b y)
theorem DtAll.at {vs : List V} {ds : List PyData} {r : Int} (h : DtAll ok H vs ds) (h0 : 0 ≤ r) (h1 : r < ds.length) : ∃ v d, atI vs r = some v ∧ ds[r.toNat]? = some d ∧ Dt ok H v d := by
  have hl := h.len
  have hn : r.toNat < vs.length := by omega
  obtain ⟨d, hd, hv⟩ := h.getV (List.getElem?_eq_getElem hn)
  exact ⟨_, d, at_of (j := r.toNat) (by omega) (List.getElem?_eq_getElem hn), hd, hv⟩
end
theorem cut_hi {xs : List V} {k : Nat} (h : k ≤ xs.length) : cutV xs none (some (k : Int)) = xs.take k := by
  unfold cutV
  rw [HT.sIx_none, HT.sIx_nat, List.drop_zero, Nat.sub_zero, Nat.min_eq_left h]
theorem cut_lo {xs : List V} {k : Nat} (h : k ≤ xs.length) : cutV xs (some (k : Int)) none = xs.drop k := by
  unfold cutV
  rw [HT.sIx_nat, HT.sIx_none, Nat.min_eq_left h, List.take_of_length_le (by rw [List.length_drop]; omega)]
theorem cut_m1 {xs : List V} : cutV xs none (some (-1)) = xs.take (xs.length - 1) := by
  have h : HT.sIx xs.length xs.length (some (-1)) = xs.length - 1 := by
    show (if (-1 : Int) < 0 then ((-1 : Int) + (xs.length : Int)).toNat else min (-1 : Int).toNat xs.length) = xs.length - 1
    rw [if_pos (by decide)]
    omega
  unfold cutV
  rw [HT.sIx_none, h, List.drop_zero, Nat.sub_zero]
theorem cut_whole {xs : List V} {lo hi : Option Int} (h : HT.sIx xs.length 0 lo = 0 ∧ HT.sIx xs.length xs.length hi = xs.length) : cutV xs lo hi = xs := by
  unfold cutV
  rw [h.1, h.2, List.drop_zero, Nat.sub_zero, List.take_length]
theorem slA {K : PySem.W.Frag} {H : Hp} {a : Addr} {xs : List V} {lo hi : Option Int} {Q : VK} (hx : H a = some (.tup xs))
    (q : ∀ t H', Same H H' → H' t = some (.tup (cutV xs lo hi)) → (t = a ∨ H t = none) → Q (.ref t) H') : rSlA K (.ref a) lo hi H Q :=
  ⟨a, xs, rfl, SqT.of hx, fun hw => q a H (Same.refl _) (by rw [cut_whole hw]; exact hx) (.inl rfl), fun _ p hp => q p _ (same_new hp) upd_same (.inr hp)⟩
theorem catA {K : PySem.W.Frag} {H : Hp} {a b : Addr} {xs ys : List V} {Q : VK} (ha : H a = some (.tup xs)) (hb : H b = some (.tup ys)) (hz : xs.length + ys.length ≤ 3000)
    (q : ∀ t H', Same H H' → H' t = some (.tup (xs ++ ys)) → (t = a ∨ t = b ∨ H t = none) → Q (.ref t) H') : rCatA K (.ref a) (.ref b) H Q :=
  ⟨a, b, xs, ys, rfl, rfl, SqT.of ha, SqT.of hb, Nat.le_trans hz (by decide), fun e => q b H (Same.refl _) (by rw [e]; exact hb) (.inr (.inl rfl)), fun _ e => q a H (Same.refl _) (by rw [e, List.append_nil]; exact ha) (.inl rfl),
    fun _ _ p hp => q p _ (same_new hp) upd_same (.inr (.inr hp))⟩


def sp__law_tuples : Sp := fun vs H Q _ => ∃ (L : Str) (n k : Nat), vs = [.str L, nI n, nI k] ∧ Lets L ∧ n ≤ 6 ∧ 1 ≤ k ∧ k ≤ 20 ∧ L.length * k ^ n ≤ 600 ∧ ∀ r bs H', Same H H' → H r = none → H' r = some (.lst (bs.map V.ref)) → KeysAt H' bs (keysOf L n k) → Q (.ref r) H'
section
variable {P : Program} {w : World} {K : PySem.W.Frag} {mg : Str → Option Value} {base : Heap}
theorem ok__law_tuples (T : Txt K mg) : FnOk P w K mg base CX0 1 T.f__law_tuples T.d__law_tuples ["letters", "states", "classes"] sp__law_tuples := by
  refine T.F__law_tuples.ok sc__law_tuples (fun vs H Q E h => ?_) (fun cdv A outer s H vs Q E hr h => ?_)
  · obtain ⟨L, n, k, rfl, _⟩ := h
    rfl
  obtain ⟨L, n, k, rfl, hL, n6, k1, k20, hz, q⟩ := h
  refine ⟨_, (pss_cons (ps_set (i := 3) sc__law_tuples.nd rfl (Or.inl rfl) (pe_lst (pa_cons (pe_tup pa_nil) pa_nil))) (pss_cons (ps_for PassesOwn.never rfl (pi_range1 (by rfl) T.z_range (pa_cons (pv 1) pa_nil)) (pg_name (i := 4) sc__law_tuples.nd rfl (Or.inl rfl)) (pss_cons (ps_set (i := 5) sc__law_tuples.nd rfl (Or.inl rfl) (pe_lst pa_nil)) (pss_cons (ps_for PassesOwn.never rfl (pi_list (pv 3)) (pg_name (i := 6) sc__law_tuples.nd rfl (Or.inr rfl)) (pss_one (ps_expr (pe_bm PySem.F.plainAttrs_list PySem.F.slot_list_extend PySem.F.type_list_extend mt_extend (pv 5) (pa_cons (pe_lc (own := [("one", 9)]) (g := gName 9) (te := tOp (rCatA K) (tVar 6) (tTup (tCons (tVar 9) tNil))) (tt := tYes) rfl sc__law_tuples.nd (pi_range1 (by rfl) T.z_range (pa_cons (pv 2) pa_nil)) (blkOk_by (own := [("one", 9)]) (N := ["letters", "states", "classes", "rows", "turn", "longer", "row", "found", "letter", "one"]) (sc := (defScope s__law_tuples)) (by decide +kernel)) (fun _ _ _ _ _ => (pg_name (i := 9) sc__law_tuples.nd rfl (Or.inl rfl))) (fun _ _ _ _ _ => pts_nil) (fun _ _ _ _ _ => (pe_op op_catA (pv 6) (pe_tup (pa_cons (pv 9) pa_nil))))) pa_nil))))) (pss_one (ps_set (i := 3) sc__law_tuples.nd rfl (Or.inl rfl) (pv 5)))))) (pss_cons (ps_set (i := 7) sc__law_tuples.nd rfl (Or.inl rfl) (pe_lst pa_nil)) (pss_cons (ps_for PassesOwn.never rfl (pi_str (pv 0)) (pg_name (i := 8) sc__law_tuples.nd rfl (Or.inr rfl)) (pss_one (ps_expr (pe_bm PySem.F.plainAttrs_list PySem.F.slot_list_extend PySem.F.type_list_extend mt_extend (pv 7) (pa_cons (pe_lc (own := [("row", 6)]) (g := gName 6) (te := tTup (tCons (tVar 8) (tCons (tVar 6) tNil))) (tt := tYes) rfl sc__law_tuples.nd (pi_list (pv 3)) (blkOk_by (own := [("row", 6)]) (N := ["letters", "states", "classes", "rows", "turn", "longer", "row", "found", "letter", "one"]) (sc := (defScope s__law_tuples)) (by decide +kernel)) (fun _ _ _ _ _ => (pg_name (i := 6) sc__law_tuples.nd rfl (Or.inl rfl))) (fun _ _ _ _ _ => pts_nil) (fun _ _ _ _ _ => (pe_tup (pa_cons (pv 8) (pa_cons (pv 6) pa_nil))))) pa_nil))))) (pss_one (ps_ret (pv 7))))))), ?_⟩
  have l1 := hL.1
  have h600 : k ^ n ≤ 600 := Nat.le_trans (Nat.le_mul_of_pos_left _ l1) hz
  refine ⟨(by show 0 ≤ sizeLine; decide), fun p0 hp0 => ⟨(by show 1 ≤ sizeLine; decide), fun r0 hr0 => ?_⟩⟩
  have s0 := (same_new (o := .tup []) hp0).trans (same_new (o := .lst [V.ref p0]) hr0)
  have kp0 := same_new (o := .lst [V.ref p0]) hr0 _ _ (upd_same (H := H) (a := p0) (o := .tup []))
  have kr0 := upd_same (H := upd H p0 (.tup [])) (a := r0) (o := .lst [V.ref p0])
  have nr0 : H r0 = none := (same_new (o := .tup []) hp0).free hr0
  generalize upd (upd H p0 (.tup [])) r0 (.lst [V.ref p0]) = H2 at *
  refine ⟨_, rfl, n, rfl, by omega, by omega, for_range (lo := 0) (n := n) (fun i σ H' => ∃ (r : Addr) (as : List Addr) (y4 y5 y6 : Option V), σ = [some (.str L), some (nI n), some (nI k), some (.ref r), y4, y5, y6, none, none, none] ∧ H' r = some (.lst (as.map V.ref)) ∧ RowsAt H' as (rowsTo i k) ∧ Same H H' ∧ H r = none) ⟨r0, [p0], none, none, none, rfl, kr0, .cons kp0 .nil, s0, nr0⟩ ?_ ?_⟩
  · rintro i σ H3 hi ⟨r, as, y4, y5, y6, rfl, hr3, ha3, s3, nr⟩
    have la : as.length = k ^ i := by rw [Paired.length ha3, rowsTo_len]
    have pw : k ^ i ≤ 600 := Nat.le_trans (Nat.pow_le_pow_right k1 (by omega)) h600
    refine ⟨(by show 0 ≤ sizeLine; decide), fun f0 hf0 => ?_⟩
    have s4 := same_new (o := .lst []) hf0
    have kf0 := upd_same (H := H3) (a := f0) (o := .lst [])
    generalize upd H3 f0 (.lst []) = H4 at *
    refine ⟨_, rfl, r, rfl, ⟨_, SqL.of (s4 _ _ hr3)⟩, for_list (xs := as.map V.ref) (fun j σ H' => ∃ (bs : List Addr) (y6 : Option V), σ = [some (.str L), some (nI n), some (nI k), some (.ref r), some (.int (0 + i)), some (.ref f0), y6, none, none, none] ∧ H' f0 = some (.lst (bs.map V.ref)) ∧ RowsAt H' bs (((rowsTo i k).take j).flatMap fun r => (List.range k).map fun x => r ++ [x]) ∧ Same H3 H') ⟨[], _, rfl, kf0, .nil, s4⟩ (fun j σ H' _ ⟨_, _, _, _, _, s5⟩ => SqL.of (s5 _ _ hr3)) ?_ ?_⟩
    · rintro j x σ H5 hx ⟨bs, y6, rfl, hf5, hb5, s5⟩
      rw [List.getElem?_map] at hx
      cases haj : as[j]? with
      | none => rw [haj] at hx; cases hx
      | some aj =>
      rw [haj] at hx
      cases hx
      obtain ⟨row, hrow, kaj⟩ := prd_at ha3 haj
      have kaj5 := s5 _ _ kaj
      have hj := (List.getElem?_eq_some_iff.mp haj).1
      have lb := Paired.length hb5
      rw [ext_len, List.length_take, rowsTo_len] at lb
      have lb2 : bs.length ≤ 600 * 20 := by rw [lb]; exact Nat.mul_le_mul (Nat.le_trans (Nat.min_le_right _ _) pw) k20
      refine ⟨_, rfl, .inl ⟨rfl, _, SqL.of hf5⟩, _, rfl, k, rfl, by omega, by omega, fun D hD => ?_⟩
      refine lc_range (lo := 0) (n := k) (fun m H6 => ∃ cs : List Addr, H6 D = some (.lst (cs.map V.ref)) ∧ RowsAt H6 cs ((List.range m).map fun x => row ++ [x]) ∧ Same H5 H6) ⟨[], upd_same, .nil, same_new hD⟩ ?_ ?_
      · rintro m H6 hm ⟨cs, g1, g2, g3⟩
        have lc := Paired.length g2
        rw [List.length_map, List.length_range] at lc
        refine ⟨rfl, _, rfl, _, rfl, (by show 1 ≤ sizeLine; decide), fun t ht => ?_⟩
        have st := same_new (o := .tup [V.int (0 + (m : Int))]) ht
        have hD6 : H5 D = none := hD
        refine catA (st _ _ (g3 _ _ kaj5)) upd_same (by rw [List.length_map, (rowsTo_mem (List.mem_of_getElem? hrow)).1, List.length_singleton]; omega) fun b H7 s7 kb nb => ?_
        have kD := s7 _ _ (st _ _ g1)
        have tk := upd_tup (o := .lst (cs.map V.ref ++ [V.ref b])) kD
        refine ⟨_, kD, ?_, cs ++ [b], ?_, ?_, same_add ((g3.trans st).trans s7) hD6⟩
        · rw [List.length_map, lc]
          exact Nat.lt_of_le_of_lt (show _ ≤ 1000000 by omega) (by decide)
        · rw [upd_same, List.map_append (l₂ := [b])]
          rfl
        · rw [List.range_succ, List.map_append (f := fun x => row ++ [x])]
          refine prd_app (((RowsAt.keep g2 fun b xs e => st _ _ e).keep fun b xs e => s7 _ _ e).keep tk) (.cons ?_ .nil)
          have e : row.map nI ++ [V.int (0 + (m : Int))] = (row ++ [m]).map nI := by rw [List.map_append, Int.zero_add]; rfl
          rw [← e]
          exact tk _ _ kb
      · rintro H6 ⟨cs, g1, g2, g3⟩
        have lc := Paired.length g2
        rw [List.length_map, List.length_range] at lc
        have kf6 := g3 _ _ hf5
        have tk := upd_tup (o := .lst (bs.map V.ref ++ cs.map V.ref)) kf6
        refine ⟨f0, D, _, _, rfl, rfl, kf6, g1, ?_, bs ++ cs, _, rfl, ?_, ?_, ?_⟩
        · rw [List.length_map, List.length_map]
          exact Nat.le_of_lt (Nat.lt_of_le_of_lt (show _ ≤ 1000000 by omega) (by decide))
        · rw [upd_same, List.map_append]
        · rw [flat_take _ hrow]
          exact prd_app ((hb5.keep fun b xs e => g3 _ _ e).keep tk) (RowsAt.keep g2 tk)
        · intro b o e
          rw [upd_ne (ne_of_none e hf0)]
          exact g3 _ _ (s5 _ _ e)
    · rintro σ H5 ⟨bs, y6, rfl, hf5, hb5, s5⟩
      rw [List.length_map, la, ← rowsTo_len k i, List.take_length] at hb5
      exact ⟨_, rfl, f0, bs, _, _, _, rfl, hf5, hb5, s3.trans s5, s3.free hf0⟩
  rintro σ H3 ⟨r, as, y4, y5, y6, rfl, hr3, ha3, s3, nr⟩
  have la : as.length = k ^ n := by rw [Paired.length ha3, rowsTo_len]
  have lsz : L.cps.size = L.cps.toList.length := (Array.length_toList).symm
  have l26 : L.cps.toList.length ≤ 26 := by rw [← lsz]; exact hL.2.1
  refine ⟨(by show 0 ≤ sizeLine; decide), fun f0 hf0 => ?_⟩
  have s4 := same_new (o := .lst []) hf0
  have kf0 := upd_same (H := H3) (a := f0) (o := .lst [])
  generalize upd H3 f0 (.lst []) = H4 at *
  refine ⟨_, rfl, L, rfl, for_it walk_str (fun j σ H' => ∃ (bs : List Addr) (y8 : Option V), σ = [some (.str L), some (nI n), some (nI k), some (.ref r), y4, y5, y6, some (.ref f0), y8, none] ∧ H' f0 = some (.lst (bs.map V.ref)) ∧ KeysAt H' bs ((L.cps.toList.take j).flatMap fun c => (rowsTo n k).map fun r => (c, r)) ∧ Same H3 H' ∧ bs.length ≤ 600 * j) ⟨[], _, rfl, kf0, .nil, s4, Nat.zero_le _⟩ (fun _ _ _ _ _ => trivial) ?_ ?_⟩
  · rintro j x σ H5 H5' hj ⟨bs, y8, rfl, hf5, hb5, s5, lb5⟩ ⟨rfl, c, hc, rfl⟩
    have hc2 : L.cps.toList[j]? = some c := by rw [Array.getElem?_toList]; exact hc
    refine ⟨_, rfl, .inl ⟨rfl, _, SqL.of hf5⟩, _, rfl, r, rfl, ⟨_, SqL.of (s5 _ _ hr3)⟩, fun D hD => ?_⟩
    refine lc_list (xs := as.map V.ref) (fun m H6 => ∃ cs : List Addr, H6 D = some (.lst (cs.map V.ref)) ∧ KeysAt H6 cs (((rowsTo n k).take m).map fun r => (c, r)) ∧ Same H5' H6) ⟨[], upd_same, .nil, same_new hD⟩ (fun m H6 _ ⟨_, _, _, s⟩ => SqL.of (s _ _ (s5 _ _ hr3))) ?_ ?_
    · rintro m z H6 hz ⟨cs, g1, g2, g3⟩
      rw [List.getElem?_map] at hz
      cases ham : as[m]? with
      | none => rw [ham] at hz; cases hz
      | some am =>
      rw [ham] at hz
      cases hz
      obtain ⟨row, hrow, kam⟩ := prd_at ha3 ham
      have lc := Paired.length g2
      rw [List.length_map, List.length_take, rowsTo_len] at lc
      refine ⟨rfl, _, rfl, _, rfl, (by show 2 ≤ sizeLine; decide), fun b hb => ?_⟩
      have sb := same_new (o := .tup [.str ⟨#[c]⟩, V.ref am]) hb
      have kb := upd_same (H := H6) (a := b) (o := .tup [.str ⟨#[c]⟩, V.ref am])
      have kD := sb _ _ g1
      have tk := upd_tup (o := .lst (cs.map V.ref ++ [V.ref b])) kD
      refine ⟨_, kD, ?_, cs ++ [b], by rw [upd_same, List.map_append (l₂ := [b])]; rfl, ?_, same_add (g3.trans sb) hD⟩
      · rw [List.length_map]
        exact Nat.lt_of_le_of_lt (show _ ≤ 1000000 by omega) (by decide)
      · rw [take_succ_of hrow, List.map_append (f := fun r => (c, r))]
        exact prd_app ((KeysAt.keep g2 fun b xs e => sb _ _ e).keep tk) (.cons ⟨am, tk _ _ kb, tk _ _ (sb _ _ ((s5.trans g3) _ _ kam))⟩ .nil)
    · rintro H6 ⟨cs, g1, g2, g3⟩
      rw [List.length_map, la, ← rowsTo_len k n, List.take_length] at g2
      have lc := Paired.length g2
      rw [List.length_map, rowsTo_len] at lc
      have kf6 := g3 _ _ hf5
      have tk := upd_tup (o := .lst (bs.map V.ref ++ cs.map V.ref)) kf6
      have j26 : j < 26 := by omega
      refine ⟨f0, D, _, _, rfl, rfl, kf6, g1, ?_, bs ++ cs, _, rfl, by rw [upd_same, List.map_append], ?_, ?_, by rw [List.length_append]; omega⟩
      · rw [List.length_map, List.length_map]
        exact Nat.le_of_lt (Nat.lt_of_le_of_lt (show _ ≤ 1000000 by omega) (by decide))
      · rw [flat_take _ hc2]
        exact prd_app ((hb5.keep fun b xs e => g3 _ _ e).keep tk) (KeysAt.keep g2 tk)
      · intro b o e
        rw [upd_ne (ne_of_none e hf0)]
        exact g3 _ _ (s5 _ _ e)
  · rintro σ H5 ⟨bs, y8, rfl, hf5, hb5, s5, _⟩
    rw [lsz, List.take_length] at hb5
    exact ⟨_, rfl, q f0 bs H5 (s3.trans s5) (s3.free hf0) hf5 hb5⟩
end

def rSumT (K : PySem.W.Frag) : List V → Hp → VK → Prop := fun vs H Q => ∃ (a : Addr) (ns : List Int), vs = [V.ref a] ∧ SqT K H a (ns.map V.int) ∧ Q (.int ns.sum) H
theorem cr_sumT {X : Cx} (hc : X.calm = true) : CallR X (.builtin "sum") (rSumT X.K) := by
  intro pins s σ H vs us Q I r h
  obtain ⟨a, ns, rfl, hs, q⟩ := h
  obtain ⟨its, rv, ht, _⟩ := I.tuple hs
  rw [Vals.ref1 r]
  obtain ⟨xs, e⟩ := rv.ints.allInts.items
  have hn : numsOf (intItems xs).toList = ns := by rw [← e]; exact rv.ints.numsOf
  rw [nums_intItems] at hn
  rw [e] at ht
  have hlt : a < s.heap.objs.size := ht.lt
  refine call_sum_walkG (wpAny_pyIter_tuple ht ?_)
  refine ⟨s.heap.objs.size, _, _, _, _, _, numAt xs, rfl, Walks.tuple (A := X.A.in1) (I.ok.hd hc) _ a (Nat.ne_of_lt hlt) (intItems xs), ⟨⟨_, Heap.get?_push_size _ rfl, rfl, rfl⟩, (let ⟨o, e, r⟩ := ht; ⟨o, Heap.get?_push_of_some _ e, r⟩)⟩, fun b hb => ?_, (fun _ _ => intItems_at), fun h' tk t' hk => ?_⟩
  · show b < (s.heap.push _).objs.size
    rw [Heap.size_push]
    rcases List.mem_cons.mp hb with rfl | hb
    · exact Nat.lt_succ_self _
    · rcases List.mem_cons.mp hb with rfl | hb
      · exact Nat.lt_succ_of_lt hlt
      · cases hb
  · refine ⟨.int _, H, I.kept (t' := tk) fun b o e => hk b o (fun z => ?_) (Heap.get?_push_of_some _ e), ?_, q⟩
    · rw [List.mem_singleton.mp z] at e
      exact absurd (Heap.lt_size e) (Nat.lt_irrefl _)
    · refine ⟨t', ?_⟩
      have : (intItems xs).size = xs.size := by simp [intItems]
      rw [this, preSum_eq, List.take_of_length_le (by simp), hn]

section
open AutoSeq1 (wpAny_loadPart')
theorem meets_enumT (t : Addr) (vs : Array Value) (m : Nat) (od : Option Addr) (os : Array (Option Value)) :
    Meets (Builtin.«enumerate.__new__» ⟨[.type "enumerate", .ref t], []⟩) (fun _ R s => s.heap.get? t = some { cls := .type "tuple", dict := od, data := .seq vs m, slots := os } ∧
      R (.ok (.ret (.ref (s.heap.push { cls := .type "tuple_iterator", data := .fields #[.ref t, .int 0 0] }).objs.size)))
        { s with heap := (s.heap.push { cls := .type "tuple_iterator", data := .fields #[.ref t, .int 0 0] }).push { cls := .type "enumerate", data := .fields #[.none, .bool false, .ref s.heap.objs.size, rawInt 0, .none, .none] } }) :=
  .of_wp fun prog w A R s both => by
    obtain ⟨h0, h1, h2, h3, h4⟩ := s
    obtain ⟨here, fin⟩ := both
    have kin := sub_enumerate
    have isT : Heap.IsTuple (Shared.heap ⟨h0, h1, h2, h3, h4⟩) t vs := ⟨_, here, rfl, m, rfl⟩
    wp_walk using wpAny_loadPart' here
    refine wpAny_stack_any fun top => wpAny_pure ?_
    split
    · rename_i c1 _ _ _ _ _
      cases (c1 == Value.type "enumerate") <;> (wp_walk using wpAny_loadPart' here, wpAny_pyIter_tuple isT; exact ⟨_, rfl, fin⟩)
    · wp_walk using wpAny_loadPart' here, wpAny_pyIter_tuple isT
      exact ⟨_, rfl, fin⟩
end
theorem call_enumT {prog : Program} {w : World} {A : Around} {E : Value → Shared → Prop} {s : Shared} {t : Addr} {vs : Array Value} {Q : Value → Shared → Prop} (isT : s.heap.IsTuple t vs)
    (go : ∀ h2, IsEnum h2 (s.heap.objs.size + 1) s.heap.objs.size 0 .none → h2.IsTupleIter s.heap.objs.size t 0 → (∀ b o, s.heap.get? b = some o → h2.get? b = some o) → Q (.ref (s.heap.objs.size + 1)) { s with heap := h2 }) :
    wpAny (model prog w) A (call (.type "enumerate") [.ref t]) Q E s := by
  obtain ⟨⟨kl, dd, da, sl⟩, here, e1, m, e2⟩ := isT
  dsimp only at e1 e2
  subst e1 e2
  refine callType_new F.called_enumerate (by decide) (F.typeCall_enumerate_1 _) (F.newCall_enumerate_1 _) (fun obj => F.args_object_init_2 obj _) F.entry_enumerate_new (meets_enumT t vs m dd sl) ⟨here, ?_⟩
  have sz : (s.heap.push { cls := .type "tuple_iterator", data := .fields #[.ref t, .int 0 0] }).objs.size = s.heap.objs.size + 1 := Heap.size_push ..
  have at_ := Heap.get?_push_size (s.heap.push { cls := .type "tuple_iterator", data := .fields #[.ref t, .int 0 0] })
    (o := { cls := .type "enumerate", data := .fields #[.none, .bool false, .ref s.heap.objs.size, rawInt 0, .none, .none] }) rfl
  rw [sz] at at_
  show _ ∧ _
  rw [sz]
  exact ⟨⟨_, at_, rfl⟩, go _ at_ ⟨_, Heap.get?_push_of_some _ (Heap.get?_push_size _ rfl), rfl, rfl⟩ fun b o e => Heap.get?_push_of_some _ (Heap.get?_push_of_some _ e)⟩
def IteT (K : PySem.W.Frag) (a : Addr) : It := ⟨fun i H => ∃ xs : List V, SqT K H a xs ∧ i < xs.length, fun i H v H' => ∃ (T : Addr) (x : V), v = .ref T ∧ H T = none ∧ H' = upd H T (.tup [.int (i : Nat), x]) ∧ ∀ xs, SqT K H a xs → xs[i]? = some x, fun i H => ∃ xs : List V, SqT K H a xs ∧ xs.length = i⟩
theorem enum_off {h : Heap} {en it a : Addr} {n : Int} {old : Value} {vs : Array Value} (x : IsEnum h en it n old) (y : h.IsTuple a vs) : en ≠ a := fun e => by
  obtain ⟨o, h1, h2, _⟩ := y
  have x : h.get? en = some _ := x
  rw [e, h1] at x
  cases x
  exact absurd (Value.type.inj h2) (by decide)
theorem turn_enumT {P : Program} {w : World} {K : PySem.W.Frag} {elts : List PySem.Expr} {kk : Nat} {tpos : Pos} (a en it : Addr) (na : a ≠ it) :
    Turn P w K (.Tuple elts kk tpos) (IteT K a) [en, it] en (fun i h => (∃ old, IsEnum h en it ((i : Nat) : Int) old) ∧ h.IsTupleIter it a i ∧ en ≠ it) where
  mem := by simp
  obj := fun i h st b hb => by
    obtain ⟨⟨old, h1⟩, ⟨o, ho, _, hd⟩, _⟩ := st
    rcases (by simpa using hb : b = en ∨ b = it) with z | z
    · subst z; exact ⟨_, h1, fun v q => nomatch q⟩
    · subst z; exact ⟨o, ho, fun v q => by rw [hd] at q; cases q⟩
  keep := fun i h h' st k => by
    obtain ⟨⟨old, h1⟩, ⟨o, ho, r⟩, ne⟩ := st
    exact ⟨⟨old, k en (by simp) _ h1⟩, ⟨o, k it (by simp) _ ho, r⟩, ne⟩
  item := by
    intro X e1 e2 e3 hc i pins s σ H E I hf st hg
    subst e1 e2 e3
    obtain ⟨⟨old, h1⟩, h2, ne⟩ := st
    obtain ⟨xs, hq, lt⟩ := hg
    obtain ⟨its, rv, p, _⟩ := I.tuple hq
    have D := Draws.tuple (prog := X.prog) (w := X.w) (A := X.A.in1) (I.ok.hd hc) it a na its.toArray
    have hel : en < s.heap.objs.size := Heap.lt_size h1
    have hil : it < s.heap.objs.size := by obtain ⟨_, q, _⟩ := h2; exact Heap.lt_size q
    have nea := enum_off h1 p
    refine wpAny_pyNext_enum_itemD D h1 ⟨h2, p⟩ (by rw [List.size_toArray, ← rv.length]; exact lt) ne (fun z => by
      rcases (by simpa using z : en = it ∨ en = a) with z | z
      · exact ne z
      · exact nea z) fun u h' tk hP ho hit' hT hsz hk => ?_
    have hx : xs[i]? = some xs[i] := List.getElem?_eq_getElem lt
    obtain ⟨u2, eu, ru⟩ := rv.get hx
    rw [List.getElem?_toArray] at hP
    rw [eu] at hP
    cases hP
    refine ⟨_, rfl, wpAny_letOwnedTupleGo_enum (s := { s with heap := h', toks := tk + 1 }) ho fun h'' he' sb => ?_⟩
    have hT2 : h''.get? s.heap.objs.size = some { cls := .type "tuple", data := .seq #[.int i tk, u] } := (sb.2 _ (Nat.ne_of_gt hel)).trans hT
    have nw : ObjOk X.prog X.w (upd H s.heap.objs.size (.tup [.int (i : Nat), xs[i]])) h'' s.heap.objs.size (.tup [.int (i : Nat), xs[i]]) :=
      ⟨(show 2 ≤ sizeLine by decide), [.int i tk, u], .cons ⟨_, rfl⟩ (.cons ru .nil), _, hT2, rfl, _, rfl⟩
    have I1 : Inv X pins σ (upd H s.heap.objs.size (.tup [.int (i : Nat), xs[i]])) { s with heap := h'', toks := tk + 1 } :=
      I.turnedNew (ch := [en, it]) (fun b ob hb q => (sb.2 b (fun z => hb (by simp [z]))).trans (hk b ob (fun z => hb (by simp [z])) (fun z => hb (by simp [z])) q)) hf (Nat.le_refl _) nw
    refine ⟨.ref s.heap.objs.size, _, I1, rfl, ⟨_, xs[i], rfl, I.hok.fresh (Nat.le_refl _), rfl, fun ys hy => by rw [I.tuple_inj hy hq]; exact hx⟩, ⟨⟨u, ?_⟩, (D.frame (i + 1) h' h'' hit' (fun b hb o q => (sb.2 b (fun z => ?_)).trans q)).1, ne⟩, fun b hb => ?_⟩
    · have e9 : ((i + 1 : Nat) : Int) = (i : Int) + 1 := by omega
      rw [e9]; exact he'
    · rcases (by simpa using hb : b = it ∨ b = a) with y | y
      · exact ne (by rw [← z, y])
      · exact nea (by rw [← z, y])
    · have low : b ≠ s.heap.objs.size := by
        rcases (by simpa using hb : b = en ∨ b = it) with z | z
        · rw [z]; exact Nat.ne_of_lt hel
        · rw [z]; exact Nat.ne_of_lt hil
      rw [upd_ne low]
      exact (hf b hb).1
  done := by
    intro X e1 e2 e3 hc i pins s σ H E I hf st hg
    subst e1 e2 e3
    obtain ⟨⟨old, h1⟩, h2, ne⟩ := st
    obtain ⟨xs, hq, lt⟩ := hg
    obtain ⟨its, rv, p, _⟩ := I.tuple hq
    obtain ⟨z0, z1, _, z3, z4, z5⟩ := hf it (by simp)
    have D := Draws.tuple (prog := X.prog) (w := X.w) (A := X.A.in1) (I.ok.hd hc) it a na its.toArray
    have hg' : its.toArray.size = i := by rw [List.size_toArray, ← rv.length]; exact lt
    subst hg'
    exact wpAny_pyNext_enum_endD D h1 ⟨h2, p⟩ fun h' eb => ⟨rfl, I.turned (t' := s.toks) (fun b o hb q => eb b o hb q) z0 z1 z3 z4 z5⟩
  self := fun A i s Q E st h => let ⟨⟨_, h1⟩, _⟩ := st; wpAny_pyIter_enum h1 h
def iEnumT (K : PySem.W.Frag) (ta : TA) : TI := fun σ H R => ta σ H fun vs H1 => ∃ a xs, vs = [.ref a] ∧ SqT K H1 a xs ∧ R (IteT K a) H1
theorem pi_enumT {X : Cx} {e : PySem.Expr} {ta : TA} {p pos tpos : Pos} {elts : List PySem.Expr} {kk : Nat} (hg : Gl X "enumerate") (hm : X.mg "enumerate" = none) (ha : PA X [e] ta) (hs : starEach [e] X.env = [(false, eval e X.env)] := by rfl) :
    PI X (.Tuple elts kk tpos) (.Call (.Name "enumerate" p) [e] [] pos) (iEnumT X.K ta) := by
  constructor
  intro pins s σ H R I h
  refine Call_ (ld_blt I hg hm boot_enumerate (PyProof.Rows.callWith_type1 (thn (ha.run pos pins s σ H _ I h) fun us t1 got => ?_) hs rfl))
  obtain ⟨vs, H1, J, r1, a, xs, rfl, hq, q⟩ := got
  obtain ⟨u, rfl, ru⟩ := r1.one
  cases ru
  obtain ⟨its, rv, p2, _⟩ := J.tuple hq
  have la : a < t1.heap.objs.size := p2.lt
  refine call_enumT p2 fun h2 isE isI stays => wpAny_pyIter_enum isE ?_
  refine ⟨t1.heap.objs.size + 1, [t1.heap.objs.size + 1, t1.heap.objs.size], _, _, H1, rfl, J.kept (t' := t1.toks) stays, turn_enumT a (t1.heap.objs.size + 1) t1.heap.objs.size (Nat.ne_of_lt la), ⟨⟨.none, isE⟩, isI, Nat.succ_ne_self _⟩, fun b hb => ?_, q⟩
  have far : t1.heap.objs.size ≤ b := by
    have two : b = t1.heap.objs.size + 1 ∨ b = t1.heap.objs.size := by simpa using hb
    rcases two with rfl | rfl
    · exact Nat.le_succ _
    · exact Nat.le_refl _
  exact J.fpOk far (J.hok.fresh far)
theorem walk_enumT {K : PySem.W.Frag} {a : Addr} {xs : List V} : Walk (IteT K a) xs.length (fun H => SqT K H a xs) (fun i H v H' => ∃ (T : Addr) (x : V), v = .ref T ∧ H T = none ∧ H' = upd H T (.tup [.int (i : Nat), x]) ∧ xs[i]? = some x) :=
  ⟨fun _ _ hi q => ⟨xs, q, hi⟩, fun _ q => ⟨xs, q, rfl⟩, fun _ _ _ _ _ q ⟨T, x, h1, h2, h3, h4⟩ => ⟨T, x, h1, h2, h3, h4 xs q⟩⟩

inductive Kd
  | size | has | deep | odd | leaves | child
def wordK : Kd → Str
  | .size => Str.ofString "size"
  | .has => Str.ofString "has"
  | .deep => Str.ofString "deep"
  | .odd => Str.ofString "odd"
  | .leaves => Str.ofString "leaves"
  | .child => Str.ofString "children"
def wsum : Nat → List Nat → Nat
  | _, [] => 0
  | i, x :: r => i * x + wsum (i + 1) r
def topN : Nat → List Nat → Nat
  | 0, _ => 0
  | n + 1, row => if 0 < row.getD n 0 then n + 1 else topN n row
def toldK (kd : Kd) (few turn c : Nat) (row : List Nat) : Nat := match kd with
  | .size => (1 + wsum 0 row) % turn
  | .has => if c = 98 ∨ 0 < row.getD 1 0 then 1 else 0
  | .deep => min 4 (topN 5 row)
  | .odd => if 0 < row.getD 1 0 ∨ row.getD 0 0 % 2 = 1 then 1 else 0
  | .leaves => if row.sum = 0 then 1 else row.getD 1 0 % 2
  | .child => clsN few turn row.sum
def fitK (kd : Kd) (n few turn : Nat) : Prop := match kd with
  | .size => n = turn
  | .has => n = 2
  | .deep => n = 5
  | .odd => n = 2
  | .leaves => n = 2
  | .child => n = few + turn
theorem toldK_lt {kd : Kd} {n few turn : Nat} (h : fitK kd n few turn) (t1 : 1 ≤ turn) (c : Nat) (row : List Nat) : toldK kd few turn c row < n := by
  cases kd <;> simp only [fitK] at h <;> subst h <;> simp only [toldK]
  · exact Nat.mod_lt _ t1
  · split <;> omega
  · omega
  · split <;> omega
  · split <;> omega
  · exact clsN_lt t1 _

def Cong (few turn x y : Nat) : Prop := x = y ∨ (few ≤ x ∧ few ≤ y ∧ (x : Int) % (turn : Int) = (y : Int) % (turn : Int))
theorem clsN_up {few turn x : Nat} (h : few ≤ x) : clsN few turn x = few + (x - few) % turn := by
  unfold clsN
  split
  · rw [Nat.mod_eq_of_lt (by omega)]
    omega
  · rfl
theorem Cong.cls {few turn x y : Nat} (h : Cong few turn x y) : clsN few turn x = clsN few turn y := by
  rcases h with rfl | ⟨h1, h2, h3⟩
  · rfl
  rw [clsN_up h1, clsN_up h2]
  have e1 : (((x - few : Nat) : Int)) % (turn : Int) = (((y - few : Nat) : Int)) % (turn : Int) := by
    rw [Int.emod_eq_emod_iff_emod_sub_eq_zero] at h3 ⊢
    have : ((x - few : Nat) : Int) - ((y - few : Nat) : Int) = (x : Int) - (y : Int) := by omega
    rw [this]
    exact h3
  rw [← Int.natCast_emod, ← Int.natCast_emod] at e1
  omega
theorem Cong.trans {few turn x y z : Nat} (a : Cong few turn x y) (b : Cong few turn y z) : Cong few turn x z := by
  rcases a with rfl | ⟨h1, h2, h3⟩
  · exact b
  rcases b with rfl | ⟨g1, g2, g3⟩
  · exact .inr ⟨h1, h2, h3⟩
  · exact .inr ⟨h1, g2, h3.trans g3⟩
theorem Cong.add {few turn x y u v : Nat} (a : Cong few turn x y) (b : Cong few turn u v) : Cong few turn (x + u) (y + v) := by
  rcases a with rfl | ⟨h1, h2, h3⟩
  · rcases b with rfl | ⟨g1, g2, g3⟩
    · exact .inl rfl
    · exact .inr ⟨by omega, by omega, by push_cast; rw [Int.add_emod, g3, ← Int.add_emod]⟩
  · rcases b with rfl | ⟨g1, g2, g3⟩
    · exact .inr ⟨by omega, by omega, by push_cast; rw [Int.add_emod, h3, ← Int.add_emod]⟩
    · exact .inr ⟨by omega, by omega, by push_cast; rw [Int.add_emod, h3, g3, ← Int.add_emod]⟩
theorem Cong.of_cls {few turn few2 turn2 : Nat} (hf : few ≤ few2) (ht : turn ∣ turn2) (x : Nat) : Cong few turn (clsN few2 turn2 x) x := by
  by_cases h : x < few2 + turn2
  · rw [clsN_low h]
    exact .inl rfl
  · exact .inr ⟨Nat.le_trans hf (clsN_few (by omega)), by omega, clsN_dvd ht x⟩
theorem Cong.sum {few turn few2 turn2 : Nat} (hf : few ≤ few2) (ht : turn ∣ turn2) : ∀ xs : List Nat, Cong few turn (xs.map (clsN few2 turn2)).sum xs.sum
  | [] => .inl rfl
  | x :: r => by
    rw [List.map_cons, List.sum_cons, List.sum_cons]
    exact (Cong.of_cls hf ht x).add (Cong.sum hf ht r)


theorem wsum_zip : ∀ (row : List Nat) (k : Nat), wsum k row = ((row.zipIdx k).map fun p => p.2 * p.1).sum
  | [], _ => rfl
  | x :: r, k => by rw [wsum, List.zipIdx_cons, List.map_cons, List.sum_cons, wsum_zip r (k + 1)]
theorem cls_less {few turn z : Nat} (h : few + turn ≤ z) : clsN few turn (z - turn) = clsN few turn z :=
  Cong.cls (.inr ⟨by omega, by omega, by
    have e : ((z - turn : Nat) : Int) = (z : Int) + (turn : Int) * (-1) := by omega
    rw [e, Int.add_mul_emod_self_left]⟩)
theorem ch_b {c : Nat} : ch c = Str.ofString "b" ↔ c = 98 := by
  have e : Str.ofString "b" = ch 98 := by decide +kernel
  rw [e]
  constructor
  · intro h
    have := congrArg (fun z : Str => z.cps.toList) h
    exact List.head_eq_of_cons_eq this
  · intro h
    rw [h]
theorem strNe {x y : Str} (h : x ≠ y) : V.str x ≠ V.str y := fun e => h (V.str.inj e)
theorem sum_cast (l : List Nat) : (l.map fun x : Nat => (x : Int)).sum = ((l.sum : Nat) : Int) := by
  induction l with
  | nil => rfl
  | cons x r ih => rw [List.map_cons, List.sum_cons, List.sum_cons, ih]; push_cast; rfl
theorem row_at {row : List Nat} {i : Nat} (h : i < row.length) : (row.map nI)[i]? = some (nI (row.getD i 0)) := by
  rw [List.getElem?_map, List.getElem?_eq_getElem h, List.getD_eq_getElem?_getD, List.getElem?_eq_getElem h]
  rfl
theorem topN_spec (row : List Nat) : ∀ n : Nat, (topN n row = 0 ∧ ∀ s, s < n → row.getD s 0 = 0) ∨ ∃ s, s < n ∧ topN n row = s + 1 ∧ 0 < row.getD s 0 ∧ ∀ u, u < n → 0 < row.getD u 0 → u ≤ s
  | 0 => .inl ⟨rfl, fun s h => absurd h (Nat.not_lt_zero _)⟩
  | n + 1 => by
    unfold topN
    by_cases h : 0 < row.getD n 0
    · rw [if_pos h]
      exact .inr ⟨n, Nat.lt_succ_self _, rfl, h, fun u hu _ => by omega⟩
    · rw [if_neg h]
      rcases topN_spec row n with ⟨e, a⟩ | ⟨s, a, e, b, c⟩
      · refine .inl ⟨e, fun s hs => ?_⟩
        rcases Nat.lt_or_ge s n with z | z
        · exact a s z
        · have : s = n := by omega
          subst this
          omega
      · refine .inr ⟨s, by omega, e, b, fun u hu hp => ?_⟩
        rcases Nat.lt_or_ge u n with z | z
        · exact c u z hp
        · have : u = n := by omega
          subst this
          exact absurd hp h
theorem topN_max {row : List Nat} {n : Nat} {m : Int} (hm : m ∈ (-1 : Int) :: ((List.range n).filter fun s => decide (0 < row.getD s 0)).map fun x : Nat => (x : Int)) (hx : ∀ y ∈ (-1 : Int) :: ((List.range n).filter fun s => decide (0 < row.getD s 0)).map fun x : Nat => (x : Int), y ≤ m) : 1 + m = ((topN n row : Nat) : Int) := by
  have mem : ∀ u : Nat, u < n → 0 < row.getD u 0 → (u : Int) ≤ m := fun u hu hp => hx _ (List.mem_cons_of_mem _ (List.mem_map.mpr ⟨u, List.mem_filter.mpr ⟨List.mem_range.mpr hu, decide_eq_true hp⟩, rfl⟩))
  have m0 := hx _ List.mem_cons_self
  rcases topN_spec row n with ⟨e, a⟩ | ⟨s, a, e, b, c⟩
  · rcases List.mem_cons.mp hm with h | h
    · omega
    · obtain ⟨u, hu, rfl⟩ := List.mem_map.mp h
      obtain ⟨h1, h2⟩ := List.mem_filter.mp hu
      have := a u (List.mem_range.mp h1)
      have := of_decide_eq_true h2
      omega
  · have := mem s a b
    rcases List.mem_cons.mp hm with h | h
    · omega
    · obtain ⟨u, hu, rfl⟩ := List.mem_map.mp h
      obtain ⟨h1, h2⟩ := List.mem_filter.mp hu
      have := c u (List.mem_range.mp h1) (of_decide_eq_true h2)
      omega
theorem two_of {row : List Nat} (h : row.length = 2) : ∃ x y, row = [x, y] := by
  match row, h with
  | [x, y], _ => exact ⟨x, y, rfl⟩
theorem bit_if (p : Prop) [Decidable p] {b : Bool} (h : b = decide p) : (if b = true then (1 : Int) else 0) = ((if p then 1 else 0 : Nat) : Int) := by
  subst h
  by_cases z : p
  · rw [decide_eq_true z, if_pos rfl, if_pos z]; rfl
  · rw [decide_eq_false z, if_neg (by decide), if_neg z]; rfl
def sp__law_told : Sp := fun vs H Q _ => ∃ (kd : Kd) (n few turn c : Nat) (b : Addr) (row : List Nat), vs = [.str (wordK kd), nI few, nI turn, .str (ch c), .ref b] ∧ H b = some (.tup (row.map nI)) ∧ row.length = n ∧ fitK kd n few turn ∧ n ≤ 6 ∧ few ≤ 4 ∧ 1 ≤ turn ∧ turn ≤ 4 ∧ (∀ x ∈ row, x < few + turn) ∧ ∀ H', Same H H' → Q (nI (toldK kd few turn c row)) H'
section
variable {P : Program} {w : World} {K : PySem.W.Frag} {mg : Str → Option Value} {base : Heap}
theorem ok__law_told (T : Txt K mg) : FnOk P w K mg base CX0 1 T.f__law_told T.d__law_told ["word", "few", "turn", "letter", "classes"] sp__law_told := by
  refine T.F__law_told.ok sc__law_told (fun vs H Q E h => ?_) (fun cdv A outer s H vs Q E hr h => ?_)
  · obtain ⟨kd, n, few, turn, c, b, row, rfl, _⟩ := h
    rfl
  obtain ⟨kd, n, few, turn, c, b, row, rfl, hb, hln, hfit, h6, f4, t1, t4, hlt, q⟩ := h
  refine ⟨_, (pss_cons (ps_if (pt_cmpR op_eq (pv 0) pe_str (nomark _)) (pss_one (ps_ret (pe_op op_mod (pe_op op_add pe_int (pe_callB (cr_sum rfl) (by rfl) T.z_sum (by decide +kernel) (pa_cons (pe_lc (own := [("state", 6), ("number", 7)]) (g := gTup K 2 (gCons (gName 6) (gCons (gName 7) gNil))) (te := tOp _ (tVar 6) (tVar 7)) (tt := tYes) rfl sc__law_told.nd (pi_enumT (by rfl) T.z_enumerate (pa_cons (pv 4) pa_nil)) (blkOk_by (own := [("state", 6), ("number", 7)]) (N := ["word", "few", "turn", "letter", "classes", "total", "state", "number"]) (sc := (defScope s__law_told)) (by decide +kernel)) (fun _ _ _ _ _ => (pg_tup rfl (pgs_cons (pg_name (i := 6) sc__law_told.nd rfl (Or.inl rfl)) (pgs_cons (pg_name (i := 7) sc__law_told.nd rfl (Or.inl rfl)) pgs_nil)))) (fun _ _ _ _ _ => pts_nil) (fun _ _ _ _ _ => (pe_op op_mul (pv 6) (pv 7)))) pa_nil))) (pv 2)))) pss_nil) (pss_cons (ps_if (pt_cmpR op_eq (pv 0) pe_str (nomark _)) (pss_one (ps_ret (pe_callTy call_int1 (by rfl) T.z_int (by decide +kernel) (pa_cons (pe_or (pe_cmpR op_eq (pv 3) pe_str (nomark _)) (pe_one (pe_cmpR op_gt (pe_ix ix_tup (pv 4) pe_int (fun _ _ => rfl)) pe_int (nomark _)))) pa_nil)))) pss_nil) (pss_cons (ps_if (pt_cmpR op_eq (pv 0) pe_str (nomark _)) (pss_one (ps_ret (pe_callB (call_min2 rfl) (by rfl) T.z_min (by decide +kernel) (pa_cons pe_int (pa_cons (pe_op op_add pe_int (pe_callB (cr_max rfl) (by rfl) T.z_max (by decide +kernel) (pa_cons (pe_op op_cat (pe_lst (pa_cons (pe_un un_neg pe_int) pa_nil)) (pe_lc (own := [("state", 6)]) (g := gName 6) (tt := tTest (tOp _ (tOp (rIxT K) (tVar 4) (tVar 6)) (tC (.int 0)))) rfl sc__law_told.nd (pi_range1 (by rfl) T.z_range (pa_cons pe_int pa_nil)) (blkOk_by (own := [("state", 6)]) (N := ["word", "few", "turn", "letter", "classes", "total", "state", "number"]) (sc := (defScope s__law_told)) (by decide +kernel)) (fun _ _ _ _ _ => (pg_name (i := 6) sc__law_told.nd rfl (Or.inl rfl))) (fun _ _ _ _ _ => pts_one (pt_cmpR op_gt (pe_ix ix_tup (pv 4) (pv 6) (fun _ _ => rfl)) pe_int (nomark _))) (fun _ _ _ _ _ => (pv 6)))) pa_nil))) pa_nil))))) pss_nil) (pss_cons (ps_if (pt_cmpR op_eq (pv 0) pe_str (nomark _)) (pss_one (ps_ret (pe_callTy call_int1 (by rfl) T.z_int (by decide +kernel) (pa_cons (pe_or (pe_cmpR op_gt (pe_ix ix_tup (pv 4) pe_int (fun _ _ => rfl)) pe_int (nomark _)) (pe_one (pe_cmpR op_eq (pe_op op_mod (pe_ix ix_tup (pv 4) pe_int (fun _ _ => rfl)) pe_int) pe_int (nomark _)))) pa_nil)))) pss_nil) (pss_cons (ps_if (pt_cmpR op_eq (pv 0) pe_str (nomark _)) (pss_one (ps_ret (pe_ix ix_list (pe_lst (pa_cons (pe_op op_mod (pe_ix ix_tup (pv 4) pe_int (fun _ _ => rfl)) pe_int) (pa_cons pe_int pa_nil))) (pe_callTy call_int1 (by rfl) T.z_int (by decide +kernel) (pa_cons (pe_cmpR op_eq (pe_callB (cr_sumT rfl) (by rfl) T.z_sum (by decide +kernel) (pa_cons (pv 4) pa_nil)) pe_int (nomark _)) pa_nil)) (fun _ _ => rfl)))) pss_nil) (pss_cons (ps_set (i := 5) sc__law_told.nd rfl (Or.inl rfl) (pe_callB (cr_sumT rfl) (by rfl) T.z_sum (by decide +kernel) (pa_cons (pv 4) pa_nil))) (pss_cons (ps_while PassesOwn.never (pt_cmpR op_ge (pv 5) (pe_op op_add (pv 1) (pv 2)) (nomark _)) (pss_one (ps_set (i := 5) sc__law_told.nd rfl (Or.inl rfl) (pe_op op_sub (pv 5) (pv 2))))) (pss_one (ps_ret (pv 5)))))))))), ?_⟩
  have num : ∀ (z : Int) (m : Nat) (H' : Hp), z = (m : Int) → Same H H' → m = toldK kd few turn c row → Q (.int z) H' := fun z m H' e s e2 => by
    rw [e, e2]
    exact q H' s
  have hbs : ∀ H', Same H H' → SqT K H' b ((row.map fun x : Nat => (x : Int)).map V.int) := fun H' s => by rw [← nI_map]; exact SqT.of (s _ _ hb)
  have hsum : row.sum ≤ 200 := by
    have : ∀ l : List Nat, (∀ x ∈ l, x < few + turn) → l.sum ≤ l.length * 8 := by
      intro l
      induction l with
      | nil => intro _; simp
      | cons a t ih =>
        intro h
        have h1 := h a List.mem_cons_self
        have h2 := ih fun x hx => h x (List.mem_cons_of_mem _ hx)
        rw [List.sum_cons, List.length_cons]
        omega
    have := this row hlt
    omega
  refine ⟨_, rfl, rfl, _, rfl, ?_⟩
  cases kd with
  | size =>
    refine eqT rfl ⟨_, rfl, b, _, rfl, SqT.of hb, fun D hD => ?_⟩
    refine lc_walk (len := (row.map nI).length) walk_enumT (fun i H2 => H2 D = some (.lst ((((row.zipIdx 0).map fun p => p.2 * p.1).take i).map nI)) ∧ Same H H2) ⟨upd_same, same_new hD⟩ (fun i H2 _ h => SqT.of (h.2 _ _ hb)) ?_ ?_
    · rintro i x H2 H3 hi ⟨g1, g2⟩ ⟨Tt, x1, rfl, hT, rfl, hx⟩
      rw [List.length_map] at hi
      rw [row_at hi] at hx
      cases hx
      have sT := same_new hT (o := .tup [.int (i : Nat), nI (row.getD i 0)])
      have hz : ((row.zipIdx 0).map fun p => p.2 * p.1)[i]? = some (i * row.getD i 0) := by
        rw [List.getElem?_map, List.getElem?_zipIdx, List.getElem?_eq_getElem hi, List.getD_eq_getElem?_getD, List.getElem?_eq_getElem hi]
        simp
      have hxb : row.getD i 0 < few + turn := by
        rw [List.getD_eq_getElem?_getD, List.getElem?_eq_getElem hi]
        exact hlt _ (List.getElem_mem hi)
      refine ⟨_, _, rfl, SqT.of upd_same, rfl, _, _, rfl, _, _, rfl, rfl, rfl, _, rfl, _, rfl, _, _, rfl, rfl, .inl ⟨by omega, by omega⟩, _, sT _ _ g1, ?_, ?_, same_add (g2.trans sT) hD⟩
      · rw [List.length_map, List.length_take]
        exact Nat.lt_of_le_of_lt (show _ ≤ 1000000 by omega) (by decide)
      · rw [upd_same, take_succ_of hz, List.map_append]
        have e : (i : Int) * ((row.getD i 0 : Nat) : Int) = ((i * row.getD i 0 : Nat) : Int) := by push_cast; rfl
        show some (HO.lst (_ ++ [V.int ((i : Int) * ((row.getD i 0 : Nat) : Int))])) = _
        rw [e]
        rfl
    rintro H2 ⟨g1, g2⟩
    rw [List.take_of_length_le (by rw [List.length_map, List.length_zipIdx, List.length_map]; exact Nat.le_refl _), nI_map] at g1
    refine ⟨D, _, rfl, .inl (.inl g1), _, _, rfl, rfl, _, rfl, _, _, rfl, rfl, by omega, ?_⟩
    refine num _ ((1 + wsum 0 row) % turn) H2 ?_ g2 rfl
    rw [sum_cast, ← wsum_zip]
    push_cast
    rfl
  | has =>
    simp only [fitK] at hfit
    obtain ⟨x0, x1, rfl⟩ := two_of (hln.trans hfit)
    refine eqF (strNe (by decide +kernel)) ⟨_, rfl, rfl, _, rfl, eqT rfl ?_⟩
    by_cases hc : c = 98
    · refine ⟨_, rfl, rfl, _, rfl, eqT (by rw [ch_b.mpr hc]) (.inr ⟨_, rfl, ?_⟩)⟩
      exact num 1 1 H rfl (Same.refl H) (by simp only [toldK]; rw [if_pos (.inl hc)])
    · refine ⟨_, rfl, rfl, _, rfl, eqF (fun e => hc (ch_b.mp (V.str.inj e))) ⟨_, rfl, b, _, 1, nI x1, rfl, rfl, SqT.of hb, atI_nat (j := 1) rfl, _, _, rfl, rfl, .inr ⟨_, rfl, ?_⟩⟩⟩
      refine num _ _ H (bit_if (0 < x1) (by simp)) (Same.refl H) ?_
      simp only [toldK]
      by_cases h : 0 < x1
      · rw [if_pos h, if_pos (.inr h)]
      · rw [if_neg h, if_neg (fun z => z.elim hc h)]
  | deep =>
    simp only [fitK] at hfit
    refine eqF (strNe (by decide +kernel)) ⟨_, rfl, rfl, _, rfl, eqF (strNe (by decide +kernel)) ⟨_, rfl, rfl, _, rfl, eqT rfl ?_⟩⟩
    refine ⟨1, rfl, (by show 1 ≤ sizeLine; decide), fun l hl => ⟨5, rfl, by decide, by decide, fun D hD => ?_⟩⟩
    have sl := same_new hl (o := .lst [V.int (-1)])
    have kl := upd_same (H := H) (a := l) (o := .lst [V.int (-1)])
    generalize upd H l (.lst [V.int (-1)]) = H1 at *
    refine lc_range (lo := 0) (n := 5) (fun i H2 => H2 D = some (.lst (((List.range i).filter fun s => decide (0 < row.getD s 0)).map nI)) ∧ Same H1 H2) ⟨upd_same, same_new hD⟩ ?_ ?_
    · rintro i H2 hi ⟨g1, g2⟩
      have e0 : V.int (0 + (i : Int)) = nI i := by rw [Int.zero_add]
      rw [List.range_succ, List.filter_append, List.filter_cons, List.filter_nil]
      have ln : ((List.range i).filter fun s => decide (0 < row.getD s 0)).length ≤ 100 := Nat.le_trans (List.length_filter_le _ _) (by rw [List.length_range]; omega)
      refine ⟨rfl, _, rfl, _, rfl, b, _, 0 + (i : Int), nI (row.getD i 0), rfl, rfl, SqT.of (g2 _ _ (sl _ _ hb)), at_of (j := i) (by omega) (row_at (by omega)), _, _, rfl, rfl, _, rfl, ?_⟩
      by_cases h : 0 < row.getD i 0
      · refine dT (by omega) ⟨_, rfl, _, g1, ?_, ?_, same_add g2 hD⟩
        · rw [List.length_map]
          exact Nat.lt_of_le_of_lt (show _ ≤ 1000000 by omega) (by decide)
        · rw [upd_same, if_pos (decide_eq_true h), List.map_append, e0]
          rfl
      · refine dF (by omega) ⟨?_, g2⟩
        rw [if_neg (by simpa using h), List.append_nil]
        exact g1
    rintro H2 ⟨g1, g2⟩
    refine ⟨l, D, _, _, rfl, rfl, g2 _ _ kl, g1, ?_, fun r hr => ?_⟩
    · rw [List.length_map]
      have := List.length_filter_le (fun s => decide (0 < row.getD s 0)) (List.range 5)
      rw [List.length_range] at this
      show 1 + _ ≤ sizeLine
      exact Nat.le_trans (show _ ≤ 1000000 by omega) (by decide)
    have kr : upd H2 r (.lst ([V.int (-1)] ++ ((List.range 5).filter fun s => decide (0 < row.getD s 0)).map nI)) r = some (.lst (((-1 : Int) :: ((List.range 5).filter fun s => decide (0 < row.getD s 0)).map (fun x : Nat => (x : Int))).map V.int)) := by
      rw [upd_same, nI_map]
      rfl
    refine ⟨r, (-1 : Int) :: ((List.range 5).filter fun s => decide (0 < row.getD s 0)).map (fun x : Nat => (x : Int)), rfl, SqL.of kr, by simp, fun m hm hmax => ⟨_, _, rfl, rfl, _, _, rfl, ?_⟩⟩
    have e := topN_max hm hmax
    refine num _ (min 4 (topN 5 row)) _ ?_ ((sl.trans g2).trans (same_new hr)) rfl
    rw [e]
    split <;> omega
  | odd =>
    simp only [fitK] at hfit
    obtain ⟨x0, x1, rfl⟩ := two_of (hln.trans hfit)
    refine eqF (strNe (by decide +kernel)) ⟨_, rfl, rfl, _, rfl, eqF (strNe (by decide +kernel)) ⟨_, rfl, rfl, _, rfl, eqF (strNe (by decide +kernel)) ⟨_, rfl, rfl, _, rfl, eqT rfl ?_⟩⟩⟩
    refine ⟨_, rfl, b, _, 1, nI x1, rfl, rfl, SqT.of hb, atI_nat (j := 1) rfl, _, _, rfl, rfl, _, rfl, ?_⟩
    by_cases h : 0 < x1
    · refine dT (by omega) (.inr ⟨_, rfl, num 1 1 H rfl (Same.refl H) ?_⟩)
      simp only [toldK]
      exact (if_pos (.inl h)).symm
    · refine dF (by omega) ⟨_, rfl, b, _, 0, nI x0, rfl, rfl, SqT.of hb, atI_nat (j := 0) rfl, _, _, rfl, rfl, (by show (0 : Int) < 2; decide), rfl, .inr ⟨_, rfl, ?_⟩⟩
      refine num _ _ H (bit_if (x0 % 2 = 1) ?_) (Same.refl H) ?_
      · rw [decide_eq_decide]
        constructor
        · intro e
          have := V.int.inj e
          omega
        · intro e
          exact congrArg V.int (by omega)
      · simp only [toldK]
        by_cases z : x0 % 2 = 1
        · rw [if_pos z]; exact (if_pos (.inr z)).symm
        · rw [if_neg z]; exact (if_neg (fun y => y.elim h z)).symm
  | leaves =>
    simp only [fitK] at hfit
    obtain ⟨x0, x1, rfl⟩ := two_of (hln.trans hfit)
    refine eqF (strNe (by decide +kernel)) ⟨_, rfl, rfl, _, rfl, eqF (strNe (by decide +kernel)) ⟨_, rfl, rfl, _, rfl, eqF (strNe (by decide +kernel)) ⟨_, rfl, rfl, _, rfl, eqF (strNe (by decide +kernel)) ⟨_, rfl, rfl, _, rfl, eqT rfl ?_⟩⟩⟩⟩
    refine ⟨_, rfl, b, _, 1, nI x1, rfl, rfl, SqT.of hb, atI_nat (j := 1) rfl, _, _, rfl, rfl, (by show (0 : Int) < 2; decide), (by show 2 ≤ sizeLine; decide), fun l hl => ?_⟩
    have sl := same_new hl (o := .lst [V.int ((x1 : Int) % 2), V.int 1])
    refine ⟨_, rfl, b, _, rfl, hbs _ sl, rfl, .inr ⟨_, rfl, ?_⟩⟩
    rw [sum_cast]
    by_cases h : x0 + x1 = 0
    · refine ⟨l, _, _, .int 1, rfl, rfl, SqL.of upd_same, ?_, num 1 1 _ rfl sl ?_⟩
      · rw [decide_eq_true (congrArg V.int (show (([x0, x1].sum : Nat) : Int) = 0 by simp; omega)), if_pos rfl]
        exact atI_nat (j := 1) rfl
      · simp only [toldK]
        exact (if_pos (by simpa using h)).symm
    · refine ⟨l, _, _, .int ((x1 : Int) % 2), rfl, rfl, SqL.of upd_same, ?_, num _ (x1 % 2) _ (by push_cast; rfl) sl ?_⟩
      · rw [decide_eq_false (fun e => h (by have := V.int.inj e; simp at this; omega)), if_neg (by decide)]
        exact atI_nat (j := 0) rfl
      · simp only [toldK]
        exact (if_neg (by simpa using h)).symm
  | child =>
    refine eqF (strNe (by decide +kernel)) ⟨_, rfl, rfl, _, rfl, eqF (strNe (by decide +kernel)) ⟨_, rfl, rfl, _, rfl, eqF (strNe (by decide +kernel)) ⟨_, rfl, rfl, _, rfl, eqF (strNe (by decide +kernel)) ⟨_, rfl, rfl, _, rfl, eqF (strNe (by decide +kernel)) ?_⟩⟩⟩⟩
    refine ⟨_, rfl, b, _, rfl, hbs H (Same.refl H), ?_⟩
    show gName 5 (.int ((row.map fun x : Nat => (x : Int)).sum)) _ _ _
    rw [sum_cast]
    refine ⟨fun m σ H' => ∃ (a : Int) (z : Nat), a = (z : Int) ∧ σ = [some (.str (wordK .child)), some (nI few), some (nI turn), some (.str (ch c)), some (.ref b), some (.int a), none, none] ∧ clsN few turn z = clsN few turn row.sum ∧ m = z ∧ H' = H, ⟨row.sum, _, row.sum, rfl, rfl, rfl, rfl, rfl⟩, ?_⟩
    rintro m σ H' ⟨_, z, rfl, rfl, hz, hm, rfl⟩
    refine ⟨_, rfl, _, rfl, _, rfl, _, _, rfl, rfl, _, _, rfl, rfl, _, rfl, ?_⟩
    by_cases h : few + turn ≤ z
    · refine dT (by omega) ⟨fun σ2 H2 => ∃ m', m' < m ∧ ∃ (a : Int) (z : Nat), a = (z : Int) ∧ σ2 = [some (.str (wordK .child)), some (nI few), some (nI turn), some (.str (ch c)), some (.ref b), some (.int a), none, none] ∧ clsN few turn z = clsN few turn row.sum ∧ m' = z ∧ H2 = H', fun σ2 H2 h => h, ?_⟩
      refine ⟨_, rfl, _, rfl, _, _, rfl, rfl, ?_⟩
      exact ⟨z - turn, by omega, _, z - turn, by omega, rfl, (cls_less h).trans hz, rfl, rfl⟩
    · refine dF (by omega) ⟨_, rfl, num _ z _ rfl (Same.refl _) ?_⟩
      simp only [toldK]
      rw [← hz, clsN_low (by omega)]
end


def abS : Str := Str.ofString "ab"
theorem ab_lets : Lets abS := by unfold Lets abS; decide +kernel
theorem ab_rises : Rises abS := by unfold Rises abS; decide +kernel
theorem ab_len : abS.length = 2 := by unfold abS; decide +kernel
def handJ (kd : Kd) (n few turn : Nat) : JD := ⟨abS, n, few, turn, toldK kd few turn, [0]⟩
def HJ (P : Program) (w : World) (H : Hp) (v : V) (J : JD) : Prop := ∃ (j d g : Addr) (xs : List NRow), v = .ref j ∧ H j = some (.tup [.str J.L, nI J.n, nI J.few, nI J.turn, .ref d, .ref g]) ∧ H d = some (DictN P w d xs) ∧ RowsN H xs ∧ RowsJ xs J.keys J.fs ∧ H g = some (.lst (J.good.map nI))
theorem HJ.at {P : Program} {w : World} {H : Hp} {v : V} {J : JD} (x : HJ P w H v J) : JAt P w H v J := by
  obtain ⟨j, d, g, xs, rfl, h1, h2, h3, h4, h5⟩ := x
  exact ⟨j, d, g, xs, _, rfl, h1, h2, h3, h4, List.Perm.refl _, h5⟩
theorem HJ.extN {P : Program} {w : World} {H H' : Hp} {v : V} {J : JD} (x : HJ P w H v J) (f : LamX.ExtN H H') : HJ P w H' v J := by
  obtain ⟨j, d, g, xs, rfl, h1, h2, h3, h4, h5⟩ := x
  exact ⟨j, d, g, xs, rfl, f _ _ h1 (fun _ z => by cases z), f _ _ h2 not_tbl, h3.keep fun b ys e => f _ _ e (fun _ z => by cases z), h4, f _ _ h5 (fun _ z => by cases z)⟩
theorem handJ_ok {kd : Kd} {n few turn : Nat} (h : fitK kd n few turn) (n1 : 1 ≤ n) (n6 : n ≤ 6) (f4 : few ≤ 4) (t1 : 1 ≤ turn) (t4 : turn ≤ 4) (hz : 2 * (few + turn) ^ n ≤ 600) : (handJ kd n few turn).ok where
  L := ab_lets
  n1 := n1
  n6 := n6
  f4 := f4
  t1 := t1
  t4 := t4
  h600 := by show abS.length * (few + turn) ^ n ≤ 600; rw [ab_len]; exact hz
  lt key _ := toldK_lt h t1 key.1 key.2
  g6 := by show 1 ≤ 6; decide
  gn g hg := by rw [List.mem_singleton.mp hg]; exact n1
def sp__law_made (P : Program) (w : World) : Sp := fun vs H Q _ => ∃ (kd : Kd) (n few turn : Nat), vs = [.str (wordK kd), nI n, nI few, nI turn] ∧ fitK kd n few turn ∧ 1 ≤ n ∧ n ≤ 6 ∧ few ≤ 4 ∧ 1 ≤ turn ∧ turn ≤ 4 ∧ 2 * (few + turn) ^ n ≤ 600 ∧ ∀ v H', Same H H' → HJ P w H' v (handJ kd n few turn) → Q v H'
section
variable {P : Program} {w : World} {K : PySem.W.Frag} {mg : Str → Option Value} {base : Heap}
theorem ok__law_made (T : Txt K mg) : FnOk P w K mg base CX0 2 T.f__law_made T.d__law_made ["word", "states", "few", "turn"] (sp__law_made P w) := by
  have G__law_tuples : FnOk P w K mg base CX0 1 T.f__law_tuples T.d__law_tuples ["letters", "states", "classes"] sp__law_tuples := ok__law_tuples T
  have G__law_told : FnOk P w K mg base CX0 1 T.f__law_told T.d__law_told ["word", "few", "turn", "letter", "classes"] sp__law_told := ok__law_told T
  refine T.F__law_made.ok sc__law_made (fun vs H Q E h => ?_) (fun cdv A outer s H vs Q E hr h => ?_)
  · obtain ⟨kd, n, few, turn, rfl, _⟩ := h
    rfl
  obtain ⟨kd, n, few, turn, rfl, hfit, n1, n6, f4, t1, t4, hz, q⟩ := h
  refine ⟨_, (pss_cons (ps_set (i := 4) sc__law_made.nd rfl (Or.inl rfl) pe_dnewN) (pss_cons (ps_for PassesOwn.never rfl (pi_list (pe_call G__law_tuples (hr.mono (by omega)) (by rfl) T.m__law_tuples T.F__law_tuples.kp T.b__law_tuples .nil pass0 (pa_cons pe_str (pa_cons (pv 1) (pa_cons (pe_op op_add (pv 2) (pv 3)) pa_nil))))) (pg_name (i := 5) sc__law_made.nd rfl (Or.inl rfl)) (pss_one (ps_dputN (roomN hr) (pv 4) (pv 5) (pe_call G__law_told (hr.mono (by omega)) (by rfl) T.m__law_told T.F__law_told.kp T.b__law_told .nil pass0 (pa_cons (pv 0) (pa_cons (pv 2) (pa_cons (pv 3) (pa_cons (pe_ix ix_tup (pv 5) pe_int (fun _ _ => rfl)) (pa_cons (pe_ix ix_tup (pv 5) pe_int (fun _ _ => rfl)) pa_nil)))))) rfl))) (pss_one (ps_ret (pe_tup (pa_cons pe_str (pa_cons (pv 1) (pa_cons (pv 2) (pa_cons (pv 3) (pa_cons (pv 4) (pa_cons (pe_lst (pa_cons pe_int pa_nil)) pa_nil))))))))))), ?_⟩
  refine fun dl hdl => ?_
  have s0 := same_new hdl (o := DictN P w dl [])
  have kd0 := upd_same (H := H) (a := dl) (o := DictN P w dl [])
  have ev : (few : Int) + (turn : Int) = ((few + turn : Nat) : Int) := by push_cast; rfl
  refine ⟨_, rfl, _, rfl, _, rfl, _, _, rfl, rfl, abS, n, few + turn, congrArg (fun z => [V.str abS, nI n, V.int z]) ev, ab_lets, n6, by omega, by omega, by rw [ab_len]; exact hz, fun r bs H1 s1 hr0 hr1 hk => ?_⟩
  have s1 : Same (upd H dl (DictN P w dl [])) H1 := s1
  have hr0 : upd H dl (DictN P w dl []) r = none := hr0
  generalize upd H dl (DictN P w dl []) = H0 at *
  have ndr : dl ≠ r := ne_of_none kd0 hr0
  have knd := keysOf_nd ab_rises n (few + turn)
  have lbs := Paired.length hk
  have lk : (keysOf abS n (few + turn)).length ≤ 600 := by rw [keysOf_len, ab_len]; exact hz
  refine ⟨r, rfl, ⟨_, SqL.of hr1⟩, for_list (xs := bs.map V.ref) (fun i σ H' => ∃ (xs : List NRow) (y5 : Option V), σ = [some (.str (wordK kd)), some (nI n), some (nI few), some (nI turn), some (.ref dl), y5] ∧ H' dl = some (DictN P w dl xs) ∧ RowsN H' xs ∧ RowsJ xs ((keysOf abS n (few + turn)).take i) (toldK kd few turn) ∧ FrD dl H1 H') ⟨[], _, rfl, s1 _ _ kd0, (fun x h => by cases h), .nil, fun b o _ e => e⟩ (fun i σ H' _ ⟨_, _, _, _, _, _, f⟩ => SqL.of (f _ _ ndr.symm hr1)) ?_ ?_⟩
  · rintro i x σ H2 hx ⟨xs, y5, rfl, g1, g2, g3, g4⟩
    rw [List.getElem?_map] at hx
    cases hb : bs[i]? with
    | none => rw [hb] at hx; cases hx
    | some b =>
    rw [hb] at hx
    cases hx
    obtain ⟨⟨c, row⟩, hkey, a, kb, ka⟩ := prd_at hk hb
    have hm := List.mem_of_getElem? hkey
    obtain ⟨hc, hlen, hkk⟩ := keysOf_mem hm
    have nt : ∀ (q : Addr) (ys : List V), H1 q = some (.tup ys) → q ≠ dl := fun q ys e z => by rw [z, s1 _ _ kd0] at e; unfold DictN at e; cases e
    have kb2 := g4 _ _ (nt _ _ kb) kb
    have ka2 := g4 _ _ (nt _ _ ka) ka
    refine ⟨_, rfl, _, rfl, _, rfl, _, rfl, b, _, 0, _, rfl, rfl, SqT.of kb2, atI_nat (j := 0) rfl, _, rfl, b, _, 1, _, rfl, rfl, SqT.of kb2, atI_nat (j := 1) rfl, kd, n, few, turn, c, a, row, rfl, ka2, hlen, hfit, n6, f4, t1, t4, hkk, fun H3 s3 => ?_⟩
    have lx : xs.length ≤ 600 := by
      rw [Paired.length g3]
      exact Nat.le_trans (List.length_take_le' _ _) lk
    have kd3 := s3 _ _ g1
    have krn := g2.keep fun b ys e => s3 b _ e
    have fresh : ∀ x ∈ xs, x.1 ≠ keyN c row := fun x hx e => by
      obtain ⟨key, hm2, e1, _⟩ := prd_mem g3 hx
      rw [e1] at e
      obtain ⟨e2, e3⟩ := keyN_inj e
      exact ahead_ne knd hkey key hm2 (Prod.ext e2 e3)
    refine ⟨_, rfl, _, rfl, dl, b, xs, keyN c row, rfl, rfl, kd3, krn, nk_key (s3 _ _ kb2) (s3 _ _ ka2), keyN_depth c row, Nat.lt_of_le_of_lt (show _ ≤ 1000000 by omega) (by decide), ?_⟩
    have tk := fun b2 ys e => upd_tupN (o := DictN P w dl (storedN xs (keyN c row) b (nI (toldK kd few turn c row)))) kd3 b2 ys e
    show ∃ (xs1 : List NRow) (y5 : Option V), _ ∧ (upd H3 dl (DictN P w dl (storedN xs (keyN c row) b (nI (toldK kd few turn c row))))) dl = some (DictN P w dl xs1) ∧ _
    rw [storedN_new fresh] at tk ⊢
    refine ⟨_, _, rfl, upd_same, ?_, ?_, fun b o n e => by rw [upd_ne n]; exact s3 _ _ (g4 b o n e)⟩
    · intro x hx
      rcases List.mem_append.mp hx with hx | hx
      · exact (krn.keep tk) x hx
      · rw [List.mem_singleton.mp hx]
        exact ⟨nk_key (tk _ _ (s3 _ _ kb2)) (tk _ _ (s3 _ _ ka2)), keyN_depth c row⟩
    · rw [take_succ_of hkey]
      exact prd_app g3 (.cons ⟨rfl, rfl⟩ .nil)
  · rintro σ H2 ⟨xs, y5, rfl, g1, g2, g3, g4⟩
    rw [List.length_map, lbs, List.take_length] at g3
    have S2 : Same H H2 := fun b o e => g4 b o (ne_of_none e hdl) (s1 _ _ (s0 _ _ e))
    refine ⟨_, rfl, _, rfl, _, rfl, _, rfl, (by show 1 ≤ sizeLine; decide), fun g hg => ⟨(by show 6 ≤ sizeLine; decide), fun j hj => ?_⟩⟩
    have s3 := same_new hg (o := .lst [V.int 0])
    have k3 := upd_same (H := H2) (a := g) (o := .lst [V.int 0])
    generalize upd H2 g (.lst [V.int 0]) = H3 at *
    have s4 := same_new hj (o := .tup [V.str (Str.ofString "ab"), nI n, nI few, nI turn, V.ref dl, V.ref g])
    have k4 := upd_same (H := H3) (a := j) (o := .tup [V.str (Str.ofString "ab"), nI n, nI few, nI turn, V.ref dl, V.ref g])
    exact q (.ref j) _ ((S2.trans s3).trans s4) ⟨j, dl, g, xs, rfl, k4, s4 _ _ (s3 _ _ g1), g2.keep fun b ys e => s4 _ _ (s3 b _ e), g3, s4 _ _ k3⟩
end


mutual
def leavesT : Tr → Nat
  | .node _ ks => if ks.isEmpty then 1 else leavesTs ks
def leavesTs : List Tr → Nat
  | [] => 0
  | t :: r => leavesT t + leavesTs r
end
mutual
def hasT : Tr → Bool
  | .node c ks => decide (c = 98) || hasTs ks
def hasTs : List Tr → Bool
  | [] => false
  | t :: r => hasT t || hasTs r
end
mutual
def oddT : Tr → Bool
  | .node _ ks => decide (ks.length % 2 = 1) || oddTs ks
def oddTs : List Tr → Bool
  | [] => false
  | t :: r => oddT t || oddTs r
end
theorem leavesTs_map : ∀ ks : List Tr, leavesTs ks = (ks.map leavesT).sum
  | [] => rfl
  | t :: r => by rw [leavesTs, List.map_cons, List.sum_cons, leavesTs_map r]
theorem hasTs_any : ∀ ks : List Tr, hasTs ks = decide ((ks.filter hasT).length ≠ 0)
  | [] => rfl
  | t :: r => by
    rw [hasTs, hasTs_any r, List.filter_cons]
    cases hasT t <;> simp
theorem oddTs_any : ∀ ks : List Tr, oddTs ks = decide ((ks.filter oddT).length ≠ 0)
  | [] => rfl
  | t :: r => by
    rw [oddTs, oddTs_any r, List.filter_cons]
    cases oddT t <;> simp
theorem dats_len : ∀ ts : List Tr, (dats ts).length = ts.length
  | [] => rfl
  | t :: r => by simp only [dats, List.length_cons, dats_len r]
def sp__law_leaves (d : Nat) : Sp := fun vs H Q _ => ∃ (v : V) (t : Tr), vs = [v] ∧ TrAt (fun _ => True) H v t ∧ t.depth ≤ d ∧ t.depth ≤ 32 ∧ t.size ≤ 1000000 ∧ ∀ H', Same H H' → Q (nI (leavesT t)) H'
def sp__law_has_second (d : Nat) : Sp := fun vs H Q _ => ∃ (v : V) (t : Tr), vs = [v] ∧ TrAt (fun _ => True) H v t ∧ t.depth ≤ d ∧ t.size ≤ 1000000 ∧ ∀ H', Same H H' → Q (.bl (hasT t)) H'
def sp__law_odd_part (d : Nat) : Sp := fun vs H Q _ => ∃ (v : V) (t : Tr), vs = [v] ∧ TrAt (fun _ => True) H v t ∧ t.depth ≤ d ∧ t.size ≤ 1000000 ∧ ∀ H', Same H H' → Q (.bl (oddT t)) H'
section
variable {P : Program} {w : World} {K : PySem.W.Frag} {mg : Str → Option Value} {base : Heap}
theorem ok__law_leaves (T : Txt K mg) : ∀ d : Nat, FnOk P w K mg base CX0 d T.f__law_leaves T.d__law_leaves ["tree"] (sp__law_leaves d)
  | 0 => none_of fun vs H Q E ⟨v, t, _, _, h, _⟩ => by have := depth_pos t; omega
  | d + 1 => by
    have G__law_leaves : FnOk P w K mg base CX0 d T.f__law_leaves T.d__law_leaves ["tree"] (sp__law_leaves d) := ok__law_leaves T d
    refine T.F__law_leaves.ok sc__law_leaves (fun vs H Q E h => ?_) (fun cdv A outer s H vs Q E hr h => ?_)
    · obtain ⟨v, t, rfl, _⟩ := h
      rfl
    obtain ⟨v, t, rfl, ht, hd, hd2, hz, q⟩ := h
    refine ⟨_, (pss_cons (ps_if (pt_cmpR (op_eqD hr.units) (pe_ix ix_tup (pv 0) pe_int (fun _ _ => rfl)) (pe_lst pa_nil) (nomark _)) (pss_one (ps_ret pe_int)) pss_nil) (pss_one (ps_ret (pe_callB (cr_sum rfl) (by rfl) T.z_sum (by decide +kernel) (pa_cons (pe_lc (own := [("child", 1)]) (g := gName 1) (te := tCall (sp__law_leaves d) [] E0 (tCons (tVar 1) tNil)) (tt := tYes) rfl sc__law_leaves.nd (pi_list (pe_ix ix_tup (pv 0) pe_int (fun _ _ => rfl))) (blkOk_by (own := [("child", 1)]) (N := ["tree", "child"]) (sc := (defScope s__law_leaves)) (by decide +kernel)) (fun _ _ _ _ _ => (pg_name (i := 1) sc__law_leaves.nd rfl (Or.inl rfl))) (fun _ _ _ _ _ => pts_nil) (fun _ _ _ _ _ => (pe_call G__law_leaves (hr.mono (by omega)) (by rfl) T.m__law_leaves T.F__law_leaves.kp T.b__law_leaves .nil pass0 (pa_cons (pv 1) pa_nil)))) pa_nil))))), ?_⟩
    obtain ⟨c, ks⟩ := t
    simp only [Tr.depth] at hd hd2
    simp only [Tr.size] at hz
    have lz := len_sizes ks
    cases ht with
    | node h1 h2 k1 k2 c1 c2 r =>
      rename_i a l xs
      have lr := r.len
      refine ⟨_, rfl, a, _, 1, _, rfl, rfl, SqT.of h1, atI_nat (j := 1) rfl, (by show 0 ≤ sizeLine; decide), fun e he => ?_⟩
      have se := same_new he (o := .lst [])
      refine ⟨_, _, .lst (SqL.of (se _ _ h2)) (TrsAt.dp ks xs (r.same se)), dp_nil upd_same, shaped_trs (r.same se) (by omega), shaped_nil, _, rfl, ?_⟩
      rw [eqv_nil, dats_len]
      by_cases hu : ks.length = 0
      · refine dT hu ?_
        have e1 := List.length_eq_zero_iff.mp hu
        subst e1
        exact q _ se
      · refine dF hu ?_
        have hq : leavesT (.node c ks) = (ks.map leavesT).sum := by
          have : ks.isEmpty = false := by
            cases ks with
            | nil => exact absurd rfl hu
            | cons _ _ => rfl
          rw [leavesT, this, if_neg (by decide), leavesTs_map]
        rw [hq] at q
        have h1 := se _ _ h1
        have h2 := se _ _ h2
        have r := r.same se
        generalize upd H e (.lst []) = H1 at *
        refine ⟨_, rfl, a, _, 1, _, rfl, rfl, SqT.of h1, atI_nat (j := 1) rfl, l, rfl, ⟨_, SqL.of h2⟩, fun D hD => ?_⟩
        refine lc_list (xs := xs) (fun i H2 => H2 D = some (.lst (((ks.take i).map leavesT).map nI)) ∧ Same H1 H2) ⟨upd_same, same_new hD⟩ (fun i H2 _ h => SqL.of (h.2 _ _ h2)) ?_ ?_
        · rintro i x H2 hx ⟨g1, g2⟩
          obtain ⟨t1, ht1, hx2⟩ := r.getV hx
          have dt := depths_mem (List.mem_of_getElem? ht1)
          have st := sizes_mem (List.mem_of_getElem? ht1)
          refine ⟨rfl, _, rfl, x, t1, rfl, hx2.same g2, by omega, by omega, by omega, fun H3 s3 => ⟨_, s3 _ _ g1, ?_, ?_, same_add (g2.trans s3) hD⟩⟩
          · rw [List.length_map, List.length_map, List.length_take]
            exact Nat.lt_of_le_of_lt (show _ ≤ 1000000 by omega) (by decide)
          · rw [upd_same, take_succ_of ht1, List.map_append, List.map_append]
            rfl
        · rintro H2 ⟨g1, g2⟩
          rw [lr, List.take_length, nI_map] at g1
          refine ⟨D, _, rfl, .inl (.inl g1), ?_⟩
          rw [sum_cast]
          exact q _ (se.trans g2)
theorem ok__law_has_second (T : Txt K mg) : ∀ d : Nat, FnOk P w K mg base CX0 d T.f__law_has_second T.d__law_has_second ["tree"] (sp__law_has_second d)
  | 0 => none_of fun vs H Q E ⟨v, t, _, _, h, _⟩ => by have := depth_pos t; omega
  | d + 1 => by
    have G__law_has_second : FnOk P w K mg base CX0 d T.f__law_has_second T.d__law_has_second ["tree"] (sp__law_has_second d) := ok__law_has_second T d
    refine T.F__law_has_second.ok sc__law_has_second (fun vs H Q E h => ?_) (fun cdv A outer s H vs Q E hr h => ?_)
    · obtain ⟨v, t, rfl, _⟩ := h
      rfl
    obtain ⟨v, t, rfl, ht, hd, hz, q⟩ := h
    refine ⟨_, (pss_one (ps_ret (pe_or (pe_cmpR op_eq (pe_ix ix_tup (pv 0) pe_int (fun _ _ => rfl)) pe_str (nomark _)) (pe_one (pe_cmpR (op_neD hr.units) (pe_lc (own := [("child", 1)]) (g := gName 1) (tt := tB (tCall (sp__law_has_second d) [] E0 (tCons (tVar 1) tNil))) rfl sc__law_has_second.nd (pi_list (pe_ix ix_tup (pv 0) pe_int (fun _ _ => rfl))) (blkOk_by (own := [("child", 1)]) (N := ["tree", "child"]) (sc := (defScope s__law_has_second)) (by decide +kernel)) (fun _ _ _ _ _ => (pg_name (i := 1) sc__law_has_second.nd rfl (Or.inl rfl))) (fun _ _ _ _ _ => pts_one (pt_val (pe_call G__law_has_second (hr.mono (by omega)) (by rfl) T.m__law_has_second T.F__law_has_second.kp T.b__law_has_second .nil pass0 (pa_cons (pv 1) pa_nil)))) (fun _ _ _ _ _ => pe_int)) (pe_lst pa_nil) (nomark _)))))), ?_⟩
    obtain ⟨c, ks⟩ := t
    simp only [Tr.depth] at hd
    simp only [Tr.size] at hz
    have lz := len_sizes ks
    rw [show hasT (.node c ks) = (decide (c = 98) || hasTs ks) from by rw [hasT]] at q
    cases ht with
    | node h1 h2 k1 k2 c1 c2 r =>
      rename_i a l xs
      have lr := r.len
      refine ⟨_, rfl, a, _, 0, _, rfl, rfl, SqT.of h1, atI_nat (j := 0) rfl, rfl, _, rfl, ?_⟩
      by_cases hc : c = 98
      · refine eqT (by rw [ch_b.mpr hc]) ?_
        rw [decide_eq_true hc] at q
        exact q H (Same.refl H)
      · refine eqF (fun e => hc (ch_b.mp (V.str.inj e))) ?_
        rw [decide_eq_false hc, Bool.false_or, hasTs_any] at q
        refine ⟨_, rfl, a, _, 1, _, rfl, rfl, SqT.of h1, atI_nat (j := 1) rfl, l, rfl, ⟨_, SqL.of h2⟩, fun D hD => ?_⟩
        refine lc_list (xs := xs) (fun i H2 => H2 D = some (.lst (((List.replicate ((ks.take i).filter hasT).length 1)).map V.int)) ∧ Same H H2) ⟨upd_same, same_new hD⟩ (fun i H2 _ h => SqL.of (h.2 _ _ h2)) ?_ ?_
        · rintro i x H2 hx ⟨g1, g2⟩
          obtain ⟨t1, ht1, hx2⟩ := r.getV hx
          have dt := depths_mem (List.mem_of_getElem? ht1)
          have st := sizes_mem (List.mem_of_getElem? ht1)
          have ln := Nat.le_trans (List.length_filter_le hasT (ks.take i)) (List.length_take_le' _ _)
          rw [take_succ_of ht1, List.filter_append, List.filter_cons, List.filter_nil]
          refine ⟨rfl, _, rfl, x, t1, rfl, hx2.same g2, by omega, by omega, fun H3 s3 => ⟨_, rfl, ite2 (fun hh => ?_) (fun hh => ?_)⟩⟩
          · rw [if_pos hh]
            refine ⟨_, s3 _ _ g1, ?_, ?_, same_add (g2.trans s3) hD⟩
            · rw [List.length_map, List.length_replicate]
              exact Nat.lt_of_le_of_lt (show _ ≤ 1000000 by omega) (by decide)
            · rw [upd_same, List.length_append, List.length_singleton, List.replicate_succ', List.map_append]
              rfl
          · rw [if_neg hh, List.append_nil]
            exact ⟨s3 _ _ g1, g2.trans s3⟩
        · rintro H2 ⟨g1, g2⟩
          rw [lr, List.take_length] at g1
          refine ⟨(by show 0 ≤ sizeLine; decide), fun e he => ?_⟩
          have se := same_new he (o := .lst [])
          refine ⟨_, _, dp_intsL (SqL.of (se _ _ g1)), dp_nil upd_same, shaped_ints _, shaped_nil, ?_⟩
          rw [eqv_nil, List.length_map, List.length_replicate]
          have e1 : (!decide ((ks.filter hasT).length = 0)) = decide ((ks.filter hasT).length ≠ 0) := by
            generalize (ks.filter hasT).length = m
            by_cases h : m = 0 <;> simp [h]
          rw [e1]
          exact q _ (g2.trans se)
theorem ok__law_odd_part (T : Txt K mg) : ∀ d : Nat, FnOk P w K mg base CX0 d T.f__law_odd_part T.d__law_odd_part ["tree"] (sp__law_odd_part d)
  | 0 => none_of fun vs H Q E ⟨v, t, _, _, h, _⟩ => by have := depth_pos t; omega
  | d + 1 => by
    have G__law_odd_part : FnOk P w K mg base CX0 d T.f__law_odd_part T.d__law_odd_part ["tree"] (sp__law_odd_part d) := ok__law_odd_part T d
    refine T.F__law_odd_part.ok sc__law_odd_part (fun vs H Q E h => ?_) (fun cdv A outer s H vs Q E hr h => ?_)
    · obtain ⟨v, t, rfl, _⟩ := h
      rfl
    obtain ⟨v, t, rfl, ht, hd, hz, q⟩ := h
    refine ⟨_, (pss_one (ps_ret (pe_or (pe_cmpR op_eq (pe_op op_mod (pe_callB call_len_seq (by rfl) T.z_len PySem.boot_len (pa_cons (pe_ix ix_tup (pv 0) pe_int (fun _ _ => rfl)) pa_nil)) pe_int) pe_int (nomark _)) (pe_one (pe_cmpR (op_neD hr.units) (pe_lc (own := [("child", 1)]) (g := gName 1) (tt := tB (tCall (sp__law_odd_part d) [] E0 (tCons (tVar 1) tNil))) rfl sc__law_odd_part.nd (pi_list (pe_ix ix_tup (pv 0) pe_int (fun _ _ => rfl))) (blkOk_by (own := [("child", 1)]) (N := ["tree", "child"]) (sc := (defScope s__law_odd_part)) (by decide +kernel)) (fun _ _ _ _ _ => (pg_name (i := 1) sc__law_odd_part.nd rfl (Or.inl rfl))) (fun _ _ _ _ _ => pts_one (pt_val (pe_call G__law_odd_part (hr.mono (by omega)) (by rfl) T.m__law_odd_part T.F__law_odd_part.kp T.b__law_odd_part .nil pass0 (pa_cons (pv 1) pa_nil)))) (fun _ _ _ _ _ => pe_int)) (pe_lst pa_nil) (nomark _)))))), ?_⟩
    obtain ⟨c, ks⟩ := t
    simp only [Tr.depth] at hd
    simp only [Tr.size] at hz
    have lz := len_sizes ks
    rw [show oddT (.node c ks) = (decide (ks.length % 2 = 1) || oddTs ks) from by rw [oddT]] at q
    cases ht with
    | node h1 h2 k1 k2 c1 c2 r =>
      rename_i a l xs
      have lr := r.len
      refine ⟨_, rfl, a, _, 1, _, rfl, rfl, SqT.of h1, atI_nat (j := 1) rfl, l, _, rfl, .inl (SqL.of h2), _, _, rfl, rfl, (by show (0 : Int) < 2; decide), rfl, _, rfl, ?_⟩
      by_cases hc : ks.length % 2 = 1
      · refine eqT (congrArg V.int (by omega)) ?_
        rw [decide_eq_true hc] at q
        exact q H (Same.refl H)
      · refine eqF (fun e => hc (by have := V.int.inj e; omega)) ?_
        rw [decide_eq_false hc, Bool.false_or, oddTs_any] at q
        refine ⟨_, rfl, a, _, 1, _, rfl, rfl, SqT.of h1, atI_nat (j := 1) rfl, l, rfl, ⟨_, SqL.of h2⟩, fun D hD => ?_⟩
        refine lc_list (xs := xs) (fun i H2 => H2 D = some (.lst (((List.replicate ((ks.take i).filter oddT).length 1)).map V.int)) ∧ Same H H2) ⟨upd_same, same_new hD⟩ (fun i H2 _ h => SqL.of (h.2 _ _ h2)) ?_ ?_
        · rintro i x H2 hx ⟨g1, g2⟩
          obtain ⟨t1, ht1, hx2⟩ := r.getV hx
          have dt := depths_mem (List.mem_of_getElem? ht1)
          have st := sizes_mem (List.mem_of_getElem? ht1)
          have ln := Nat.le_trans (List.length_filter_le oddT (ks.take i)) (List.length_take_le' _ _)
          rw [take_succ_of ht1, List.filter_append, List.filter_cons, List.filter_nil]
          refine ⟨rfl, _, rfl, x, t1, rfl, hx2.same g2, by omega, by omega, fun H3 s3 => ⟨_, rfl, ite2 (fun hh => ?_) (fun hh => ?_)⟩⟩
          · rw [if_pos hh]
            refine ⟨_, s3 _ _ g1, ?_, ?_, same_add (g2.trans s3) hD⟩
            · rw [List.length_map, List.length_replicate]
              exact Nat.lt_of_le_of_lt (show _ ≤ 1000000 by omega) (by decide)
            · rw [upd_same, List.length_append, List.length_singleton, List.replicate_succ', List.map_append]
              rfl
          · rw [if_neg hh, List.append_nil]
            exact ⟨s3 _ _ g1, g2.trans s3⟩
        · rintro H2 ⟨g1, g2⟩
          rw [lr, List.take_length] at g1
          refine ⟨(by show 0 ≤ sizeLine; decide), fun e he => ?_⟩
          have se := same_new he (o := .lst [])
          refine ⟨_, _, dp_intsL (SqL.of (se _ _ g1)), dp_nil upd_same, shaped_ints _, shaped_nil, ?_⟩
          rw [eqv_nil, List.length_map, List.length_replicate]
          have e1 : (!decide ((ks.filter oddT).length = 0)) = decide ((ks.filter oddT).length ≠ 0) := by
            generalize (ks.filter oddT).length = m
            by_cases h : m = 0 <;> simp [h]
          rw [e1]
          exact q _ (g2.trans se)
end

mutual
theorem St_want {sf : Nat → List Nat → Nat} {n : Nat} {want : Tr → Nat} (h : ∀ c ks, sf c (cnts n (ks.map want)) = want (.node c ks)) : ∀ t : Tr, St sf n t = want t
  | .node c ks => by rw [St, Sts_want h ks, h]
theorem Sts_want {sf : Nat → List Nat → Nat} {n : Nat} {want : Tr → Nat} (h : ∀ c ks, sf c (cnts n (ks.map want)) = want (.node c ks)) : ∀ ks : List Tr, Sts sf n ks = ks.map want
  | [] => by rw [Sts]; rfl
  | t :: r => by rw [Sts, St_want h t, Sts_want h r]; rfl
end
theorem wsum_app : ∀ (l : List Nat) (k x : Nat), wsum k (l ++ [x]) = wsum k l + (k + l.length) * x
  | [], k, x => by simp [wsum]
  | a :: l, k, x => by
    rw [List.cons_append, wsum, wsum_app l (k + 1) x, wsum, List.length_cons, show k + 1 + l.length = k + (l.length + 1) by omega, Nat.add_assoc]
theorem wsum_range (f : Nat → Nat) : ∀ n : Nat, wsum 0 ((List.range n).map f) = ((List.range n).map fun i => i * f i).sum
  | 0 => rfl
  | n + 1 => by
    rw [List.range_succ, List.map_append, List.map_append, List.sum_append, List.map_singleton, List.map_singleton, wsum_app, wsum_range f n, List.length_map, List.length_range]
    simp
theorem sum_two {α : Type} (f g : α → Nat) : ∀ l : List α, (l.map fun i => f i + g i).sum = (l.map f).sum + (l.map g).sum
  | [] => rfl
  | a :: l => by
    simp only [List.map_cons, List.sum_cons]
    rw [sum_two f g l]
    omega
theorem sum_one (h : Nat → Nat) (s : Nat) : ∀ n : Nat, ((List.range n).map fun i => if s = i then h i else 0).sum = if s < n then h s else 0
  | 0 => by simp
  | n + 1 => by
    rw [List.range_succ, List.map_append, List.sum_append, sum_one h s n, List.map_singleton, List.sum_singleton]
    by_cases e : s = n
    · subst e
      rw [if_neg (Nat.lt_irrefl _), if_pos rfl, if_pos (Nat.lt_succ_self _), Nat.zero_add]
    · by_cases l : s < n
      · rw [if_pos l, if_neg e, if_pos (by omega), Nat.add_zero]
      · rw [if_neg l, if_neg e, if_neg (by omega)]
theorem cnt_cons (s i : Nat) (r : List Nat) : (s :: r).count i = r.count i + (if s = i then 1 else 0) := by
  rw [List.count_cons]
  by_cases e : s = i
  · subst e; simp
  · have : (s == i) = false := by simpa using e
    simp [this, e]
theorem cnts_by (h : Nat → Nat) {n : Nat} : ∀ {ss : List Nat}, (∀ s ∈ ss, s < n) → ((List.range n).map fun i => h i * ss.count i).sum = (ss.map h).sum
  | [], _ => by
    have : ∀ l : List Nat, (l.map fun i => h i * ([] : List Nat).count i).sum = 0 := by
      intro l
      induction l with
      | nil => rfl
      | cons a l ih => rw [List.map_cons, List.sum_cons, ih]; simp
    exact this _
  | s :: r, hs => by
    have e : (fun i => h i * (s :: r).count i) = fun i => h i * r.count i + (if s = i then h i else 0) := by
      funext i
      rw [cnt_cons, Nat.mul_add]
      by_cases z : s = i
      · rw [if_pos z, if_pos z, Nat.mul_one]
      · rw [if_neg z, if_neg z, Nat.mul_zero]
    rw [e, sum_two, cnts_by h fun x hx => hs x (List.mem_cons_of_mem _ hx), sum_one, if_pos (hs s List.mem_cons_self), List.map_cons, List.sum_cons, Nat.add_comm]
theorem cnts_wsum {n : Nat} {ss : List Nat} (h : ∀ s ∈ ss, s < n) : wsum 0 (cnts n ss) = ss.sum := by
  unfold cnts
  rw [wsum_range, cnts_by (fun i => i) h]
  simp
theorem cnts_sum {n : Nat} {ss : List Nat} (h : ∀ s ∈ ss, s < n) : (cnts n ss).sum = ss.length := by
  have := cnts_by (fun _ => 1) h
  unfold cnts
  simp only [Nat.one_mul] at this
  rw [this]
  generalize ss = l
  induction l with
  | nil => rfl
  | cons a l ih => rw [List.map_cons, List.sum_cons, ih, List.length_cons]; omega
theorem cls_at {n few turn i : Nat} {ss : List Nat} (h : i < n) : ((cnts n ss).map (clsN few turn)).getD i 0 = clsN few turn (ss.count i) := by
  rw [List.getD_eq_getElem?_getD, List.getElem?_map, cnts_at _ h]
  rfl
theorem cls_pos {few turn x : Nat} (h : 1 ≤ few) : 0 < clsN few turn x ↔ 0 < x := by
  unfold clsN
  split <;> omega
theorem cls0 {r x : Nat} : clsN 0 r x = x % r := by
  unfold clsN
  split
  · rw [Nat.mod_eq_of_lt (by omega)]
  · simp
theorem cls_odd {x : Nat} : clsN 1 2 x % 2 = x % 2 := by
  unfold clsN
  split <;> omega
theorem wsum_mod (r : Nat) : ∀ (row : List Nat) (k : Nat), wsum k (row.map (· % r)) % r = wsum k row % r
  | [], _ => rfl
  | x :: l, k => by
    rw [List.map_cons, wsum, wsum, Nat.add_mod, wsum_mod r l (k + 1), Nat.mul_mod, Nat.mod_mod, ← Nat.mul_mod, ← Nat.add_mod]
theorem sum_mod (r : Nat) (f : Tr → Nat) : ∀ ks : List Tr, (ks.map fun t => f t % r).sum % r = (ks.map f).sum % r
  | [] => rfl
  | t :: l => by rw [List.map_cons, List.sum_cons, List.map_cons, List.sum_cons, Nat.add_mod, sum_mod r f l, Nat.mod_mod, ← Nat.add_mod]
theorem sizes_sum : ∀ ks : List Tr, sizes ks = (ks.map Tr.size).sum
  | [] => rfl
  | t :: r => by rw [sizes, List.map_cons, List.sum_cons, sizes_sum r]
theorem hasTs_iff : ∀ ks : List Tr, hasTs ks = true ↔ ∃ t ∈ ks, hasT t = true
  | [] => by simp [hasTs]
  | t :: r => by simp [hasTs, hasTs_iff r]
theorem oddTs_iff : ∀ ks : List Tr, oddTs ks = true ↔ ∃ t ∈ ks, oddT t = true
  | [] => by simp [oddTs]
  | t :: r => by simp [oddTs, oddTs_iff r]
theorem depths_att : ∀ {ks : List Tr}, ks ≠ [] → ∃ t ∈ ks, t.depth = depths ks
  | [], h => absurd rfl h
  | t :: r, _ => by
    by_cases e : r = []
    · subst e
      exact ⟨t, List.mem_cons_self, by simp [depths]⟩
    · obtain ⟨u, h1, h2⟩ := depths_att e
      by_cases le : t.depth ≤ depths r
      · exact ⟨u, List.mem_cons_of_mem _ h1, by simp only [depths]; omega⟩
      · exact ⟨t, List.mem_cons_self, by simp only [depths]; omega⟩
def Tr.kidsN : Tr → Nat
  | .node _ ks => ks.length
def wantK (kd : Kd) (few turn : Nat) (t : Tr) : Nat := match kd with
  | .size => t.size % turn
  | .has => if hasT t then 1 else 0
  | .deep => min 4 (t.depth - 1)
  | .odd => if oddT t then 1 else 0
  | .leaves => leavesT t % 2
  | .child => clsN few turn t.kidsN
def waysK (kd : Kd) (few turn : Nat) : Prop := match kd with
  | .size => few = 0
  | .has => few = 1 ∧ turn = 1
  | .deep => few = 1 ∧ turn = 1
  | .odd => few = 1 ∧ turn = 2
  | .leaves => few = 1 ∧ turn = 2
  | .child => True
theorem wantK_lt {kd : Kd} {n few turn : Nat} (h : fitK kd n few turn) (t1 : 1 ≤ turn) (t : Tr) : wantK kd few turn t < n := by
  cases kd <;> simp only [fitK] at h <;> subst h <;> simp only [wantK]
  · exact Nat.mod_lt _ t1
  · split <;> omega
  · omega
  · split <;> omega
  · omega
  · exact clsN_lt t1 _
theorem bit_eq {p q : Prop} [Decidable p] [Decidable q] (h : p ↔ q) : (if p then 1 else 0 : Nat) = if q then 1 else 0 := by
  by_cases z : p
  · rw [if_pos z, if_pos (h.mp z)]
  · rw [if_neg z, if_neg fun y => z (h.mpr y)]
theorem St_hand {kd : Kd} {n few turn : Nat} (hf : fitK kd n few turn) (hw : waysK kd few turn) (t1 : 1 ≤ turn) (t : Tr) : St (handJ kd n few turn).sf n t = wantK kd few turn t := by
  refine St_want (fun c ks => ?_) t
  have lt : ∀ s ∈ ks.map (wantK kd few turn), s < n := fun s hs => by
    obtain ⟨u, _, rfl⟩ := List.mem_map.mp hs
    exact wantK_lt hf t1 u
  show toldK kd few turn c ((cnts n (ks.map (wantK kd few turn))).map (clsN few turn)) = wantK kd few turn (.node c ks)
  have mem : ∀ s, 0 < (ks.map (wantK kd few turn)).count s ↔ ∃ u ∈ ks, wantK kd few turn u = s := fun s => by
    rw [List.count_pos_iff, List.mem_map]
  cases kd with
  | size =>
    simp only [fitK] at hf
    simp only [waysK] at hw
    subst hf hw
    have e : clsN 0 n = (· % n) := by funext x; exact cls0
    simp only [toldK, wantK]
    rw [e, Nat.add_mod, wsum_mod, cnts_wsum lt]
    have e2 : ks.map (wantK .size 0 n) = ks.map (fun t => t.size % n) := rfl
    rw [e2, sum_mod, ← sizes_sum, ← Nat.add_mod, Tr.size]
  | has =>
    obtain ⟨rfl, rfl⟩ := hw
    simp only [fitK] at hf
    subst hf
    refine bit_eq ?_
    rw [cls_at (by decide), cls_pos (Nat.le_refl _), show hasT (.node c ks) = (decide (c = 98) || hasTs ks) from by rw [hasT], Bool.or_eq_true, decide_eq_true_eq, hasTs_iff, mem]
    refine or_congr Iff.rfl ⟨fun ⟨u, h1, h2⟩ => ⟨u, h1, ?_⟩, fun ⟨u, h1, h2⟩ => ⟨u, h1, ?_⟩⟩
    · cases z : hasT u with
      | true => rfl
      | false => simp [wantK, z] at h2
    · simp [wantK, h2]
  | deep =>
    obtain ⟨rfl, rfl⟩ := hw
    simp only [fitK] at hf
    subst hf
    simp only [toldK, wantK, Tr.depth]
    have cl : ∀ s, s < 5 → (0 < ((cnts 5 (ks.map (wantK .deep 1 1))).map (clsN 1 1)).getD s 0 ↔ ∃ u ∈ ks, min 4 (u.depth - 1) = s) := fun s hs => by
      rw [cls_at hs, cls_pos (Nat.le_refl _), mem]
      exact Iff.rfl
    have key : topN 5 ((cnts 5 (ks.map (wantK .deep 1 1))).map (clsN 1 1)) = min 5 (depths ks) := by
      by_cases hk : ks = []
      · subst hk
        decide
      obtain ⟨u, hu, eu⟩ := depths_att hk
      have pu := depth_pos1 u
      rcases topN_spec ((cnts 5 (ks.map (wantK .deep 1 1))).map (clsN 1 1)) 5 with ⟨e, a⟩ | ⟨s, a, e, b, m⟩
      · have := a (min 4 (u.depth - 1)) (by omega)
        have := (cl (min 4 (u.depth - 1)) (by omega)).mpr ⟨u, hu, rfl⟩
        omega
      · obtain ⟨v, hv, ev⟩ := (cl s a).mp b
        have := m (min 4 (u.depth - 1)) (by omega) ((cl _ (by omega)).mpr ⟨u, hu, rfl⟩)
        have dv := depths_mem hv
        have pv := depth_pos1 v
        rw [e]
        omega
    rw [key]
    omega
  | odd =>
    obtain ⟨rfl, rfl⟩ := hw
    simp only [fitK] at hf
    subst hf
    refine bit_eq ?_
    rw [cls_at (by decide), cls_at (by decide), cls_pos (Nat.le_refl _), cls_odd, show oddT (.node c ks) = (decide (ks.length % 2 = 1) || oddTs ks) from by rw [oddT], Bool.or_eq_true, decide_eq_true_eq]
    have e1 : 0 < (ks.map (wantK .odd 1 2)).count 1 ↔ oddTs ks = true := by
      rw [oddTs_iff, mem]
      refine ⟨fun ⟨u, h1, h2⟩ => ⟨u, h1, ?_⟩, fun ⟨u, h1, h2⟩ => ⟨u, h1, ?_⟩⟩
      · cases z : oddT u with
        | true => rfl
        | false => simp [wantK, z] at h2
      · simp [wantK, h2]
    have two := cnts_sum lt
    have e2 : cnts 2 (ks.map (wantK .odd 1 2)) = [(ks.map (wantK .odd 1 2)).count 0, (ks.map (wantK .odd 1 2)).count 1] := rfl
    rw [e2, List.length_map] at two
    simp only [List.sum_cons, List.sum_nil, Nat.add_zero] at two
    constructor
    · intro y
      by_cases z : 0 < (ks.map (wantK .odd 1 2)).count 1
      · exact .inr (e1.mp z)
      · exact .inl (by omega)
    · intro y
      by_cases z : 0 < (ks.map (wantK .odd 1 2)).count 1
      · exact .inl z
      · rcases y with y | y
        · exact .inr (by omega)
        · exact absurd (e1.mpr y) z
  | leaves =>
    obtain ⟨rfl, rfl⟩ := hw
    simp only [fitK] at hf
    subst hf
    simp only [toldK, wantK, leavesT]
    have e2 : cnts 2 (ks.map (wantK .leaves 1 2)) = [(ks.map (wantK .leaves 1 2)).count 0, (ks.map (wantK .leaves 1 2)).count 1] := rfl
    have two := cnts_sum lt
    have one := cnts_wsum lt
    rw [e2, List.length_map] at two
    rw [e2] at one
    simp only [List.sum_cons, List.sum_nil, Nat.add_zero, wsum, Nat.zero_mul, Nat.zero_add, Nat.one_mul] at two one
    have p0 := cls_pos (few := 1) (turn := 2) (x := (ks.map (wantK .leaves 1 2)).count 0) (Nat.le_refl _)
    have p1 := cls_pos (few := 1) (turn := 2) (x := (ks.map (wantK .leaves 1 2)).count 1) (Nat.le_refl _)
    have o1 := cls_odd (x := (ks.map (wantK .leaves 1 2)).count 1)
    have lm := sum_mod 2 leavesT ks
    rw [← leavesTs_map] at lm
    have e3 : (ks.map (wantK .leaves 1 2)).sum = (ks.map fun t => leavesT t % 2).sum := rfl
    rw [e2]
    simp only [List.map_cons, List.map_nil, List.sum_cons, List.sum_nil, Nat.add_zero]
    by_cases hk : ks = []
    · subst hk
      decide
    · have lk : 0 < ks.length := List.length_pos_iff.mpr hk
      have ie : ks.isEmpty = false := by
        cases ks with
        | nil => exact absurd rfl hk
        | cons _ _ => rfl
      rw [if_neg (by omega), ie, if_neg (show ¬ (false = true) by decide)]
      show clsN 1 2 _ % 2 = _
      omega
  | child =>
    simp only [toldK, wantK, Tr.kidsN]
    have := (Cong.sum (few := few) (turn := turn) (Nat.le_refl _) (Nat.dvd_refl turn) (cnts n (ks.map (wantK .child few turn)))).cls
    rw [cnts_sum lt, List.length_map] at this
    exact this


def FitK (kd : Kd) (n few turn : Nat) : Prop := fitK kd n few turn ∧ waysK kd few turn ∧ (handJ kd n few turn).ok
def RowK (P : Program) (w : World) (H : Hp) (b : Addr) (t : Tr) : Prop := ∃ (v : V) (kd : Kd) (n few turn : Nat), H b = some (.tup [v, nI (wantK kd few turn t)]) ∧ HJ P w H v (handJ kd n few turn) ∧ FitK kd n few turn
def KsAt (P : Program) (w : World) (t : Tr) (H0 H : Hp) (D : Addr) (m : Nat) : Prop := ∃ bs : List Addr, H D = some (.lst (bs.map V.ref)) ∧ bs.length = m ∧ (∀ b ∈ bs, RowK P w H b t) ∧ Same H0 H
section
variable {P : Program} {w : World} {t : Tr} {H0 H H' : Hp} {D b : Addr} {m : Nat}
theorem RowK.extN (x : RowK P w H b t) (s : LamX.ExtN H H') : RowK P w H' b t := by
  obtain ⟨v, kd, n, few, turn, h1, h2, h3⟩ := x
  exact ⟨v, kd, n, few, turn, s _ _ h1 (fun _ z => by cases z), h2.extN s, h3⟩
theorem KsAt.same (x : KsAt P w t H0 H D m) (s : Same H H') : KsAt P w t H0 H' D m := by
  obtain ⟨bs, h1, h2, h3, h4⟩ := x
  exact ⟨bs, s _ _ h1, h2, fun b hb => (h3 b hb).extN (.of s), h4.trans s⟩
theorem RowK.keep {bs : List Addr} {o : HO} (x : RowK P w H b t) (hD : H D = some (.lst (bs.map V.ref))) : RowK P w (upd H D o) b t := by
  obtain ⟨v, kd, n, few, turn, h1, ⟨j, d, g, xs, rfl, a1, a2, a3, a4, a5⟩, h3⟩ := x
  have n1 : ∀ {q : Addr} {ys : List V}, H q = some (.tup ys) → q ≠ D := fun e z => by rw [z, hD] at e; cases e
  have n2 : d ≠ D := fun z => by rw [z, hD] at a2; unfold DictN at a2; cases a2
  have n3 : g ≠ D := fun z => by
    rw [z, hD] at a5
    have e : bs.map V.ref = [nI 0] := by
      have := Option.some.inj a5
      exact HO.lst.inj this
    match bs, e with
    | [_], e => cases e
  exact ⟨_, kd, n, few, turn, by rw [upd_ne (n1 h1)]; exact h1, ⟨j, d, g, xs, rfl, by rw [upd_ne (n1 a1)]; exact a1, by rw [upd_ne n2]; exact a2, a3.keep fun q ys e => by rw [upd_ne (n1 e)]; exact e, a4, by rw [upd_ne n3]; exact a5⟩, h3⟩
theorem KsAt.add {v z : V} {kd : Kd} {n few turn : Nat} (x : KsAt P w t H0 H D m) (hD : H0 D = none) (hm : m ≤ 1000) (hv : HJ P w H v (handJ kd n few turn)) (hf : FitK kd n few turn) (hz : z = nI (wantK kd few turn t)) (hb : H b = none) : ∃ acc, upd H b (.tup [v, z]) D = some (.lst acc) ∧ acc.length < sizeLine ∧ KsAt P w t H0 (upd (upd H b (.tup [v, z])) D (.lst (acc ++ [V.ref b]))) D (m + 1) := by
  obtain ⟨bs, h1, h2, h3, h4⟩ := x
  subst hz
  have s1 := same_new hb (o := .tup [v, nI (wantK kd few turn t)])
  have k1 := upd_same (H := H) (a := b) (o := .tup [v, nI (wantK kd few turn t)])
  have hv := hv.extN (.of s1)
  generalize upd H b (.tup [v, nI (wantK kd few turn t)]) = H1 at *
  have kD := s1 _ _ h1
  refine ⟨_, kD, ?_, bs ++ [b], by rw [upd_same, List.map_append]; rfl, by rw [List.length_append, h2]; rfl, fun c hc => ?_, same_add (h4.trans s1) hD⟩
  · rw [List.length_map, h2]
    exact Nat.lt_of_le_of_lt (show m ≤ 1000000 by omega) (by decide)
  · rcases List.mem_append.mp hc with hc | hc
    · exact ((h3 c hc).extN (.of s1)).keep kD
    · rw [List.mem_singleton.mp hc]
      exact RowK.keep ⟨v, kd, n, few, turn, k1, hv, hf⟩ kD
end
theorem TrAt.parts {ok : Addr → Prop} {H : Hp} {v : V} {t : Tr} (x : TrAt ok H v t) : ∃ (a l : Addr) (c : Nat) (xs : List V), v = .ref a ∧ H a = some (.tup [.str (ch c), .ref l]) ∧ H l = some (.lst xs) ∧ xs.length = t.kidsN := by
  cases x with
  | node h1 h2 k1 k2 c1 c2 r => exact ⟨_, _, _, _, rfl, h1, h2, r.len⟩
theorem bit_nat (b : Bool) : (if b = true then (1 : Int) else 0) = ((if b = true then 1 else 0 : Nat) : Int) := by cases b <;> rfl
theorem row4 {k : Nat} (h1 : 1 ≤ k) (h4 : k ≤ 4) : 2 * k ^ k ≤ 600 := by
  have : k = 1 ∨ k = 2 ∨ k = 3 ∨ k = 4 := by omega
  rcases this with rfl | rfl | rfl | rfl <;> decide
def sp__law_rows (P : Program) (w : World) : Sp := fun vs H Q _ => ∃ (v : V) (t : Tr), vs = [v] ∧ TrAt (fun _ => True) H v t ∧ t.depth ≤ 32 ∧ t.size ≤ 100000 ∧ ∀ r m H', KsAt P w t H H' r m → Q (.ref r) H'
section
variable {P : Program} {w : World} {K : PySem.W.Frag} {mg : Str → Option Value} {base : Heap}
theorem ok__law_rows (T : Txt K mg) : FnOk P w K mg base CX0 34 T.f__law_rows T.d__law_rows ["tree"] (sp__law_rows P w) := by
  have G__law_made : FnOk P w K mg base CX0 2 T.f__law_made T.d__law_made ["word", "states", "few", "turn"] (sp__law_made P w) := ok__law_made T
  have G__law_leaves : FnOk P w K mg base CX0 32 T.f__law_leaves T.d__law_leaves ["tree"] (sp__law_leaves 32) := ok__law_leaves T 32
  have G__law_has_second : FnOk P w K mg base CX0 32 T.f__law_has_second T.d__law_has_second ["tree"] (sp__law_has_second 32) := ok__law_has_second T 32
  have G__law_odd_part : FnOk P w K mg base CX0 32 T.f__law_odd_part T.d__law_odd_part ["tree"] (sp__law_odd_part 32) := ok__law_odd_part T 32
  have G_size_of : FnOk P w K mg base CX0 6 T.f_size_of T.d_size_of ["tree"] sp_size_of := ok_size_of T
  have G_depth_of : FnOk P w K mg base CX0 5 T.f_depth_of T.d_depth_of ["tree"] sp_depth_of := ok_depth_of T
  have G_class_of : FnOk P w K mg base CX0 1 T.f_class_of T.d_class_of ["number", "few", "turn"] sp_class_of := ok_class_of T
  refine T.F__law_rows.ok sc__law_rows (fun vs H Q E h => ?_) (fun cdv A outer s H vs Q E hr h => ?_)
  · obtain ⟨v, t, rfl, _⟩ := h
    rfl
  obtain ⟨v, t, rfl, ht, hd, hz, q⟩ := h
  refine ⟨_, (pss_cons (ps_set (i := 1) sc__law_rows.nd rfl (Or.inl rfl) (pe_lst pa_nil)) (pss_cons (ps_for PassesOwn.never rfl (pi_range2 (by rfl) T.z_range (pa_cons pe_int (pa_cons pe_int pa_nil))) (pg_name (i := 2) sc__law_rows.nd rfl (Or.inl rfl)) (pss_one (ps_expr (pe_bm PySem.F.plainAttrs_list PySem.F.slot_list_append PySem.F.type_list_append mt_append (pv 1) (pa_cons (pe_tup (pa_cons (pe_call G__law_made (hr.mono (by omega)) (by rfl) T.m__law_made T.F__law_made.kp T.b__law_made .nil pass0 (pa_cons pe_str (pa_cons (pv 2) (pa_cons pe_int (pa_cons (pv 2) pa_nil))))) (pa_cons (pe_op op_mod (pe_call G_size_of (hr.mono (by omega)) (by rfl) T.m_size_of T.F_size_of.kp T.b_size_of .nil pass0 (pa_cons (pv 0) pa_nil)) (pv 2)) pa_nil))) pa_nil))))) (pss_cons (ps_expr (pe_bm PySem.F.plainAttrs_list PySem.F.slot_list_append PySem.F.type_list_append mt_append (pv 1) (pa_cons (pe_tup (pa_cons (pe_call G__law_made (hr.mono (by omega)) (by rfl) T.m__law_made T.F__law_made.kp T.b__law_made .nil pass0 (pa_cons pe_str (pa_cons pe_int (pa_cons pe_int (pa_cons pe_int pa_nil))))) (pa_cons (pe_callTy call_int1 (by rfl) T.z_int (by decide +kernel) (pa_cons (pe_call G__law_has_second (hr.mono (by omega)) (by rfl) T.m__law_has_second T.F__law_has_second.kp T.b__law_has_second .nil pass0 (pa_cons (pv 0) pa_nil)) pa_nil)) pa_nil))) pa_nil))) (pss_cons (ps_expr (pe_bm PySem.F.plainAttrs_list PySem.F.slot_list_append PySem.F.type_list_append mt_append (pv 1) (pa_cons (pe_tup (pa_cons (pe_call G__law_made (hr.mono (by omega)) (by rfl) T.m__law_made T.F__law_made.kp T.b__law_made .nil pass0 (pa_cons pe_str (pa_cons pe_int (pa_cons pe_int (pa_cons pe_int pa_nil))))) (pa_cons (pe_callB (call_min2 rfl) (by rfl) T.z_min (by decide +kernel) (pa_cons pe_int (pa_cons (pe_op op_sub (pe_call G_depth_of (hr.mono (by omega)) (by rfl) T.m_depth_of T.F_depth_of.kp T.b_depth_of .nil pass0 (pa_cons (pv 0) pa_nil)) pe_int) pa_nil))) pa_nil))) pa_nil))) (pss_cons (ps_expr (pe_bm PySem.F.plainAttrs_list PySem.F.slot_list_append PySem.F.type_list_append mt_append (pv 1) (pa_cons (pe_tup (pa_cons (pe_call G__law_made (hr.mono (by omega)) (by rfl) T.m__law_made T.F__law_made.kp T.b__law_made .nil pass0 (pa_cons pe_str (pa_cons pe_int (pa_cons pe_int (pa_cons pe_int pa_nil))))) (pa_cons (pe_callTy call_int1 (by rfl) T.z_int (by decide +kernel) (pa_cons (pe_call G__law_odd_part (hr.mono (by omega)) (by rfl) T.m__law_odd_part T.F__law_odd_part.kp T.b__law_odd_part .nil pass0 (pa_cons (pv 0) pa_nil)) pa_nil)) pa_nil))) pa_nil))) (pss_cons (ps_expr (pe_bm PySem.F.plainAttrs_list PySem.F.slot_list_append PySem.F.type_list_append mt_append (pv 1) (pa_cons (pe_tup (pa_cons (pe_call G__law_made (hr.mono (by omega)) (by rfl) T.m__law_made T.F__law_made.kp T.b__law_made .nil pass0 (pa_cons pe_str (pa_cons pe_int (pa_cons pe_int (pa_cons pe_int pa_nil))))) (pa_cons (pe_op op_mod (pe_call G__law_leaves (hr.mono (by omega)) (by rfl) T.m__law_leaves T.F__law_leaves.kp T.b__law_leaves .nil pass0 (pa_cons (pv 0) pa_nil)) pe_int) pa_nil))) pa_nil))) (pss_cons (ps_for PassesOwn.never rfl (pi_list (pe_lst (pa_cons (pe_tup (pa_cons pe_int (pa_cons pe_int pa_nil))) (pa_cons (pe_tup (pa_cons pe_int (pa_cons pe_int pa_nil))) (pa_cons (pe_tup (pa_cons pe_int (pa_cons pe_int pa_nil))) (pa_cons (pe_tup (pa_cons pe_int (pa_cons pe_int pa_nil))) (pa_cons (pe_tup (pa_cons pe_int (pa_cons pe_int pa_nil))) (pa_cons (pe_tup (pa_cons pe_int (pa_cons pe_int pa_nil))) (pa_cons (pe_tup (pa_cons pe_int (pa_cons pe_int pa_nil))) (pa_cons (pe_tup (pa_cons pe_int (pa_cons pe_int pa_nil))) (pa_cons (pe_tup (pa_cons pe_int (pa_cons pe_int pa_nil))) (pa_cons (pe_tup (pa_cons pe_int (pa_cons pe_int pa_nil))) pa_nil)))))))))))) (pg_tup rfl (pgs_cons (pg_name (i := 3) sc__law_rows.nd rfl (Or.inl rfl)) (pgs_cons (pg_name (i := 4) sc__law_rows.nd rfl (Or.inl rfl)) pgs_nil))) (pss_one (ps_expr (pe_bm PySem.F.plainAttrs_list PySem.F.slot_list_append PySem.F.type_list_append mt_append (pv 1) (pa_cons (pe_tup (pa_cons (pe_call G__law_made (hr.mono (by omega)) (by rfl) T.m__law_made T.F__law_made.kp T.b__law_made .nil pass0 (pa_cons pe_str (pa_cons (pe_op op_add (pv 3) (pv 4)) (pa_cons (pv 3) (pa_cons (pv 4) pa_nil))))) (pa_cons (pe_call G_class_of (hr.mono (by omega)) (by rfl) T.m_class_of T.F_class_of.kp T.b_class_of .nil pass0 (pa_cons (pe_callB call_len_seq (by rfl) T.z_len PySem.boot_len (pa_cons (pe_ix ix_tup (pv 0) pe_int (fun _ _ => rfl)) pa_nil)) (pa_cons (pv 3) (pa_cons (pv 4) pa_nil)))) pa_nil))) pa_nil))))) (pss_one (ps_ret (pv 1)))))))))), ?_⟩
  have fit : ∀ (kd : Kd) (n few turn : Nat), fitK kd n few turn → waysK kd few turn → 1 ≤ n → n ≤ 6 → few ≤ 4 → 1 ≤ turn → turn ≤ 4 → 2 * (few + turn) ^ n ≤ 600 → FitK kd n few turn := fun kd n few turn h1 h2 h3 h4 h5 h6 h7 h8 => ⟨h1, h2, handJ_ok h1 h3 h4 h5 h6 h7 h8⟩
  refine ⟨(by show 0 ≤ sizeLine; decide), fun D hD => ?_⟩
  have K0 : KsAt P w t H (upd H D (.lst [])) D 0 := ⟨[], upd_same, rfl, (fun b hb => by cases hb), same_new hD⟩
  generalize upd H D (.lst []) = H0 at *
  refine ⟨1, 5, rfl, ⟨by decide, by decide, by decide, by decide⟩, for_range (lo := 1) (n := 4) (fun i σ H' => ∃ y2 : Option V, σ = [some v, some (.ref D), y2, none, none] ∧ KsAt P w t H H' D i) ⟨_, rfl, K0⟩ ?_ ?_⟩
  · rintro i σ H1 hi ⟨y2, rfl, K1⟩
    have e0 : (1 : Int) + (i : Int) = ((1 + i : Nat) : Int) := by push_cast; rfl
    rw [e0]
    obtain ⟨bs, kD, _, _, S1⟩ := id K1
    refine ⟨_, rfl, .inl ⟨rfl, _, SqL.of kD⟩, _, rfl, _, rfl, .size, 1 + i, 0, 1 + i, rfl, rfl, by omega, by omega, by decide, by omega, by omega, by rw [Nat.zero_add]; exact row4 (by omega) (by omega), fun v2 H2 s2 hv => ⟨_, rfl, v, t, rfl, ht.same (S1.trans s2), by omega, fun H3 s3 => ⟨_, rfl, _, _, rfl, rfl, by omega, (by show 2 ≤ sizeLine; decide), fun b hb => ?_⟩⟩⟩
    obtain ⟨acc, a1, a2, a3⟩ := (K1.same (s2.trans s3)).add hD (by omega) (hv.extN (.of s3)) (fit .size (1 + i) 0 (1 + i) rfl rfl (by omega) (by omega) (by decide) (by omega) (by omega) (by rw [Nat.zero_add]; exact row4 (by omega) (by omega))) (show V.int ((t.size : Int) % ((1 + i : Nat) : Int)) = nI (t.size % (1 + i)) from congrArg V.int (by push_cast; rfl)) hb
    exact ⟨D, _, _, rfl, rfl, a1, a2, _, rfl, a3⟩
  rintro σ H1 ⟨y2, rfl, K1⟩
  obtain ⟨bs1, kD1, _, _, S1⟩ := id K1
  refine ⟨_, rfl, .inl ⟨rfl, _, SqL.of kD1⟩, .has, 2, 1, 1, rfl, rfl, by decide, by decide, by decide, by decide, by decide, by decide, fun v1 U1 s1 hv1 => ⟨_, rfl, v, t, rfl, ht.same (S1.trans s1), hd, by omega, fun W1 w1 => .inr ⟨_, rfl, (by show 2 ≤ sizeLine; decide), fun b1 hb1 => ?_⟩⟩⟩
  obtain ⟨acc1, a1, a2, a3⟩ := (K1.same (s1.trans w1)).add hD (by omega) (hv1.extN (.of w1)) (fit .has 2 1 1 rfl ⟨rfl, rfl⟩ (by decide) (by decide) (by decide) (by decide) (by decide) (by decide)) (show V.int (if hasT t = true then 1 else 0) = nI (if hasT t = true then 1 else 0) from congrArg V.int (bit_nat _)) hb1
  refine ⟨D, _, _, rfl, rfl, a1, a2, ?_⟩
  generalize upd (upd W1 b1 (.tup [v1, V.int (if hasT t = true then 1 else 0)])) D (.lst (acc1 ++ [V.ref b1])) = H2 at *
  have K2 := a3
  obtain ⟨bs2, kD2, _, _, S2⟩ := id K2
  refine ⟨_, rfl, .inl ⟨rfl, _, SqL.of kD2⟩, .deep, 5, 1, 1, rfl, rfl, by decide, by decide, by decide, by decide, by decide, by decide, fun v2 U2 s2 hv2 => ⟨_, rfl, v, t, rfl, ht.same (S2.trans s2), by omega, fun W2 w2 => ⟨_, _, rfl, rfl, _, _, rfl, (by show 2 ≤ sizeLine; decide), fun b2 hb2 => ?_⟩⟩⟩
  obtain ⟨acc2, a1, a2, a3⟩ := (K2.same (s2.trans w2)).add hD (by omega) (hv2.extN (.of w2)) (fit .deep 5 1 1 rfl ⟨rfl, rfl⟩ (by decide) (by decide) (by decide) (by decide) (by decide) (by decide)) (show V.int (if (t.depth : Int) - 1 < 4 then (t.depth : Int) - 1 else 4) = nI (min 4 (t.depth - 1)) from congrArg V.int (by have := depth_pos t; split <;> omega)) hb2
  refine ⟨D, _, _, rfl, rfl, a1, a2, ?_⟩
  generalize upd (upd W2 b2 (.tup [v2, V.int (if (t.depth : Int) - 1 < 4 then (t.depth : Int) - 1 else 4)])) D (.lst (acc2 ++ [V.ref b2])) = H3 at *
  have K3 := a3
  obtain ⟨bs3, kD3, _, _, S3⟩ := id K3
  refine ⟨_, rfl, .inl ⟨rfl, _, SqL.of kD3⟩, .odd, 2, 1, 2, rfl, rfl, by decide, by decide, by decide, by decide, by decide, by decide, fun v3 U3 s3 hv3 => ⟨_, rfl, v, t, rfl, ht.same (S3.trans s3), hd, by omega, fun W3 w3 => .inr ⟨_, rfl, (by show 2 ≤ sizeLine; decide), fun b3 hb3 => ?_⟩⟩⟩
  obtain ⟨acc3, a1, a2, a3⟩ := (K3.same (s3.trans w3)).add hD (by omega) (hv3.extN (.of w3)) (fit .odd 2 1 2 rfl ⟨rfl, rfl⟩ (by decide) (by decide) (by decide) (by decide) (by decide) (by decide)) (show V.int (if oddT t = true then 1 else 0) = nI (if oddT t = true then 1 else 0) from congrArg V.int (bit_nat _)) hb3
  refine ⟨D, _, _, rfl, rfl, a1, a2, ?_⟩
  generalize upd (upd W3 b3 (.tup [v3, V.int (if oddT t = true then 1 else 0)])) D (.lst (acc3 ++ [V.ref b3])) = H4 at *
  have K4 := a3
  obtain ⟨bs4, kD4, _, _, S4⟩ := id K4
  refine ⟨_, rfl, .inl ⟨rfl, _, SqL.of kD4⟩, .leaves, 2, 1, 2, rfl, rfl, by decide, by decide, by decide, by decide, by decide, by decide, fun v4 U4 s4 hv4 => ⟨_, rfl, v, t, rfl, ht.same (S4.trans s4), hd, hd, by omega, fun W4 w4 => ⟨_, _, rfl, rfl, (by show (0 : Int) < 2; decide), (by show 2 ≤ sizeLine; decide), fun b4 hb4 => ?_⟩⟩⟩
  obtain ⟨acc4, a1, a2, a3⟩ := (K4.same (s4.trans w4)).add hD (by omega) (hv4.extN (.of w4)) (fit .leaves 2 1 2 rfl ⟨rfl, rfl⟩ (by decide) (by decide) (by decide) (by decide) (by decide) (by decide)) (show V.int ((leavesT t : Int) % 2) = nI (leavesT t % 2) from congrArg V.int (by push_cast; rfl)) hb4
  refine ⟨D, _, _, rfl, rfl, a1, a2, ?_⟩
  generalize upd (upd W4 b4 (.tup [v4, V.int ((leavesT t : Int) % 2)])) D (.lst (acc4 ++ [V.ref b4])) = H5 at *
  have K5 := a3
  refine ⟨(by show 2 ≤ sizeLine; decide), fun p1 hp1 => ?_⟩
  have q1 := same_new hp1 (o := .tup [V.int 0, V.int 1])
  have c1 := upd_same (H := H5) (a := p1) (o := .tup [V.int 0, V.int 1])
  have K5 := K5.same q1
  generalize upd H5 p1 (.tup [V.int 0, V.int 1]) = G1 at *
  refine ⟨(by show 2 ≤ sizeLine; decide), fun p2 hp2 => ?_⟩
  have q2 := same_new hp2 (o := .tup [V.int 1, V.int 1])
  have c2 := upd_same (H := G1) (a := p2) (o := .tup [V.int 1, V.int 1])
  have K5 := K5.same q2
  generalize upd G1 p2 (.tup [V.int 1, V.int 1]) = G2 at *
  have c1 := q2 _ _ c1
  refine ⟨(by show 2 ≤ sizeLine; decide), fun p3 hp3 => ?_⟩
  have q3 := same_new hp3 (o := .tup [V.int 0, V.int 2])
  have c3 := upd_same (H := G2) (a := p3) (o := .tup [V.int 0, V.int 2])
  have K5 := K5.same q3
  generalize upd G2 p3 (.tup [V.int 0, V.int 2]) = G3 at *
  have c1 := q3 _ _ c1
  have c2 := q3 _ _ c2
  refine ⟨(by show 2 ≤ sizeLine; decide), fun p4 hp4 => ?_⟩
  have q4 := same_new hp4 (o := .tup [V.int 2, V.int 1])
  have c4 := upd_same (H := G3) (a := p4) (o := .tup [V.int 2, V.int 1])
  have K5 := K5.same q4
  generalize upd G3 p4 (.tup [V.int 2, V.int 1]) = G4 at *
  have c1 := q4 _ _ c1
  have c2 := q4 _ _ c2
  have c3 := q4 _ _ c3
  refine ⟨(by show 2 ≤ sizeLine; decide), fun p5 hp5 => ?_⟩
  have q5 := same_new hp5 (o := .tup [V.int 1, V.int 2])
  have c5 := upd_same (H := G4) (a := p5) (o := .tup [V.int 1, V.int 2])
  have K5 := K5.same q5
  generalize upd G4 p5 (.tup [V.int 1, V.int 2]) = G5 at *
  have c1 := q5 _ _ c1
  have c2 := q5 _ _ c2
  have c3 := q5 _ _ c3
  have c4 := q5 _ _ c4
  refine ⟨(by show 2 ≤ sizeLine; decide), fun p6 hp6 => ?_⟩
  have q6 := same_new hp6 (o := .tup [V.int 0, V.int 3])
  have c6 := upd_same (H := G5) (a := p6) (o := .tup [V.int 0, V.int 3])
  have K5 := K5.same q6
  generalize upd G5 p6 (.tup [V.int 0, V.int 3]) = G6 at *
  have c1 := q6 _ _ c1
  have c2 := q6 _ _ c2
  have c3 := q6 _ _ c3
  have c4 := q6 _ _ c4
  have c5 := q6 _ _ c5
  refine ⟨(by show 2 ≤ sizeLine; decide), fun p7 hp7 => ?_⟩
  have q7 := same_new hp7 (o := .tup [V.int 3, V.int 1])
  have c7 := upd_same (H := G6) (a := p7) (o := .tup [V.int 3, V.int 1])
  have K5 := K5.same q7
  generalize upd G6 p7 (.tup [V.int 3, V.int 1]) = G7 at *
  have c1 := q7 _ _ c1
  have c2 := q7 _ _ c2
  have c3 := q7 _ _ c3
  have c4 := q7 _ _ c4
  have c5 := q7 _ _ c5
  have c6 := q7 _ _ c6
  refine ⟨(by show 2 ≤ sizeLine; decide), fun p8 hp8 => ?_⟩
  have q8 := same_new hp8 (o := .tup [V.int 2, V.int 2])
  have c8 := upd_same (H := G7) (a := p8) (o := .tup [V.int 2, V.int 2])
  have K5 := K5.same q8
  generalize upd G7 p8 (.tup [V.int 2, V.int 2]) = G8 at *
  have c1 := q8 _ _ c1
  have c2 := q8 _ _ c2
  have c3 := q8 _ _ c3
  have c4 := q8 _ _ c4
  have c5 := q8 _ _ c5
  have c6 := q8 _ _ c6
  have c7 := q8 _ _ c7
  refine ⟨(by show 2 ≤ sizeLine; decide), fun p9 hp9 => ?_⟩
  have q9 := same_new hp9 (o := .tup [V.int 1, V.int 3])
  have c9 := upd_same (H := G8) (a := p9) (o := .tup [V.int 1, V.int 3])
  have K5 := K5.same q9
  generalize upd G8 p9 (.tup [V.int 1, V.int 3]) = G9 at *
  have c1 := q9 _ _ c1
  have c2 := q9 _ _ c2
  have c3 := q9 _ _ c3
  have c4 := q9 _ _ c4
  have c5 := q9 _ _ c5
  have c6 := q9 _ _ c6
  have c7 := q9 _ _ c7
  have c8 := q9 _ _ c8
  refine ⟨(by show 2 ≤ sizeLine; decide), fun p10 hp10 => ?_⟩
  have q10 := same_new hp10 (o := .tup [V.int 0, V.int 4])
  have c10 := upd_same (H := G9) (a := p10) (o := .tup [V.int 0, V.int 4])
  have K5 := K5.same q10
  generalize upd G9 p10 (.tup [V.int 0, V.int 4]) = G10 at *
  have c1 := q10 _ _ c1
  have c2 := q10 _ _ c2
  have c3 := q10 _ _ c3
  have c4 := q10 _ _ c4
  have c5 := q10 _ _ c5
  have c6 := q10 _ _ c6
  have c7 := q10 _ _ c7
  have c8 := q10 _ _ c8
  have c9 := q10 _ _ c9
  obtain ⟨bs4, kD4, _⟩ := id K5
  refine ⟨(by show 10 ≤ sizeLine; decide), fun l hl => ?_⟩
  have q11 := same_new hl (o := .lst [V.ref p1, V.ref p2, V.ref p3, V.ref p4, V.ref p5, V.ref p6, V.ref p7, V.ref p8, V.ref p9, V.ref p10])
  have kl := upd_same (H := G10) (a := l) (o := .lst [V.ref p1, V.ref p2, V.ref p3, V.ref p4, V.ref p5, V.ref p6, V.ref p7, V.ref p8, V.ref p9, V.ref p10])
  have K5 := K5.same q11
  generalize upd G10 l (.lst [V.ref p1, V.ref p2, V.ref p3, V.ref p4, V.ref p5, V.ref p6, V.ref p7, V.ref p8, V.ref p9, V.ref p10]) = G at *
  have pr : ∀ x, x ∈ [V.ref p1, V.ref p2, V.ref p3, V.ref p4, V.ref p5, V.ref p6, V.ref p7, V.ref p8, V.ref p9, V.ref p10] → ∃ (b : Addr) (f u : Nat), x = .ref b ∧ G b = some (.tup [nI f, nI u]) ∧ 1 ≤ u ∧ f + u ≤ 4 := by
    intro x hx
    simp only [List.mem_cons, List.not_mem_nil, or_false] at hx
    rcases hx with rfl | rfl | rfl | rfl | rfl | rfl | rfl | rfl | rfl | rfl
    · exact ⟨p1, 0, 1, rfl, q11 _ _ c1, by decide, by decide⟩
    · exact ⟨p2, 1, 1, rfl, q11 _ _ c2, by decide, by decide⟩
    · exact ⟨p3, 0, 2, rfl, q11 _ _ c3, by decide, by decide⟩
    · exact ⟨p4, 2, 1, rfl, q11 _ _ c4, by decide, by decide⟩
    · exact ⟨p5, 1, 2, rfl, q11 _ _ c5, by decide, by decide⟩
    · exact ⟨p6, 0, 3, rfl, q11 _ _ c6, by decide, by decide⟩
    · exact ⟨p7, 3, 1, rfl, q11 _ _ c7, by decide, by decide⟩
    · exact ⟨p8, 2, 2, rfl, q11 _ _ c8, by decide, by decide⟩
    · exact ⟨p9, 1, 3, rfl, q11 _ _ c9, by decide, by decide⟩
    · exact ⟨p10, 0, 4, rfl, q11 _ _ c10, by decide, by decide⟩
  clear c1 c2 c3 c4 c5 c6 c7 c8 c9 c10
  obtain ⟨bs5, kD5, _, _, S5⟩ := id K5
  have nlD : l ≠ D := fun e => by rw [e, kD4] at hl; cases hl
  refine ⟨l, rfl, ⟨_, SqL.of kl⟩, for_list (xs := [V.ref p1, V.ref p2, V.ref p3, V.ref p4, V.ref p5, V.ref p6, V.ref p7, V.ref p8, V.ref p9, V.ref p10]) (fun i σ H' => (∃ y2 y3 y4 : Option V, σ = [some v, some (.ref D), y2, y3, y4]) ∧ KsAt P w t H H' D (8 + i) ∧ FrD D G H') ⟨⟨_, _, _, rfl⟩, K5, fun b o _ e => e⟩ (fun i σ H' _ h => SqL.of (h.2.2 _ _ nlD kl)) ?_ ?_⟩
  · rintro i x σ H6 hx ⟨⟨y2, y3, y4, rfl⟩, K6, f6⟩
    have hi : i < 10 := (List.getElem?_eq_some_iff.mp hx).1
    obtain ⟨b, f, u, rfl, kb, u1, fu⟩ := pr x (List.mem_of_getElem? hx)
    have nb : b ≠ D := fun e => by rw [e, kD5] at kb; cases kb
    have kb6 := f6 _ _ nb kb
    obtain ⟨bs6, kD6, _, _, S6⟩ := id K6
    have ev : (f : Int) + (u : Int) = ((f + u : Nat) : Int) := by push_cast; rfl
    have r4 := row4 (k := f + u) (by omega) fu
    refine ⟨_, _, rfl, SqT.of kb6, rfl, _, _, rfl, _, _, rfl, rfl, ?_⟩
    refine ⟨_, rfl, .inl ⟨rfl, _, SqL.of kD6⟩, _, rfl, _, rfl, _, _, rfl, rfl, _, rfl, _, rfl, .child, f + u, f, u, congrArg (fun z => [V.str (wordK .child), V.int z, nI f, nI u]) ev, rfl, by omega, by omega, by omega, by omega, by omega, r4, fun v2 H7 s7 hv => ?_⟩
    obtain ⟨a, l2, c, ws, rfl, ha, hl2, hlen⟩ := (ht.same (S6.trans s7)).parts
    refine ⟨_, rfl, a, _, 1, _, rfl, rfl, SqT.of ha, atI_nat (j := 1) rfl, l2, _, rfl, .inl (SqL.of hl2), _, rfl, _, rfl, t.kidsN, f, u, congrArg (fun z : Nat => [nI z, nI f, nI u]) hlen, u1, (by show 2 ≤ sizeLine; decide), fun b2 hb2 => ?_⟩
    obtain ⟨acc, a1, a2, a3⟩ := (K6.same s7).add hD (by omega) hv (fit .child (f + u) f u rfl trivial (by omega) (by omega) (by omega) u1 (by omega) r4) (show nI (clsN f u t.kidsN) = nI (wantK .child f u t) from rfl) hb2
    refine ⟨D, _, _, rfl, rfl, a1, a2, ⟨_, _, _, rfl⟩, a3, fun b o n e => ?_⟩
    rw [upd_ne n]
    exact same_new hb2 _ _ (s7 _ _ (f6 b o n e))
  · rintro σ H6 ⟨⟨y2, y3, y4, rfl⟩, K6, f6⟩
    exact ⟨_, rfl, q D _ H6 K6⟩
end


def spLaw (K : PySem.W.Frag) : Sp := fun vs H Q _ => ∃ (a : Addr) (ns : List Int), vs = [.ref a] ∧ SqL K H a (ns.map V.int) ∧ ns.length ≤ 63 ∧ ∀ H', Q (.bl true) H'

def FrN (p : Addr) (H H' : Hp) : Prop := ∀ b o, b ≠ p → H b = some o → (∀ ps, o ≠ .tbl ps) → H' b = some o
theorem FrN.fr {p : Addr} {H H' : Hp} (f : Fr p H H') : FrN p H H' := fun b o n e _ => f b o n e
theorem FrN.same {p : Addr} {H H' : Hp} (s : Same H H') : FrN p H H' := fun b o _ e _ => s b o e
theorem FrN.ext {p : Addr} {H H' : Hp} (f : LamX.ExtN H H') : FrN p H H' := fun b o _ e t => f b o e t
theorem FrN.trans {p : Addr} {H H1 H2 : Hp} (f : FrN p H H1) (g : FrN p H1 H2) : FrN p H H2 := fun b o n e t => g b o n (f b o n e t) t
theorem FrN.seq {K : PySem.W.Frag} {p a : Addr} {H H' : Hp} {xs : List V} (c : FrN p H H') (hp : H p = none) (h : SqL K H a xs) : SqL K H' a xs := by
  rcases h with (h | ⟨o, h⟩) | h
  · exact .inl (.inl (c _ _ (ne_of_none h hp) h fun _ e => by cases e))
  · exact .inl (.inr ⟨o, c _ _ (ne_of_none h hp) h fun _ e => by cases e⟩)
  · exact .inr h

theorem seqN {K : PySem.W.Frag} {H H' : Hp} {a : Addr} {xs : List V} (f : LamX.ExtN H H') (h : SqL K H a xs) : SqL K H' a xs := by
  rcases h with (h | ⟨o, h⟩) | h
  · exact .inl (.inl (f _ _ h fun _ z => by cases z))
  · exact .inl (.inr ⟨o, f _ _ h fun _ z => by cases z⟩)
  · exact .inr h
theorem tabs_only : ∀ {TT : List NdefX.NTab}, (TT.map (·.1)).Nodup → ∀ (q : Addr) (f : Nat → Nat → Str), (q, f) ∈ TT → ∀ z ∈ TT, z.1 = q → z.2 = f
  | [], _, _, _, h, _, _, _ => by cases h
  | x :: r, nd, q, f, h, z, hz, e => by
    rw [List.map_cons, List.nodup_cons] at nd
    rcases List.mem_cons.mp h with h | h <;> rcases List.mem_cons.mp hz with k | k
    · rw [k, ← h]
    · exact absurd (List.mem_map.mpr ⟨z, k, by rw [e, ← h]⟩) nd.1
    · exact absurd (List.mem_map.mpr ⟨(q, f), h, by rw [← e, k]⟩) nd.1
    · exact tabs_only nd.2 q f h z k e

theorem Chg.same {p : Addr} {H H' : Hp} (c : Chg p H H') (h : H p = none) : Same H H' := fun b o e => c.at e (ne_of_none e h)
theorem Pool.isLst {H : Hp} {p : Addr} {n : Nat} (h : Pool H p n) : ∃ xs : List V, H p = Option.some (HO.lst xs) := by
  obtain ⟨x, f, s, e, _⟩ := h
  exact ⟨_, e⟩
section
variable {P : Program} {w : World} {K : PySem.W.Frag} {mg : Str → Option Value} {base : Heap}
theorem ok_law (T : Txt K mg) (B : Tbs T base) : FnOk P w K mg base CX0 42 T.f_law T.d_law ["script"] (spLawT K [T.P_states_upward, T.P_part_states]) := by
  generalize hTTe : ([(T.P_states_upward, fun _ _ => q_states_upward), (T.P_part_states, fun _ _ => q_part_states)] : List NdefX.NTab) = TT
  have nd : (TT.map (·.1)).Nodup := by
    subst hTTe
    simp only [List.map_cons, List.map_nil, List.nodup_cons, List.mem_cons, List.not_mem_nil, or_false, not_false_eq_true, List.nodup_nil, and_true]
    exact T.n_states_upward_part_states
  have only := tabs_only nd
  have i1 : (T.P_states_upward, fun _ _ => q_states_upward) ∈ TT := by
    subst hTTe
    simp only [List.mem_cons, true_or, or_true]
  have i2 : (T.P_part_states, fun _ _ => q_part_states) ∈ TT := by
    subst hTTe
    simp only [List.mem_cons, true_or, or_true]
  have hTp : TTp T TT := ⟨i1, only _ _ i1, i2, only _ _ i2⟩
  have G__law_pool : FnOk P w K mg base CX0 1 T.f__law_pool T.d__law_pool ["script", "k"] (sp__law_pool K) := ok__law_pool T
  have G__law_tree : FnOk P w K mg base CX0 40 T.f__law_tree T.d__law_tree ["pool", "most", "letters"] sp__law_tree := ok__law_tree T
  have G__law_rows : FnOk P w K mg base CX0 34 T.f__law_rows T.d__law_rows ["tree"] (sp__law_rows P w) := ok__law_rows T
  have G_is_judge : FnOk P w K mg base CX0 5 T.f_is_judge T.d_is_judge ["thing"] (sp_is_judge P w) := ok_is_judge T
  have G_state_of : FnOk P w K mg base CX0 16 T.f_state_of T.d_state_of ["judge", "tree"] (sp_state_of P w TT) := ok_state_of T B hTp
  have G_lets_by : FnOk P w K mg base CX0 17 T.f_lets_by T.d_lets_by ["judge", "tree"] (sp_lets_by P w TT) := ok_lets_by T B hTp
  refine T.F_law.ok sc_law (fun vs H Q E h => ?_) (fun cdv A outer s H vs Q E hr h => ?_)
  · obtain ⟨a, ns, rfl, _⟩ := h
    rfl
  obtain ⟨a, ns, rfl, hS, h63, hPs, qq⟩ := h
  have T0 : NdefX.TabsN TT H := by
    subst hTTe
    intro z hz
    simp only [List.mem_cons, List.not_mem_nil, or_false] at hz
    rcases hz with rfl | rfl <;> exact NdefX.TabN.nil (hPs _ (by simp))
  refine ⟨_, (pss_cons (ps_for PassesOwn.never rfl (pi_range1 (by rfl) T.z_range (pa_cons (pe_callB (call_max2 rfl) (by rfl) T.z_max (by decide +kernel) (pa_cons pe_int (pa_cons (pe_callB (call_min2 rfl) (by rfl) T.z_min (by decide +kernel) (pa_cons pe_int (pa_cons (pe_callB call_len_seq (by rfl) T.z_len PySem.boot_len (pa_cons (pv 0) pa_nil)) pa_nil))) pa_nil))) pa_nil)) (pg_name (i := 1) sc_law.nd rfl (Or.inl rfl)) (pss_cons (ps_set (i := 2) sc_law.nd rfl (Or.inl rfl) (pe_call G__law_pool (hr.mono (by omega)) (by rfl) T.m__law_pool T.F__law_pool.kp T.b__law_pool .nil pass0 (pa_cons (pv 0) (pa_cons (pv 1) pa_nil)))) (pss_cons (ps_set (i := 3) sc_law.nd rfl (Or.inl rfl) (pe_call G__law_tree (hr.mono (by omega)) (by rfl) T.m__law_tree T.F__law_tree.kp T.b__law_tree .nil pass0 (pa_cons (pv 2) (pa_cons pe_int (pa_cons pe_str pa_nil))))) (pss_one (ps_for PassesOwn.never rfl (pi_list (pe_call G__law_rows (hr.mono (by omega)) (by rfl) T.m__law_rows T.F__law_rows.kp T.b__law_rows .nil pass0 (pa_cons (pv 3) pa_nil))) (pg_tup rfl (pgs_cons (pg_name (i := 4) sc_law.nd rfl (Or.inl rfl)) (pgs_cons (pg_name (i := 5) sc_law.nd rfl (Or.inl rfl)) pgs_nil))) (C8.pss_cut (ps_if (PW.pt (pw_and (pt_cmpR op_eq (pv 1) pe_int (nomark _)) (pw_and1 (pt_not (pt_val (pe_call G_is_judge (hr.mono (by omega)) (by rfl) T.m_is_judge T.F_is_judge.kp T.b_is_judge .nil pass0 (pa_cons (pv 4) pa_nil))))))) (pss_one (ps_ret pe_bl)) pss_nil) (pss_one (ps_if (PW.pt (pw_or (pt_cmpR op_ne (pe_call G_state_of (hr.mono (by omega)) (by rfl) T.m_state_of T.F_state_of.kp T.b_state_of .nil pass0 (pa_cons (pv 4) (pa_cons (pv 3) pa_nil))) (pv 5) (nomark _)) (pw_or1 (pt_cmpR op_ne (pe_call G_lets_by (hr.mono (by omega)) (by rfl) T.m_lets_by T.F_lets_by.kp T.b_lets_by .nil pass0 (pa_cons (pv 4) (pa_cons (pv 3) pa_nil))) (pe_cmpR op_eq (pv 5) pe_int (nomark _)) (nomark _))))) (pss_one (ps_ret pe_bl)) pss_nil)))))))) (pss_one (ps_ret pe_bl))), ?_⟩
  obtain ⟨j, hj, hj0, hj1⟩ : ∃ j : Int, (if (if ((ns.map V.int).length : Int) < 8 then ((ns.map V.int).length : Int) else 8) > 1 then (if ((ns.map V.int).length : Int) < 8 then ((ns.map V.int).length : Int) else 8) else 1) = j ∧ 0 ≤ j ∧ j ≤ 12 := ⟨_, rfl, by split <;> split <;> omega, by split <;> split <;> omega⟩
  refine ⟨_, rfl, a, _, rfl, .inl hS, _, _, rfl, _, _, rfl, j, congrArg (fun z => [V.int z]) hj, by omega, by omega, for_range (lo := 0) (n := j.toNat) (fun i σ H' => (∃ y1 y2 y3 y4 y5, σ = [some (.ref a), y1, y2, y3, y4, y5]) ∧ SqL K H' a (ns.map V.int) ∧ NdefX.TabsN TT H') ⟨⟨_, _, _, _, _, rfl⟩, hS, T0⟩ ?_ ?_⟩
  · rintro i σ H0 hi ⟨⟨y1, y2, y3, y4, y5, rfl⟩, hS0, T0⟩
    refine ⟨_, rfl, _, rfl, a, ns, _, rfl, hS0, h63, by omega, by omega, fun p H1 hp c1 P1 => ?_⟩
    have s1 := c1.same hp
    have T1 := T0.ext s1
    refine ⟨_, rfl, p, _, 60, abS, rfl, P1, by decide, by decide, by decide, ab_lets, fun tv t H2 hz hd hlt f2 T2 P2 => ?_⟩
    obtain ⟨zs, ep⟩ := P1.isLst
    have TT2 := tabsN_fr1 T1 ep f2
    have F2 : FrN p H0 H2 := (FrN.same s1).trans (.fr f2)
    refine ⟨_, rfl, tv, t, rfl, T2.weak fun _ _ => trivial, by omega, by omega, fun r m H3 K3 => ?_⟩
    obtain ⟨bs, kr, lb, hbs, s3⟩ := K3
    have T3 := TT2.ext s3
    have F3 : FrN p H0 H3 := F2.trans (.same s3)
    have ht3 : TrAt (fun _ => True) H3 tv t := (T2.weak fun _ _ => trivial).same s3
    clear T2 TT2 F2 T1 c1 P1 P2 f2 s1 s3
    refine ⟨r, rfl, ⟨_, SqL.of kr⟩, for_list (xs := bs.map V.ref) (fun i2 σ H' => (∃ y4 y5, σ = [some (.ref a), some (.int (0 + i)), some (.ref p), some tv, y4, y5]) ∧ LamX.ExtN H3 H' ∧ NdefX.TabsN TT H') ⟨⟨_, _, rfl⟩, LamX.ExtN.refl _, T3⟩ (fun i2 σ H' _ h => SqL.of (h.2.1 _ _ kr fun _ z => by cases z)) ?_ ?_⟩
    · rintro i2 x σ H4 hx ⟨⟨y4, y5, rfl⟩, e4, T4⟩
      rw [List.getElem?_map] at hx
      cases hb : bs[i2]? with
      | none => rw [hb] at hx; cases hx
      | some b =>
      rw [hb] at hx
      cases hx
      obtain ⟨v, kd, n, few, turn, kb, hv, hf, hw, hok⟩ := (hbs b (List.mem_of_getElem? hb)).extN e4
      refine ⟨_, _, rfl, SqT.of kb, rfl, _, _, rfl, _, _, rfl, rfl, ?_⟩
      refine ⟨fun σ' H' => σ' = [some (.ref a), some (.int (0 + i)), some (.ref p), some tv, some v, some (nI (wantK kd few turn t))] ∧ LamX.ExtN H4 H' ∧ NdefX.TabsN TT H', ?_, ?_⟩
      · refine ⟨_, rfl, rfl, _, rfl, ?_⟩
        by_cases hi0 : i = 0
        · refine eqT (congrArg V.int (by omega)) ?_
          obtain ⟨jj, d, g, xs, rfl, h1, h2, h3, h4, h5⟩ := hv
          refine ⟨_, rfl, jj, d, g, abS, n, few, turn, xs, toldK kd few turn, [0], rfl, h1, h2, h3, h4, ab_lets, ab_rises, hok.n1, hok.n6, hok.f4, hok.t1, hok.t4, hok.h600, fun key _ => toldK_lt hf hok.t1 _ _, h5, List.pairwise_singleton _ _, by decide, fun x hx => by rw [List.mem_singleton.mp hx]; exact hok.n1, fun H5 s5 => ⟨_, rfl, iteF ⟨rfl, .of s5, T4.ext s5⟩⟩⟩
        · refine eqF (fun e => hi0 (by have := V.int.inj e; omega)) ⟨rfl, LamX.ExtN.refl _, T4⟩
      rintro σ' H5 ⟨rfl, e5, T5⟩
      have hv5 := (hv.extN e5).at
      have ht5 := ht3.extN1 (e4.trans e5)
      have hl5 : t.lets (fun c => c ∈ (handJ kd n few turn).L.cps.toList) := hlt
      have st := St_hand hf hw hok.t1 t
      refine ⟨_, rfl, _, rfl, _, _, handJ kd n few turn, t, rfl, hv5, hok, ht5, by omega, hl5, T5, fun H6 e6 T6 => ⟨_, rfl, rfl, _, rfl, neS (congrArg nI st) ?_⟩⟩
      refine ⟨_, rfl, _, rfl, _, _, handJ kd n few turn, t, rfl, hv5.extN e6, hok, ht5.extN1 e6, by omega, hl5, T6, fun H7 e7 T7 => ⟨_, rfl, rfl, rfl, _, rfl, neS (congrArg V.bl ?_) ?_⟩⟩
      · rw [show St (handJ kd n few turn).sf (handJ kd n few turn).n t = wantK kd few turn t from st]
        show decide (wantK kd few turn t ∈ [0]) = _
        rw [decide_eq_decide, List.mem_singleton]
        constructor
        · intro e; rw [e]; rfl
        · intro e
          have := V.int.inj e
          omega
      · exact ⟨⟨_, _, rfl⟩, ((e4.trans e5).trans e6).trans e7, T7⟩
    · rintro σ H4 ⟨⟨y4, y5, rfl⟩, e4, T4⟩
      exact ⟨⟨_, _, _, _, _, rfl⟩, (F3.trans (.ext e4)).seq hp hS0, T4⟩
  · rintro σ H4 _
    exact qq H4
end

theorem all_mk {l : PySem.W.OpenLaw} {w : World} {K : PySem.W.Frag} {h : Heap} {mg : Str → Option Value} {fa f0 f1 f2 f3 f4 f5 f6 f7 f8 f9 f10 f11 f12 f13 f14 f15 f16 f17 f18 f19 f20 f21 f22 f23 f24 f25 f26 f27 f28 f29 f30 f31 f32 f33 f34 f35 f36 f37 f38 f39 : Addr} (X : K.In h) (G : h.Ns mainGlobals mg) (hfa : mg "law" = some (.ref fa))
    {od0 an0 od1 an1 od2 an2 od3 an3 od4 an4 od5 an5 od6 an6 od7 an7 od8 an8 od9 an9 od10 an10 od11 an11 od12 an12 od13 an13 od14 an14 od15 an15 od16 an16 od17 an17 od18 an18 od19 an19 od20 an20 od21 an21 od22 an22 od23 an23 od24 an24 od25 an25 od26 an26 od27 an27 od28 an28 od29 an29 od30 an30 od31 an31 od32 an32 od33 an33 od34 an34 od35 an35 od36 an36 od37 an37 od38 an38 od39 an39 : Option Addr} {sl0 sl1 sl2 sl3 sl4 sl5 sl6 sl7 sl8 sl9 sl10 sl11 sl12 sl13 sl14 sl15 sl16 sl17 sl18 sl19 sl20 sl21 sl22 sl23 sl24 sl25 sl26 sl27 sl28 sl29 sl30 sl31 sl32 sl33 sl34 sl35 sl36 sl37 sl38 sl39 : Array (Option Value)} {oc0 kV0 dc0 pm0 ct0 cd0 oc1 kV1 dc1 pm1 ct1 cd1 oc2 kV2 dc2 pm2 ct2 cd2 oc3 kV3 dc3 pm3 ct3 cd3 oc4 kV4 dc4 pm4 ct4 cd4 oc5 kV5 dc5 pm5 ct5 cd5 oc6 kV6 dc6 pm6 ct6 cd6 oc7 kV7 dc7 pm7 ct7 cd7 oc8 kV8 dc8 pm8 ct8 cd8 oc9 kV9 dc9 pm9 ct9 cd9 oc10 kV10 dc10 pm10 ct10 cd10 oc11 kV11 dc11 pm11 ct11 cd11 oc12 kV12 dc12 pm12 ct12 cd12 oc13 kV13 dc13 pm13 ct13 cd13 oc14 kV14 dc14 pm14 ct14 cd14 oc15 kV15 dc15 pm15 ct15 cd15 oc16 kV16 dc16 pm16 ct16 cd16 oc17 kV17 dc17 pm17 ct17 cd17 oc18 kV18 dc18 pm18 ct18 cd18 oc19 kV19 dc19 pm19 ct19 cd19 oc20 kV20 dc20 pm20 ct20 cd20 oc21 kV21 dc21 pm21 ct21 cd21 oc22 kV22 dc22 pm22 ct22 oc23 kV23 dc23 pm23 ct23 oc24 kV24 dc24 pm24 ct24 cd24 oc25 kV25 dc25 pm25 ct25 cd25 oc26 kV26 dc26 pm26 ct26 cd26 oc27 kV27 dc27 pm27 ct27 cd27 oc28 kV28 dc28 pm28 ct28 cd28 oc29 kV29 dc29 pm29 ct29 cd29 oc30 kV30 dc30 pm30 ct30 cd30 oc31 kV31 dc31 pm31 ct31 cd31 oc32 kV32 dc32 pm32 ct32 cd32 oc33 kV33 dc33 pm33 ct33 cd33 oc34 kV34 dc34 pm34 ct34 cd34 oc35 kV35 dc35 pm35 ct35 cd35 oc36 kV36 dc36 pm36 ct36 cd36 oc37 kV37 dc37 pm37 ct37 cd37 oc38 kV38 dc38 pm38 ct38 cd38 oc39 kV39 dc39 pm39 ct39 cd39 : Value} {c22 P22 c23 P23 : Addr}
    (a0 : PySem.W.nsIn K mainGlobals "is_whole" = some (some (.ref f0))) (l0 : K.lookup f0 = some ⟨oc0, od0, .func (PySem.W.fnOf "is_whole" "is_whole" (defArgs s_is_whole) (defBody s_is_whole) (defScope s_is_whole) .none kV0 dc0 pm0 an0 cd0 ct0), sl0⟩) (d0 : PySem.W.codeIn K cd0 "is_whole" = true) (k0 : PySem.W.keepIn K (.ref f0) = true)
    (a1 : PySem.W.nsIn K mainGlobals "is_whole_within" = some (some (.ref f1))) (l1 : K.lookup f1 = some ⟨oc1, od1, .func (PySem.W.fnOf "is_whole_within" "is_whole_within" (defArgs s_is_whole_within) (defBody s_is_whole_within) (defScope s_is_whole_within) .none kV1 dc1 pm1 an1 cd1 ct1), sl1⟩) (d1 : PySem.W.codeIn K cd1 "is_whole_within" = true) (k1 : PySem.W.keepIn K (.ref f1) = true)
    (a2 : PySem.W.nsIn K mainGlobals "is_letter" = some (some (.ref f2))) (l2 : K.lookup f2 = some ⟨oc2, od2, .func (PySem.W.fnOf "is_letter" "is_letter" (defArgs s_is_letter) (defBody s_is_letter) (defScope s_is_letter) .none kV2 dc2 pm2 an2 cd2 ct2), sl2⟩) (d2 : PySem.W.codeIn K cd2 "is_letter" = true) (k2 : PySem.W.keepIn K (.ref f2) = true)
    (a3 : PySem.W.nsIn K mainGlobals "is_tree" = some (some (.ref f3))) (l3 : K.lookup f3 = some ⟨oc3, od3, .func (PySem.W.fnOf "is_tree" "is_tree" (defArgs s_is_tree) (defBody s_is_tree) (defScope s_is_tree) .none kV3 dc3 pm3 an3 cd3 ct3), sl3⟩) (d3 : PySem.W.codeIn K cd3 "is_tree" = true) (k3 : PySem.W.keepIn K (.ref f3) = true)
    (a4 : PySem.W.nsIn K mainGlobals "_is_part" = some (some (.ref f4))) (l4 : K.lookup f4 = some ⟨oc4, od4, .func (PySem.W.fnOf "_is_part" "_is_part" (defArgs s__is_part) (defBody s__is_part) (defScope s__is_part) .none kV4 dc4 pm4 an4 cd4 ct4), sl4⟩) (d4 : PySem.W.codeIn K cd4 "_is_part" = true) (k4 : PySem.W.keepIn K (.ref f4) = true)
    (a5 : PySem.W.nsIn K mainGlobals "check_tree" = some (some (.ref f5))) (l5 : K.lookup f5 = some ⟨oc5, od5, .func (PySem.W.fnOf "check_tree" "check_tree" (defArgs s_check_tree) (defBody s_check_tree) (defScope s_check_tree) .none kV5 dc5 pm5 an5 cd5 ct5), sl5⟩) (d5 : PySem.W.codeIn K cd5 "check_tree" = true) (k5 : PySem.W.keepIn K (.ref f5) = true)
    (a6 : PySem.W.nsIn K mainGlobals "parts_upward" = some (some (.ref f6))) (l6 : K.lookup f6 = some ⟨oc6, od6, .func (PySem.W.fnOf "parts_upward" "parts_upward" (defArgs s_parts_upward) (defBody s_parts_upward) (defScope s_parts_upward) .none kV6 dc6 pm6 an6 cd6 ct6), sl6⟩) (d6 : PySem.W.codeIn K cd6 "parts_upward" = true) (k6 : PySem.W.keepIn K (.ref f6) = true)
    (a7 : PySem.W.nsIn K mainGlobals "size_of" = some (some (.ref f7))) (l7 : K.lookup f7 = some ⟨oc7, od7, .func (PySem.W.fnOf "size_of" "size_of" (defArgs s_size_of) (defBody s_size_of) (defScope s_size_of) .none kV7 dc7 pm7 an7 cd7 ct7), sl7⟩) (d7 : PySem.W.codeIn K cd7 "size_of" = true) (k7 : PySem.W.keepIn K (.ref f7) = true)
    (a8 : PySem.W.nsIn K mainGlobals "built_upward" = some (some (.ref f8))) (l8 : K.lookup f8 = some ⟨oc8, od8, .func (PySem.W.fnOf "built_upward" "built_upward" (defArgs s_built_upward) (defBody s_built_upward) (defScope s_built_upward) .none kV8 dc8 pm8 an8 cd8 ct8), sl8⟩) (d8 : PySem.W.codeIn K cd8 "built_upward" = true) (k8 : PySem.W.keepIn K (.ref f8) = true)
    (a9 : PySem.W.nsIn K mainGlobals "depth_of" = some (some (.ref f9))) (l9 : K.lookup f9 = some ⟨oc9, od9, .func (PySem.W.fnOf "depth_of" "depth_of" (defArgs s_depth_of) (defBody s_depth_of) (defScope s_depth_of) .none kV9 dc9 pm9 an9 cd9 ct9), sl9⟩) (d9 : PySem.W.codeIn K cd9 "depth_of" = true) (k9 : PySem.W.keepIn K (.ref f9) = true)
    (a10 : PySem.W.nsIn K mainGlobals "is_judge" = some (some (.ref f10))) (l10 : K.lookup f10 = some ⟨oc10, od10, .func (PySem.W.fnOf "is_judge" "is_judge" (defArgs s_is_judge) (defBody s_is_judge) (defScope s_is_judge) .none kV10 dc10 pm10 an10 cd10 ct10), sl10⟩) (d10 : PySem.W.codeIn K cd10 "is_judge" = true) (k10 : PySem.W.keepIn K (.ref f10) = true)
    (a11 : PySem.W.nsIn K mainGlobals "may_have_table" = some (some (.ref f11))) (l11 : K.lookup f11 = some ⟨oc11, od11, .func (PySem.W.fnOf "may_have_table" "may_have_table" (defArgs s_may_have_table) (defBody s_may_have_table) (defScope s_may_have_table) .none kV11 dc11 pm11 an11 cd11 ct11), sl11⟩) (d11 : PySem.W.codeIn K cd11 "may_have_table" = true) (k11 : PySem.W.keepIn K (.ref f11) = true)
    (a12 : PySem.W.nsIn K mainGlobals "are_letters" = some (some (.ref f12))) (l12 : K.lookup f12 = some ⟨oc12, od12, .func (PySem.W.fnOf "are_letters" "are_letters" (defArgs s_are_letters) (defBody s_are_letters) (defScope s_are_letters) .none kV12 dc12 pm12 an12 cd12 ct12), sl12⟩) (d12 : PySem.W.codeIn K cd12 "are_letters" = true) (k12 : PySem.W.keepIn K (.ref f12) = true)
    (a13 : PySem.W.nsIn K mainGlobals "are_rising_states" = some (some (.ref f13))) (l13 : K.lookup f13 = some ⟨oc13, od13, .func (PySem.W.fnOf "are_rising_states" "are_rising_states" (defArgs s_are_rising_states) (defBody s_are_rising_states) (defScope s_are_rising_states) .none kV13 dc13 pm13 an13 cd13 ct13), sl13⟩) (d13 : PySem.W.codeIn K cd13 "are_rising_states" = true) (k13 : PySem.W.keepIn K (.ref f13) = true)
    (a14 : PySem.W.nsIn K mainGlobals "_rises" = some (some (.ref f14))) (l14 : K.lookup f14 = some ⟨oc14, od14, .func (PySem.W.fnOf "_rises" "_rises" (defArgs s__rises) (defBody s__rises) (defScope s__rises) .none kV14 dc14 pm14 an14 cd14 ct14), sl14⟩) (d14 : PySem.W.codeIn K cd14 "_rises" = true) (k14 : PySem.W.keepIn K (.ref f14) = true)
    (a15 : PySem.W.nsIn K mainGlobals "tuples_due" = some (some (.ref f15))) (l15 : K.lookup f15 = some ⟨oc15, od15, .func (PySem.W.fnOf "tuples_due" "tuples_due" (defArgs s_tuples_due) (defBody s_tuples_due) (defScope s_tuples_due) .none kV15 dc15 pm15 an15 cd15 ct15), sl15⟩) (d15 : PySem.W.codeIn K cd15 "tuples_due" = true) (k15 : PySem.W.keepIn K (.ref f15) = true)
    (a16 : PySem.W.nsIn K mainGlobals "_is_table" = some (some (.ref f16))) (l16 : K.lookup f16 = some ⟨oc16, od16, .func (PySem.W.fnOf "_is_table" "_is_table" (defArgs s__is_table) (defBody s__is_table) (defScope s__is_table) .none kV16 dc16 pm16 an16 cd16 ct16), sl16⟩) (d16 : PySem.W.codeIn K cd16 "_is_table" = true) (k16 : PySem.W.keepIn K (.ref f16) = true)
    (a17 : PySem.W.nsIn K mainGlobals "_is_key" = some (some (.ref f17))) (l17 : K.lookup f17 = some ⟨oc17, od17, .func (PySem.W.fnOf "_is_key" "_is_key" (defArgs s__is_key) (defBody s__is_key) (defScope s__is_key) .none kV17 dc17 pm17 an17 cd17 ct17), sl17⟩) (d17 : PySem.W.codeIn K cd17 "_is_key" = true) (k17 : PySem.W.keepIn K (.ref f17) = true)
    (a18 : PySem.W.nsIn K mainGlobals "class_of" = some (some (.ref f18))) (l18 : K.lookup f18 = some ⟨oc18, od18, .func (PySem.W.fnOf "class_of" "class_of" (defArgs s_class_of) (defBody s_class_of) (defScope s_class_of) .none kV18 dc18 pm18 an18 cd18 ct18), sl18⟩) (d18 : PySem.W.codeIn K cd18 "class_of" = true) (k18 : PySem.W.keepIn K (.ref f18) = true)
    (a19 : PySem.W.nsIn K mainGlobals "state_by_numbers" = some (some (.ref f19))) (l19 : K.lookup f19 = some ⟨oc19, od19, .func (PySem.W.fnOf "state_by_numbers" "state_by_numbers" (defArgs s_state_by_numbers) (defBody s_state_by_numbers) (defScope s_state_by_numbers) .none kV19 dc19 pm19 an19 cd19 ct19), sl19⟩) (d19 : PySem.W.codeIn K cd19 "state_by_numbers" = true) (k19 : PySem.W.keepIn K (.ref f19) = true)
    (a20 : PySem.W.nsIn K mainGlobals "_numbers" = some (some (.ref f20))) (l20 : K.lookup f20 = some ⟨oc20, od20, .func (PySem.W.fnOf "_numbers" "_numbers" (defArgs s__numbers) (defBody s__numbers) (defScope s__numbers) .none kV20 dc20 pm20 an20 cd20 ct20), sl20⟩) (d20 : PySem.W.codeIn K cd20 "_numbers" = true) (k20 : PySem.W.keepIn K (.ref f20) = true)
    (a21 : PySem.W.nsIn K mainGlobals "check_letters" = some (some (.ref f21))) (l21 : K.lookup f21 = some ⟨oc21, od21, .func (PySem.W.fnOf "check_letters" "check_letters" (defArgs s_check_letters) (defBody s_check_letters) (defScope s_check_letters) .none kV21 dc21 pm21 an21 cd21 ct21), sl21⟩) (d21 : PySem.W.codeIn K cd21 "check_letters" = true) (k21 : PySem.W.keepIn K (.ref f21) = true)
    (a22 : PySem.W.nsIn K mainGlobals "states_upward" = some (some (.ref f22))) (l22 : K.lookup f22 = some ⟨oc22, od22, .func (PySem.W.fnOf "states_upward" "states_upward" (defArgs s_states_upward) (defBody s_states_upward) (defScope s_states_upward) .none kV22 dc22 pm22 an22 (.ref c22) ct22), sl22⟩) (d22 : PySem.W.codeIn K (.ref c22) "states_upward" = true) (k22 : PySem.W.keepIn K (.ref f22) = true)
    (a23 : PySem.W.nsIn K mainGlobals "part_states" = some (some (.ref f23))) (l23 : K.lookup f23 = some ⟨oc23, od23, .func (PySem.W.fnOf "part_states" "part_states" (defArgs s_part_states) (defBody s_part_states) (defScope s_part_states) .none kV23 dc23 pm23 an23 (.ref c23) ct23), sl23⟩) (d23 : PySem.W.codeIn K (.ref c23) "part_states" = true) (k23 : PySem.W.keepIn K (.ref f23) = true)
    (a24 : PySem.W.nsIn K mainGlobals "state_of" = some (some (.ref f24))) (l24 : K.lookup f24 = some ⟨oc24, od24, .func (PySem.W.fnOf "state_of" "state_of" (defArgs s_state_of) (defBody s_state_of) (defScope s_state_of) .none kV24 dc24 pm24 an24 cd24 ct24), sl24⟩) (d24 : PySem.W.codeIn K cd24 "state_of" = true) (k24 : PySem.W.keepIn K (.ref f24) = true)
    (a25 : PySem.W.nsIn K mainGlobals "lets_by" = some (some (.ref f25))) (l25 : K.lookup f25 = some ⟨oc25, od25, .func (PySem.W.fnOf "lets_by" "lets_by" (defArgs s_lets_by) (defBody s_lets_by) (defScope s_lets_by) .none kV25 dc25 pm25 an25 cd25 ct25), sl25⟩) (d25 : PySem.W.codeIn K cd25 "lets_by" = true) (k25 : PySem.W.keepIn K (.ref f25) = true)
    (a26 : PySem.W.nsIn K mainGlobals "_law_pool" = some (some (.ref f26))) (l26 : K.lookup f26 = some ⟨oc26, od26, .func (PySem.W.fnOf "_law_pool" "_law_pool" (defArgs s__law_pool) (defBody s__law_pool) (defScope s__law_pool) .none kV26 dc26 pm26 an26 cd26 ct26), sl26⟩) (d26 : PySem.W.codeIn K cd26 "_law_pool" = true) (k26 : PySem.W.keepIn K (.ref f26) = true)
    (a27 : PySem.W.nsIn K mainGlobals "_law_take" = some (some (.ref f27))) (l27 : K.lookup f27 = some ⟨oc27, od27, .func (PySem.W.fnOf "_law_take" "_law_take" (defArgs s__law_take) (defBody s__law_take) (defScope s__law_take) .none kV27 dc27 pm27 an27 cd27 ct27), sl27⟩) (d27 : PySem.W.codeIn K cd27 "_law_take" = true) (k27 : PySem.W.keepIn K (.ref f27) = true)
    (a28 : PySem.W.nsIn K mainGlobals "_law_mixed_up" = some (some (.ref f28))) (l28 : K.lookup f28 = some ⟨oc28, od28, .func (PySem.W.fnOf "_law_mixed_up" "_law_mixed_up" (defArgs s__law_mixed_up) (defBody s__law_mixed_up) (defScope s__law_mixed_up) .none kV28 dc28 pm28 an28 cd28 ct28), sl28⟩) (d28 : PySem.W.codeIn K cd28 "_law_mixed_up" = true) (k28 : PySem.W.keepIn K (.ref f28) = true)
    (a29 : PySem.W.nsIn K mainGlobals "_law_grown" = some (some (.ref f29))) (l29 : K.lookup f29 = some ⟨oc29, od29, .func (PySem.W.fnOf "_law_grown" "_law_grown" (defArgs s__law_grown) (defBody s__law_grown) (defScope s__law_grown) .none kV29 dc29 pm29 an29 cd29 ct29), sl29⟩) (d29 : PySem.W.codeIn K cd29 "_law_grown" = true) (k29 : PySem.W.keepIn K (.ref f29) = true)
    (a30 : PySem.W.nsIn K mainGlobals "_law_shuffled" = some (some (.ref f30))) (l30 : K.lookup f30 = some ⟨oc30, od30, .func (PySem.W.fnOf "_law_shuffled" "_law_shuffled" (defArgs s__law_shuffled) (defBody s__law_shuffled) (defScope s__law_shuffled) .none kV30 dc30 pm30 an30 cd30 ct30), sl30⟩) (d30 : PySem.W.codeIn K cd30 "_law_shuffled" = true) (k30 : PySem.W.keepIn K (.ref f30) = true)
    (a31 : PySem.W.nsIn K mainGlobals "_law_tree" = some (some (.ref f31))) (l31 : K.lookup f31 = some ⟨oc31, od31, .func (PySem.W.fnOf "_law_tree" "_law_tree" (defArgs s__law_tree) (defBody s__law_tree) (defScope s__law_tree) .none kV31 dc31 pm31 an31 cd31 ct31), sl31⟩) (d31 : PySem.W.codeIn K cd31 "_law_tree" = true) (k31 : PySem.W.keepIn K (.ref f31) = true)
    (a32 : PySem.W.nsIn K mainGlobals "_law_tuples" = some (some (.ref f32))) (l32 : K.lookup f32 = some ⟨oc32, od32, .func (PySem.W.fnOf "_law_tuples" "_law_tuples" (defArgs s__law_tuples) (defBody s__law_tuples) (defScope s__law_tuples) .none kV32 dc32 pm32 an32 cd32 ct32), sl32⟩) (d32 : PySem.W.codeIn K cd32 "_law_tuples" = true) (k32 : PySem.W.keepIn K (.ref f32) = true)
    (a33 : PySem.W.nsIn K mainGlobals "_law_told" = some (some (.ref f33))) (l33 : K.lookup f33 = some ⟨oc33, od33, .func (PySem.W.fnOf "_law_told" "_law_told" (defArgs s__law_told) (defBody s__law_told) (defScope s__law_told) .none kV33 dc33 pm33 an33 cd33 ct33), sl33⟩) (d33 : PySem.W.codeIn K cd33 "_law_told" = true) (k33 : PySem.W.keepIn K (.ref f33) = true)
    (a34 : PySem.W.nsIn K mainGlobals "_law_made" = some (some (.ref f34))) (l34 : K.lookup f34 = some ⟨oc34, od34, .func (PySem.W.fnOf "_law_made" "_law_made" (defArgs s__law_made) (defBody s__law_made) (defScope s__law_made) .none kV34 dc34 pm34 an34 cd34 ct34), sl34⟩) (d34 : PySem.W.codeIn K cd34 "_law_made" = true) (k34 : PySem.W.keepIn K (.ref f34) = true)
    (a35 : PySem.W.nsIn K mainGlobals "_law_leaves" = some (some (.ref f35))) (l35 : K.lookup f35 = some ⟨oc35, od35, .func (PySem.W.fnOf "_law_leaves" "_law_leaves" (defArgs s__law_leaves) (defBody s__law_leaves) (defScope s__law_leaves) .none kV35 dc35 pm35 an35 cd35 ct35), sl35⟩) (d35 : PySem.W.codeIn K cd35 "_law_leaves" = true) (k35 : PySem.W.keepIn K (.ref f35) = true)
    (a36 : PySem.W.nsIn K mainGlobals "_law_has_second" = some (some (.ref f36))) (l36 : K.lookup f36 = some ⟨oc36, od36, .func (PySem.W.fnOf "_law_has_second" "_law_has_second" (defArgs s__law_has_second) (defBody s__law_has_second) (defScope s__law_has_second) .none kV36 dc36 pm36 an36 cd36 ct36), sl36⟩) (d36 : PySem.W.codeIn K cd36 "_law_has_second" = true) (k36 : PySem.W.keepIn K (.ref f36) = true)
    (a37 : PySem.W.nsIn K mainGlobals "_law_odd_part" = some (some (.ref f37))) (l37 : K.lookup f37 = some ⟨oc37, od37, .func (PySem.W.fnOf "_law_odd_part" "_law_odd_part" (defArgs s__law_odd_part) (defBody s__law_odd_part) (defScope s__law_odd_part) .none kV37 dc37 pm37 an37 cd37 ct37), sl37⟩) (d37 : PySem.W.codeIn K cd37 "_law_odd_part" = true) (k37 : PySem.W.keepIn K (.ref f37) = true)
    (a38 : PySem.W.nsIn K mainGlobals "_law_rows" = some (some (.ref f38))) (l38 : K.lookup f38 = some ⟨oc38, od38, .func (PySem.W.fnOf "_law_rows" "_law_rows" (defArgs s__law_rows) (defBody s__law_rows) (defScope s__law_rows) .none kV38 dc38 pm38 an38 cd38 ct38), sl38⟩) (d38 : PySem.W.codeIn K cd38 "_law_rows" = true) (k38 : PySem.W.keepIn K (.ref f38) = true)
    (a39 : PySem.W.nsIn K mainGlobals "law" = some (some (.ref f39))) (l39 : K.lookup f39 = some ⟨oc39, od39, .func (PySem.W.fnOf "law" "law" (defArgs s_law) (defBody s_law) (defScope s_law) .none kV39 dc39 pm39 an39 cd39 ct39), sl39⟩) (d39 : PySem.W.codeIn K cd39 "law" = true) (k39 : PySem.W.keepIn K (.ref f39) = true)
    {tk_MOST_STATES : Tok}
    {tk_MOST_FEW : Tok}
    {tk_MOST_TURN : Tok}
    {tk_MOST_TUPLES : Tok}
    (ak_MOST_STATES : PySem.W.nsIn K mainGlobals "MOST_STATES" = some (some (.int 6 tk_MOST_STATES)))
    (ak_MOST_FEW : PySem.W.nsIn K mainGlobals "MOST_FEW" = some (some (.int 4 tk_MOST_FEW)))
    (ak_MOST_TURN : PySem.W.nsIn K mainGlobals "MOST_TURN" = some (some (.int 4 tk_MOST_TURN)))
    (ak_MOST_TUPLES : PySem.W.nsIn K mainGlobals "MOST_TUPLES" = some (some (.int 600 tk_MOST_TUPLES)))
    (t22 : PySem.W.tabIn K "states_upward" = some (c22, P22)) (u22 : K.lookup P22 = none)
    (t23 : PySem.W.tabIn K "part_states" = some (c23, P23)) (u23 : K.lookup P23 = none)
    (v22_23 : P22 ≠ P23)
    (z_all : PySem.W.nsIn K mainGlobals "all" = some none)
    (z_bool : PySem.W.nsIn K mainGlobals "bool" = some none)
    (z_dict : PySem.W.nsIn K mainGlobals "dict" = some none)
    (z_enumerate : PySem.W.nsIn K mainGlobals "enumerate" = some none)
    (z_int : PySem.W.nsIn K mainGlobals "int" = some none)
    (z_isinstance : PySem.W.nsIn K mainGlobals "isinstance" = some none)
    (z_len : PySem.W.nsIn K mainGlobals "len" = some none)
    (z_list : PySem.W.nsIn K mainGlobals "list" = some none)
    (z_max : PySem.W.nsIn K mainGlobals "max" = some none)
    (z_min : PySem.W.nsIn K mainGlobals "min" = some none)
    (z_range : PySem.W.nsIn K mainGlobals "range" = some none)
    (z_str : PySem.W.nsIn K mainGlobals "str" = some none)
    (z_sum : PySem.W.nsIn K mainGlobals "sum" = some none)
    (z_tuple : PySem.W.nsIn K mainGlobals "tuple" = some none)
    (z_zip : PySem.W.nsIn K mainGlobals "zip" = some none)
    : LawT l w K 42 "script" mg fa [("states_upward", c22, P22), ("part_states", c23, P23)] := by
  have e := hfa.symm.trans (PySem.W.mg_of X G a39)
  cases e
  have F0 := fun_mk (st := s_is_whole) l0 d0 k0
  have b0 := F0.binds (ps := ["thing"]) fun _ _ _ _ _ _ us hl => match us, hl with | [_], _ => rfl
  have F1 := fun_mk (st := s_is_whole_within) l1 d1 k1
  have b1 := F1.binds (ps := ["thing", "low", "high"]) fun _ _ _ _ _ _ us hl => match us, hl with | [_, _, _], _ => rfl
  have F2 := fun_mk (st := s_is_letter) l2 d2 k2
  have b2 := F2.binds (ps := ["thing"]) fun _ _ _ _ _ _ us hl => match us, hl with | [_], _ => rfl
  have F3 := fun_mk (st := s_is_tree) l3 d3 k3
  have b3 := F3.binds (ps := ["thing"]) fun _ _ _ _ _ _ us hl => match us, hl with | [_], _ => rfl
  have F4 := fun_mk (st := s__is_part) l4 d4 k4
  have b4 := F4.binds (ps := ["thing"]) fun _ _ _ _ _ _ us hl => match us, hl with | [_], _ => rfl
  have F5 := fun_mk (st := s_check_tree) l5 d5 k5
  have b5 := F5.binds (ps := ["thing"]) fun _ _ _ _ _ _ us hl => match us, hl with | [_], _ => rfl
  have F6 := fun_mk (st := s_parts_upward) l6 d6 k6
  have b6 := F6.binds (ps := ["tree"]) fun _ _ _ _ _ _ us hl => match us, hl with | [_], _ => rfl
  have F7 := fun_mk (st := s_size_of) l7 d7 k7
  have b7 := F7.binds (ps := ["tree"]) fun _ _ _ _ _ _ us hl => match us, hl with | [_], _ => rfl
  have F8 := fun_mk (st := s_built_upward) l8 d8 k8
  have b8 := F8.binds (ps := ["tree", "made"]) fun _ _ _ _ _ _ us hl => match us, hl with | [_, _], _ => rfl
  have F9 := fun_mk (st := s_depth_of) l9 d9 k9
  have b9 := F9.binds (ps := ["tree"]) fun _ _ _ _ _ _ us hl => match us, hl with | [_], _ => rfl
  have F10 := fun_mk (st := s_is_judge) l10 d10 k10
  have b10 := F10.binds (ps := ["thing"]) fun _ _ _ _ _ _ us hl => match us, hl with | [_], _ => rfl
  have F11 := fun_mk (st := s_may_have_table) l11 d11 k11
  have b11 := F11.binds (ps := ["letters", "states", "few", "turn"]) fun _ _ _ _ _ _ us hl => match us, hl with | [_, _, _, _], _ => rfl
  have F12 := fun_mk (st := s_are_letters) l12 d12 k12
  have b12 := F12.binds (ps := ["thing"]) fun _ _ _ _ _ _ us hl => match us, hl with | [_], _ => rfl
  have F13 := fun_mk (st := s_are_rising_states) l13 d13 k13
  have b13 := F13.binds (ps := ["thing", "states"]) fun _ _ _ _ _ _ us hl => match us, hl with | [_, _], _ => rfl
  have F14 := fun_mk (st := s__rises) l14 d14 k14
  have b14 := F14.binds (ps := ["row"]) fun _ _ _ _ _ _ us hl => match us, hl with | [_], _ => rfl
  have F15 := fun_mk (st := s_tuples_due) l15 d15 k15
  have b15 := F15.binds (ps := ["letters", "states", "classes"]) fun _ _ _ _ _ _ us hl => match us, hl with | [_, _, _], _ => rfl
  have F16 := fun_mk (st := s__is_table) l16 d16 k16
  have b16 := F16.binds (ps := ["thing", "letters", "states", "classes"]) fun _ _ _ _ _ _ us hl => match us, hl with | [_, _, _, _], _ => rfl
  have F17 := fun_mk (st := s__is_key) l17 d17 k17
  have b17 := F17.binds (ps := ["thing", "letters", "states", "classes"]) fun _ _ _ _ _ _ us hl => match us, hl with | [_, _, _, _], _ => rfl
  have F18 := fun_mk (st := s_class_of) l18 d18 k18
  have b18 := F18.binds (ps := ["number", "few", "turn"]) fun _ _ _ _ _ _ us hl => match us, hl with | [_, _, _], _ => rfl
  have F19 := fun_mk (st := s_state_by_numbers) l19 d19 k19
  have b19 := F19.binds (ps := ["judge", "letter", "numbers"]) fun _ _ _ _ _ _ us hl => match us, hl with | [_, _, _], _ => rfl
  have F20 := fun_mk (st := s__numbers) l20 d20 k20
  have b20 := F20.binds (ps := ["below", "states"]) fun _ _ _ _ _ _ us hl => match us, hl with | [_, _], _ => rfl
  have F21 := fun_mk (st := s_check_letters) l21 d21 k21
  have b21 := F21.binds (ps := ["parts", "letters"]) fun _ _ _ _ _ _ us hl => match us, hl with | [_, _], _ => rfl
  have F22 := fun_mk (st := s_states_upward) l22 d22 k22
  have b22 := F22.binds (ps := ["tree", "letters", "states", "state_at"]) fun _ _ _ _ _ _ us hl => match us, hl with | [_, _, _, _], _ => rfl
  have F23 := fun_mk (st := s_part_states) l23 d23 k23
  have b23 := F23.binds (ps := ["judge", "tree"]) fun _ _ _ _ _ _ us hl => match us, hl with | [_, _], _ => rfl
  have F24 := fun_mk (st := s_state_of) l24 d24 k24
  have b24 := F24.binds (ps := ["judge", "tree"]) fun _ _ _ _ _ _ us hl => match us, hl with | [_, _], _ => rfl
  have F25 := fun_mk (st := s_lets_by) l25 d25 k25
  have b25 := F25.binds (ps := ["judge", "tree"]) fun _ _ _ _ _ _ us hl => match us, hl with | [_, _], _ => rfl
  have F26 := fun_mk (st := s__law_pool) l26 d26 k26
  have b26 := F26.binds (ps := ["script", "k"]) fun _ _ _ _ _ _ us hl => match us, hl with | [_, _], _ => rfl
  have F27 := fun_mk (st := s__law_take) l27 d27 k27
  have b27 := F27.binds (ps := ["pool", "many"]) fun _ _ _ _ _ _ us hl => match us, hl with | [_, _], _ => rfl
  have F28 := fun_mk (st := s__law_mixed_up) l28 d28 k28
  have b28 := F28.binds (ps := ["pool", "things"]) fun _ _ _ _ _ _ us hl => match us, hl with | [_, _], _ => rfl
  have F29 := fun_mk (st := s__law_grown) l29 d29 k29
  have b29 := F29.binds (ps := ["pool", "most", "letters"]) fun _ _ _ _ _ _ us hl => match us, hl with | [_, _, _], _ => rfl
  have F30 := fun_mk (st := s__law_shuffled) l30 d30 k30
  have b30 := F30.binds (ps := ["pool", "tree"]) fun _ _ _ _ _ _ us hl => match us, hl with | [_, _], _ => rfl
  have F31 := fun_mk (st := s__law_tree) l31 d31 k31
  have b31 := F31.binds (ps := ["pool", "most", "letters"]) fun _ _ _ _ _ _ us hl => match us, hl with | [_, _, _], _ => rfl
  have F32 := fun_mk (st := s__law_tuples) l32 d32 k32
  have b32 := F32.binds (ps := ["letters", "states", "classes"]) fun _ _ _ _ _ _ us hl => match us, hl with | [_, _, _], _ => rfl
  have F33 := fun_mk (st := s__law_told) l33 d33 k33
  have b33 := F33.binds (ps := ["word", "few", "turn", "letter", "classes"]) fun _ _ _ _ _ _ us hl => match us, hl with | [_, _, _, _, _], _ => rfl
  have F34 := fun_mk (st := s__law_made) l34 d34 k34
  have b34 := F34.binds (ps := ["word", "states", "few", "turn"]) fun _ _ _ _ _ _ us hl => match us, hl with | [_, _, _, _], _ => rfl
  have F35 := fun_mk (st := s__law_leaves) l35 d35 k35
  have b35 := F35.binds (ps := ["tree"]) fun _ _ _ _ _ _ us hl => match us, hl with | [_], _ => rfl
  have F36 := fun_mk (st := s__law_has_second) l36 d36 k36
  have b36 := F36.binds (ps := ["tree"]) fun _ _ _ _ _ _ us hl => match us, hl with | [_], _ => rfl
  have F37 := fun_mk (st := s__law_odd_part) l37 d37 k37
  have b37 := F37.binds (ps := ["tree"]) fun _ _ _ _ _ _ us hl => match us, hl with | [_], _ => rfl
  have F38 := fun_mk (st := s__law_rows) l38 d38 k38
  have b38 := F38.binds (ps := ["tree"]) fun _ _ _ _ _ _ us hl => match us, hl with | [_], _ => rfl
  have F39 := fun_mk (st := s_law) l39 d39 k39
  have b39 := F39.binds (ps := ["script"]) fun _ _ _ _ _ _ us hl => match us, hl with | [_], _ => rfl
  let T : Txt K mg := ⟨f0, _, F0, b0, PySem.W.mg_of X G a0, f1, _, F1, b1, PySem.W.mg_of X G a1, f2, _, F2, b2, PySem.W.mg_of X G a2, f3, _, F3, b3, PySem.W.mg_of X G a3, f4, _, F4, b4, PySem.W.mg_of X G a4, f5, _, F5, b5, PySem.W.mg_of X G a5, f6, _, F6, b6, PySem.W.mg_of X G a6, f7, _, F7, b7, PySem.W.mg_of X G a7, f8, _, F8, b8, PySem.W.mg_of X G a8, f9, _, F9, b9, PySem.W.mg_of X G a9, f10, _, F10, b10, PySem.W.mg_of X G a10, f11, _, F11, b11, PySem.W.mg_of X G a11, f12, _, F12, b12, PySem.W.mg_of X G a12, f13, _, F13, b13, PySem.W.mg_of X G a13, f14, _, F14, b14, PySem.W.mg_of X G a14, f15, _, F15, b15, PySem.W.mg_of X G a15, f16, _, F16, b16, PySem.W.mg_of X G a16, f17, _, F17, b17, PySem.W.mg_of X G a17, f18, _, F18, b18, PySem.W.mg_of X G a18, f19, _, F19, b19, PySem.W.mg_of X G a19, f20, _, F20, b20, PySem.W.mg_of X G a20, f21, _, F21, b21, PySem.W.mg_of X G a21, f22, _, F22, b22, PySem.W.mg_of X G a22, f23, _, F23, b23, PySem.W.mg_of X G a23, f24, _, F24, b24, PySem.W.mg_of X G a24, f25, _, F25, b25, PySem.W.mg_of X G a25, f26, _, F26, b26, PySem.W.mg_of X G a26, f27, _, F27, b27, PySem.W.mg_of X G a27, f28, _, F28, b28, PySem.W.mg_of X G a28, f29, _, F29, b29, PySem.W.mg_of X G a29, f30, _, F30, b30, PySem.W.mg_of X G a30, f31, _, F31, b31, PySem.W.mg_of X G a31, f32, _, F32, b32, PySem.W.mg_of X G a32, f33, _, F33, b33, PySem.W.mg_of X G a33, f34, _, F34, b34, PySem.W.mg_of X G a34, f35, _, F35, b35, PySem.W.mg_of X G a35, f36, _, F36, b36, PySem.W.mg_of X G a36, f37, _, F37, b37, PySem.W.mg_of X G a37, f38, _, F38, b38, PySem.W.mg_of X G a38, fa, _, F39, b39, PySem.W.mg_of X G a39, _, PySem.W.mg_of X G ak_MOST_STATES, _, PySem.W.mg_of X G ak_MOST_FEW, _, PySem.W.mg_of X G ak_MOST_TURN, _, PySem.W.mg_of X G ak_MOST_TUPLES, c22, P22, rfl, c23, P23, rfl, v22_23, PySem.W.mg_none_of X G z_all, PySem.W.mg_none_of X G z_bool, PySem.W.mg_none_of X G z_dict, PySem.W.mg_none_of X G z_enumerate, PySem.W.mg_none_of X G z_int, PySem.W.mg_none_of X G z_isinstance, PySem.W.mg_none_of X G z_len, PySem.W.mg_none_of X G z_list, PySem.W.mg_none_of X G z_max, PySem.W.mg_none_of X G z_min, PySem.W.mg_none_of X G z_range, PySem.W.mg_none_of X G z_str, PySem.W.mg_none_of X G z_sum, PySem.W.mg_none_of X G z_tuple, PySem.W.mg_none_of X G z_zip⟩
  refine ⟨?_, PySem.W.fnOf "law" "law" (defArgs s_law) (defBody s_law) (defScope s_law) .none kV39 dc39 pm39 an39 cd39 ct39, fun s v => .of_eq rfl, fun base _ _ hb => ?_⟩
  · intro z hz
    simp only [List.mem_cons, List.not_mem_nil, or_false] at hz
    rcases hz with rfl | rfl
    · exact ⟨t22, u22⟩
    · exact ⟨t23, u23⟩
  · have B : Tbs T base := ⟨hb ("states_upward", c22, P22) (by simp), hb ("part_states", c23, P23) (by simp)⟩
    exact ok_law T B
end My
open PySem PySem.W PyProof.Rows
set_option maxRecDepth 100000 in
set_option maxHeartbeats 0 in
theorem PySem.Challenge.cw_heaptrees_k14_whole_judges_by_hand_holds : PySem.Challenge.rw_heaptrees_k14_whole_judges_by_hand.Holds := by
  w_on; o_law; k_head; (case hw => w_witness2)
  k_fill
  refine My.walk_ofT (l := PySem.Challenge.rw_heaptrees_k14_whole_judges_by_hand) (n := 63) (k := 42) (x := "script") rfl (by decide) (by decide) rfl ⟨rfl, by decide, by decide⟩ (fun w h Y => Y.1) ["states_upward", "part_states"] ?R ?F
  case R => decide +kernel
  case F =>
    intro w mg fa h KX G hmg
    refine' ⟨_, ?n, ?m⟩
    case m =>
      refine' My.all_mk KX G hmg ?a0 ?l0 ?d0 ?k0 ?a1 ?l1 ?d1 ?k1 ?a2 ?l2 ?d2 ?k2 ?a3 ?l3 ?d3 ?k3 ?a4 ?l4 ?d4 ?k4 ?a5 ?l5 ?d5 ?k5 ?a6 ?l6 ?d6 ?k6 ?a7 ?l7 ?d7 ?k7 ?a8 ?l8 ?d8 ?k8 ?a9 ?l9 ?d9 ?k9 ?a10 ?l10 ?d10 ?k10 ?a11 ?l11 ?d11 ?k11 ?a12 ?l12 ?d12 ?k12 ?a13 ?l13 ?d13 ?k13 ?a14 ?l14 ?d14 ?k14 ?a15 ?l15 ?d15 ?k15 ?a16 ?l16 ?d16 ?k16 ?a17 ?l17 ?d17 ?k17 ?a18 ?l18 ?d18 ?k18 ?a19 ?l19 ?d19 ?k19 ?a20 ?l20 ?d20 ?k20 ?a21 ?l21 ?d21 ?k21 ?a22 ?l22 ?d22 ?k22 ?a23 ?l23 ?d23 ?k23 ?a24 ?l24 ?d24 ?k24 ?a25 ?l25 ?d25 ?k25 ?a26 ?l26 ?d26 ?k26 ?a27 ?l27 ?d27 ?k27 ?a28 ?l28 ?d28 ?k28 ?a29 ?l29 ?d29 ?k29 ?a30 ?l30 ?d30 ?k30 ?a31 ?l31 ?d31 ?k31 ?a32 ?l32 ?d32 ?k32 ?a33 ?l33 ?d33 ?k33 ?a34 ?l34 ?d34 ?k34 ?a35 ?l35 ?d35 ?k35 ?a36 ?l36 ?d36 ?k36 ?a37 ?l37 ?d37 ?k37 ?a38 ?l38 ?d38 ?k38 ?a39 ?l39 ?d39 ?k39 ?ak_MOST_STATES ?ak_MOST_FEW ?ak_MOST_TURN ?ak_MOST_TUPLES ?t22 ?u22 ?t23 ?u23 ?v22_23 ?z_all ?z_bool ?z_dict ?z_enumerate ?z_int ?z_isinstance ?z_len ?z_list ?z_max ?z_min ?z_range ?z_str ?z_sum ?z_tuple ?z_zip
      (case a0 => k_is)
      (case l0 => k_is)
      (case d0 => k_is)
      (case k0 => k_is)
      (case a1 => k_is)
      (case l1 => k_is)
      (case d1 => k_is)
      (case k1 => k_is)
      (case a2 => k_is)
      (case l2 => k_is)
      (case d2 => k_is)
      (case k2 => k_is)
      (case a3 => k_is)
      (case l3 => k_is)
      (case d3 => k_is)
      (case k3 => k_is)
      (case a4 => k_is)
      (case l4 => k_is)
      (case d4 => k_is)
      (case k4 => k_is)
      (case a5 => k_is)
      (case l5 => k_is)
      (case d5 => k_is)
      (case k5 => k_is)
      (case a6 => k_is)
      (case l6 => k_is)
      (case d6 => k_is)
      (case k6 => k_is)
      (case a7 => k_is)
      (case l7 => k_is)
      (case d7 => k_is)
      (case k7 => k_is)
      (case a8 => k_is)
      (case l8 => k_is)
      (case d8 => k_is)
      (case k8 => k_is)
      (case a9 => k_is)
      (case l9 => k_is)
      (case d9 => k_is)
      (case k9 => k_is)
      (case a10 => k_is)
      (case l10 => k_is)
      (case d10 => k_is)
      (case k10 => k_is)
      (case a11 => k_is)
      (case l11 => k_is)
      (case d11 => k_is)
      (case k11 => k_is)
      (case a12 => k_is)
      (case l12 => k_is)
      (case d12 => k_is)
      (case k12 => k_is)
      (case a13 => k_is)
      (case l13 => k_is)
      (case d13 => k_is)
      (case k13 => k_is)
      (case a14 => k_is)
      (case l14 => k_is)
      (case d14 => k_is)
      (case k14 => k_is)
      (case a15 => k_is)
      (case l15 => k_is)
      (case d15 => k_is)
      (case k15 => k_is)
      (case a16 => k_is)
      (case l16 => k_is)
      (case d16 => k_is)
      (case k16 => k_is)
      (case a17 => k_is)
      (case l17 => k_is)
      (case d17 => k_is)
      (case k17 => k_is)
      (case a18 => k_is)
      (case l18 => k_is)
      (case d18 => k_is)
      (case k18 => k_is)
      (case a19 => k_is)
      (case l19 => k_is)
      (case d19 => k_is)
      (case k19 => k_is)
      (case a20 => k_is)
      (case l20 => k_is)
      (case d20 => k_is)
      (case k20 => k_is)
      (case a21 => k_is)
      (case l21 => k_is)
      (case d21 => k_is)
      (case k21 => k_is)
      (case a22 => k_is)
      (case l22 => k_is)
      (case d22 => k_is)
      (case k22 => k_is)
      (case a23 => k_is)
      (case l23 => k_is)
      (case d23 => k_is)
      (case k23 => k_is)
      (case a24 => k_is)
      (case l24 => k_is)
      (case d24 => k_is)
      (case k24 => k_is)
      (case a25 => k_is)
      (case l25 => k_is)
      (case d25 => k_is)
      (case k25 => k_is)
      (case a26 => k_is)
      (case l26 => k_is)
      (case d26 => k_is)
      (case k26 => k_is)
      (case a27 => k_is)
      (case l27 => k_is)
      (case d27 => k_is)
      (case k27 => k_is)
      (case a28 => k_is)
      (case l28 => k_is)
      (case d28 => k_is)
      (case k28 => k_is)
      (case a29 => k_is)
      (case l29 => k_is)
      (case d29 => k_is)
      (case k29 => k_is)
      (case a30 => k_is)
      (case l30 => k_is)
      (case d30 => k_is)
      (case k30 => k_is)
      (case a31 => k_is)
      (case l31 => k_is)
      (case d31 => k_is)
      (case k31 => k_is)
      (case a32 => k_is)
      (case l32 => k_is)
      (case d32 => k_is)
      (case k32 => k_is)
      (case a33 => k_is)
      (case l33 => k_is)
      (case d33 => k_is)
      (case k33 => k_is)
      (case a34 => k_is)
      (case l34 => k_is)
      (case d34 => k_is)
      (case k34 => k_is)
      (case a35 => k_is)
      (case l35 => k_is)
      (case d35 => k_is)
      (case k35 => k_is)
      (case a36 => k_is)
      (case l36 => k_is)
      (case d36 => k_is)
      (case k36 => k_is)
      (case a37 => k_is)
      (case l37 => k_is)
      (case d37 => k_is)
      (case k37 => k_is)
      (case a38 => k_is)
      (case l38 => k_is)
      (case d38 => k_is)
      (case k38 => k_is)
      (case a39 => k_is)
      (case l39 => k_is)
      (case d39 => k_is)
      (case k39 => k_is)
      (case ak_MOST_STATES => k_is)
      (case ak_MOST_FEW => k_is)
      (case ak_MOST_TURN => k_is)
      (case ak_MOST_TUPLES => k_is)
      (case t22 => rfl)
      (case u22 => rfl)
      (case t23 => rfl)
      (case u23 => rfl)
      (case v22_23 => decide +kernel)
      (case z_all => k_is)
      (case z_bool => k_is)
      (case z_dict => k_is)
      (case z_enumerate => k_is)
      (case z_int => k_is)
      (case z_isinstance => k_is)
      (case z_len => k_is)
      (case z_list => k_is)
      (case z_max => k_is)
      (case z_min => k_is)
      (case z_range => k_is)
      (case z_str => k_is)
      (case z_sum => k_is)
      (case z_tuple => k_is)
      (case z_zip => k_is)
    case n => rfl
#print axioms PySem.Challenge.cw_heaptrees_k14_whole_judges_by_hand_holds
