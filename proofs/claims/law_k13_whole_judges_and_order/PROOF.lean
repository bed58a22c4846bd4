import PyProof.Rows.All
import Wide.All
import OpenK.AllK
import Wide.FinOn
import HandS.ForMost
import HandS.Wide
import HandS.IsInst
import HandS.Exc
import HandS.ExcOwn
import HandS.ExcValue
import HandS.ExcIs
import HandS.TryOnly
import HandS.WordsExc
import HandS.Flow
import HandS.Style
import HandS.Codes
import HandS.Lambda
import HandS.Star
import HandS.Nested
import HandS.EndTab
import HandS.SortKw
import HandS.FStr
import HandS.NoneIn
import HandS.More
import HandS.Zip
import HandS.Conv
import HandS.TupAny
import HandS.RaiseMore
import HandS.Walk
import HandS.Iter
import HandS.Dict
import PyProof.StrLawsRepr
import KE.SortKeyHeap
import KE.SortData
import KE.DataFind
import KE.DataMinMax
import KE.KEqNest
import PyProof.Draws
import PyProof.EnumMake
import KE.KeyNested
import KE.KDictKeyed
import HandS.Steps
import HandS.SetFor
import HandS.DictEq
import HandS.DictTup
import HandS.DictComp
import KE.KMathGC
import HandS.Gcd
import HandS.Replace
import HandS.SortInts
import KE.GoesMore
import KE.GoesZip
import PySem.Challenge.RW_heaptrees_k13_whole_judges_and_order
set_option Elab.async false
set_option linter.all false
set_option maxRecDepth 100000
set_option maxHeartbeats 4000000
namespace My
open PySem PySem.Spec PyProof.Rows L2
def topS (i : Nat) : Stmt := PySem.Challenge.pw_heaptrees_k13_whole_judges_and_order.main.body.getD i (.Pass ⟨0, 0, 0, 0⟩)
abbrev s_is_whole : Stmt := topS 5
theorem sc_is_whole : FnScope ["thing"] ["thing"] (defScope s_is_whole) := ⟨rfl, rfl, rfl, by decide +kernel, rfl, by decide +kernel, by decide +kernel⟩
abbrev s_is_whole_within : Stmt := topS 6
theorem sc_is_whole_within : FnScope ["thing", "low", "high"] ["thing", "low", "high"] (defScope s_is_whole_within) := ⟨rfl, rfl, rfl, by decide +kernel, rfl, by decide +kernel, by decide +kernel⟩
abbrev s_is_letter : Stmt := topS 7
theorem sc_is_letter : FnScope ["thing"] ["thing"] (defScope s_is_letter) := ⟨rfl, rfl, rfl, by decide +kernel, rfl, by decide +kernel, by decide +kernel⟩
abbrev s_is_tree : Stmt := topS 9
theorem sc_is_tree : FnScope ["thing", "waiting", "part"] ["thing"] (defScope s_is_tree) := ⟨rfl, rfl, rfl, by decide +kernel, rfl, by decide +kernel, by decide +kernel⟩
abbrev s__is_part : Stmt := topS 10
theorem sc__is_part : FnScope ["thing"] ["thing"] (defScope s__is_part) := ⟨rfl, rfl, rfl, by decide +kernel, rfl, by decide +kernel, by decide +kernel⟩
abbrev s_check_tree : Stmt := topS 11
theorem sc_check_tree : FnScope ["thing"] ["thing"] (defScope s_check_tree) := ⟨rfl, rfl, rfl, by decide +kernel, rfl, by decide +kernel, by decide +kernel⟩
abbrev s_parts_upward : Stmt := topS 12
theorem sc_parts_upward : FnScope ["tree", "parts", "waiting", "part"] ["tree"] (defScope s_parts_upward) := ⟨rfl, rfl, rfl, by decide +kernel, rfl, by decide +kernel, by decide +kernel⟩
abbrev s_built_upward : Stmt := topS 13
theorem sc_built_upward : FnScope ["tree", "made", "waiting", "letter", "children", "first", "below"] ["tree", "made"] (defScope s_built_upward) := ⟨rfl, rfl, rfl, by decide +kernel, rfl, by decide +kernel, by decide +kernel⟩
abbrev s__written_and_told : Stmt := topS 14
theorem sc__written_and_told : FnScope ["tree"] ["tree"] (defScope s__written_and_told) := ⟨rfl, rfl, rfl, by decide +kernel, rfl, by decide +kernel, by decide +kernel⟩
abbrev s__joined : Stmt := topS 15
theorem sc__joined : FnScope ["letter", "below", "rows", "row"] ["letter", "below"] (defScope s__joined) := ⟨rfl, rfl, rfl, by decide +kernel, rfl, by decide +kernel, by decide +kernel⟩
abbrev s_written_part : Stmt := topS 16
theorem sc_written_part : FnScope ["letter", "texts", "written"] ["letter", "texts"] (defScope s_written_part) := ⟨rfl, rfl, rfl, by decide +kernel, rfl, by decide +kernel, by decide +kernel⟩
abbrev s_told_form : Stmt := topS 17
theorem sc_told_form : FnScope ["tree"] ["tree"] (defScope s_told_form) := ⟨rfl, rfl, rfl, by decide +kernel, rfl, by decide +kernel, by decide +kernel⟩
abbrev s_heap_of : Stmt := topS 18
theorem sc_heap_of : FnScope ["tree", "rows", "child", "heap", "last", "written"] ["tree"] (defScope s_heap_of) := ⟨rfl, rfl, rfl, by decide +kernel, rfl, by decide +kernel, by decide +kernel⟩
abbrev s_from_heap : Stmt := topS 19
theorem sc_from_heap : FnScope ["letter", "heap", "row", "child", "many", "_"] ["letter", "heap"] (defScope s_from_heap) := ⟨rfl, rfl, rfl, by decide +kernel, rfl, by decide +kernel, by decide +kernel⟩
abbrev s__is_heap_row : Stmt := topS 20
theorem sc__is_heap_row : FnScope ["thing"] ["thing"] (defScope s__is_heap_row) := ⟨rfl, rfl, rfl, by decide +kernel, rfl, by decide +kernel, by decide +kernel⟩
abbrev s_is_judge : Stmt := topS 26
theorem sc_is_judge : FnScope ["thing", "letters", "states", "few", "turn", "table", "good"] ["thing"] (defScope s_is_judge) := ⟨rfl, rfl, rfl, by decide +kernel, rfl, by decide +kernel, by decide +kernel⟩
abbrev s_may_have_table : Stmt := topS 27
theorem sc_may_have_table : FnScope ["letters", "states", "few", "turn"] ["letters", "states", "few", "turn"] (defScope s_may_have_table) := ⟨rfl, rfl, rfl, by decide +kernel, rfl, by decide +kernel, by decide +kernel⟩
abbrev s_are_letters : Stmt := topS 28
theorem sc_are_letters : FnScope ["thing", "sign"] ["thing"] (defScope s_are_letters) := ⟨rfl, rfl, rfl, by decide +kernel, rfl, by decide +kernel, by decide +kernel⟩
abbrev s_are_rising_states : Stmt := topS 29
theorem sc_are_rising_states : FnScope ["thing", "states", "state"] ["thing", "states"] (defScope s_are_rising_states) := ⟨rfl, rfl, rfl, by decide +kernel, rfl, by decide +kernel, by decide +kernel⟩
abbrev s__rises : Stmt := topS 30
theorem sc__rises : FnScope ["row", "low", "high"] ["row"] (defScope s__rises) := ⟨rfl, rfl, rfl, by decide +kernel, rfl, by decide +kernel, by decide +kernel⟩
abbrev s_tuples_due : Stmt := topS 31
theorem sc_tuples_due : FnScope ["letters", "states", "classes", "many", "_"] ["letters", "states", "classes"] (defScope s_tuples_due) := ⟨rfl, rfl, rfl, by decide +kernel, rfl, by decide +kernel, by decide +kernel⟩
abbrev s__is_table : Stmt := topS 32
theorem sc__is_table : FnScope ["thing", "letters", "states", "classes", "key", "state"] ["thing", "letters", "states", "classes"] (defScope s__is_table) := ⟨rfl, rfl, rfl, by decide +kernel, rfl, by decide +kernel, by decide +kernel⟩
abbrev s__is_key : Stmt := topS 33
theorem sc__is_key : FnScope ["thing", "letters", "states", "classes", "letter", "row", "number"] ["thing", "letters", "states", "classes"] (defScope s__is_key) := ⟨rfl, rfl, rfl, by decide +kernel, rfl, by decide +kernel, by decide +kernel⟩
abbrev s_class_of : Stmt := topS 34
theorem sc_class_of : FnScope ["number", "few", "turn"] ["number", "few", "turn"] (defScope s_class_of) := ⟨rfl, rfl, rfl, by decide +kernel, rfl, by decide +kernel, by decide +kernel⟩
abbrev s_state_by_numbers : Stmt := topS 35
theorem sc_state_by_numbers : FnScope ["judge", "letter", "numbers", "row", "number"] ["judge", "letter", "numbers"] (defScope s_state_by_numbers) := ⟨rfl, rfl, rfl, by decide +kernel, rfl, by decide +kernel, by decide +kernel⟩
abbrev s__numbers : Stmt := topS 36
theorem sc__numbers : FnScope ["below", "states", "state"] ["below", "states"] (defScope s__numbers) := ⟨rfl, rfl, rfl, by decide +kernel, rfl, by decide +kernel, by decide +kernel⟩
abbrev s_check_letters : Stmt := topS 37
theorem sc_check_letters : FnScope ["parts", "letters", "letter", "_"] ["parts", "letters"] (defScope s_check_letters) := ⟨rfl, rfl, rfl, by decide +kernel, rfl, by decide +kernel, by decide +kernel⟩
abbrev s_states_upward : Stmt := topS 38
theorem sc_states_upward : FnScope ["tree", "letters", "states", "state_at", "told", "next_state"] ["tree", "letters", "states", "state_at"] (defScope s_states_upward) := ⟨rfl, rfl, rfl, by decide +kernel, rfl, by decide +kernel, by decide +kernel⟩
abbrev n_states_upward__next_state : Stmt := (defBody s_states_upward).getD 2 (.Pass ⟨0, 0, 0, 0⟩)
theorem sc_states_upward__next_state : NdefX.NScope ["letter", "below", "told", "state_at", "states"] ["letter", "below"] ["told", "state_at", "states"] (C8.fnScope n_states_upward__next_state) := NdefX.nscope_by (by decide +kernel)
theorem nd_states_upward__next_state : NdefX.ndefB (defScope s_states_upward) (C8.fnScope n_states_upward__next_state) ["told", "state_at", "states"] = true := by decide +kernel
abbrev s_part_states : Stmt := topS 39
theorem sc_part_states : FnScope ["judge", "tree"] ["judge", "tree"] (defScope s_part_states) := ⟨rfl, rfl, rfl, by decide +kernel, rfl, by decide +kernel, by decide +kernel⟩
abbrev s_state_of : Stmt := topS 40
theorem sc_state_of : FnScope ["judge", "tree"] ["judge", "tree"] (defScope s_state_of) := ⟨rfl, rfl, rfl, by decide +kernel, rfl, by decide +kernel, by decide +kernel⟩
abbrev s_lets_by : Stmt := topS 41
theorem sc_lets_by : FnScope ["judge", "tree"] ["judge", "tree"] (defScope s_lets_by) := ⟨rfl, rfl, rfl, by decide +kernel, rfl, by decide +kernel, by decide +kernel⟩
abbrev s__law_pool : Stmt := topS 43
theorem sc__law_pool : FnScope ["script", "k", "cell"] ["script", "k"] (defScope s__law_pool) := ⟨rfl, rfl, rfl, by decide +kernel, rfl, by decide +kernel, by decide +kernel⟩
abbrev s__law_take : Stmt := topS 44
theorem sc__law_take : FnScope ["pool", "many", "found", "step", "mark"] ["pool", "many"] (defScope s__law_take) := ⟨rfl, rfl, rfl, by decide +kernel, rfl, by decide +kernel, by decide +kernel⟩
abbrev s__law_mixed_up : Stmt := topS 45
theorem sc__law_mixed_up : FnScope ["pool", "things", "left", "found"] ["pool", "things"] (defScope s__law_mixed_up) := ⟨rfl, rfl, rfl, by decide +kernel, rfl, by decide +kernel, by decide +kernel⟩
abbrev s__law_grown : Stmt := topS 46
theorem sc__law_grown : FnScope ["pool", "most", "letters", "many", "way", "depths", "rows", "k", "head", "trees", "children", "child"] ["pool", "most", "letters"] (defScope s__law_grown) := ⟨rfl, rfl, rfl, by decide +kernel, rfl, by decide +kernel, by decide +kernel⟩
abbrev s__law_shuffled : Stmt := topS 47
theorem sc__law_shuffled : FnScope ["pool", "tree", "child"] ["pool", "tree"] (defScope s__law_shuffled) := ⟨rfl, rfl, rfl, by decide +kernel, rfl, by decide +kernel, by decide +kernel⟩
abbrev s__law_tree : Stmt := topS 48
theorem sc__law_tree : FnScope ["pool", "most", "letters", "one", "other", "rows"] ["pool", "most", "letters"] (defScope s__law_tree) := ⟨rfl, rfl, rfl, by decide +kernel, rfl, by decide +kernel, by decide +kernel⟩
abbrev s__law_tuples : Stmt := topS 50
theorem sc__law_tuples : FnScope ["letters", "states", "classes", "rows", "turn", "longer", "row", "found", "letter", "one"] ["letters", "states", "classes"] (defScope s__law_tuples) := ⟨rfl, rfl, rfl, by decide +kernel, rfl, by decide +kernel, by decide +kernel⟩
abbrev s__law_power : Stmt := topS 51
theorem sc__law_power : FnScope ["base", "many", "found", "turn"] ["base", "many"] (defScope s__law_power) := ⟨rfl, rfl, rfl, by decide +kernel, rfl, by decide +kernel, by decide +kernel⟩
abbrev s__law_sizes : Stmt := topS 52
theorem sc__law_sizes : FnScope ["pool", "letters", "states", "few", "turn"] ["pool"] (defScope s__law_sizes) := ⟨rfl, rfl, rfl, by decide +kernel, rfl, by decide +kernel, by decide +kernel⟩
abbrev s__law_in_order : Stmt := topS 53
theorem sc__law_in_order : FnScope ["pool", "table", "keys", "at", "key"] ["pool", "table"] (defScope s__law_in_order) := ⟨rfl, rfl, rfl, by decide +kernel, rfl, by decide +kernel, by decide +kernel⟩
abbrev s__law_judge : Stmt := topS 54
theorem sc__law_judge : FnScope ["pool", "letters", "states", "few", "turn", "table", "way", "key", "number", "good", "state"] ["pool"] (defScope s__law_judge) := ⟨rfl, rfl, rfl, by decide +kernel, rfl, by decide +kernel, by decide +kernel⟩
abbrev s__law_by_children : Stmt := topS 55
theorem sc__law_by_children : FnScope ["judge", "tree", "letters", "states", "few", "turn", "table", "good", "due", "numbers", "child", "classes", "number"] ["judge", "tree"] (defScope s__law_by_children) := ⟨rfl, rfl, rfl, by decide +kernel, rfl, by decide +kernel, by decide +kernel⟩
abbrev s__law_turned_round : Stmt := topS 56
theorem sc__law_turned_round : FnScope ["pool", "judge", "tree", "letters", "states", "few", "turn", "table", "good", "child", "many", "more", "one", "other"] ["pool", "judge", "tree"] (defScope s__law_turned_round) := ⟨rfl, rfl, rfl, by decide +kernel, rfl, by decide +kernel, by decide +kernel⟩
abbrev s__law_parts : Stmt := topS 57
theorem sc__law_parts : FnScope ["tree", "child"] ["tree"] (defScope s__law_parts) := ⟨rfl, rfl, rfl, by decide +kernel, rfl, by decide +kernel, by decide +kernel⟩
abbrev s__law_exchanged : Stmt := topS 58
theorem sc__law_exchanged : FnScope ["pool", "judge", "tree", "parts", "part", "at", "like", "other"] ["pool", "judge", "tree"] (defScope s__law_exchanged) := ⟨rfl, rfl, rfl, by decide +kernel, rfl, by decide +kernel, by decide +kernel⟩
abbrev s_law : Stmt := topS 59
theorem sc_law : FnScope ["script", "k", "pool", "judge", "tree", "other", "found", "one", "turned", "small", "state", "turn"] ["script"] (defScope s_law) := ⟨rfl, rfl, rfl, by decide +kernel, rfl, by decide +kernel, by decide +kernel⟩
structure Txt (K : PySem.W.Frag) (mg : Str → Option Value) where
  f_is_whole : Addr
  d_is_whole : FuncData
  F_is_whole : Fun K "is_whole" "is_whole" s_is_whole f_is_whole d_is_whole
  b_is_whole : Binds K d_is_whole ["thing"] []
  m_is_whole : mg "is_whole" = some (.ref f_is_whole)
  f_is_whole_within : Addr
  d_is_whole_within : FuncData
  F_is_whole_within : Fun K "is_whole_within" "is_whole_within" s_is_whole_within f_is_whole_within d_is_whole_within
  b_is_whole_within : Binds K d_is_whole_within ["thing", "low", "high"] []
  m_is_whole_within : mg "is_whole_within" = some (.ref f_is_whole_within)
  f_is_letter : Addr
  d_is_letter : FuncData
  F_is_letter : Fun K "is_letter" "is_letter" s_is_letter f_is_letter d_is_letter
  b_is_letter : Binds K d_is_letter ["thing"] []
  m_is_letter : mg "is_letter" = some (.ref f_is_letter)
  f_is_tree : Addr
  d_is_tree : FuncData
  F_is_tree : Fun K "is_tree" "is_tree" s_is_tree f_is_tree d_is_tree
  b_is_tree : Binds K d_is_tree ["thing"] []
  m_is_tree : mg "is_tree" = some (.ref f_is_tree)
  f__is_part : Addr
  d__is_part : FuncData
  F__is_part : Fun K "_is_part" "_is_part" s__is_part f__is_part d__is_part
  b__is_part : Binds K d__is_part ["thing"] []
  m__is_part : mg "_is_part" = some (.ref f__is_part)
  f_check_tree : Addr
  d_check_tree : FuncData
  F_check_tree : Fun K "check_tree" "check_tree" s_check_tree f_check_tree d_check_tree
  b_check_tree : Binds K d_check_tree ["thing"] []
  m_check_tree : mg "check_tree" = some (.ref f_check_tree)
  f_parts_upward : Addr
  d_parts_upward : FuncData
  F_parts_upward : Fun K "parts_upward" "parts_upward" s_parts_upward f_parts_upward d_parts_upward
  b_parts_upward : Binds K d_parts_upward ["tree"] []
  m_parts_upward : mg "parts_upward" = some (.ref f_parts_upward)
  f_built_upward : Addr
  d_built_upward : FuncData
  F_built_upward : Fun K "built_upward" "built_upward" s_built_upward f_built_upward d_built_upward
  b_built_upward : Binds K d_built_upward ["tree", "made"] []
  m_built_upward : mg "built_upward" = some (.ref f_built_upward)
  f__written_and_told : Addr
  d__written_and_told : FuncData
  F__written_and_told : Fun K "_written_and_told" "_written_and_told" s__written_and_told f__written_and_told d__written_and_told
  b__written_and_told : Binds K d__written_and_told ["tree"] []
  m__written_and_told : mg "_written_and_told" = some (.ref f__written_and_told)
  f__joined : Addr
  d__joined : FuncData
  F__joined : Fun K "_joined" "_joined" s__joined f__joined d__joined
  b__joined : Binds K d__joined ["letter", "below"] []
  m__joined : mg "_joined" = some (.ref f__joined)
  f_written_part : Addr
  d_written_part : FuncData
  F_written_part : Fun K "written_part" "written_part" s_written_part f_written_part d_written_part
  b_written_part : Binds K d_written_part ["letter", "texts"] []
  m_written_part : mg "written_part" = some (.ref f_written_part)
  f_told_form : Addr
  d_told_form : FuncData
  F_told_form : Fun K "told_form" "told_form" s_told_form f_told_form d_told_form
  b_told_form : Binds K d_told_form ["tree"] []
  m_told_form : mg "told_form" = some (.ref f_told_form)
  f_heap_of : Addr
  d_heap_of : FuncData
  F_heap_of : Fun K "heap_of" "heap_of" s_heap_of f_heap_of d_heap_of
  b_heap_of : Binds K d_heap_of ["tree"] []
  m_heap_of : mg "heap_of" = some (.ref f_heap_of)
  f_from_heap : Addr
  d_from_heap : FuncData
  F_from_heap : Fun K "from_heap" "from_heap" s_from_heap f_from_heap d_from_heap
  b_from_heap : Binds K d_from_heap ["letter", "heap"] []
  m_from_heap : mg "from_heap" = some (.ref f_from_heap)
  f__is_heap_row : Addr
  d__is_heap_row : FuncData
  F__is_heap_row : Fun K "_is_heap_row" "_is_heap_row" s__is_heap_row f__is_heap_row d__is_heap_row
  b__is_heap_row : Binds K d__is_heap_row ["thing"] []
  m__is_heap_row : mg "_is_heap_row" = some (.ref f__is_heap_row)
  f_is_judge : Addr
  d_is_judge : FuncData
  F_is_judge : Fun K "is_judge" "is_judge" s_is_judge f_is_judge d_is_judge
  b_is_judge : Binds K d_is_judge ["thing"] []
  m_is_judge : mg "is_judge" = some (.ref f_is_judge)
  f_may_have_table : Addr
  d_may_have_table : FuncData
  F_may_have_table : Fun K "may_have_table" "may_have_table" s_may_have_table f_may_have_table d_may_have_table
  b_may_have_table : Binds K d_may_have_table ["letters", "states", "few", "turn"] []
  m_may_have_table : mg "may_have_table" = some (.ref f_may_have_table)
  f_are_letters : Addr
  d_are_letters : FuncData
  F_are_letters : Fun K "are_letters" "are_letters" s_are_letters f_are_letters d_are_letters
  b_are_letters : Binds K d_are_letters ["thing"] []
  m_are_letters : mg "are_letters" = some (.ref f_are_letters)
  f_are_rising_states : Addr
  d_are_rising_states : FuncData
  F_are_rising_states : Fun K "are_rising_states" "are_rising_states" s_are_rising_states f_are_rising_states d_are_rising_states
  b_are_rising_states : Binds K d_are_rising_states ["thing", "states"] []
  m_are_rising_states : mg "are_rising_states" = some (.ref f_are_rising_states)
  f__rises : Addr
  d__rises : FuncData
  F__rises : Fun K "_rises" "_rises" s__rises f__rises d__rises
  b__rises : Binds K d__rises ["row"] []
  m__rises : mg "_rises" = some (.ref f__rises)
  f_tuples_due : Addr
  d_tuples_due : FuncData
  F_tuples_due : Fun K "tuples_due" "tuples_due" s_tuples_due f_tuples_due d_tuples_due
  b_tuples_due : Binds K d_tuples_due ["letters", "states", "classes"] []
  m_tuples_due : mg "tuples_due" = some (.ref f_tuples_due)
  f__is_table : Addr
  d__is_table : FuncData
  F__is_table : Fun K "_is_table" "_is_table" s__is_table f__is_table d__is_table
  b__is_table : Binds K d__is_table ["thing", "letters", "states", "classes"] []
  m__is_table : mg "_is_table" = some (.ref f__is_table)
  f__is_key : Addr
  d__is_key : FuncData
  F__is_key : Fun K "_is_key" "_is_key" s__is_key f__is_key d__is_key
  b__is_key : Binds K d__is_key ["thing", "letters", "states", "classes"] []
  m__is_key : mg "_is_key" = some (.ref f__is_key)
  f_class_of : Addr
  d_class_of : FuncData
  F_class_of : Fun K "class_of" "class_of" s_class_of f_class_of d_class_of
  b_class_of : Binds K d_class_of ["number", "few", "turn"] []
  m_class_of : mg "class_of" = some (.ref f_class_of)
  f_state_by_numbers : Addr
  d_state_by_numbers : FuncData
  F_state_by_numbers : Fun K "state_by_numbers" "state_by_numbers" s_state_by_numbers f_state_by_numbers d_state_by_numbers
  b_state_by_numbers : Binds K d_state_by_numbers ["judge", "letter", "numbers"] []
  m_state_by_numbers : mg "state_by_numbers" = some (.ref f_state_by_numbers)
  f__numbers : Addr
  d__numbers : FuncData
  F__numbers : Fun K "_numbers" "_numbers" s__numbers f__numbers d__numbers
  b__numbers : Binds K d__numbers ["below", "states"] []
  m__numbers : mg "_numbers" = some (.ref f__numbers)
  f_check_letters : Addr
  d_check_letters : FuncData
  F_check_letters : Fun K "check_letters" "check_letters" s_check_letters f_check_letters d_check_letters
  b_check_letters : Binds K d_check_letters ["parts", "letters"] []
  m_check_letters : mg "check_letters" = some (.ref f_check_letters)
  f_states_upward : Addr
  d_states_upward : FuncData
  F_states_upward : Fun K "states_upward" "states_upward" s_states_upward f_states_upward d_states_upward
  b_states_upward : Binds K d_states_upward ["tree", "letters", "states", "state_at"] []
  m_states_upward : mg "states_upward" = some (.ref f_states_upward)
  f_part_states : Addr
  d_part_states : FuncData
  F_part_states : Fun K "part_states" "part_states" s_part_states f_part_states d_part_states
  b_part_states : Binds K d_part_states ["judge", "tree"] []
  m_part_states : mg "part_states" = some (.ref f_part_states)
  f_state_of : Addr
  d_state_of : FuncData
  F_state_of : Fun K "state_of" "state_of" s_state_of f_state_of d_state_of
  b_state_of : Binds K d_state_of ["judge", "tree"] []
  m_state_of : mg "state_of" = some (.ref f_state_of)
  f_lets_by : Addr
  d_lets_by : FuncData
  F_lets_by : Fun K "lets_by" "lets_by" s_lets_by f_lets_by d_lets_by
  b_lets_by : Binds K d_lets_by ["judge", "tree"] []
  m_lets_by : mg "lets_by" = some (.ref f_lets_by)
  f__law_pool : Addr
  d__law_pool : FuncData
  F__law_pool : Fun K "_law_pool" "_law_pool" s__law_pool f__law_pool d__law_pool
  b__law_pool : Binds K d__law_pool ["script", "k"] []
  m__law_pool : mg "_law_pool" = some (.ref f__law_pool)
  f__law_take : Addr
  d__law_take : FuncData
  F__law_take : Fun K "_law_take" "_law_take" s__law_take f__law_take d__law_take
  b__law_take : Binds K d__law_take ["pool", "many"] []
  m__law_take : mg "_law_take" = some (.ref f__law_take)
  f__law_mixed_up : Addr
  d__law_mixed_up : FuncData
  F__law_mixed_up : Fun K "_law_mixed_up" "_law_mixed_up" s__law_mixed_up f__law_mixed_up d__law_mixed_up
  b__law_mixed_up : Binds K d__law_mixed_up ["pool", "things"] []
  m__law_mixed_up : mg "_law_mixed_up" = some (.ref f__law_mixed_up)
  f__law_grown : Addr
  d__law_grown : FuncData
  F__law_grown : Fun K "_law_grown" "_law_grown" s__law_grown f__law_grown d__law_grown
  b__law_grown : Binds K d__law_grown ["pool", "most", "letters"] []
  m__law_grown : mg "_law_grown" = some (.ref f__law_grown)
  f__law_shuffled : Addr
  d__law_shuffled : FuncData
  F__law_shuffled : Fun K "_law_shuffled" "_law_shuffled" s__law_shuffled f__law_shuffled d__law_shuffled
  b__law_shuffled : Binds K d__law_shuffled ["pool", "tree"] []
  m__law_shuffled : mg "_law_shuffled" = some (.ref f__law_shuffled)
  f__law_tree : Addr
  d__law_tree : FuncData
  F__law_tree : Fun K "_law_tree" "_law_tree" s__law_tree f__law_tree d__law_tree
  b__law_tree : Binds K d__law_tree ["pool", "most", "letters"] []
  m__law_tree : mg "_law_tree" = some (.ref f__law_tree)
  f__law_tuples : Addr
  d__law_tuples : FuncData
  F__law_tuples : Fun K "_law_tuples" "_law_tuples" s__law_tuples f__law_tuples d__law_tuples
  b__law_tuples : Binds K d__law_tuples ["letters", "states", "classes"] []
  m__law_tuples : mg "_law_tuples" = some (.ref f__law_tuples)
  f__law_power : Addr
  d__law_power : FuncData
  F__law_power : Fun K "_law_power" "_law_power" s__law_power f__law_power d__law_power
  b__law_power : Binds K d__law_power ["base", "many"] []
  m__law_power : mg "_law_power" = some (.ref f__law_power)
  f__law_sizes : Addr
  d__law_sizes : FuncData
  F__law_sizes : Fun K "_law_sizes" "_law_sizes" s__law_sizes f__law_sizes d__law_sizes
  b__law_sizes : Binds K d__law_sizes ["pool"] []
  m__law_sizes : mg "_law_sizes" = some (.ref f__law_sizes)
  f__law_in_order : Addr
  d__law_in_order : FuncData
  F__law_in_order : Fun K "_law_in_order" "_law_in_order" s__law_in_order f__law_in_order d__law_in_order
  b__law_in_order : Binds K d__law_in_order ["pool", "table"] []
  m__law_in_order : mg "_law_in_order" = some (.ref f__law_in_order)
  f__law_judge : Addr
  d__law_judge : FuncData
  F__law_judge : Fun K "_law_judge" "_law_judge" s__law_judge f__law_judge d__law_judge
  b__law_judge : Binds K d__law_judge ["pool"] []
  m__law_judge : mg "_law_judge" = some (.ref f__law_judge)
  f__law_by_children : Addr
  d__law_by_children : FuncData
  F__law_by_children : Fun K "_law_by_children" "_law_by_children" s__law_by_children f__law_by_children d__law_by_children
  b__law_by_children : Binds K d__law_by_children ["judge", "tree"] []
  m__law_by_children : mg "_law_by_children" = some (.ref f__law_by_children)
  f__law_turned_round : Addr
  d__law_turned_round : FuncData
  F__law_turned_round : Fun K "_law_turned_round" "_law_turned_round" s__law_turned_round f__law_turned_round d__law_turned_round
  b__law_turned_round : Binds K d__law_turned_round ["pool", "judge", "tree"] []
  m__law_turned_round : mg "_law_turned_round" = some (.ref f__law_turned_round)
  f__law_parts : Addr
  d__law_parts : FuncData
  F__law_parts : Fun K "_law_parts" "_law_parts" s__law_parts f__law_parts d__law_parts
  b__law_parts : Binds K d__law_parts ["tree"] []
  m__law_parts : mg "_law_parts" = some (.ref f__law_parts)
  f__law_exchanged : Addr
  d__law_exchanged : FuncData
  F__law_exchanged : Fun K "_law_exchanged" "_law_exchanged" s__law_exchanged f__law_exchanged d__law_exchanged
  b__law_exchanged : Binds K d__law_exchanged ["pool", "judge", "tree"] []
  m__law_exchanged : mg "_law_exchanged" = some (.ref f__law_exchanged)
  f_law : Addr
  d_law : FuncData
  F_law : Fun K "law" "law" s_law f_law d_law
  b_law : Binds K d_law ["script"] []
  m_law : mg "law" = some (.ref f_law)
  t_MOST_STATES : Tok
  g_MOST_STATES : mg "MOST_STATES" = some (.int 6 t_MOST_STATES)
  t_MOST_FEW : Tok
  g_MOST_FEW : mg "MOST_FEW" = some (.int 4 t_MOST_FEW)
  t_MOST_TURN : Tok
  g_MOST_TURN : mg "MOST_TURN" = some (.int 4 t_MOST_TURN)
  t_MOST_TUPLES : Tok
  g_MOST_TUPLES : mg "MOST_TUPLES" = some (.int 600 t_MOST_TUPLES)
  c__joined : Addr
  P__joined : Addr
  h__joined : d__joined.code = .ref c__joined
  c_heap_of : Addr
  P_heap_of : Addr
  h_heap_of : d_heap_of.code = .ref c_heap_of
  c_states_upward : Addr
  P_states_upward : Addr
  h_states_upward : d_states_upward.code = .ref c_states_upward
  c_part_states : Addr
  P_part_states : Addr
  h_part_states : d_part_states.code = .ref c_part_states
  n__joined_heap_of : P__joined ≠ P_heap_of
  n__joined_states_upward : P__joined ≠ P_states_upward
  n_heap_of_states_upward : P_heap_of ≠ P_states_upward
  n__joined_part_states : P__joined ≠ P_part_states
  n_heap_of_part_states : P_heap_of ≠ P_part_states
  n_states_upward_part_states : P_states_upward ≠ P_part_states
  z_all : mg "all" = none
  z_bool : mg "bool" = none
  z_dict : mg "dict" = none
  z_int : mg "int" = none
  z_isinstance : mg "isinstance" = none
  z_len : mg "len" = none
  z_list : mg "list" = none
  z_max : mg "max" = none
  z_min : mg "min" = none
  z_range : mg "range" = none
  z_sorted : mg "sorted" = none
  z_str : mg "str" = none
  z_sum : mg "sum" = none
  z_tuple : mg "tuple" = none
  z_zip : mg "zip" = none
structure Tbs {K : PySem.W.Frag} {mg : Str → Option Value} (T : Txt K mg) (base : Heap) : Prop where
  tb__joined : LamX.TabB base mg T.c__joined T.P__joined
  tb_heap_of : LamX.TabB base mg T.c_heap_of T.P_heap_of
  tb_states_upward : LamX.TabB base mg T.c_states_upward T.P_states_upward
  tb_part_states : LamX.TabB base mg T.c_part_states T.P_part_states
abbrev q__joined : Str := "_joined" ++ ".<locals>." ++ "<lambda>"
abbrev q_heap_of : Str := "heap_of" ++ ".<locals>." ++ "<lambda>"
abbrev q_states_upward : Str := "states_upward" ++ ".<locals>." ++ "next_state"
abbrev q_part_states : Str := "part_states" ++ ".<locals>." ++ "<lambda>"
local macro_rules | `(tactic| walk_at "my rd") => `(tactic| repeat (first | refine ⟨_, rfl, ?_⟩ | refine ⟨_, _, rfl, rfl, ?_⟩ | refine ⟨rfl, ?_⟩))
local macro_rules | `(tactic| walk_at "my one") => `(tactic| first | refine ⟨_, rfl, ?_⟩ | refine ⟨_, _, rfl, rfl, ?_⟩ | refine ⟨rfl, ?_⟩)
def Chg (p : Addr) (H H' : Hp) : Prop := ∀ b, b ≠ p → H' b = H b
theorem Chg.refl (p : Addr) (H : Hp) : Chg p H H := fun _ _ => rfl
theorem Chg.trans {p : Addr} {H H1 H2 : Hp} (a : Chg p H H1) (b : Chg p H1 H2) : Chg p H H2 := fun c hc => (b c hc).trans (a c hc)
theorem Chg.upd {p : Addr} {H : Hp} {o : HO} : Chg p H (upd H p o) := fun _ h => upd_ne h
theorem Chg.at {p b : Addr} {H H' : Hp} {o : HO} (c : Chg p H H') (h : H b = some o) (n : b ≠ p) : H' b = some o := (c b n).trans h
theorem Chg.seq {K : PySem.W.Frag} {p a : Addr} {H H' : Hp} {xs : List V} (c : Chg p H H') (hp : H p = none) (h : SqL K H a xs) : SqL K H' a xs := by
  rcases h with (h | ⟨o, h⟩) | h
  · exact .inl (.inl (c.at h (ne_of_none h hp)))
  · exact .inl (.inr ⟨o, c.at h (ne_of_none h hp)⟩)
  · exact .inr h
theorem same_new {H : Hp} {p : Addr} {o : HO} (h : H p = none) : Same H (upd H p o) := fun b u q => by rw [upd_ne (ne_of_none q h)]; exact q
theorem nn_mul {a b A B : Int} (h0 : 0 ≤ a) (h1 : a ≤ A) (g0 : 0 ≤ b) (g1 : b ≤ B) : 0 ≤ a * b ∧ a * b ≤ A * B :=
  ⟨Int.mul_nonneg h0 g0, Int.mul_le_mul h1 g1 g0 (Int.le_trans h0 h1)⟩
theorem divW {i j : Int} (h : 0 < j) (h2 : j < 2 ^ 60) : CDivW i j := wide_div (b := 60) h (by omega) (by decide) (by decide)

theorem lay_ints : ∀ xs : List Int, PyData.canLayAll0 (xs.map PyData.int) = true
  | [] => by simp only [List.map_nil, PyData.canLayAll0]
  | x :: r => by simp only [List.map_cons, PyData.canLayAll0, PyData.canLay0, lay_ints r, Bool.and_self]
theorem dep_ints : ∀ xs : List Int, PyData.depthAll (xs.map PyData.int) ≤ 1
  | [] => by simp only [List.map_nil, PyData.depthAll]; omega
  | x :: r => by
    have := dep_ints r
    simp only [List.map_cons, PyData.depthAll, PyData.depth]
    omega
theorem shaped_ints (xs : List Int) : SeqAt.shaped (.list (xs.map PyData.int)) = true := by
  have a := lay_ints xs
  have b := dep_ints xs
  unfold SeqAt.shaped
  rw [Bool.and_eq_true]
  refine ⟨by simp only [PyData.canLay0]; exact a, decide_eq_true ?_⟩
  simp only [PyData.depth]
  omega
theorem dp_ints {K : PySem.W.Frag} {H : Hp} : ∀ xs : List Int, DpAll K H (xs.map V.int) (xs.map PyData.int)
  | [] => .nil
  | x :: r => .cons (.int x) (dp_ints r)
theorem dp_intsL {K : PySem.W.Frag} {H : Hp} {a : Addr} {xs : List Int} (h : SqL K H a (xs.map V.int)) : Dp K H (.ref a) (.list (xs.map PyData.int)) := .lst h (dp_ints xs)
theorem eqv_self {d : PyData} (h : SeqAt.shaped d = true) : PyData.eqv d d = true := SeqAt.eqv_refl d (SeqAt.canLay_of_shaped h)

inductive Tr where
  | node (c : Nat) (ks : List Tr)
def ch (c : Nat) : Str := ⟨#[c]⟩
mutual
def Tr.size : Tr → Nat
  | .node _ ks => 1 + sizes ks
def sizes : List Tr → Nat
  | [] => 0
  | t :: r => t.size + sizes r
end
mutual
def Tr.depth : Tr → Nat
  | .node _ ks => 1 + depths ks
def depths : List Tr → Nat
  | [] => 0
  | t :: r => max t.depth (depths r)
end
mutual
def Tr.post : Tr → List Tr
  | .node c ks => posts ks ++ [.node c ks]
def posts : List Tr → List Tr
  | [] => []
  | t :: r => t.post ++ posts r
end

mutual
def Tr.lets (p : Nat → Prop) : Tr → Prop
  | .node c ks => p c ∧ letss p ks
def letss (p : Nat → Prop) : List Tr → Prop
  | [] => True
  | t :: r => t.lets p ∧ letss p r
end
def Tr.kids : Tr → List Tr
  | .node _ ks => ks
def Tr.top : Tr → Nat
  | .node c _ => c
theorem sizes_append : ∀ a b : List Tr, sizes (a ++ b) = sizes a + sizes b
  | [], b => by simp only [List.nil_append, sizes]; omega
  | t :: r, b => by simp only [List.cons_append, sizes, sizes_append r b]; omega
theorem depths_append : ∀ a b : List Tr, depths (a ++ b) = max (depths a) (depths b)
  | [], b => by simp only [List.nil_append, depths]; omega
  | t :: r, b => by simp only [List.cons_append, depths, depths_append r b]; omega
theorem posts_append : ∀ a b : List Tr, posts (a ++ b) = posts a ++ posts b
  | [], b => by simp only [List.nil_append, posts]
  | t :: r, b => by simp only [List.cons_append, posts, posts_append r b, List.append_assoc]
theorem letss_append (p : Nat → Prop) : ∀ a b : List Tr, letss p (a ++ b) ↔ letss p a ∧ letss p b
  | [], b => by simp only [List.nil_append, letss, true_and]
  | t :: r, b => by simp only [List.cons_append, letss, letss_append p r b, and_assoc]
theorem size_pos : ∀ t : Tr, 1 ≤ t.size
  | .node c ks => by simp only [Tr.size]; omega
theorem len_sizes : ∀ ts : List Tr, ts.length ≤ sizes ts
  | [] => Nat.le_refl _
  | t :: r => by
    have a := size_pos t
    have b := len_sizes r
    simp only [List.length_cons, sizes]
    omega
mutual
theorem post_len : ∀ t : Tr, t.post.length = t.size
  | .node c ks => by simp only [Tr.post, List.length_append, posts_len ks, List.length_singleton, Tr.size]; omega
theorem posts_len : ∀ ts : List Tr, (posts ts).length = sizes ts
  | [] => rfl
  | t :: r => by simp only [posts, List.length_append, post_len t, posts_len r, sizes]
end
theorem sizes_mem : ∀ {ts : List Tr} {t : Tr}, t ∈ ts → t.size ≤ sizes ts
  | u :: r, t, h => by
    rcases List.mem_cons.mp h with e | h
    · subst e; simp only [sizes]; omega
    · have := sizes_mem h
      simp only [sizes]; omega
theorem depths_mem : ∀ {ts : List Tr} {t : Tr}, t ∈ ts → t.depth ≤ depths ts
  | u :: r, t, h => by
    rcases List.mem_cons.mp h with e | h
    · subst e; simp only [depths]; omega
    · have := depths_mem h
      simp only [depths]; omega
theorem letss_mem {p : Nat → Prop} : ∀ {ts : List Tr} {t : Tr}, letss p ts → t ∈ ts → t.lets p
  | u :: r, t, hl, h => by
    simp only [letss] at hl
    rcases List.mem_cons.mp h with e | h
    · subst e; exact hl.1
    · exact letss_mem hl.2 h
mutual
theorem lets_mono {p q : Nat → Prop} (h : ∀ c, p c → q c) : ∀ t : Tr, t.lets p → t.lets q
  | .node c ks, a => by
    simp only [Tr.lets] at a ⊢
    exact ⟨h _ a.1, letss_mono h ks a.2⟩
theorem letss_mono {p q : Nat → Prop} (h : ∀ c, p c → q c) : ∀ ts : List Tr, letss p ts → letss q ts
  | [], _ => trivial
  | t :: r, a => by
    simp only [letss] at a ⊢
    exact ⟨lets_mono h t a.1, letss_mono h r a.2⟩
end
mutual
inductive TrAt (ok : Addr → Prop) (H : Hp) : V → Tr → Prop
  | node {a l : Addr} {vs : List V} {c : Nat} {ks : List Tr} : H a = some (.tup [.str (ch c), .ref l]) → H l = some (.lst vs) → ok a → ok l → 97 ≤ c → c ≤ 122 → TrsAt ok H vs ks → TrAt ok H (.ref a) (.node c ks)
inductive TrsAt (ok : Addr → Prop) (H : Hp) : List V → List Tr → Prop
  | nil : TrsAt ok H [] []
  | cons {v : V} {vs : List V} {t : Tr} {ts : List Tr} : TrAt ok H v t → TrsAt ok H vs ts → TrsAt ok H (v :: vs) (t :: ts)
end
section
variable {ok ok' : Addr → Prop} {H H' : Hp}
mutual
theorem TrAt.imp (hk : ∀ b, ok b → ok' b) (h : ∀ b o, ok b → H b = some o → H' b = some o) : ∀ (t : Tr) (v : V), TrAt ok H v t → TrAt ok' H' v t
  | .node c ks, v, x => by
    cases x with
    | node h1 h2 k1 k2 c1 c2 r => exact .node (h _ _ k1 h1) (h _ _ k2 h2) (hk _ k1) (hk _ k2) c1 c2 (TrsAt.imp hk h ks _ r)
theorem TrsAt.imp (hk : ∀ b, ok b → ok' b) (h : ∀ b o, ok b → H b = some o → H' b = some o) : ∀ (ts : List Tr) (vs : List V), TrsAt ok H vs ts → TrsAt ok' H' vs ts
  | [], _, x => by cases x; exact .nil
  | t :: r, _, x => by
    cases x with
    | cons a b => exact .cons (TrAt.imp hk h t _ a) (TrsAt.imp hk h r _ b)
end
theorem TrAt.keep {v : V} {t : Tr} (x : TrAt ok H v t) (h : ∀ b o, ok b → H b = some o → H' b = some o) : TrAt ok H' v t := TrAt.imp (fun _ k => k) h t v x
theorem TrsAt.keep {vs : List V} {ts : List Tr} (x : TrsAt ok H vs ts) (h : ∀ b o, ok b → H b = some o → H' b = some o) : TrsAt ok H' vs ts := TrsAt.imp (fun _ k => k) h ts vs x
theorem TrAt.weak {v : V} {t : Tr} (x : TrAt ok H v t) (h : ∀ b, ok b → ok' b) : TrAt ok' H v t := TrAt.imp h (fun _ _ _ e => e) t v x
theorem TrsAt.weak {vs : List V} {ts : List Tr} (x : TrsAt ok H vs ts) (h : ∀ b, ok b → ok' b) : TrsAt ok' H vs ts := TrsAt.imp h (fun _ _ _ e => e) ts vs x
mutual
theorem TrAt.there : ∀ (t : Tr) (v : V), TrAt ok H v t → TrAt (fun b => ok b ∧ ∃ o, H b = some o) H v t
  | .node c ks, v, x => by
    cases x with
    | node h1 h2 k1 k2 c1 c2 r => exact .node h1 h2 ⟨k1, _, h1⟩ ⟨k2, _, h2⟩ c1 c2 (TrsAt.there ks _ r)
theorem TrsAt.there : ∀ (ts : List Tr) (vs : List V), TrsAt ok H vs ts → TrsAt (fun b => ok b ∧ ∃ o, H b = some o) H vs ts
  | [], _, x => by cases x; exact .nil
  | t :: r, _, x => by
    cases x with
    | cons a b => exact .cons (TrAt.there t _ a) (TrsAt.there r _ b)
end
theorem TrsAt.len : ∀ {vs : List V} {ts : List Tr}, TrsAt ok H vs ts → vs.length = ts.length
  | [], [], _ => rfl
  | v :: vs, t :: ts, h => by
    cases h with
    | cons a b => simp only [List.length_cons, TrsAt.len b]
  | [], _ :: _, h => by cases h
  | _ :: _, [], h => by cases h
theorem TrsAt.get : ∀ {vs : List V} {ts : List Tr} {i : Nat} {t : Tr}, TrsAt ok H vs ts → ts[i]? = some t → ∃ v, vs[i]? = some v ∧ TrAt ok H v t
  | _, _, i, t, .nil, e => by simp at e
  | _, _, 0, t, .cons a _, e => by simp at e; subst e; exact ⟨_, rfl, a⟩
  | _, _, i + 1, t, .cons _ b, e => by
    obtain ⟨v, h1, h2⟩ := TrsAt.get (i := i) (t := t) b (by simpa using e)
    exact ⟨v, by simpa using h1, h2⟩
theorem TrsAt.getV : ∀ {vs : List V} {ts : List Tr} {i : Nat} {v : V}, TrsAt ok H vs ts → vs[i]? = some v → ∃ t, ts[i]? = some t ∧ TrAt ok H v t
  | _, _, i, t, .nil, e => by simp at e
  | _, _, 0, t, .cons a _, e => by simp at e; subst e; exact ⟨_, rfl, a⟩
  | _, _, i + 1, t, .cons _ b, e => by
    obtain ⟨v, h1, h2⟩ := TrsAt.getV (i := i) (v := t) b (by simpa using e)
    exact ⟨v, by simpa using h1, h2⟩
theorem TrsAt.append : ∀ {vs ws : List V} {ts us : List Tr}, TrsAt ok H vs ts → TrsAt ok H ws us → TrsAt ok H (vs ++ ws) (ts ++ us)
  | [], _, [], _, _, h => h
  | v :: vs, _, t :: ts, _, h, g => by
    cases h with
    | cons a b => exact .cons a (TrsAt.append b g)
  | [], _, _ :: _, _, h, _ => by cases h
  | _ :: _, _, [], _, h, _ => by cases h
theorem TrsAt.split : ∀ {vs ws : List V} {ts : List Tr}, TrsAt ok H (vs ++ ws) ts → ∃ a b, ts = a ++ b ∧ TrsAt ok H vs a ∧ TrsAt ok H ws b
  | [], ws, ts, h => ⟨[], ts, rfl, .nil, h⟩
  | v :: vs, ws, _, h => by
    cases h with
    | cons x y =>
      obtain ⟨a, b, e, h1, h2⟩ := TrsAt.split y
      exact ⟨_ :: a, b, by rw [e]; rfl, .cons x h1, h2⟩
theorem TrsAt.perm {vs ws : List V} (p : vs.Perm ws) : ∀ {ts : List Tr}, TrsAt ok H vs ts → ∃ us, ts.Perm us ∧ TrsAt ok H ws us := by
  induction p with
  | nil => intro ts h; exact ⟨ts, .refl _, h⟩
  | cons x _ ih =>
    intro ts h
    cases h with
    | cons a b =>
      obtain ⟨us, p1, h1⟩ := ih b
      exact ⟨_ :: us, p1.cons _, .cons a h1⟩
  | swap x y l =>
    intro ts h
    cases h with
    | cons a b =>
      cases b with
      | cons c d => exact ⟨_, .swap _ _ _, .cons c (.cons a d)⟩
  | trans _ _ ih1 ih2 =>
    intro ts h
    obtain ⟨us, p1, h1⟩ := ih1 h
    obtain ⟨ws, p2, h2⟩ := ih2 h1
    exact ⟨ws, p1.trans p2, h2⟩
theorem TrsAt.rev {vs : List V} {ts : List Tr} (h : TrsAt ok H vs ts) : TrsAt ok H vs.reverse ts.reverse := by
  induction vs generalizing ts with
  | nil => cases h; exact .nil
  | cons v vs ih =>
    cases h with
    | cons a b =>
      rw [List.reverse_cons, List.reverse_cons]
      exact (ih b).append (.cons a .nil)
end
theorem sizes_perm {a b : List Tr} (p : a.Perm b) : sizes a = sizes b := by
  induction p with
  | nil => rfl
  | cons x _ ih => simp only [sizes, ih]
  | swap x y l => simp only [sizes]; omega
  | trans _ _ ih1 ih2 => exact ih1.trans ih2
theorem depths_perm {a b : List Tr} (p : a.Perm b) : depths a = depths b := by
  induction p with
  | nil => rfl
  | cons x _ ih => simp only [depths, ih]
  | swap x y l => simp only [depths]; omega
  | trans _ _ ih1 ih2 => exact ih1.trans ih2
theorem letss_perm {p : Nat → Prop} {a b : List Tr} (h : a.Perm b) : letss p a → letss p b := by
  induction h with
  | nil => exact id
  | cons x _ ih =>
    intro q
    simp only [letss] at q ⊢
    exact ⟨q.1, ih q.2⟩
  | swap x y l =>
    intro q
    simp only [letss] at q ⊢
    exact ⟨q.2.1, q.1, q.2.2⟩
  | trans _ _ ih1 ih2 => exact fun q => ih2 (ih1 q)
mutual
inductive Sh : Tr → Tr → Prop
  | node {c : Nat} {ks us ls : List Tr} : ks.Perm us → Shs us ls → Sh (.node c ks) (.node c ls)
inductive Shs : List Tr → List Tr → Prop
  | nil : Shs [] []
  | cons {t u : Tr} {ts us : List Tr} : Sh t u → Shs ts us → Shs (t :: ts) (u :: us)
end
mutual
theorem Sh.refl : ∀ t : Tr, Sh t t
  | .node c ks => .node (.refl _) (Shs.refl ks)
theorem Shs.refl : ∀ ts : List Tr, Shs ts ts
  | [] => .nil
  | t :: r => .cons (Sh.refl t) (Shs.refl r)
end
mutual
theorem Sh.size : ∀ {t u : Tr}, Sh t u → t.size = u.size
  | _, _, .node p h => by simp only [Tr.size, sizes_perm p, Shs.sizes h]
theorem Shs.sizes : ∀ {ts us : List Tr}, Shs ts us → My.sizes ts = My.sizes us
  | _, _, .nil => rfl
  | _, _, .cons a b => by simp only [My.sizes, Sh.size a, Shs.sizes b]
end
mutual
theorem Sh.depth : ∀ {t u : Tr}, Sh t u → t.depth = u.depth
  | _, _, .node p h => by simp only [Tr.depth, depths_perm p, Shs.depths h]
theorem Shs.depths : ∀ {ts us : List Tr}, Shs ts us → My.depths ts = My.depths us
  | _, _, .nil => rfl
  | _, _, .cons a b => by simp only [My.depths, Sh.depth a, Shs.depths b]
end
mutual
theorem Sh.lets {p : Nat → Prop} : ∀ {t u : Tr}, Sh t u → t.lets p → u.lets p
  | _, _, .node q h, a => by
    simp only [Tr.lets] at a ⊢
    exact ⟨a.1, Shs.letss h (letss_perm q a.2)⟩
theorem Shs.letss {p : Nat → Prop} : ∀ {ts us : List Tr}, Shs ts us → My.letss p ts → My.letss p us
  | _, _, .nil, a => a
  | _, _, .cons x y, a => by
    simp only [My.letss] at a ⊢
    exact ⟨Sh.lets x a.1, Shs.letss y a.2⟩
end
theorem Shs.len : ∀ {ts us : List Tr}, Shs ts us → ts.length = us.length
  | _, _, .nil => rfl
  | _, _, .cons a b => by simp only [List.length_cons, Shs.len b]
theorem Shs.append : ∀ {ts us ts' us' : List Tr}, Shs ts us → Shs ts' us' → Shs (ts ++ ts') (us ++ us')
  | _, _, _, _, .nil, h => h
  | _, _, _, _, .cons a b, h => .cons a (Shs.append b h)

def Fr (p : Addr) (H H' : Hp) : Prop := ∀ b o, b ≠ p → H b = some o → H' b = some o
theorem Fr.refl (p : Addr) (H : Hp) : Fr p H H := fun _ _ _ h => h
theorem Fr.trans {p : Addr} {H H1 H2 : Hp} (a : Fr p H H1) (b : Fr p H1 H2) : Fr p H H2 := fun c o n h => b c o n (a c o n h)
theorem Fr.same {p : Addr} {H H' : Hp} (s : Same H H') : Fr p H H' := fun b o _ h => s b o h
theorem Fr.chg {p : Addr} {H H' : Hp} (c : Chg p H H') : Fr p H H' := fun _ _ n h => c.at h n
theorem Fr.new {p q : Addr} {H H' : Hp} {o : HO} (f : Fr p H H') (h : H q = none) : Fr p H (upd H' q o) := fun b u n e => by
  rw [upd_ne (ne_of_none e h)]
  exact f b u n e
theorem same_add {q : Addr} {H H' : Hp} {o : HO} (f : Same H H') (h : H q = none) : Same H (upd H' q o) := fun b u e => by
  rw [upd_ne (ne_of_none e h)]
  exact f b u e
theorem Fr.free {p q : Addr} {H H' : Hp} (f : Fr p H H') (hp : H' p ≠ none) (h : H' q = none) : H q = none := by
  cases e : H q with
  | none => rfl
  | some o =>
    by_cases hq : q = p
    · subst hq; exact absurd h hp
    · rw [f q o hq e] at h; cases h
theorem Fr.seq {K : PySem.W.Frag} {p a : Addr} {H H' : Hp} {xs : List V} (c : Fr p H H') (hp : H p = none) (h : SqL K H a xs) : SqL K H' a xs := by
  rcases h with (h | ⟨o, h⟩) | h
  · exact .inl (.inl (c _ _ (ne_of_none h hp) h))
  · exact .inl (.inr ⟨o, c _ _ (ne_of_none h hp) h⟩)
  · exact .inr h
theorem TrAt.same {ok : Addr → Prop} {H H' : Hp} {v : V} {t : Tr} (x : TrAt ok H v t) (s : Same H H') : TrAt ok H' v t := x.keep fun b o _ h => s b o h
theorem TrsAt.same {ok : Addr → Prop} {H H' : Hp} {vs : List V} {ts : List Tr} (x : TrsAt ok H vs ts) (s : Same H H') : TrsAt ok H' vs ts := x.keep fun b o _ h => s b o h
theorem TrAt.off {ok : Addr → Prop} {H : Hp} {v : V} {t : Tr} {w : Addr} (x : TrAt ok H v t) (h : H w = none) : TrAt (fun b => ok b ∧ b ≠ w) H v t :=
  (TrAt.there t v x).weak fun b ⟨k, o, e⟩ => ⟨k, ne_of_none e h⟩
theorem TrsAt.off {ok : Addr → Prop} {H : Hp} {vs : List V} {ts : List Tr} {w : Addr} (x : TrsAt ok H vs ts) (h : H w = none) : TrsAt (fun b => ok b ∧ b ≠ w) H vs ts :=
  (TrsAt.there ts vs x).weak fun b ⟨k, o, e⟩ => ⟨k, ne_of_none e h⟩
theorem upd_keep {H : Hp} {w : Addr} {o : HO} {ok : Addr → Prop} (h : ∀ b, ok b → b ≠ w) : ∀ b u, ok b → H b = some u → (upd H w o) b = some u := fun b u k e => by
  rw [upd_ne (h b k)]
  exact e
theorem lc_outer {K : PySem.W.Frag} {a : Addr} {xs : List V} {Bd : V → Hp → (Hp → Prop) → Prop} {Qd : Hp → Prop} {H0 : Hp} (Pv : Nat → Hp → Prop) (h0 : Pv 0 H0) (hl : ∀ i H, i ≤ xs.length → Pv i H → SqL K H a xs)
    (hs : ∀ i x H, xs[i]? = some x → Pv i H → Bd x H (Pv (i + 1))) (hd : ∀ H, Pv xs.length H → Qd H) :
    ∃ W : Nat → Nat → Hp → Prop, (∃ m, W 0 m H0) ∧ ∀ i m H, W i m H → ((Itl K a).stop i H ∧ Qd H) ∨ ((Itl K a).go i H ∧ ∃ Nx : Hp → Prop, (∀ H', Nx H' → ∃ m', m' < m ∧ W (i + 1) m' H') ∧ ∀ x H', (Itl K a).yld i H x H' → Bd x H' Nx) := by
  refine ⟨fun i m H => m = xs.length - i ∧ i ≤ xs.length ∧ Pv i H, ⟨xs.length, by simp, Nat.zero_le _, h0⟩, ?_⟩
  rintro i m H ⟨rfl, hi, p⟩
  have q := hl i H hi p
  by_cases hlt : i < xs.length
  · refine .inr ⟨⟨xs, xs[i], q, by simp [hlt]⟩, Pv (i + 1), fun H' p' => ⟨xs.length - (i + 1), by omega, rfl, hlt, p'⟩, fun x H' y => ?_⟩
    obtain ⟨e, y⟩ := y
    subst e
    exact hs i x _ (y xs q) p
  · have e : i = xs.length := by omega
    subst e
    exact .inl ⟨⟨xs, q, Nat.le_refl _⟩, hd H p⟩
theorem take_succ_of {α : Type} {l : List α} {i : Nat} {x : α} (h : l[i]? = some x) : l.take (i + 1) = l.take i ++ [x] := by
  rw [List.take_add_one, h]
  rfl

def RowL (params : Arguments) (scope : PySem.Scope) (body : PySem.Expr) : Prop :=
  (∃ (x : Str) (p1 p2 p3 : Pos) (k0 : Nat), body = .Subscript (.Name x p1) (.Constant (.int 0) k0 p2) p3 ∧ (x == Str.ofString "__debug__") = false ∧ scope.names = [(x, .local)] ∧
    ∀ (fd : FuncData) (u : Value), fd.params = params → fd.defaults = .none → fd.kwdefaults = .none → bindArgs fd ⟨[u], []⟩ = pure [(x, u)]) ∧
  scope.kind = .function ∧ scope.isGenerator = false ∧ scope.isCoroutine = false
theorem row_call {P : Program} {w : World} {A : Around} {s : Shared} {f p c' : Addr} {nm q : Str} {params : Arguments} {scope : PySem.Scope} {body : PySem.Expr} {clos : List (Str × Addr)} {pm ctv : Value} {its : Array Value} {x : Str} {tx : Tok}
    (R : RowL params scope body) (hd : A.depth < recursionLimit) (hf : s.heap.get? f = some (PySem.W.kla_obj nm q params body scope clos pm c' ctv))
    (hc : s.heap.CodeRec (.ref c') q) (hn : s.heap.NoLimit) (ht : IsTup s.heap p its) (h0 : its[0]? = some (.str x tx)) :
    wpAny (model P w) A (call (.ref f) [.ref p]) (PySem.W.KeyPure (.str x) s) (fun _ _ => False) s := by
  obtain ⟨⟨z, p1, p2, p3, k0, rfl, hz, hnm, hb⟩, hk, hg, ho⟩ := R
  refine wpAny_call ?_
  refine PySem.W.kla_callFunE hd hf rfl ho hg rfl hc ?_
  refine BindsTo.of_eq (hb _ _ rfl rfl rfl) _ _ _ _ ?_
  refine wpAny_newFunctionEnv (by intro y hy; rw [show (PySem.W.kla_fn nm q params _ scope clos pm (.ref c') ctv).scope.names = _ from hnm] at hy; simp only [List.mem_singleton] at hy; subst hy; simp) (by intro y hy; simp only [List.mem_singleton] at hy; subst hy; rw [show (PySem.W.kla_fn nm q params _ scope clos pm (.ref c') ctv).scope.names = _ from hnm]; simp) (fun h' hns hsame => ?_) hk
  have hkeep : ∀ b o, s.heap.get? b = some o → h'.get? b = some o := by
    intro b o hb
    have hne : b ≠ s.heap.objs.size := fun e => by
      rw [e] at hb
      simp [Heap.get?] at hb
    rw [hsame.2 b hne]
    exact Heap.get?_push_of_some _ hb
  refine ⟨hn.keeps hkeep, PySem.W.kla_codeExpr ?_⟩
  refine Subscript_Constant (wpAny_Name (wpAny_loadName_local (m := fun y => List.lookup y [(z, Value.ref p)].reverse) (v := .ref p) hk ?_ hns ?_ ?_) hz)
  · simp [Env.kindOf, newEnv, hnm]
  · simp
  refine wpAny_Constant_int ?_
  obtain ⟨o, g1, g2, n, g3⟩ := ht
  have ht' : IsTup h' p its := ⟨o, hkeep _ _ g1, g2, n, g3⟩
  refine ⟨"tuple", _, rfl, ⟨o, hkeep _ _ g1, g2⟩, ?_⟩
  have hz0 : its.size ≠ 0 := fun e => by
    rw [Array.getElem?_eq_none (by omega)] at h0
    cases h0
  refine getItem_tuple (j := 0) ht' (by decide) (by decide) ?_ h0 ?_
  · simp [seqIndex?]
    intro e
    rw [e] at hz0
    exact hz0 rfl
  exact ⟨h', _, rfl, hkeep, .str _ _⟩

def leS (a b : V × Str) : Bool := decide (a.2.cps.toList ≤ b.2.cps.toList)
def RowO (f c : Addr) (q : Str) : HO := .ext fun h => ∃ nm params body scope clos pm ctv, h.get? f = some (PySem.W.kla_obj nm q params body scope clos pm c ctv) ∧ RowL params scope body
def rSortRow : List V → List V → Hp → VK → Prop := fun xs zs H Q => ∃ (a f c : Addr) (q : Str) (bs : List (V × Str)), xs = [.ref a] ∧ zs = [.ref f] ∧ H f = some (RowO f c q) ∧ H c = some (LamX.CodeO c q) ∧ H a = some (.lst (bs.map Prod.fst)) ∧
  (∀ b ∈ bs, ∃ p rest, b.1 = .ref p ∧ H p = some (.tup (.str b.2 :: rest))) ∧ bs.length ≤ sizeLine ∧ ∀ r, H r = none → Q (.ref r) (upd H r (.lst ((bs.mergeSort leS).map Prod.fst)))
def RowR (H : Hp) (v : Value) (b : V × Str) : Prop := RelV b.1 v ∧ ∃ p rest, b.1 = .ref p ∧ H p = some (.tup (.str b.2 :: rest))
theorem eachRow {H : Hp} : ∀ {bs : List (V × Str)} {its : List Value}, Vals (bs.map Prod.fst) its → (∀ b ∈ bs, ∃ p rest, b.1 = .ref p ∧ H p = some (.tup (.str b.2 :: rest))) → PySem.W.EachIs (RowR H) its bs
  | [], _, v, _ => by cases v; exact .nil
  | b :: r, _, v, h => by
    cases v with
    | cons g1 g2 => exact .cons ⟨g1, h b (by simp)⟩ (eachRow g2 fun x hx => h x (by simp [hx]))
theorem rowEach {H : Hp} : ∀ {bs : List (V × Str)} {its : List Value}, PySem.W.EachIs (RowR H) its bs → Vals (bs.map Prod.fst) its
  | [], _, v => by cases v; exact .nil
  | b :: r, _, v => by
    cases v with
    | cons g1 g2 => exact .cons g1.1 (rowEach g2)
theorem cr_sortRow {X : Cx} {k : Nat} (hr : Room k X.A) : CallRK X (.builtin "sorted") ["key"] rSortRow := by
  intro pins s σ H xs zs us ws Q I hv hw h
  obtain ⟨a, f, c, q, bs, rfl, rfl, hf, hc, ha, hp, hz, q2⟩ := h
  cases hv with
  | cons g1 g2 =>
  cases g2
  cases hw with
  | cons g3 g4 =>
  cases g4
  cases g1
  cases g3
  have oa := I.hok _ _ ha
  have of := I.hok _ _ hf
  have oc := I.hok _ _ hc
  obtain ⟨nm, params, body, scope, clos, pm, ctv, hfo, hR⟩ := of.1
  obtain ⟨oz, its, n, hits, hao⟩ := oa
  refine PySem.W.sorted_key_data (vs := its) (bs := bs) (R := RowR H) (f := .ref f) (b := false) (fun b => .str b.2) ⟨_, hao, rfl, n, rfl⟩ (eachRow hits hp) ?_ ?_ hz ?_ (ksk_s1 _ _) (fun x => ksk_l1 _ _) (fun x => ?_) (fun v x hv hx h tk hk => ?_) (fun out c' h' tk hk hn ho hl he => ?_)
  · intro d hd d' hd'
    simp only [List.mem_map] at hd hd'
    obtain ⟨_, _, rfl⟩ := hd
    obtain ⟨_, _, rfl⟩ := hd'
    rfl
  · refine .inr fun d hd => ?_
    simp only [List.mem_map] at hd
    obtain ⟨_, _, rfl⟩ := hd
    exact ⟨by simp, by simp⟩
  · intro x _
    have := hr.un
    have e : (PyData.str x.2).depth = 0 := rfl
    omega
  · rfl
  · obtain ⟨hv1, p, rest, e1, e2⟩ := hv
    obtain ⟨v1, w1⟩ := x
    dsimp only at e1 hv1 e2 hx ⊢
    subst e1
    cases hv1
    have op := I.hok _ _ e2
    obtain ⟨_, its2, g1, g2, g3, n2, g4⟩ := op
    cases g1 with
    | cons k1 k2 =>
    obtain ⟨tx, rfl⟩ := k1
    obtain ⟨oc', vs', t', c1, c2, c3⟩ := oc.1
    refine row_call (its := _) (x := w1) (tx := tx) hR ?_ (hk _ _ hfo) ⟨_, _, _, _, rfl, hk _ _ c1, c2, c3⟩ (I.nolimit.keeps hk) ⟨g2, hk _ _ g3, n2, g4⟩ (by simp)
    have := hr.dp
    show X.A.depth < recursionLimit
    omega
  · refine ⟨.ref (s.heap.objs.size + 1), _, I.laid (a := s.heap.objs.size + 1) (o := .lst ((bs.mergeSort leS).map Prod.fst)) hk (by omega) ?_, rfl, q2 _ ?_⟩
    · have e : PySem.W.dataLe false (fun b : V × Str => PyData.str b.2) = leS := PySem.W.dataLe_str _
      rw [e] at he
      exact ⟨by simpa using hz, out, c', rowEach he, ho⟩
    · exact I.hok.fresh (by omega)
theorem rowO_ok {P : Program} {w : World} {H : Hp} {h : Heap} {c : Addr} {nm q : Str} {params : Arguments} {scope : PySem.Scope} {body : PySem.Expr} {clos : List (Str × Addr)} {pm ctv : Value} (hR : RowL params scope body) :
    ObjOk P w H (h.push (PySem.W.kla_obj nm q params body scope clos pm c ctv)) h.objs.size (RowO h.objs.size c q) := by
  have e : (h.push (PySem.W.kla_obj nm q params body scope clos pm c ctv)).get? h.objs.size = some (PySem.W.kla_obj nm q params body scope clos pm c ctv) := Heap.get?_push_size _ rfl
  refine ⟨⟨_, _, _, _, _, _, _, e, hR⟩, ⟨_, e⟩, fun h1 h2 ⟨a1, a2, a3, a4, a5, a6, a7, e1, e2⟩ k => ⟨a1, a2, a3, a4, a5, a6, a7, k _ e1, e2⟩⟩
theorem pe_lamRow {X : Cx} {c P : Addr} {params : Arguments} {body : PySem.Expr} {scope : PySem.Scope} {pos : Pos} (tb : LamX.TabB X.base X.mg c P) (hc : X.env.code = .ref c) (hd : defaultsOf params X.env = ([], []))
    (hR : RowL params scope body) : PE X (.Lambda params body scope pos) (fun σ H Q => LamX.TabS H P (X.env.qual ++ "<lambda>") ∧ ∀ (f c : Addr) (H1 : Hp), Fr P H H1 → LamX.TabS H1 P (X.env.qual ++ "<lambda>") → H1 f = some (RowO f c (X.env.qual ++ "<lambda>")) → H1 c = some (LamX.CodeO c (X.env.qual ++ "<lambda>")) → Q (.ref f) H1) := by
  refine ⟨fun pins s σ H Q I h => ?_⟩
  obtain ⟨ht, q⟩ := h
  have hclo : closureFor scope X.env = pure (cloFrom X.env.cells scope.names []) := by
    refine closure_ok ?_
    intro y hy he
    obtain ⟨⟨z, p1, p2, p3, k0, rfl, hz, hnm, hb⟩, hk, hg, ho⟩ := hR
    rw [hnm] at hy
    simp only [List.mem_singleton] at hy
    subst hy
    cases he
  have ht' := ht
  obtain ⟨ps, hP, hT, hA⟩ := ht'
  have oP : s.heap.get? P = some (PySem.W.tabObj ps) := I.hok _ _ hP
  refine PySem.W.kla_eval hd ?_
  cases hcd : codeAmong pos ps.toList with
  | some cv =>
    obtain ⟨c', rfl, hc'⟩ := hA _ _ hcd
    refine PySem.W.kla_makeFunctionHit hclo I.ok.glob (I.mod.glob.keeps I.bk) hc (tb.code.keeps I.bk) oP hT hcd (tb.bm.keeps I.bk) (fun ctv h' tk hk hs => ?_)
    have I1 := I.kept (t' := tk) hk
    have hz : s.heap.objs.size ≤ h'.objs.size := hs
    have hn : H h'.objs.size = none := I.hok.fresh hz
    refine ⟨.ref h'.objs.size, upd H h'.objs.size (RowO h'.objs.size c' (X.env.qual ++ "<lambda>")), ?_, rfl, q _ c' _ (fun b o _ hb => ?_) (ht.ext fun b o hb => ?_) upd_same ?_⟩
    · exact I1.laid (h' := h'.push _) (t' := tk) (fun b u hb => Heap.get?_push_of_some _ hb) (Nat.le_refl _) (rowO_ok hR)
    · rw [upd_ne (ne_of_none hb hn)]; exact hb
    · rw [upd_ne (ne_of_none hb hn)]; exact hb
    · rw [upd_ne (ne_of_none hc' hn)]; exact hc'
  | none =>
    refine PySem.W.kla_makeFunction hclo I.ok.glob (I.mod.glob.keeps I.bk) hc (tb.code.keeps I.bk) oP hT hcd tb.gP (tb.bm.keeps I.bk) (fun c' ctv h' tk he hl hu hrec hP' => ?_)
    obtain ⟨c2, o2, vs2, t2, ec, e1, e2, e3⟩ := hrec
    cases ec
    have I2 := LamX.inv_table (t' := tk) (c := c') (q := X.env.qual ++ "<lambda>") I hP he (more := #[rawInt ↑pos.line, rawInt ↑pos.col, .ref c']) hP' hl ⟨_, _, _, e1, e2, e3⟩
    have hn : (upd (upd H P (.tbl (ps ++ #[rawInt ↑pos.line, rawInt ↑pos.col, .ref c']))) c' (LamX.CodeO c' (X.env.qual ++ "<lambda>"))) h'.objs.size = none := I2.hok.fresh (Nat.le_refl _)
    have hcn : H c' = none := I.hok.fresh hl
    have hPc : P ≠ c' := fun e => by rw [e] at hP; rw [hcn] at hP; cases hP
    refine ⟨.ref h'.objs.size, _, I2.laid (h' := h'.push _) (o := RowO h'.objs.size c' (X.env.qual ++ "<lambda>")) (t' := tk) (fun b u hb => Heap.get?_push_of_some _ hb) (Nat.le_refl _) (rowO_ok hR), rfl, q _ c' _ ?_ ?_ upd_same ?_⟩
    · intro b o hbP hb
      have h1 : (upd (upd H P (.tbl (ps ++ #[rawInt ↑pos.line, rawInt ↑pos.col, .ref c']))) c' (LamX.CodeO c' (X.env.qual ++ "<lambda>"))) b = some o := by
        rw [upd_ne (ne_of_none hb hcn), upd_ne hbP]; exact hb
      rw [upd_ne (ne_of_none h1 hn)]; exact h1
    · refine LamX.TabS.ext (H := upd (upd H P (.tbl (ps ++ #[rawInt ↑pos.line, rawInt ↑pos.col, .ref c']))) c' (LamX.CodeO c' (X.env.qual ++ "<lambda>"))) ?_ (fun b o hb => by rw [upd_ne (ne_of_none hb hn)]; exact hb)
      refine ⟨_, by rw [upd_ne hPc]; exact upd_same, ?_, ?_⟩
      · simpa using TriplesOk_snoc _ _ _ _ hT
      · intro pos2 cv hcv
        rw [Array.toList_append] at hcv
        rcases LamX.among_app _ hT hcv with h | h
        · obtain ⟨c3, e3, h3⟩ := hA _ _ h
          refine ⟨c3, e3, ?_⟩
          rw [upd_ne (ne_of_none h3 hcn), upd_ne (fun e => by rw [e, hP] at h3; cases h3)]
          exact h3
        · exact ⟨c', h, upd_same⟩
    · have h1 : (upd (upd H P (.tbl (ps ++ #[rawInt ↑pos.line, rawInt ↑pos.col, .ref c']))) c' (LamX.CodeO c' (X.env.qual ++ "<lambda>"))) c' = some (LamX.CodeO c' (X.env.qual ++ "<lambda>")) := upd_same
      rw [upd_ne (ne_of_none h1 hn)]; exact h1

theorem okC {P : Program} {w : World} {K : PySem.W.Frag} {mg : Str → Option Value} {base : Heap} {x qual : Str} {st : Stmt} {f c : Addr} {fd : FuncData} {N ps : List Str} {k : Nat} {sp : Sp} (F : Fun K x qual st f fd) (hc : fd.code = .ref c) (S : FnScope N ps (defScope st))
    (len : ∀ vs H Q E, sp vs H Q E → vs.length = ps.length)
    (hb : ∀ (A : Around) (outer : List Env) (s : Shared) (H : Hp) (vs : List V) (Q : VK) (E : XK), Room k (A.deeper (envOfC qual (defScope st) s.heap.objs.size f (.ref c))) → sp vs H Q E →
      ∃ t, PSs (cxOf CX0 P w K mg base N qual (defScope st) f (.ref c) A outer s H E).nox (defBody st) t ∧ t { nx := fun _ H' => Q .non H', rt := Q } (L2.start N vs) H) : FnOk P w K mg base CX0 (k + 1) f fd ps sp := by
  obtain ⟨oc, od, kV, doc, pm, an, cdv, ct, osl, rfl, lk, hcd⟩ := F.ex
  cases hc
  exact fn_of lk hcd S len fun A outer s H vs Q E hr hsp => by
    obtain ⟨t, h, q⟩ := hb A outer s H vs Q E hr hsp
    exact ⟨t, h.nox, q⟩
theorem rowL_mk {x : Str} {p0 p1 p2 p3 : Pos} {k0 : Nat} {scope : PySem.Scope} (hz : (x == Str.ofString "__debug__") = false) (hn : scope.names = [(x, .local)]) (hk : scope.kind = .function) (hg : scope.isGenerator = false) (hc : scope.isCoroutine = false)
    (hb : ∀ (nm q : Str) (b : FuncBody) (sc : PySem.Scope) (g : Addr) (cl : List (Str × Addr)) (pm an : Value) (cd : Option Addr) (ct bl : Value) (bu : Addr) (u : Value), bindArgs ⟨nm, q, { posonlyargs := [], args := [{ arg := x, annotation := none, pos := p0 }], vararg := none, kwonlyargs := [], kw_defaults := [], kwarg := none, defaults := [] }, b, sc, g, cl, .none, .none, pm, an, cd, ct, bl, bu⟩ ⟨[u], []⟩ = pure [(x, u)]) :
    RowL { posonlyargs := [], args := [{ arg := x, annotation := none, pos := p0 }], vararg := none, kwonlyargs := [], kw_defaults := [], kwarg := none, defaults := [] } scope (.Subscript (.Name x p1) (.Constant (.int 0) k0 p2) p3) := by
  refine ⟨⟨x, p1, p2, p3, k0, rfl, hz, hn, fun fd u e1 e2 e3 => ?_⟩, hk, hg, hc⟩
  obtain ⟨nm, q, pr, b, sc, g, cl, d, kd, pm, an, cd, ct, bl, bu⟩ := fd
  subst e1 e2 e3
  exact hb _ _ _ _ _ _ _ _ _ _ _ _ _
def spLawT (K : PySem.W.Frag) (Ps : List Addr) : Sp := fun vs H Q _ => ∃ (a : Addr) (ns : List Int), vs = [.ref a] ∧ SqL K H a (ns.map V.int) ∧ ns.length ≤ 63 ∧ (∀ P ∈ Ps, H P = some (.tbl #[])) ∧ ∀ H', Q (.bl true) H'
def LawT (l : PySem.W.OpenLaw) (w : World) (K : PySem.W.Frag) (k : Nat) (x : Str) (mg : Str → Option Value) (fa : Addr) (cs : List (Str × Addr × Addr)) : Prop :=
  (∀ z ∈ cs, PySem.W.tabIn K z.1 = some (z.2.1, z.2.2) ∧ K.lookup z.2.2 = none) ∧ ∃ fd : FuncData, (∀ (s : Shared) (v : Value), BindsTo s fd ⟨[v], []⟩ [(x, v)]) ∧
    ∀ base : Heap, K.In base → base.Ns mainGlobals mg → (∀ z ∈ cs, LamX.TabB base mg z.2.1 z.2.2) → FnOk l.prog w K mg base CX0 k fa fd [x] (spLawT K (cs.map fun z => z.2.2))
theorem walk_ofT {l : PySem.W.OpenLaw} {n k : Nat} {q : Program} {loose : List Str} {XP : (Str → Option Value) → Heap → Prop} {YP : World → Heap → Prop} {d : DefRec} {K : Params → PySem.W.Frag} {x : Str}
    (hn : l.most = some n) (hz : n ≤ sizeLine) (h63 : n ≤ 63) (hd : d.params.defaults = []) (hr : Room k callerA) (hY : ∀ w h, YP w h → (K w.params).In h) (names : List Str)
    (hR : (names.all fun z => (recsOf q).any fun e => e.name == z) = true)
    (hF : ∀ (w : World) (mg : Str → Option Value) (fa : Addr) (h : Heap), (K w.params).In h → h.Ns mainGlobals mg → mg d.name = some (.ref fa) → ∃ cs : List (Str × Addr × Addr), cs.map Prod.fst = names ∧ LawT l w (K w.params) k x mg fa cs) :
    PySem.W.WalkO q loose XP YP l.row.toRowW d [] fun f vs => call f vs := by
  refine Att.attach_callB hn hd fun w s0 s1 mg mb fa o pm cd doc a vs ns G Y ho hod hcr hmg ha hi hl hb hg => ?_
  obtain ⟨cs, hcs, hT, fd, hB, hOk⟩ := hF w mg fa s1.heap (hY w _ Y) G.T.g hmg
  have key : ∀ z ∈ cs, PySem.W.CodeHd s1.heap z.2.1 z.2.2 ∧ s1.heap.get? z.2.2 = some (PySem.W.tabObj #[]) := by
    intro z hz
    have h1 : z.1 ∈ names := by rw [← hcs]; exact List.mem_map_of_mem hz
    have h2 := List.all_eq_true.mp hR _ h1
    cases hf : (recsOf q).find? fun e => e.name == z.1 with
    | none =>
      rw [List.find?_eq_none] at hf
      rw [List.any_eq_true] at h2
      obtain ⟨e, he, h3⟩ := h2
      exact absurd h3 (hf e he)
    | some dd => exact PySem.W.tab_of G.T (hY w _ Y) hf (hT z hz).1
  refine LamX.law_callTs (K := K w.params) (cs := cs.map fun z => z.2) (hY w _ Y) G.T.g G.T.b G.T.builtins G.T.nolimit hg ?_ ?_ ?_ G.T.bmain ha hi (Nat.le_trans hl hz) hr (fun base h1 h2 h3 => hOk base h1 h2 fun z hz => h3 _ (List.mem_map_of_mem hz)) (fun s u => hB s u) (fun H hH hS => ⟨a, ns, rfl, hS, ?_, ?_, fun _ => rfl⟩) (fun _ _ _ h => h)
  · intro p hp
    obtain ⟨z, hz, rfl⟩ := List.mem_map.mp hp
    exact (key z hz).2
  · intro p hp
    obtain ⟨z, hz, rfl⟩ := List.mem_map.mp hp
    exact (hT z hz).2
  · intro p hp
    obtain ⟨z, hz, rfl⟩ := List.mem_map.mp hp
    exact (key z hz).1
  · exact Nat.le_trans hl h63
  · intro P hP
    obtain ⟨z, hz, rfl⟩ := List.mem_map.mp hP
    exact hH _ (List.mem_map_of_mem hz)

theorem take_zip {α : Type} (sel : Nat → Bool) (j : Nat) : ∀ (xs : List α) (i : Nat), (∀ k, k < i + xs.length → sel k = decide (j ≤ k)) → (xs.zipIdx i).filterMap (fun x => if sel x.2 = true then none else some x.1) = xs.take (j - i)
  | [], i, _ => by simp
  | x :: r, i, hs => by
    rw [List.zipIdx_cons, List.filterMap_cons]
    have ih := take_zip sel j r (i + 1) fun k hk => hs k (by rw [List.length_cons]; omega)
    have h0 := hs i (by rw [List.length_cons]; omega)
    by_cases h : j ≤ i
    · have e : j - i = 0 := by omega
      have e2 : j - (i + 1) = 0 := by omega
      rw [e2] at ih
      simp only [h0, h, decide_true, if_true, e, List.take_zero]
      simpa using ih
    · have e : j - i = (j - (i + 1)) + 1 := by omega
      rw [e, List.take_succ_cons, ← ih]
      simp [h0, h]
theorem run_delFrom {P : Program} {w : World} {A : Around} {E : Value → Shared → Prop} {s : Shared} {l sl : Addr} {items : Array Value} {n j : Nat} {t : Tok} {Q : Unit → Shared → Prop}
    (hl : s.heap.get? l = some { cls := Value.type "list", data := Data.seq items n }) (hs : s.heap.get? sl = some { cls := .type "slice", data := .fields #[.int j t, .none, .none] }) (hj : j ≤ items.size) (hz : items.size ≤ sizeLine)
    (q : ∀ f : Array Value → Array Value, f items = (items.toList.take j).toArray → Q () { s with heap := s.heap.update l (Obj.mapSeq f) }) :
    wpAny (model P w) A (delItem (.ref l) (.ref sl)) Q E s := by
  refine wpAny_delItem_slot (T := "list") ⟨_, hl, rfl⟩ (by decide) PySem.F.slot_list_delitem ?_
  refine wpAny_call_entry PySem.F.slot_list_delitem ⟨_, hl, rfl⟩ PySem.F.entry_list_delitem ?_ (PySem.F.args_list_delitem_2 _ _)
  show wpAny _ _ (do
      let __x ← slotArgs "__delitem__" 1 { pos := [.ref l, .ref sl] }
      _) _ _ _
  refine wpAny_bind (wpAny_pure ?_)
  refine wpAny_bind ?_
  refine wpAny_bind (wpAny_specialOf (T := "slice") (r := none) ⟨_, hs, rfl⟩ rfl ?_)
  refine wpAny_pure ?_
  refine wpAny_bind (wpAny_typeOf (T := "slice") ⟨_, hs, rfl⟩ ?_)
  dsimp only
  rw [if_neg (by decide)]
  refine wpAny_bind ?_
  rw [listSliceParts_eq]
  refine wpAny_bind (wpAny_field hs rfl (i := 2) rfl (wpAny_bind (wpAny_listPart .none ?_)))
  dsimp only [rawPart]
  rw [if_neg (by decide)]
  refine wpAny_bind (wpAny_field hs rfl (i := 0) rfl (wpAny_bind (wpAny_listPart (.int _ _) ?_)))
  refine wpAny_bind (wpAny_field hs rfl (i := 1) rfl (wpAny_bind (wpAny_listPart .none (wpAny_pure ?_))))
  dsimp only
  refine wpAny_bind (wpAny_listItems hl rfl ?_)
  have eb : sliceBounds (some (j : Int)) none none items.size = ((j : Int), (items.size : Int), 1) := by
    simp [sliceBounds]
    omega
  rw [show sliceIndices (rawPart (some (j : Int))) (rawPart none) .none items.size = pure (sliceBounds (some (j : Int)) none none items.size) from sliceIndices_raw (some (j : Int)) none none items.size (by simp), eb]
  refine wpAny_bind (wpAny_pure ?_)
  dsimp only
  refine wpAny_bind (wpAny_rule ?_)
  refine wpAny_bind (wpAny_updateSeq hl rfl (wpAny_bind (wpAny_letGo (wpAny_pure ⟨_, rfl, q _ ?_⟩))) hz ?_)
  · refine congrArg List.toArray ((take_zip (fun k => _) j items.toList 0 ?_).trans (by rw [Nat.sub_zero]))
    intro k hk
    show (if (1 : Int) > 0 then decide ((j : Int) ≤ (k : Int)) && decide ((k : Int) < (items.size : Int)) && ((k : Int) - j) % 1 == 0 else _) = _
    rw [Nat.zero_add, Array.length_toList] at hk
    rw [if_pos (by decide), Int.emod_one, decide_eq_true (show (k : Int) < (items.size : Int) by omega)]
    by_cases h : j ≤ k
    · simp [h]
    · simp [h]
  · refine Nat.le_trans ?_ (Nat.le_succ_of_le hz)
    rw [List.size_toArray]
    refine Nat.le_trans (List.length_filterMap_le _ _) ?_
    simp
theorem ps_delFrom {X : Cx} {pos p2 : Pos} {o e : PySem.Expr} {to te : TE} {tpos : Pos} (ho : PE X o to) (he : PE X e te) :
    PS X (.Delete [.Subscript o (.Slice (some e) none none p2) tpos] pos) (fun D σ H => to σ H fun x H1 => te σ H1 fun y H2 => ∃ (l : Addr) (xs : List V) (j : Nat), x = .ref l ∧ y = .int j ∧ H2 l = some (.lst xs) ∧ j ≤ xs.length ∧ D.nx σ (upd H2 l (.lst (xs.take j)))) := by
  refine ⟨fun pins s σ H D I h => ?_⟩
  refine wpAny_Delete (wpAny_deleteEach_cons (wpAny_delete_Subscript ?_))
  refine thn (ho.run pins s σ H _ I h) fun u s1 hx => ?_
  obtain ⟨x, H1, I1, r1, h1⟩ := hx
  refine wpAny_Slice ?_
  rw [evalPart_some]
  refine thn (he.run pins s1 σ H1 _ I1 h1) fun u2 s2 hx => ?_
  obtain ⟨y, H2, I2, r2, l, xs, j, rfl, rfl, hl, hj, q⟩ := hx
  cases r1
  obtain ⟨t, rfl⟩ := r2
  rw [evalPart_none]
  refine wpAny_pure ?_
  refine wpAny_pure ?_
  have hsl : (s2.heap.push { cls := .type "slice", data := .fields #[.int j t, .none, .none] }).get? s2.heap.objs.size = some { cls := .type "slice", data := .fields #[.int j t, .none, .none] } := Heap.get?_push_size _ rfl
  have I3 := I2.kept (h' := s2.heap.push { cls := .type "slice", data := .fields #[.int j t, .none, .none] }) (t' := s2.toks) (fun b u hb => Heap.get?_push_of_some _ hb)
  obtain ⟨oz, its, n, hits, hao⟩ := I3.hok _ _ hl
  have ll : xs.length = its.length := L2.Vals.length hits
  refine run_delFrom (items := its.toArray) hao hsl (by simp; omega) (by simp; omega) (fun f hf => ?_)
  refine wpAny_deleteEach_nil ?_
  refine ⟨σ, _, I3.lset (its := its) (its' := its.take j) (ys := xs.take j) hl hao (by simpa using hf) ?_ ?_, q⟩
  · exact L2.Vals.take j hits
  · rw [List.length_take]; omega

mutual
def Tr.dat : Tr → PyData
  | .node c ks => .tuple [.str (ch c), .list (dats ks)]
def dats : List Tr → List PyData
  | [] => []
  | t :: r => t.dat :: dats r
end
mutual
theorem dat_depth : ∀ t : Tr, t.dat.depth ≤ 2 * t.depth
  | .node c ks => by
    have := dats_depth ks
    simp only [Tr.dat, PyData.depth, PyData.depthAll, Tr.depth]
    omega
theorem dats_depth : ∀ ts : List Tr, PyData.depthAll (dats ts) ≤ 2 * depths ts
  | [] => by simp only [dats, PyData.depthAll, depths]; omega
  | t :: r => by
    have a := dat_depth t
    have b := dats_depth r
    simp only [dats, PyData.depthAll, depths]
    omega
end
section
variable {ok : Addr → Prop} {H : Hp} {K : PySem.W.Frag}
theorem strOk_ch {c : Nat} (h : c ≤ 122) : PyData.strOk (ch c) = true := by
  unfold PyData.strOk ch
  simp
  omega
mutual
theorem TrAt.lay : ∀ (t : Tr) (v : V), TrAt ok H v t → t.dat.canLay0 = true
  | .node c ks, v, x => by
    cases x with
    | node h1 h2 k1 k2 c1 c2 r => simp only [Tr.dat, PyData.canLay0, PyData.canLayAll0, strOk_ch c2, TrsAt.lay ks _ r, Bool.and_self]
theorem TrsAt.lay : ∀ (ts : List Tr) (vs : List V), TrsAt ok H vs ts → PyData.canLayAll0 (dats ts) = true
  | [], _, _ => by simp only [dats, PyData.canLayAll0]
  | t :: r, _, x => by
    cases x with
    | cons a b => simp only [dats, PyData.canLayAll0, TrAt.lay t _ a, TrsAt.lay r _ b, Bool.and_self]
end
mutual
theorem TrAt.dp : ∀ (t : Tr) (v : V), TrAt ok H v t → Dp K H v t.dat
  | .node c ks, v, x => by
    cases x with
    | node h1 h2 k1 k2 c1 c2 r =>
      simp only [Tr.dat]
      exact .tup (SqT.of h1) (.cons (.str _) (.cons (.lst (SqL.of h2) (TrsAt.dp ks _ r)) .nil))
theorem TrsAt.dp : ∀ (ts : List Tr) (vs : List V), TrsAt ok H vs ts → DpAll K H vs (dats ts)
  | [], _, x => by cases x; exact .nil
  | t :: r, _, x => by
    cases x with
    | cons a b => exact .cons (TrAt.dp t _ a) (TrsAt.dp r _ b)
end
theorem shaped_tr {v : V} {t : Tr} (x : TrAt ok H v t) (h : t.depth ≤ 32) : SeqAt.shaped t.dat = true := by
  unfold SeqAt.shaped
  rw [Bool.and_eq_true]
  exact ⟨TrAt.lay t v x, decide_eq_true (by have := dat_depth t; omega)⟩
theorem shaped_trs {vs : List V} {ts : List Tr} (x : TrsAt ok H vs ts) (h : depths ts ≤ 31) : SeqAt.shaped (.list (dats ts)) = true := by
  unfold SeqAt.shaped
  rw [Bool.and_eq_true]
  refine ⟨by simp only [PyData.canLay0]; exact TrsAt.lay ts vs x, decide_eq_true ?_⟩
  have := dats_depth ts
  simp only [PyData.depth]
  omega
end
def DatOk (K : PySem.W.Frag) (H : Hp) (v : V) : Prop := ∃ d, Dp K H v d ∧ d.canLay0 = true ∧ d.depth ≤ 63
theorem DatOk.all {K : PySem.W.Frag} {H : Hp} : ∀ {vs : List V}, (∀ v ∈ vs, DatOk K H v) → ∃ ds, DpAll K H vs ds ∧ SeqAt.shaped (.list ds) = true ∧ ds.length = vs.length
  | [], _ => ⟨[], .nil, by decide +kernel, rfl⟩
  | v :: r, h => by
    obtain ⟨d, h1, h2, h3⟩ := h v List.mem_cons_self
    obtain ⟨ds, g1, g2, g3⟩ := DatOk.all (vs := r) fun u hu => h u (List.mem_cons_of_mem _ hu)
    unfold SeqAt.shaped at g2
    rw [Bool.and_eq_true] at g2
    have g4 := of_decide_eq_true g2.2
    have g5 := g2.1
    simp only [PyData.canLay0] at g5
    simp only [PyData.depth] at g4
    refine ⟨d :: ds, .cons h1 g1, ?_, by simp only [List.length_cons, g3]⟩
    unfold SeqAt.shaped
    rw [Bool.and_eq_true]
    refine ⟨by simp only [PyData.canLay0, PyData.canLayAll0, h2, g5, Bool.and_self], decide_eq_true ?_⟩
    simp only [PyData.depth, PyData.depthAll]
    omega
theorem datOk_int {K : PySem.W.Frag} {H : Hp} (i : Int) : DatOk K H (.int i) := ⟨.int i, .int i, by simp only [PyData.canLay0], by simp only [PyData.depth]; omega⟩
theorem datOk_tr {K : PySem.W.Frag} {H : Hp} {ok : Addr → Prop} {v : V} {t : Tr} (x : TrAt ok H v t) (h : t.depth ≤ 31) : DatOk K H v := ⟨t.dat, TrAt.dp t v x, TrAt.lay t v x, by have := dat_depth t; omega⟩
theorem eqv_nil (ds : List PyData) : PyData.eqv (.list ds) (.list []) = decide (ds.length = 0) := by
  cases ds with
  | nil => simp [PyData.eqv, PyData.eqvAll]
  | cons d r => simp [PyData.eqv, PyData.eqvAll]
theorem shaped_nil : SeqAt.shaped (.list []) = true := by decide +kernel
theorem dp_nil {K : PySem.W.Frag} {H : Hp} {a : Addr} (h : H a = some (.lst [])) : Dp K H (.ref a) (.list []) := .lst (SqL.of h) .nil


def sp_is_letter : Sp := fun vs H Q _ => ∃ c : Nat, vs = [.str (ch c)] ∧ 97 ≤ c ∧ c ≤ 122 ∧ Q (.bl true) H
def sp__is_part : Sp := fun vs H Q _ => ∃ (v : V) (t : Tr), vs = [v] ∧ TrAt (fun _ => True) H v t ∧ Q (.bl true) H
def sp_is_tree : Sp := fun vs H Q _ => ∃ (v : V) (t : Tr), vs = [v] ∧ TrAt (fun _ => True) H v t ∧ t.size ≤ 1000000 ∧ ∀ H', Same H H' → Q (.bl true) H'
def sp_check_tree : Sp := fun vs H Q _ => ∃ (v : V) (t : Tr), vs = [v] ∧ TrAt (fun _ => True) H v t ∧ t.size ≤ 1000000 ∧ ∀ H', Same H H' → Q .non H'
def sp_parts_upward : Sp := fun vs H Q _ => ∃ (v : V) (t : Tr) (ok : Addr → Prop), vs = [v] ∧ TrAt ok H v t ∧ t.size ≤ 1000000 ∧
  ∀ r ws H', Same H H' → H r = none → H' r = some (.lst ws) → TrsAt (fun b => ok b ∧ H b ≠ none) H' ws t.post → Q (.ref r) H'
theorem le_a {c : Nat} (h : 97 ≤ c) : (!decide ((ch c).cps.toList < (Str.ofString "a").cps.toList)) = true := by
  have e : (Str.ofString "a").cps.toList = [97] := by decide +kernel
  rw [e]
  show (!decide (([c] : List Nat) < [97])) = true
  have : ¬ (([c] : List Nat) < [97]) := by
    intro q
    have := List.cons_lt_cons_iff.mp q
    rcases this with z | ⟨z, y⟩
    · omega
    · exact absurd y (by decide)
  simp [this]
theorem le_z {c : Nat} (h : c ≤ 122) : (!decide ((Str.ofString "z").cps.toList < (ch c).cps.toList)) = true := by
  have e : (Str.ofString "z").cps.toList = [122] := by decide +kernel
  rw [e]
  show (!decide (([122] : List Nat) < [c])) = true
  have : ¬ (([122] : List Nat) < [c]) := by
    intro q
    have := List.cons_lt_cons_iff.mp q
    rcases this with z | ⟨z, y⟩
    · omega
    · exact absurd y (by decide)
  simp [this]
theorem concat_of {α : Type} {l : List α} (h : l ≠ []) : ∃ a b, l = a ++ [b] := ⟨l.dropLast, l.getLast h, (List.dropLast_concat_getLast h).symm⟩
section
variable {P : Program} {w : World} {K : PySem.W.Frag} {mg : Str → Option Value} {base : Heap}
theorem ok_is_letter (T : Txt K mg) : FnOk P w K mg base CX0 1 T.f_is_letter T.d_is_letter ["thing"] sp_is_letter := by
  refine T.F_is_letter.ok sc_is_letter (fun vs H Q E h => ?_) (fun cdv A outer s H vs Q E hr h => ?_)
  · obtain ⟨c, rfl, _⟩ := h
    rfl
  obtain ⟨c, rfl, h0, h1, q⟩ := h
  refine ⟨_, (pss_one (ps_ret (pe_and (pe_callB call_isi (by rfl) T.z_isinstance (by decide +kernel) (pa_cons (pv 0) (pa_cons (pe_bltn (v := .ty "str") (by rfl) T.z_str (by decide +kernel) rfl) pa_nil))) (pe_and (pe_cmpR op_eq (pe_callB call_len_str (by rfl) T.z_len PySem.boot_len (pa_cons (pv 0) pa_nil)) pe_int (nomark _)) (pe_one (pe_chain op_le_str op_le_str pe_str (pv 0) pe_str)))))), ?_⟩
  refine ⟨_, rfl, _, _, _, _, true, rfl, .ty "str", .base (.str _), kit_ty (by decide +kernel), _, rfl, iteT ?_⟩
  refine ⟨_, rfl, _, rfl, (by show 1 ≤ sizeLine; decide), rfl, _, rfl, iteT ?_⟩
  refine ⟨_, rfl, _, _, rfl, rfl, _, rfl, ?_⟩
  rw [if_pos (le_a h0)]
  refine ⟨_, _, rfl, rfl, ?_⟩
  rw [le_z h1]
  exact q
theorem ok__is_part (T : Txt K mg) : FnOk P w K mg base CX0 2 T.f__is_part T.d__is_part ["thing"] sp__is_part := by
  have G_is_letter : FnOk P w K mg base CX0 1 T.f_is_letter T.d_is_letter ["thing"] sp_is_letter := ok_is_letter T
  refine T.F__is_part.ok sc__is_part (fun vs H Q E h => ?_) (fun cdv A outer s H vs Q E hr h => ?_)
  · obtain ⟨v, t, rfl, _⟩ := h
    rfl
  obtain ⟨v, t, rfl, ht, q⟩ := h
  refine ⟨_, (pss_cons (ps_if (PW.pt (pw_or (pt_not (pt_val (pe_callB call_isi (by rfl) T.z_isinstance (by decide +kernel) (pa_cons (pv 0) (pa_cons (pe_bltn (v := .ty "tuple") (by rfl) T.z_tuple (by decide +kernel) rfl) pa_nil))))) (pw_or1 (pt_cmpR op_ne (pe_callB call_len_seq (by rfl) T.z_len PySem.boot_len (pa_cons (pv 0) pa_nil)) pe_int (nomark _))))) (pss_one (ps_ret pe_bl)) pss_nil) (pss_one (ps_ret (pe_and (pe_call G_is_letter (hr.mono (by omega)) (by rfl) T.m_is_letter T.F_is_letter.kp T.b_is_letter .nil pass0 (pa_cons (pe_ix ix_tup (pv 0) pe_int (fun _ _ => rfl)) pa_nil)) (pe_one (pe_callB call_isi (by rfl) T.z_isinstance (by decide +kernel) (pa_cons (pe_ix ix_tup (pv 0) pe_int (fun _ _ => rfl)) (pa_cons (pe_bltn (v := .ty "list") (by rfl) T.z_list (by decide +kernel) rfl) pa_nil)))))))), ?_⟩
  obtain ⟨c, ks⟩ := t
  cases ht with
  | node h1 h2 _ _ c1 c2 _ =>
    refine ⟨_, rfl, _, _, _, _, true, rfl, .ty "tuple", .base (.tup h1), kit_ty (by decide +kernel), _, rfl, iteF ?_⟩
    refine ⟨_, rfl, _, _, rfl, .inr (SqT.of h1), rfl, _, rfl, iteF ?_⟩
    refine ⟨_, rfl, _, _, 0, _, rfl, rfl, SqT.of h1, atI_nat (j := 0) rfl, _, rfl, c1, c2, _, rfl, iteT ?_⟩
    exact ⟨_, rfl, _, _, 1, _, rfl, rfl, SqT.of h1, atI_nat (j := 1) rfl, _, _, _, _, true, rfl, .ty "list", .base (.lst h2), kit_ty (by decide +kernel), q⟩
theorem ok_is_tree (T : Txt K mg) : FnOk P w K mg base CX0 3 T.f_is_tree T.d_is_tree ["thing"] sp_is_tree := by
  have G__is_part : FnOk P w K mg base CX0 2 T.f__is_part T.d__is_part ["thing"] sp__is_part := ok__is_part T
  refine T.F_is_tree.ok sc_is_tree (fun vs H Q E h => ?_) (fun cdv A outer s H vs Q E hr h => ?_)
  · obtain ⟨v, t, rfl, _⟩ := h
    rfl
  obtain ⟨v, t, rfl, ht, hz, q⟩ := h
  refine ⟨_, (pss_cons (ps_set (i := 1) sc_is_tree.nd rfl (Or.inl rfl) (pe_lst (pa_cons (pv 0) pa_nil))) (pss_cons (ps_while PassesOwn.never (pt_truth (pv 1) (by intro _; rfl)) (pss_cons (ps_set (i := 2) sc_is_tree.nd rfl (Or.inl rfl) (pe_bm0 PySem.F.plainAttrs_list PySem.F.slot_list_pop PySem.F.type_list_pop mt_pop (pv 1))) (pss_cons (ps_if (pt_not (pt_val (pe_call G__is_part (hr.mono (by omega)) (by rfl) T.m__is_part T.F__is_part.kp T.b__is_part .nil pass0 (pa_cons (pv 2) pa_nil)))) (pss_one (ps_ret pe_bl)) pss_nil) (pss_one (ps_expr (pe_bm PySem.F.plainAttrs_list PySem.F.slot_list_extend PySem.F.type_list_extend mt_extend (pv 1) (pa_cons (pe_ix ix_tup (pv 2) pe_int (fun _ _ => rfl)) pa_nil))))))) (pss_one (ps_ret pe_bl)))), ?_⟩
  refine ⟨_, rfl, (by show 1 ≤ sizeLine; decide), fun p hp => ?_⟩
  refine ⟨fun m σ H' => ∃ y ws ts, σ = [some v, some (.ref p), y] ∧ H' p = some (.lst ws) ∧ TrsAt (fun b => True ∧ b ≠ p) H' ws ts ∧ sizes ts = m ∧ m ≤ 1000000 ∧ Same H H',
    ⟨t.size, none, [v], [t], rfl, upd_same, .cons ((ht.off hp).same (same_new hp)) .nil, by simp only [sizes]; omega, hz, same_new hp⟩, ?_⟩
  rintro m σ H' ⟨y, ws, ts, rfl, hw, hts, hm, hm2, hs⟩
  by_cases he : ws = []
  · subst he
    refine ⟨_, rfl, false, .inl ⟨_, SqL.of hw, rfl⟩, iteF ?_⟩
    exact q _ hs
  · refine ⟨_, rfl, true, .inl ⟨_, SqL.of hw, by cases ws with | nil => exact absurd rfl he | cons a b => rfl⟩, iteT ?_⟩
    obtain ⟨ws', x, rfl⟩ := concat_of he
    obtain ⟨ts', tl, rfl, h1, h2⟩ := TrsAt.split hts
    cases h2 with
    | cons hx hn =>
      cases hn
      rename_i tx
      obtain ⟨c, ks⟩ := tx
      refine ⟨fun σ2 H2 => ∃ y ws ts, σ2 = [some v, some (.ref p), y] ∧ H2 p = some (.lst ws) ∧ TrsAt (fun b => True ∧ b ≠ p) H2 ws ts ∧ sizes ts < m ∧ Same H H2, fun σ2 H2 ⟨y, ws, ts, e1, e2, e3, e4, e5⟩ => ⟨sizes ts, e4, y, ws, ts, e1, e2, e3, rfl, by omega, e5⟩, ?_⟩
      refine ⟨_, rfl, .inl ⟨rfl, _, SqL.of hw⟩, _, _, x, rfl, rfl, hw, by simp, ?_⟩
      have kp : ∀ b u, (True ∧ b ≠ p) → H' b = some u → (upd H' p (.lst (ws' ++ [x]).dropLast)) b = some u := upd_keep fun b h => h.2
      have hx2 := hx.keep kp
      have hp3 : (upd H' p (.lst (ws' ++ [x]).dropLast)) p = some (.lst ws') := by rw [upd_same, List.dropLast_concat]
      refine ⟨_, rfl, x, _, rfl, hx2.weak fun _ _ => trivial, _, rfl, iteF ?_⟩
      cases hx2 with
      | node g1 g2 k1 k2 c1 c2 r =>
        have ll := r.len
        have l2 := h1.len
        have l3 := len_sizes ts'
        have l4 := len_sizes ks
        rw [sizes_append] at hm
        simp only [sizes, Tr.size] at hm
        refine ⟨_, rfl, .inl ⟨rfl, _, SqL.of hp3⟩, _, rfl, _, _, 1, _, rfl, rfl, SqT.of g1, atI_nat (j := 1) rfl, p, _, ws', _, rfl, rfl, hp3, g2, ?_, ?_⟩
        · exact Nat.le_trans (show ws'.length + _ ≤ 1000000 by omega) (by decide)
        · refine ⟨some _, _, ts' ++ ks, rfl, upd_same, ?_, ?_, ?_⟩
          · exact ((h1.keep kp).append r).keep (upd_keep fun b h => h.2)
          · rw [sizes_append]
            omega
          · exact same_add (same_add hs hp) hp
theorem ok_check_tree (T : Txt K mg) : FnOk P w K mg base CX0 4 T.f_check_tree T.d_check_tree ["thing"] sp_check_tree := by
  have G_is_tree : FnOk P w K mg base CX0 3 T.f_is_tree T.d_is_tree ["thing"] sp_is_tree := ok_is_tree T
  refine T.F_check_tree.ok sc_check_tree (fun vs H Q E h => ?_) (fun cdv A outer s H vs Q E hr h => ?_)
  · obtain ⟨v, t, rfl, _⟩ := h
    rfl
  obtain ⟨v, t, rfl, ht, hz, q⟩ := h
  refine ⟨_, (pss_one (ps_if (pt_not (pt_val (pe_call G_is_tree (hr.mono (by omega)) (by rfl) T.m_is_tree T.F_is_tree.kp T.b_is_tree .nil pass0 (pa_cons (pv 0) pa_nil)))) (pss_one ps_never) pss_nil)), ?_⟩
  refine ⟨_, rfl, v, t, rfl, ht, hz, fun H' hs => ⟨_, rfl, iteF ?_⟩⟩
  exact q _ hs
theorem ok_parts_upward (T : Txt K mg) : FnOk P w K mg base CX0 5 T.f_parts_upward T.d_parts_upward ["tree"] sp_parts_upward := by
  have G_check_tree : FnOk P w K mg base CX0 4 T.f_check_tree T.d_check_tree ["thing"] sp_check_tree := ok_check_tree T
  refine T.F_parts_upward.ok sc_parts_upward (fun vs H Q E h => ?_) (fun cdv A outer s H vs Q E hr h => ?_)
  · obtain ⟨v, t, ok, rfl, _⟩ := h
    rfl
  obtain ⟨v, t, ok, rfl, ht, hz, q⟩ := h
  refine ⟨_, (pss_cons (ps_expr (pe_call G_check_tree (hr.mono (by omega)) (by rfl) T.m_check_tree T.F_check_tree.kp T.b_check_tree .nil pass0 (pa_cons (pv 0) pa_nil))) (pss_cons (ps_set (i := 1) sc_parts_upward.nd rfl (Or.inl rfl) (pe_lst pa_nil)) (pss_cons (ps_set (i := 2) sc_parts_upward.nd rfl (Or.inl rfl) (pe_lst (pa_cons (pv 0) pa_nil))) (pss_cons (ps_while PassesOwn.never (pt_truth (pv 2) (by intro _; rfl)) (pss_cons (ps_set (i := 3) sc_parts_upward.nd rfl (Or.inl rfl) (pe_bm0 PySem.F.plainAttrs_list PySem.F.slot_list_pop PySem.F.type_list_pop mt_pop (pv 2))) (pss_cons (ps_expr (pe_bm PySem.F.plainAttrs_list PySem.F.slot_list_append PySem.F.type_list_append mt_append (pv 1) (pa_cons (pv 3) pa_nil))) (pss_one (ps_expr (pe_bm PySem.F.plainAttrs_list PySem.F.slot_list_extend PySem.F.type_list_extend mt_extend (pv 2) (pa_cons (pe_ix ix_tup (pv 3) pe_int (fun _ _ => rfl)) pa_nil))))))) (pss_one (ps_ret (pe_revL (pv 1)))))))), ?_⟩
  refine ⟨_, rfl, v, t, rfl, ht.weak fun _ _ => trivial, hz, fun H1 s1 => ?_⟩
  have ht1 := ((TrAt.there t v ht).same s1).weak (ok' := fun b => ok b ∧ H b ≠ none) fun b ⟨k, o, e⟩ => ⟨k, by rw [e]; simp⟩
  refine ⟨(by show 0 ≤ sizeLine; decide), fun a ha => ?_⟩
  refine ⟨_, rfl, (by show 1 ≤ sizeLine; decide), fun p hp => ?_⟩
  have nap : a ≠ p := fun e => by rw [e, upd_same] at hp; cases hp
  have hp1 : H1 p = none := by rw [upd_ne (fun e => nap e.symm)] at hp; exact hp
  have ha0 : H a = none := s1.free ha
  have hp0 : H p = none := s1.free hp1
  have oka : ∀ b, (ok b ∧ H b ≠ none) → b ≠ a := fun b h e => h.2 (by rw [e]; exact ha0)
  have okp : ∀ b, (ok b ∧ H b ≠ none) → b ≠ p := fun b h e => h.2 (by rw [e]; exact hp0)
  refine ⟨fun m σ H' => ∃ y as tas ws ts, σ = [some v, some (.ref a), some (.ref p), y] ∧ H' a = some (.lst as) ∧ H' p = some (.lst ws) ∧ TrsAt (fun b => ok b ∧ H b ≠ none) H' as tas ∧ TrsAt (fun b => ok b ∧ H b ≠ none) H' ws ts ∧
      tas ++ (posts ts).reverse = t.post.reverse ∧ sizes ts = m ∧ Same H H',
    ⟨t.size, none, [], [], [v], [t], rfl, by rw [upd_ne nap]; exact upd_same, upd_same, .nil, .cons ((ht1.keep (upd_keep oka)).keep (upd_keep okp)) .nil, by simp only [posts, List.append_nil, List.nil_append], by simp only [sizes]; omega, same_add (same_add s1 ha0) hp0⟩, ?_⟩
  rintro m σ H' ⟨y, as, tas, ws, ts, rfl, hA, hw, hta, hts, hpo, hm, hs⟩
  have hlen : tas.length + sizes ts = t.size := by
    have := congrArg List.length hpo
    rw [List.length_append, List.length_reverse, List.length_reverse, posts_len, post_len] at this
    exact this
  by_cases he : ws = []
  · subst he
    cases hts
    refine ⟨_, rfl, false, .inl ⟨_, SqL.of hw, rfl⟩, iteF ?_⟩
    refine ⟨_, rfl, a, as, rfl, SqL.of hA, fun r hr' => ?_⟩
    have hr0 : H r = none := hs.free hr'
    refine q r as.reverse _ (same_add hs hr0) hr0 upd_same ?_
    have e : tas.reverse = t.post := by
      simp only [posts, List.reverse_nil, List.append_nil] at hpo
      rw [hpo, List.reverse_reverse]
    rw [← e]
    exact hta.rev.keep (upd_keep fun b h e => h.2 (by rw [e]; exact hr0))
  · refine ⟨_, rfl, true, .inl ⟨_, SqL.of hw, by cases ws with | nil => exact absurd rfl he | cons a b => rfl⟩, iteT ?_⟩
    obtain ⟨ws', x, rfl⟩ := concat_of he
    obtain ⟨ts', tl, rfl, h1, h2⟩ := TrsAt.split hts
    cases h2 with
    | cons hx hn =>
      cases hn
      rename_i tx
      obtain ⟨c, ks⟩ := tx
      rw [sizes_append] at hm hlen
      simp only [sizes, Tr.size] at hm hlen
      refine ⟨fun σ2 H2 => ∃ y as tas ws ts, σ2 = [some v, some (.ref a), some (.ref p), y] ∧ H2 a = some (.lst as) ∧ H2 p = some (.lst ws) ∧ TrsAt (fun b => ok b ∧ H b ≠ none) H2 as tas ∧ TrsAt (fun b => ok b ∧ H b ≠ none) H2 ws ts ∧
        tas ++ (posts ts).reverse = t.post.reverse ∧ sizes ts < m ∧ Same H H2, fun σ2 H2 ⟨y, as, tas, ws, ts, e1, e2, e3, e4, e5, e6, e7, e8⟩ => ⟨sizes ts, e7, y, as, tas, ws, ts, e1, e2, e3, e4, e5, e6, rfl, e8⟩, ?_⟩
      refine ⟨_, rfl, .inl ⟨rfl, _, SqL.of hw⟩, _, _, x, rfl, rfl, hw, by simp, ?_⟩
      have kp : ∀ b u, (ok b ∧ H b ≠ none) → H' b = some u → (upd H' p (.lst (ws' ++ [x]).dropLast)) b = some u := upd_keep okp
      have hA2 : (upd H' p (.lst (ws' ++ [x]).dropLast)) a = some (.lst as) := by rw [upd_ne nap]; exact hA
      have la := hta.len
      refine ⟨_, rfl, .inl ⟨rfl, _, SqL.of hA2⟩, _, rfl, a, as, x, rfl, rfl, hA2, Nat.lt_of_le_of_lt (show as.length ≤ 1000000 by omega) (by decide), ?_⟩
      have hx3 := (hx.keep kp).keep (upd_keep (o := .lst (as ++ [x])) oka)
      have hp3 : (upd (upd H' p (.lst (ws' ++ [x]).dropLast)) a (.lst (as ++ [x]))) p = some (.lst ws') := by
        rw [upd_ne (fun e => nap e.symm), upd_same, List.dropLast_concat]
      have hx3' := hx3
      cases hx3 with
      | node g1 g2 k1 k2 c1 c2 r =>
        have ll := r.len
        have l2 := h1.len
        have l3 := len_sizes ts'
        have l4 := len_sizes ks
        refine ⟨_, rfl, .inl ⟨rfl, _, SqL.of hp3⟩, _, rfl, _, _, 1, _, rfl, rfl, SqT.of g1, atI_nat (j := 1) rfl, p, _, ws', _, rfl, rfl, hp3, g2, ?_, ?_⟩
        · exact Nat.le_trans (show ws'.length + _ ≤ 1000000 by omega) (by decide)
        · refine ⟨some _, as ++ [_], tas ++ [Tr.node c ks], _, ts' ++ ks, rfl, by rw [upd_ne nap]; exact upd_same, upd_same, ?_, ?_, ?_, ?_, ?_⟩
          · exact (((hta.keep kp).keep (upd_keep oka)).append (.cons hx3' .nil)).keep (upd_keep okp)
          · exact (((h1.keep kp).keep (upd_keep oka)).append r).keep (upd_keep okp)
          · rw [← hpo, posts_append, posts_append]
            simp only [posts, Tr.post, List.reverse_append, List.append_assoc, List.append_nil, List.reverse_cons, List.reverse_nil, List.nil_append, List.singleton_append, List.cons_append]
          · rw [sizes_append]
            omega
          · exact same_add (same_add (same_add hs hp0) ha0) hp0
end

def brk : List Nat → List Nat
  | [] => []
  | x :: l => 40 :: ((x :: l) ++ [41])
mutual
def Tr.wr : Tr → List Nat
  | .node c ks => c :: brk (wrs ks)
def wrs : List Tr → List Nat
  | [] => []
  | t :: r => t.wr ++ wrs r
end
def leW (a b : Tr) : Bool := decide (a.wr ≤ b.wr)
mutual
def Tr.told : Tr → Tr
  | .node c ks => .node c ((tolds ks).mergeSort leW)
def tolds : List Tr → List Tr
  | [] => []
  | t :: r => t.told :: tolds r
end
theorem tolds_map : ∀ ts : List Tr, tolds ts = ts.map Tr.told
  | [] => rfl
  | t :: r => by simp only [tolds, List.map_cons, tolds_map r]
theorem tolds_len (ts : List Tr) : (tolds ts).length = ts.length := by rw [tolds_map, List.length_map]
theorem wrs_append : ∀ a b : List Tr, wrs (a ++ b) = wrs a ++ wrs b
  | [], b => rfl
  | t :: r, b => by simp only [List.cons_append, wrs, wrs_append r b, List.append_assoc]
theorem leW_trans (a b c : Tr) (h : leW a b = true) (g : leW b c = true) : leW a c = true :=
  decide_eq_true (List.le_trans (of_decide_eq_true h) (of_decide_eq_true g))
theorem leW_total (a b : Tr) : (leW a b || leW b a) = true := by
  rcases List.le_total a.wr b.wr with h | h
  · simp [leW, h]
  · simp [leW, h]
abbrev Ltr (c : Nat) : Prop := 97 ≤ c ∧ c ≤ 122
theorem wr_ne (t : Tr) : t.wr ≠ [] := by
  cases t
  simp [Tr.wr]
theorem wr_head {t : Tr} (h : t.lets Ltr) : ∃ c l, t.wr = c :: l ∧ 97 ≤ c := by
  cases t with
  | node c ks =>
    simp only [Tr.lets] at h
    exact ⟨c, _, rfl, h.1.1⟩
theorem wrs_ne {t : Tr} {r : List Tr} : ∃ x l, wrs (t :: r) = x :: l := by
  cases t
  simp [wrs, Tr.wr]
theorem brk_wrs (t : Tr) (r : List Tr) : brk (wrs (t :: r)) = 40 :: (wrs (t :: r) ++ [41]) := by
  obtain ⟨x, l, e⟩ := wrs_ne (t := t) (r := r)
  rw [e]
  rfl
def nb (u : List Nat) : Prop := u.head? ≠ some 40
mutual
theorem wr_inj : ∀ (a b : Tr) (u v : List Nat), a.lets Ltr → b.lets Ltr → a.wr ++ u = b.wr ++ v → nb u → nb v → a = b ∧ u = v
  | .node c ks, .node d js, u, v, ha, hb, h, hu, hv => by
    simp only [Tr.lets] at ha hb
    simp only [Tr.wr, List.cons_append, List.cons.injEq] at h
    obtain ⟨rfl, h⟩ := h
    cases ks with
    | nil =>
      cases js with
      | nil => exact ⟨rfl, h⟩
      | cons j js =>
        obtain ⟨x, l, e⟩ := wrs_ne (t := j) (r := js)
        rw [e] at h
        simp only [wrs, brk, List.nil_append, List.cons_append] at h
        rw [h] at hu
        exact absurd rfl hu
    | cons k ks =>
      rw [brk_wrs k ks] at h
      cases js with
      | nil =>
        simp only [wrs, brk, List.nil_append, List.cons_append] at h
        rw [← h] at hv
        exact absurd rfl hv
      | cons j js =>
        rw [brk_wrs j js] at h
        simp only [List.cons_append, List.append_assoc, List.cons.injEq, true_and, List.singleton_append] at h
        obtain ⟨e1, e2⟩ := wrs_inj (k :: ks) (j :: js) u v ha.2 hb.2 h
        exact ⟨by rw [e1], e2⟩
theorem wrs_inj : ∀ (ks js : List Tr) (u v : List Nat), letss Ltr ks → letss Ltr js → wrs ks ++ 41 :: u = wrs js ++ 41 :: v → ks = js ∧ u = v
  | [], [], u, v, _, _, h => ⟨rfl, by simpa [wrs] using h⟩
  | [], j :: js, u, v, _, hb, h => by
    simp only [letss] at hb
    obtain ⟨c, l, e, hc⟩ := wr_head hb.1
    simp only [wrs, e, List.nil_append, List.cons_append, List.cons.injEq] at h
    omega
  | k :: ks, [], u, v, ha, _, h => by
    simp only [letss] at ha
    obtain ⟨c, l, e, hc⟩ := wr_head ha.1
    simp only [wrs, e, List.nil_append, List.cons_append, List.cons.injEq] at h
    omega
  | k :: ks, j :: js, u, v, ha, hb, h => by
    simp only [letss] at ha hb
    simp only [wrs, List.append_assoc] at h
    have nbk : ∀ (l : List Tr) (w : List Nat), letss Ltr l → nb (wrs l ++ 41 :: w) := by
      intro l w hl
      cases l with
      | nil => simp [nb, wrs]
      | cons a b =>
        simp only [letss] at hl
        obtain ⟨c, m, e, hc⟩ := wr_head hl.1
        simp only [nb, wrs, e, List.cons_append, List.head?_cons]
        intro h
        cases h
        omega
    have := wr_inj k j _ _ ha.1 hb.1 h (nbk _ _ ha.2) (nbk _ _ hb.2)
    obtain ⟨rfl, h2⟩ := this
    obtain ⟨rfl, h3⟩ := wrs_inj ks js u v ha.2 hb.2 h2
    exact ⟨rfl, h3⟩
end
theorem wr_eq {a b : Tr} (ha : a.lets Ltr) (hb : b.lets Ltr) (h : a.wr = b.wr) : a = b :=
  (wr_inj a b [] [] ha hb (by rw [h]) (by simp [nb]) (by simp [nb])).1
mutual
theorem told_lets {p : Nat → Prop} : ∀ t : Tr, t.lets p → t.told.lets p
  | .node c ks, h => by
    simp only [Tr.lets, Tr.told] at h ⊢
    exact ⟨h.1, letss_perm (List.mergeSort_perm _ _).symm (tolds_lets ks h.2)⟩
theorem tolds_lets {p : Nat → Prop} : ∀ ts : List Tr, letss p ts → letss p (tolds ts)
  | [], _ => trivial
  | t :: r, h => by
    simp only [letss, tolds] at h ⊢
    exact ⟨told_lets t h.1, tolds_lets r h.2⟩
end
theorem sorted_is {a b : List Tr} (ha : letss Ltr b) (hp : a.Perm b) (hs : a.Pairwise fun x y => leW x y = true) : a = b.mergeSort leW := by
  refine List.Perm.eq_of_pairwise (le := fun x y => leW x y = true) ?_ hs (List.pairwise_mergeSort leW_trans leW_total _) (hp.trans (List.mergeSort_perm _ _).symm)
  intro x y hx hy h g
  have hx2 := letss_mem ha (hp.mem_iff.mp hx)
  have hy2 := letss_mem ha ((List.mergeSort_perm _ _).mem_iff.mp hy)
  exact wr_eq hx2 hy2 (List.le_antisymm (of_decide_eq_true h) (of_decide_eq_true g))
theorem sort_perm {a b : List Tr} (ha : letss Ltr b) (hp : a.Perm b) : a.mergeSort leW = b.mergeSort leW :=
  sorted_is ha ((List.mergeSort_perm _ _).trans hp) (List.pairwise_mergeSort leW_trans leW_total _)
theorem tolds_perm {a b : List Tr} (h : a.Perm b) : (tolds a).Perm (tolds b) := by
  rw [tolds_map, tolds_map]
  exact h.map _
mutual
theorem Sh.told : ∀ {t u : Tr}, Sh t u → t.lets Ltr → t.told = u.told
  | _, _, .node (ks := ks) (us := us) (ls := ls) p h, hl => by
    simp only [Tr.lets] at hl
    simp only [Tr.told]
    have e := Shs.told h (letss_perm p hl.2)
    rw [sort_perm (tolds_lets _ (letss_perm p hl.2)) (tolds_perm p), e]
theorem Shs.told : ∀ {ts us : List Tr}, Shs ts us → My.letss Ltr ts → tolds ts = tolds us
  | _, _, .nil, _ => rfl
  | _, _, .cons a b, hl => by
    simp only [My.letss] at hl
    simp only [tolds, Sh.told a hl.1, Shs.told b hl.2]
end
theorem sizes_sort (ts : List Tr) : sizes (ts.mergeSort leW) = sizes ts := sizes_perm (List.mergeSort_perm _ _)
theorem depths_sort (ts : List Tr) : depths (ts.mergeSort leW) = depths ts := depths_perm (List.mergeSort_perm _ _)
mutual
theorem told_size : ∀ t : Tr, t.told.size = t.size
  | .node c ks => by simp only [Tr.told, Tr.size, sizes_sort, tolds_sizes ks]
theorem tolds_sizes : ∀ ts : List Tr, sizes (tolds ts) = sizes ts
  | [] => rfl
  | t :: r => by simp only [tolds, sizes, told_size t, tolds_sizes r]
end
mutual
theorem told_depth : ∀ t : Tr, t.told.depth = t.depth
  | .node c ks => by simp only [Tr.told, Tr.depth, depths_sort, tolds_depths ks]
theorem tolds_depths : ∀ ts : List Tr, depths (tolds ts) = depths ts
  | [] => rfl
  | t :: r => by simp only [tolds, depths, told_depth t, tolds_depths r]
end
mutual
theorem wr_len : ∀ t : Tr, t.wr.length ≤ 3 * t.size
  | .node c ks => by
    have := wrs_len ks
    have e : (brk (wrs ks)).length ≤ (wrs ks).length + 2 := by
      cases wrs ks with
      | nil => simp [brk]
      | cons x l => simp [brk]
    simp only [Tr.wr, Tr.size, List.length_cons]
    omega
theorem wrs_len : ∀ ts : List Tr, (wrs ts).length ≤ 3 * sizes ts
  | [] => by simp [wrs]
  | t :: r => by
    have a := wr_len t
    have b := wrs_len r
    simp only [wrs, sizes, List.length_append]
    omega
end
def steps : List Tr → List Tr → Option (List Tr)
  | s, [] => some s
  | s, .node c ks :: r => if ks.length ≤ s.length then steps (s.take (s.length - ks.length) ++ [.node c ((s.drop (s.length - ks.length)).mergeSort leW)]) r else none
mutual
theorem steps_post : ∀ (t : Tr) (s r : List Tr), steps s (t.post ++ r) = steps (s ++ [t.told]) r
  | .node c ks, s, r => by
    have e := steps_posts ks s (.node c ks :: r)
    simp only [Tr.post, List.append_assoc, List.singleton_append]
    rw [e]
    have l := tolds_len ks
    simp only [steps, List.length_append, l, Nat.add_sub_cancel, Nat.le_add_left, if_true, Tr.told]
    rw [List.take_left, List.drop_left]
theorem steps_posts : ∀ (ts : List Tr) (s r : List Tr), steps s (posts ts ++ r) = steps (s ++ tolds ts) r
  | [], s, r => by simp only [posts, tolds, List.nil_append, List.append_nil]
  | t :: ts, s, r => by
    simp only [posts, tolds, List.append_assoc]
    rw [steps_post t s (posts ts ++ r), steps_posts ts (s ++ [t.told]) r]
    simp only [List.append_assoc, List.singleton_append]
end
theorem steps_all (t : Tr) : steps [] t.post = some [t.told] := by
  have := steps_post t [] []
  rw [List.append_nil] at this
  rw [this]
  rfl
mutual
theorem told_told : ∀ t : Tr, t.lets Ltr → t.told.told = t.told
  | .node c ks, h => by
    simp only [Tr.lets] at h
    simp only [Tr.told]
    have e : tolds ((tolds ks).mergeSort leW) = (tolds ks).mergeSort leW := by
      rw [tolds_map]
      have : ∀ x ∈ (tolds ks).mergeSort leW, x.told = x := fun x hx => tolds_fix ks h.2 x ((List.mergeSort_perm _ _).mem_iff.mp hx)
      exact (List.map_congr_left this).trans (List.map_id' _)
    rw [e, sort_perm (tolds_lets ks h.2) (List.mergeSort_perm _ _)]
theorem tolds_fix : ∀ ts : List Tr, letss Ltr ts → ∀ x ∈ tolds ts, x.told = x
  | [], _, x, hx => by simp [tolds] at hx
  | t :: r, h, x, hx => by
    simp only [letss] at h
    simp only [tolds, List.mem_cons] at hx
    rcases hx with rfl | hx
    · exact told_told t h.1
    · exact tolds_fix r h.2 x hx
end

mutual
inductive TrO (ok : Addr → Prop) (H : Hp) : V → Tr → List Addr → Prop
  | node {a l : Addr} {vs : List V} {c : Nat} {ks : List Tr} {as : List Addr} : H a = some (.tup [.str (ch c), .ref l]) → H l = some (.lst vs) → ok a → ok l → 97 ≤ c → c ≤ 122 → TrsO ok H vs ks as → TrO ok H (.ref a) (.node c ks) (l :: as)
inductive TrsO (ok : Addr → Prop) (H : Hp) : List V → List Tr → List Addr → Prop
  | nil : TrsO ok H [] [] []
  | cons {v : V} {vs : List V} {t : Tr} {ts : List Tr} {as bs : List Addr} : TrO ok H v t as → TrsO ok H vs ts bs → TrsO ok H (v :: vs) (t :: ts) (as ++ bs)
end
section
variable {ok ok' : Addr → Prop} {H H' : Hp}
mutual
theorem TrO.imp (hk : ∀ b, ok b → ok' b) (h : ∀ b o, ok b → H b = some o → H' b = some o) : ∀ (t : Tr) (v : V) (as : List Addr), TrO ok H v t as → TrO ok' H' v t as
  | .node c ks, v, as, x => by
    cases x with
    | node h1 h2 k1 k2 c1 c2 r => exact .node (h _ _ k1 h1) (h _ _ k2 h2) (hk _ k1) (hk _ k2) c1 c2 (TrsO.imp hk h ks _ _ r)
theorem TrsO.imp (hk : ∀ b, ok b → ok' b) (h : ∀ b o, ok b → H b = some o → H' b = some o) : ∀ (ts : List Tr) (vs : List V) (as : List Addr), TrsO ok H vs ts as → TrsO ok' H' vs ts as
  | [], vs, as, x => by cases x; exact .nil
  | t :: r, vs, as, x => by
    cases x with
    | cons a b => exact .cons (TrO.imp hk h t _ _ a) (TrsO.imp hk h r _ _ b)
end
theorem TrO.keep {v : V} {t : Tr} {as : List Addr} (x : TrO ok H v t as) (h : ∀ b o, ok b → H b = some o → H' b = some o) : TrO ok H' v t as := TrO.imp (fun _ k => k) h t v as x
theorem TrO.same {v : V} {t : Tr} {as : List Addr} (x : TrO ok H v t as) (s : Same H H') : TrO ok H' v t as := x.keep fun b o _ h => s b o h
theorem TrO.weak {v : V} {t : Tr} {as : List Addr} (x : TrO ok H v t as) (h : ∀ b, ok b → ok' b) : TrO ok' H v t as := TrO.imp h (fun _ _ _ e => e) t v as x
theorem TrsO.keep {vs : List V} {ts : List Tr} {as : List Addr} (x : TrsO ok H vs ts as) (h : ∀ b o, ok b → H b = some o → H' b = some o) : TrsO ok H' vs ts as := TrsO.imp (fun _ k => k) h ts vs as x
theorem TrsO.same {vs : List V} {ts : List Tr} {as : List Addr} (x : TrsO ok H vs ts as) (s : Same H H') : TrsO ok H' vs ts as := x.keep fun b o _ h => s b o h
theorem TrsO.weak {vs : List V} {ts : List Tr} {as : List Addr} (x : TrsO ok H vs ts as) (h : ∀ b, ok b → ok' b) : TrsO ok' H vs ts as := TrsO.imp h (fun _ _ _ e => e) ts vs as x
mutual
theorem TrO.at : ∀ (t : Tr) (v : V) (as : List Addr), TrO ok H v t as → TrAt ok H v t
  | .node c ks, v, as, x => by
    cases x with
    | node h1 h2 k1 k2 c1 c2 r => exact .node h1 h2 k1 k2 c1 c2 (TrsO.at ks _ _ r)
theorem TrsO.at : ∀ (ts : List Tr) (vs : List V) (as : List Addr), TrsO ok H vs ts as → TrsAt ok H vs ts
  | [], vs, as, x => by cases x; exact .nil
  | t :: r, vs, as, x => by
    cases x with
    | cons a b => exact .cons (TrO.at t _ _ a) (TrsO.at r _ _ b)
end
mutual
theorem TrO.lst : ∀ (t : Tr) (v : V) (as : List Addr), TrO ok H v t as → ∀ b ∈ as, ok b ∧ ∃ xs, H b = some (.lst xs)
  | .node c ks, v, as, x => by
    cases x with
    | node h1 h2 k1 k2 c1 c2 r =>
      intro b hb
      rcases List.mem_cons.mp hb with e | hb
      · subst e; exact ⟨k2, _, h2⟩
      · exact TrsO.lst ks _ _ r b hb
theorem TrsO.lst : ∀ (ts : List Tr) (vs : List V) (as : List Addr), TrsO ok H vs ts as → ∀ b ∈ as, ok b ∧ ∃ xs, H b = some (.lst xs)
  | [], vs, as, x => by cases x; intro b hb; cases hb
  | t :: r, vs, as, x => by
    cases x with
    | cons x1 x2 =>
      intro b hb
      rcases List.mem_append.mp hb with hb | hb
      · exact TrO.lst t _ _ x1 b hb
      · exact TrsO.lst r _ _ x2 b hb
end
mutual
theorem TrO.there : ∀ (t : Tr) (v : V) (as : List Addr), TrO ok H v t as → TrO (fun b => ok b ∧ ∃ o, H b = some o) H v t as
  | .node c ks, v, as, x => by
    cases x with
    | node h1 h2 k1 k2 c1 c2 r => exact .node h1 h2 ⟨k1, _, h1⟩ ⟨k2, _, h2⟩ c1 c2 (TrsO.there ks _ _ r)
theorem TrsO.there : ∀ (ts : List Tr) (vs : List V) (as : List Addr), TrsO ok H vs ts as → TrsO (fun b => ok b ∧ ∃ o, H b = some o) H vs ts as
  | [], vs, as, x => by cases x; exact .nil
  | t :: r, vs, as, x => by
    cases x with
    | cons a b => exact .cons (TrO.there t _ _ a) (TrsO.there r _ _ b)
end
theorem TrO.off {v : V} {t : Tr} {as : List Addr} {w : Addr} (x : TrO ok H v t as) (h : H w = none) : TrO (fun b => ok b ∧ b ≠ w) H v t as :=
  (TrO.there t v as x).weak fun b ⟨k, o, e⟩ => ⟨k, ne_of_none e h⟩
theorem TrsO.off {vs : List V} {ts : List Tr} {as : List Addr} {w : Addr} (x : TrsO ok H vs ts as) (h : H w = none) : TrsO (fun b => ok b ∧ b ≠ w) H vs ts as :=
  (TrsO.there ts vs as x).weak fun b ⟨k, o, e⟩ => ⟨k, ne_of_none e h⟩
theorem TrsO.of : ∀ bs : List (V × Tr × List Addr), (∀ b ∈ bs, TrO ok H b.1 b.2.1 b.2.2) → TrsO ok H (bs.map (·.1)) (bs.map (·.2.1)) (bs.map (·.2.2)).flatten
  | [], _ => .nil
  | b :: r, h => by
    simp only [List.map_cons, List.flatten_cons]
    exact .cons (h b (by simp)) (TrsO.of r fun x hx => h x (by simp [hx]))
theorem TrsO.split1 : ∀ {vs : List V} {ts : List Tr} {as : List Addr}, TrsO ok H vs ts as → ∃ bs : List (V × Tr × List Addr), vs = bs.map (·.1) ∧ ts = bs.map (·.2.1) ∧ as = (bs.map (·.2.2)).flatten ∧ ∀ b ∈ bs, TrO ok H b.1 b.2.1 b.2.2
  | _, _, _, .nil => ⟨[], rfl, rfl, rfl, fun _ h => by cases h⟩
  | _, _, _, .cons (v := v) (t := t) (as := as) a b => by
    obtain ⟨bs, rfl, rfl, rfl, h⟩ := TrsO.split1 b
    refine ⟨(v, t, as) :: bs, rfl, rfl, rfl, fun x hx => ?_⟩
    rcases List.mem_cons.mp hx with e | hx
    · subst e; exact a
    · exact h x hx
theorem TrsO.snoc {vs : List V} {ts : List Tr} {as bs : List Addr} {v : V} {t : Tr} (x : TrsO ok H vs ts as) (y : TrO ok H v t bs) : TrsO ok H (vs ++ [v]) (ts ++ [t]) (as ++ bs) := by
  obtain ⟨cs, rfl, rfl, rfl, h⟩ := x.split1
  have := TrsO.of (ok := ok) (H := H) (cs ++ [(v, t, bs)]) (by
    intro b hb
    rcases List.mem_append.mp hb with hb | hb
    · exact h b hb
    · simp only [List.mem_singleton] at hb
      subst hb
      exact y)
  simpa using this
theorem TrsO.len {vs : List V} {ts : List Tr} {as : List Addr} (x : TrsO ok H vs ts as) : vs.length = ts.length := (TrsO.at ts vs as x).len
end
def ws (t : Tr) : Str := ⟨t.wr.toArray⟩
def RowO1 (ok : Addr → Prop) (H : Hp) (b : V × Tr × List Addr) : Prop := ∃ p x, b.1 = .ref p ∧ H p = some (.tup [.str (ws b.2.1), x]) ∧ ok p ∧ TrO ok H x b.2.1 b.2.2
theorem RowO1.imp {ok ok' : Addr → Prop} {H H' : Hp} {b : V × Tr × List Addr} (x : RowO1 ok H b) (hk : ∀ b, ok b → ok' b) (h : ∀ b o, ok b → H b = some o → H' b = some o) : RowO1 ok' H' b := by
  obtain ⟨p, x, e, h1, h2, h3⟩ := x
  exact ⟨p, x, e, h _ _ h2 h1, hk _ h2, TrO.imp hk h _ _ _ h3⟩
theorem RowO1.same {ok : Addr → Prop} {H H' : Hp} {b : V × Tr × List Addr} (x : RowO1 ok H b) (s : Same H H') : RowO1 ok H' b := x.imp (fun _ k => k) fun b o _ h => s b o h
theorem nodup_snoc {α : Type} {as bs : List α} (ha : as.Nodup) (hb : bs.Nodup) (h : ∀ x ∈ as, x ∉ bs) : (as ++ bs).Nodup := by
  rw [List.nodup_append]
  exact ⟨ha, hb, fun a h1 b h2 e => h a h1 (e ▸ h2)⟩

open LamX NdefX in
structure CalX (P : Program) (w : World) (K : PySem.W.Frag) (mg : Str → Option Value) (base : Heap) (k : Nat) (f : Addr) (G : Hp → Prop) (np : Nat) (sp : Sp) : Prop where
  len : ∀ vs H Q E, sp vs H Q E → vs.length = np
  at_ : ∀ (s : Shared) (H : Hp), HOk P w H s.heap → K.In s.heap → G H → PySem.W.FnAt f s.heap
  run : ∀ (A : Around) (outer : List Env) (s : Shared) (H : Hp) (us : List Value) (vs : List V) (Q : VK) (E : XK), Room k A → Env0 P w K mg base A outer s H → G H → Vals vs us → sp vs H Q E → codeAny (model P w) A (.call (.ref f) ⟨us, []⟩) (CR CX0 outer P w H s Q E) s
def tCalX (i : Nat) (f : Addr) (G : Hp → Prop) (sp : Sp) (t : TA) : TE := fun σ H Q => σ[i]? = some (some (.ref f)) ∧ G H ∧ t σ H fun vs H1 => G H1 ∧ sp vs H1 Q C8.E0
theorem pe_calX {X : Cx} {k i np : Nat} {f : Addr} {G : Hp → Prop} {sp : Sp} {x : Str} {p pos : Pos} {e : PySem.Expr} {es : List PySem.Expr} {t : TA}
    (C : CalX X.prog X.w X.K X.mg X.base k f G np sp) (hr : Room k X.A) (hN : X.N[i]? = some x) (hv : Vis X.env.scope x) (ha : PA X (e :: es) t)
    (hdb : (x == ("__debug__" : Str)) = false := by decide) (hcd : (x == ("__classdict__" : Str)) = false := by decide)
    (he : starEach (e :: es) X.env = (false, eval e X.env) :: starEach es X.env := by rfl) (hpl : (backTo pos (starEach es X.env)).any (·.1) = false := by rfl) : PE X (.Call (.Name x p) (e :: es) [] pos) (tCalX i f G sp t) := by
  refine ⟨fun pins s σ H Q I h => ?_⟩
  obtain ⟨hs, hg, ht⟩ := h
  refine wpAny_Call_Name_kw (thn ((pe_var (pos := p) hN hv hdb hcd).run pins s σ H (fun v H1 => v = .ref f ∧ H1 = H) I ⟨.ref f, hs, rfl, rfl⟩) fun u s1 ⟨v, H1, I1, r1, q1⟩ => ?_)
  obtain ⟨ev, eH⟩ := q1
  subst ev
  rw [eH] at I1
  obtain rfl : u = Value.ref f := r1
  refine PySem.W.callWith_F (first := []) (C.at_ s1 H I1.hok I1.kIn hg) (thn (ha.run pos pins s1 σ H _ I1 ht) fun us s2 ⟨vs, H2, I2, r, h1, q⟩ => ⟨C.at_ s2 H2 I2.hok I2.kIn h1, ?_⟩) he hpl
  show wpAny _ _ (call (.ref f) us) _ _ _
  refine wpAny_call (codeAny_mono (C.run X.A X.stack s2 H2 us vs Q C8.E0 hr I2.env0 h1 r q) fun r s' hq => ?_)
  cases r with
  | error e => exact (show False from hq).elim
  | ok fl =>
    cases fl with
    | ret u => exact I2.after hq
    | next => exact False.elim hq
    | brk => exact False.elim hq
    | cont => exact False.elim hq
theorem calX_of {P : Program} {w : World} {K : PySem.W.Frag} {mg : Str → Option Value} {base : Heap} {k : Nat} {x q : Str} {st : Stmt} {f : Addr} {fd : FuncData} {ps : List Str} {sp : Sp} (F : FnOk P w K mg base CX0 k f fd ps sp) (U : Fun K x q st f fd) (hb : Binds K fd ps []) {G : Hp → Prop} : CalX P w K mg base k f G ps.length sp := by
  refine ⟨F.len, fun s H _ hk _ => ?_, fun A outer s H us vs Q E hr e0 _ r h => ?_⟩
  · obtain ⟨oc, od, kV, doc, pm, an, cdv, ct, osl, rfl, lk, hcd⟩ := U.ex
    exact ⟨_, _, _, _, hk _ _ lk⟩
  · have KX : K.In s.heap := e0.mod.kin.keeps fun b o e => (e0.bs b o e).1
    have hl : us.length = ps.length := by rw [← r.length]; exact F.len _ _ _ _ h
    have hb' := hb s us KX (by rw [List.append_nil]; exact hl)
    rw [List.append_nil] at hb'
    exact F.run A outer s H ⟨us, []⟩ us vs Q E hr e0 hb' r h
structure LF where
  qual : Str
  params : Arguments
  body : PySem.Expr
  scope : PySem.Scope
  cl : List (Str × Addr)
  c : Addr
abbrev LF.nf (F : LF) : NdefX.NF := ⟨"<lambda>", F.qual, F.params, [], F.scope, F.cl, F.c⟩
def LamO (f : Addr) (F : LF) : HO := .ext fun h => ∃ pm ctv, h.get? f = some (PySem.W.kla_obj "<lambda>" F.qual F.params F.body F.scope F.cl pm F.c ctv)
theorem lamO_ok {P : Program} {w : World} {H : Hp} {h : Heap} {F : LF} {pm ctv : Value} :
    ObjOk P w H (h.push (PySem.W.kla_obj "<lambda>" F.qual F.params F.body F.scope F.cl pm F.c ctv)) h.objs.size (LamO h.objs.size F) := by
  have e : (h.push (PySem.W.kla_obj "<lambda>" F.qual F.params F.body F.scope F.cl pm F.c ctv)).get? h.objs.size = some (PySem.W.kla_obj "<lambda>" F.qual F.params F.body F.scope F.cl pm F.c ctv) := Heap.get?_push_size _ rfl
  exact ⟨⟨pm, ctv, e⟩, ⟨_, e⟩, fun h1 h2 ⟨a1, a2, e1⟩ k => ⟨a1, a2, k _ e1⟩⟩
theorem calX_lam {P : Program} {w : World} {K : PySem.W.Frag} {mg : Str → Option Value} {base : Heap} {k : Nat} {N ps : List Str} {f : Addr} {F : LF} {sp : Sp} (S : NdefX.NScope N ps [] F.scope) (hcl : F.cl = [])
    (hb : ∀ (pm ctv : Value) (us : List Value), us.length = ps.length → bindArgs (PySem.W.kla_fn "<lambda>" F.qual F.params F.body F.scope F.cl pm (.ref F.c) ctv) ⟨us, []⟩ = pure (ps.zip us)) (len : ∀ vs H Q E, sp vs H Q E → vs.length = ps.length)
    (hbody : ∀ (A : Around) (outer : List Env) (s : Shared) (H : Hp) (vs : List V) (Q : VK) (E : XK), Room k (A.deeper (NdefX.envF F.nf f s.heap.objs.size)) → sp vs H Q E →
      ∃ t, PE (NdefX.ncx CX0 P w K mg base N F.nf f A outer s H E) F.body t ∧ t (NdefX.startF N vs []) H Q) :
    CalX P w K mg base (k + 1) f (fun H => H f = some (LamO f F) ∧ H F.c = some (LamX.CodeO F.c F.qual)) ps.length sp := by
  refine ⟨len, fun s H hok _ hg => ?_, fun A outer s H us vs Q E hr e0 hg r hsp => ?_⟩
  · obtain ⟨⟨pm, ctv, e⟩, _, _⟩ := hok _ _ hg.1
    exact ⟨_, _, _, _, e⟩
  obtain ⟨⟨pm, ctv, ho⟩, _, _⟩ := e0.hok _ _ hg.1
  have hl := len _ _ _ _ hsp
  have lim : s.heap.NoLimit := e0.mod.nolimit.keeps fun b o e => (e0.bs b o e).1
  refine PySem.W.kla_callFunE hr.depth ho rfl S.co S.gen rfl (NdefX.codeO_at e0.hok hg.2) ?_
  rw [hb pm ctv us (by rw [← r.length]; exact hl)]
  refine wpAny_pure (wpAny_newFunctionEnv S.nocell (fun ⟨n, _⟩ hy => S.par n (List.of_mem_zip hy).1) (fun h₁ hns hsb => ⟨lim.fresh _ hsb, ?_⟩) S.kind)
  show codeAny _ _ (.expr F.body (NdefX.envF F.nf f s.heap.objs.size)) _ _
  have kp : ∀ b o, s.heap.get? b = some o → h₁.get? b = some o := fun b o e => hsb.extBut b o (Nat.ne_of_lt (Heap.lt_size e)) (Heap.get?_push_of_some _ e)
  obtain ⟨t, ht, hq⟩ := hbody A outer s H vs Q E (hr.deeper _) hsp
  have C : NdefX.CellsAt F.nf.cl [] [] s.heap H := by
    have e : F.nf.cl = [] := hcl
    rw [e]
    exact ⟨rfl, (fun y c e => by cases e), (fun x y c e => by cases e), (fun i y e => by simp at e)⟩
  have I : Inv (NdefX.ncx CX0 P w K mg base N F.nf f A outer s H E) [] (NdefX.startF N vs []) H { s with heap := h₁, toks := s.toks + (ps.zip us).length } := NdefX.inv_startN S hr.hd e0 hl r C hns kp
  refine PySem.W.kla_codeExpr (wpAny_mono (ht.run [] _ _ H Q I hq) (fun v s' hq => ?_) fun e s' hq => hq)
  obtain ⟨w', H', J', rv, q⟩ := hq
  exact ⟨w', H', J'.os, J'.bare, J'.base, J'.hok, rv, q⟩
theorem pe_lamX {X : Cx} {c P : Addr} {params : Arguments} {body : PySem.Expr} {scope : PySem.Scope} {pos : Pos} (tb : LamX.TabB X.base X.mg c P) (hc : X.env.code = .ref c) (hd : defaultsOf params X.env = ([], []))
    (hfree : ∀ y ∈ scope.names, y.2 = .free → ∃ c, X.env.cells.lookup y.1 = some c) : PE X (.Lambda params body scope pos) (fun σ H Q => LamX.TabS H P (X.env.qual ++ "<lambda>") ∧ ∀ (f c : Addr) (H1 : Hp), Fr P H H1 → (∀ b, H1 b = none → H b = none) → LamX.TabS H1 P (X.env.qual ++ "<lambda>") → H f = none →
      H1 f = some (LamO f ⟨X.env.qual ++ "<lambda>", params, body, scope, cloFrom X.env.cells scope.names [], c⟩) → H1 c = some (LamX.CodeO c (X.env.qual ++ "<lambda>")) → Q (.ref f) H1) := by
  refine ⟨fun pins s σ H Q I h => ?_⟩
  obtain ⟨ht, q⟩ := h
  have hclo : closureFor scope X.env = pure (cloFrom X.env.cells scope.names []) := closure_ok hfree
  have ht' := ht
  obtain ⟨ps, hP, hT, hA⟩ := ht'
  have oP : s.heap.get? P = some (PySem.W.tabObj ps) := I.hok _ _ hP
  refine PySem.W.kla_eval hd ?_
  cases hcd : codeAmong pos ps.toList with
  | some cv =>
    obtain ⟨c', rfl, hc'⟩ := hA _ _ hcd
    refine PySem.W.kla_makeFunctionHit hclo I.ok.glob (I.mod.glob.keeps I.bk) hc (tb.code.keeps I.bk) oP hT hcd (tb.bm.keeps I.bk) (fun ctv h' tk hk hs => ?_)
    have I1 := I.kept (t' := tk) hk
    have hz : s.heap.objs.size ≤ h'.objs.size := hs
    have hn : H h'.objs.size = none := I.hok.fresh hz
    refine ⟨.ref h'.objs.size, upd H h'.objs.size (LamO h'.objs.size ⟨X.env.qual ++ "<lambda>", params, body, scope, cloFrom X.env.cells scope.names [], c'⟩), ?_, rfl, q _ c' _ (fun b o _ hb => ?_) (fun b e => NdefX.upd_none e) (ht.ext fun b o hb => ?_) hn upd_same ?_⟩
    · exact I1.laid (h' := h'.push _) (t' := tk) (fun b u hb => Heap.get?_push_of_some _ hb) (Nat.le_refl _) (lamO_ok (F := ⟨X.env.qual ++ "<lambda>", params, body, scope, cloFrom X.env.cells scope.names [], c'⟩))
    · rw [upd_ne (ne_of_none hb hn)]; exact hb
    · rw [upd_ne (ne_of_none hb hn)]; exact hb
    · rw [upd_ne (ne_of_none hc' hn)]; exact hc'
  | none =>
    refine PySem.W.kla_makeFunction hclo I.ok.glob (I.mod.glob.keeps I.bk) hc (tb.code.keeps I.bk) oP hT hcd tb.gP (tb.bm.keeps I.bk) (fun c' ctv h' tk he hl hu hrec hP' => ?_)
    obtain ⟨c2, o2, vs2, t2, ec, e1, e2, e3⟩ := hrec
    cases ec
    have I2 := LamX.inv_table (t' := tk) (c := c') (q := X.env.qual ++ "<lambda>") I hP he (more := #[rawInt ↑pos.line, rawInt ↑pos.col, .ref c']) hP' hl ⟨_, _, _, e1, e2, e3⟩
    have hn : (upd (upd H P (.tbl (ps ++ #[rawInt ↑pos.line, rawInt ↑pos.col, .ref c']))) c' (LamX.CodeO c' (X.env.qual ++ "<lambda>"))) h'.objs.size = none := I2.hok.fresh (Nat.le_refl _)
    have hcn : H c' = none := I.hok.fresh hl
    have hPc : P ≠ c' := fun e => by rw [e] at hP; rw [hcn] at hP; cases hP
    refine ⟨.ref h'.objs.size, _, I2.laid (h' := h'.push _) (o := LamO h'.objs.size ⟨X.env.qual ++ "<lambda>", params, body, scope, cloFrom X.env.cells scope.names [], c'⟩) (t' := tk) (fun b u hb => Heap.get?_push_of_some _ hb) (Nat.le_refl _) (lamO_ok (F := ⟨X.env.qual ++ "<lambda>", params, body, scope, cloFrom X.env.cells scope.names [], c'⟩)), rfl, q _ c' _ ?_ (fun b e => NdefX.upd_none (NdefX.upd_none (NdefX.upd_none e))) ?_ (NdefX.upd_none (NdefX.upd_none hn)) upd_same ?_⟩
    · intro b o hbP hb
      have h1 : (upd (upd H P (.tbl (ps ++ #[rawInt ↑pos.line, rawInt ↑pos.col, .ref c']))) c' (LamX.CodeO c' (X.env.qual ++ "<lambda>"))) b = some o := by
        rw [upd_ne (ne_of_none hb hcn), upd_ne hbP]; exact hb
      rw [upd_ne (ne_of_none h1 hn)]; exact h1
    · refine LamX.TabS.ext (H := upd (upd H P (.tbl (ps ++ #[rawInt ↑pos.line, rawInt ↑pos.col, .ref c']))) c' (LamX.CodeO c' (X.env.qual ++ "<lambda>"))) ?_ (fun b o hb => by rw [upd_ne (ne_of_none hb hn)]; exact hb)
      refine ⟨_, by rw [upd_ne hPc]; exact upd_same, ?_, ?_⟩
      · simpa using TriplesOk_snoc _ _ _ _ hT
      · intro pos2 cv hcv
        rw [Array.toList_append] at hcv
        rcases LamX.among_app _ hT hcv with h | h
        · obtain ⟨c3, e3, h3⟩ := hA _ _ h
          refine ⟨c3, e3, ?_⟩
          rw [upd_ne (ne_of_none h3 hcn), upd_ne (fun e => by rw [e, hP] at h3; cases h3)]
          exact h3
        · exact ⟨c', h, upd_same⟩
    · have h1 : (upd (upd H P (.tbl (ps ++ #[rawInt ↑pos.line, rawInt ↑pos.col, .ref c']))) c' (LamX.CodeO c' (X.env.qual ++ "<lambda>"))) c' = some (LamX.CodeO c' (X.env.qual ++ "<lambda>")) := upd_same
      rw [upd_ne (ne_of_none h1 hn)]; exact h1
theorem nofree_by {scope : PySem.Scope} {cells : List (Str × Addr)} (h : (scope.names.all fun y => !decide (y.2 = .free)) = true) : ∀ y ∈ scope.names, y.2 = .free → ∃ c, cells.lookup y.1 = some c := fun y hy e => by
  have := List.all_eq_true.mp h y hy
  simp only [e, decide_true, Bool.not_true] at this
  cases this
theorem CalX.imp {P : Program} {w : World} {K : PySem.W.Frag} {mg : Str → Option Value} {base : Heap} {k j : Nat} {f : Addr} {G G' : Hp → Prop} {np : Nat} {sp sp' : Sp} (C : CalX P w K mg base k f G np sp) (hk : k ≤ j) (hG : ∀ H, G' H → G H) (hs : ∀ vs H Q E, sp' vs H Q E → sp vs H Q E) : CalX P w K mg base j f G' np sp' :=
  ⟨fun vs H Q E q => C.len vs H Q E (hs _ _ _ _ q), fun s H a b g => C.at_ s H a b (hG H g), fun A outer s H us vs Q E hr e0 g r q => C.run A outer s H us vs Q E (hr.mono hk) e0 (hG H g) r (hs _ _ _ _ q)⟩
inductive Runs : List Tr → List Tr → List Tr → Prop
  | nil {us : List Tr} : Runs us [] us
  | cons {us ks r z : List Tr} {c : Nat} : Runs (us ++ [.node c ks]) r z → Runs (us ++ ks) (.node c ks :: r) z
mutual
theorem runs_post : ∀ (t : Tr) (us r z : List Tr), Runs (us ++ [t]) r z → Runs us (t.post ++ r) z
  | .node c ks, us, r, z, h => by
    simp only [Tr.post, List.append_assoc, List.singleton_append]
    exact runs_posts ks us _ z (.cons h)
theorem runs_posts : ∀ (ts us r z : List Tr), Runs (us ++ ts) r z → Runs us (posts ts ++ r) z
  | [], us, r, z, h => by simpa [posts] using h
  | t :: ts, us, r, z, h => by
    simp only [posts, List.append_assoc]
    refine runs_post t us _ z (runs_posts ts (us ++ [t]) r z ?_)
    rw [List.append_assoc]
    exact h
end
theorem runs_all (t : Tr) : Runs [] t.post [t] := by
  have := runs_post t [] [] [t] .nil
  rwa [List.append_nil] at this
abbrev ItP := (Addr → Prop) → Hp → V → Tr → List Addr → Prop
structure ItOk (It : ItP) : Prop where
  imp : ∀ {ok ok' : Addr → Prop} {H H' : Hp} {v : V} {t : Tr} {as : List Addr}, (∀ b, ok b → ok' b) → (∀ b o, ok b → H b = some o → H' b = some o) → It ok H v t as → It ok' H' v t as
  lst : ∀ {ok : Addr → Prop} {H : Hp} {v : V} {t : Tr} {as : List Addr}, It ok H v t as → ∀ b ∈ as, ok b ∧ ∃ xs, H b = some (.lst xs)
abbrev lstsI (bs : List (V × Tr × List Addr)) : List Addr := (bs.map fun b => b.2.2).flatten
def sp_made (It : ItP) (Pt : Addr) (q : Str) : Sp := fun vs H Q _ => ∃ (c : Nat) (bl : Addr) (bs : List (V × Tr × List Addr)) (ok : Addr → Prop), vs = [.str (ch c), .ref bl] ∧ 97 ≤ c ∧ c ≤ 122 ∧ H bl = some (.lst (bs.map (·.1))) ∧ ok bl ∧
  (∀ b ∈ bs, It ok H b.1 b.2.1 b.2.2) ∧ (bl :: lstsI bs).Nodup ∧ sizes (bs.map (·.2.1)) ≤ 1000000 ∧ (∀ b, ok b → b ≠ Pt) ∧ LamX.TabS H Pt q ∧
  ∀ v as H', Fr Pt H H' → LamX.TabS H' Pt q → It (fun b => ok b ∨ H b = none) H' v (.node c (bs.map (·.2.1))) as → as.Nodup → (∀ a ∈ as, a ∈ bl :: lstsI bs ∨ H a = none) → Q v H'
def sp_built_upward (P : Program) (w : World) (K : PySem.W.Frag) (mg : Str → Option Value) (base : Heap) (k : Nat) (Pt : Addr) (q : Str) : Sp := fun vs H Q _ => ∃ (v : V) (t : Tr) (f : Addr) (It : ItP), vs = [v, .ref f] ∧ TrAt (fun _ => True) H v t ∧ t.size ≤ 1000000 ∧ ItOk It ∧ LamX.TabS H Pt q ∧
  CalX P w K mg base k f (fun H' => Fr Pt H H') 2 (sp_made It Pt q) ∧ ∀ r as H', Fr Pt H H' → LamX.TabS H' Pt q → It (fun b => H b = none) H' r t as → as.Nodup → Q r H'

def CellO (c : Addr) (o : Obj) : HO := .ext fun h => h.get? c = some o
abbrev Lent := List (Addr × Obj)
def lend (H : Hp) (cs : Lent) : Hp := fun b => match cs.lookup b with
  | some o => some (CellO b o)
  | none => H b
def unl (H : Hp) (cs : Lent) : Hp := fun b => match cs.lookup b with
  | some _ => none
  | none => H b
def LentAt (cs : Lent) (H : Hp) : Prop := ∀ c o, cs.lookup c = some o → H c = some (CellO c o)
def Fresh (cs : Lent) (H : Hp) : Prop := ∀ c o, cs.lookup c = some o → H c = none
section
variable {H H' : Hp} {cs : Lent} {b c : Addr} {o : Obj} {u : HO}
theorem lend_in (h : cs.lookup c = some o) : lend H cs c = some (CellO c o) := by unfold lend; rw [h]
theorem lend_out (h : cs.lookup b = none) : lend H cs b = H b := by unfold lend; rw [h]
theorem unl_in (h : cs.lookup c = some o) : unl H cs c = none := by unfold unl; rw [h]
theorem unl_out (h : cs.lookup b = none) : unl H cs b = H b := by unfold unl; rw [h]
theorem Fresh.out (f : Fresh cs H) (h : H b = some u) : cs.lookup b = none := by
  cases e : cs.lookup b with
  | none => rfl
  | some o => rw [f b o e] at h; cases h
theorem lend_some (f : Fresh cs H) (h : H b = some u) : lend H cs b = some u := by rw [lend_out (f.out h)]; exact h
theorem lend_same (f : Fresh cs H) : Same H (lend H cs) := fun _ _ h => lend_some f h
theorem unl_some (h : unl H cs b = some u) : H b = some u := by
  cases e : cs.lookup b with
  | none => rw [unl_out e] at h; exact h
  | some o => rw [unl_in e] at h; cases h
theorem unl_same : Same (unl H cs) H := fun _ _ h => unl_some h
theorem LentAt.out (f : LentAt cs H) (h : H b = some u) (n : ∀ φ, u ≠ .ext φ) : cs.lookup b = none := by
  cases e : cs.lookup b with
  | none => rfl
  | some o => rw [f b o e] at h; cases h; exact absurd rfl (n _)
theorem unl_keep (f : LentAt cs H) (h : H b = some u) (n : ∀ φ, u ≠ .ext φ) : unl H cs b = some u := by rw [unl_out (f.out h n)]; exact h
theorem unl_fresh : Fresh cs (unl H cs) := fun _ _ h => unl_in h
theorem lend_lent : LentAt cs (lend H cs) := fun _ _ h => lend_in h
theorem unl_lend (f : Fresh cs H) : unl (lend H cs) cs = H := by
  funext b
  cases e : cs.lookup b with
  | none => rw [unl_out e, lend_out e]
  | some o => rw [unl_in e, f b o e]
theorem lend_unl (f : LentAt cs H) : lend (unl H cs) cs = H := by
  funext b
  cases e : cs.lookup b with
  | none => rw [lend_out e, unl_out e]
  | some o => rw [lend_in e, f b o e]
end
section
variable {P : Program} {w : World} {H H1 : Hp} {h h0 h1 : Heap} {cs : Lent} {fs : List Addr}
theorem hok_lend (ok : HOk P w H h) (f : Fresh cs H) (hc : ∀ c o, cs.lookup c = some o → h.get? c = some o) : HOk P w (lend H cs) h := fun a u e => by
  cases hl : cs.lookup a with
  | some o =>
    rw [lend_in hl] at e
    cases e
    exact ⟨hc _ _ hl, ⟨o, hc _ _ hl⟩, fun h1 h2 q k => k _ q⟩
  | none =>
    rw [lend_out hl] at e
    exact (ok a u e).stay (fun _ _ _ q => q) (fun b q => lend_some f q) fun b xs q => lend_some f q
theorem hok_unl (ok : HOk P w H h) (f : LentAt cs H) : HOk P w (unl H cs) h := fun a u e =>
  (ok a u (unl_some e)).stay (fun _ _ _ q => q) (fun b q => unl_keep f q (fun φ z => by cases z)) fun b xs q => unl_keep f q (fun φ z => by cases z)
theorem lent_get (ok : HOk P w H h) (f : LentAt cs H) {c : Addr} {o : Obj} (e : cs.lookup c = some o) : h.get? c = some o := (ok c _ (f c o e)).1
theorem un_back (u : Un fs [] (lend H cs) H1 h0 h1) (f : Fresh cs H) (l : LentAt cs H1) (ok : HOk P w H1 h1) (hc : ∀ c o, cs.lookup c = some o → h0.get? c = some o) : Un fs [] H (unl H1 cs) h0 h1 where
  keep := fun b ob e n hf hx => by
    cases hl : cs.lookup b with
    | some o =>
      have e2 := hc _ _ hl
      rw [e] at e2
      cases e2
      exact lent_get ok l hl
    | none => exact u.keep b ob e (by rw [lend_out hl]; exact n) hf hx
  slot := fun b ob e n hf hx => by
    cases hl : cs.lookup b with
    | some o =>
      have e2 := hc _ _ hl
      rw [e] at e2
      cases e2
      exact ⟨ob.slots, lent_get ok l hl⟩
    | none => exact u.slot b ob e (by rw [lend_out hl]; exact n) hf hx
  free := fun b ob e n hx => by
    cases hl : cs.lookup b with
    | some o => exact unl_in hl
    | none => rw [unl_out hl]; exact u.free b ob e (by rw [lend_out hl]; exact n) hx
  there := u.there
  tups := fun b xs e => unl_keep l (u.tups b xs (lend_some f e)) (fun φ z => by cases z)
  frzs := fun b o v e => unl_keep l (u.frzs b o v (lend_some f e)) (fun φ z => by cases z)
  tbls := fun b ps e => by
    obtain ⟨more, q⟩ := u.tbls b ps (lend_some f e)
    exact ⟨more, unl_keep l q (fun φ z => by cases z)⟩
theorem un_fwd (u : Un fs [] (unl H cs) H1 h0 h1) (l : LentAt cs H) (ok : HOk P w H h0) (hf : ∀ c o, cs.lookup c = some o → c ∉ fs) : Fresh cs H1 ∧ (∀ c o, cs.lookup c = some o → h1.get? c = some o) ∧ Un fs [] H (lend H1 cs) h0 h1 := by
  have f1 : Fresh cs H1 := fun c o e => u.free c o (lent_get ok l e) (unl_in e) (by simp)
  have hc : ∀ c o, cs.lookup c = some o → h1.get? c = some o := fun c o e => u.keep c o (lent_get ok l e) (unl_in e) (hf c o e) (by simp)
  have no : ∀ b, H b = none → cs.lookup b = none := fun b n => by
    cases hl : cs.lookup b with
    | none => rfl
    | some o => rw [l b o hl] at n; cases n
  refine ⟨f1, hc, fun b ob e n => ?_, fun b ob e n => ?_, fun b ob e n hx => ?_, u.there, fun b xs e => ?_, fun b o v e => ?_, fun b ps e => ?_⟩
  · exact u.keep b ob e (by rw [unl_out (no b n)]; exact n)
  · exact u.slot b ob e (by rw [unl_out (no b n)]; exact n)
  · rw [lend_out (no b n)]
    exact u.free b ob e (by rw [unl_out (no b n)]; exact n) hx
  · exact lend_some f1 (u.tups b xs (unl_keep l e (fun φ z => by cases z)))
  · exact lend_some f1 (u.frzs b o v (unl_keep l e (fun φ z => by cases z)))
  · obtain ⟨more, q⟩ := u.tbls b ps (unl_keep l e (fun φ z => by cases z))
    exact ⟨more, lend_some f1 q⟩
end
structure Caught (cl : List (Str × Addr)) (fr : List Str) (ws : List (Option V)) (cs : Lent) : Prop where
  len : ws.length = fr.length
  all : ∀ y c, cl.lookup y = some c → ∃ o v, cs.lookup c = some o ∧ o.data = .cell v
  inj : ∀ x y c, cl.lookup x = some c → cl.lookup y = some c → x = y
  has : ∀ (i : Nat) (y : Str), fr[i]? = some y → ∃ c, cl.lookup y = some c ∧ ∀ v, ws[i]? = some (some v) → ∃ u o, L2.RelV v u ∧ cs.lookup c = some o ∧ o.data = .cell (some u)
def Cells (cs : Lent) : Prop := ∀ c o, cs.lookup c = some o → ∃ v, o.data = .cell v
theorem codeO_cell {c : Addr} {q : Str} {o : Obj} {v : Option Value} (hd : o.data = .cell v) : LamX.CodeO c q ≠ CellO c o := fun e => by
  have hg : (Heap.mk (Array.replicate (c + 1) o) {}).get? c = some o := by
    have h1 : (Array.replicate (c + 1) o)[c]? = some o := by rw [Array.getElem?_replicate, if_pos (Nat.lt_succ_self c)]
    show (match (Array.replicate (c + 1) o)[c]? with
      | some ⟨_, _, .freed, _⟩ => none
      | o => o) = some o
    rw [h1]
    obtain ⟨c1, c2, c3, c4⟩ := o
    cases hd
    rfl
  have e2 := HO.ext.inj e
  have e3 := (congrFun e2 (Heap.mk (Array.replicate (c + 1) o) {})).mpr hg
  obtain ⟨oc, vs, t, h1, h2, _⟩ := e3
  rw [hg] at h1
  cases h1
  rw [hd] at h2
  cases h2
section
variable {P : Program} {w : World} {K : PySem.W.Frag} {mg : Str → Option Value} {base : Heap} {cl : List (Str × Addr)} {fr : List Str} {ws : List (Option V)} {cs : Lent}
theorem Caught.at (C : Caught cl fr ws cs) {H : Hp} {h : Heap} (l : LentAt cs H) (ok : HOk P w H h) : NdefX.CellsAt cl fr ws h (unl H cs) := by
  refine ⟨C.len, fun y c e => ?_, C.inj, fun i y e => ?_⟩
  · obtain ⟨o, v, h1, h2⟩ := C.all y c e
    exact ⟨unl_in h1, v, o, lent_get ok l h1, h2⟩
  · obtain ⟨c, h1, h2⟩ := C.has i y e
    refine ⟨c, h1, fun v hv => ?_⟩
    obtain ⟨u, o, r, g1, g2⟩ := h2 v hv
    exact ⟨u, r, o, lent_get ok l g1, g2⟩
theorem unl_none {H : Hp} {b : Addr} (h : H b = none) : unl H cs b = none := by
  cases z : unl H cs b with
  | none => rfl
  | some u => rw [unl_some z] at h; cases h
theorem env0_unl {A : Around} {outer : List Env} {s : Shared} {H : Hp} (e : Env0 P w K mg base A outer s H) (l : LentAt cs H) : Env0 P w K mg base A outer s (unl H cs) :=
  ⟨e.frames, e.mod, fun b o q => ⟨(e.bs b o q).1, unl_none (e.bs b o q).2⟩, e.bsz, e.funs, fun b hb => unl_none (e.frf b hb), hok_unl e.hok l, e.bare⟩
theorem cr_fwd {outer : List Env} {s s' : Shared} {H : Hp} {Q : VK} {E : XK} {r : Result} (l : LentAt cs H) (ok : HOk P w H s.heap) (hf : ∀ c o, cs.lookup c = some o → c ∉ frs outer) (h : CR CX0 outer P w (unl H cs) s (fun v H' => Q v (lend H' cs)) E r s') : CR CX0 outer P w H s Q E r s' := by
  cases r with
  | error e => exact (show False from h).elim
  | ok fl =>
    cases fl with
    | ret u =>
      obtain ⟨v, H1, h1, h2, h3, h4, h5, h6⟩ := h
      obtain ⟨f1, f2, f3⟩ := un_fwd h3 l ok hf
      exact ⟨v, lend H1 cs, h1, h2, f3, hok_lend h4 f1 f2, h5, h6⟩
    | next => exact h
    | brk => exact h
    | cont => exact h
theorem calX_ndef {k : Nat} {f : Addr} {F : NdefX.NF} {ps : List Str} {sp : List (Option V) → Sp} (o : NdefX.NOk P w K mg base CX0 k f F ps fr sp) (C : Caught F.cl fr ws cs) (hz : Cells cs) :
    CalX P w K mg base k f (fun H => H f = some (NdefX.FnO f F) ∧ H F.c = some (LamX.CodeO F.c F.qual) ∧ LentAt cs H) ps.length (fun vs H Q E => sp ws vs (unl H cs) (fun v H' => Q v (lend H' cs)) E) := by
  refine ⟨fun vs H Q E h => o.len _ _ _ _ _ h, fun s H hok _ hg => ?_, fun A outer s H us vs Q E hr e0 hg r h => ?_⟩
  · obtain ⟨od, sl, doc, pm, ctv, ho⟩ := NdefX.fnO_at hok hg.1
    exact ⟨_, od, _, sl, ho⟩
  · obtain ⟨g1, g2, g3⟩ := hg
    have nf : cs.lookup f = none := by
      cases e : cs.lookup f with
      | none => rfl
      | some ob =>
        obtain ⟨od, sl, doc, pm, ctv, ho⟩ := NdefX.fnO_at e0.hok g1
        obtain ⟨v, hv⟩ := hz _ _ e
        rw [lent_get e0.hok g3 e] at ho
        cases ho
        cases hv
    have nc : cs.lookup F.c = none := by
      cases e : cs.lookup F.c with
      | none => rfl
      | some ob =>
        obtain ⟨c, oc, vs, t, ec, h1, h2, h3⟩ := NdefX.codeO_at e0.hok g2
        obtain ⟨v, hv⟩ := hz _ _ e
        cases ec
        rw [lent_get e0.hok g3 e] at h1
        cases h1
        rw [hv] at h2
        cases h2
    refine codeAny_mono (o.run A outer s (unl H cs) us vs ws _ E hr (env0_unl e0 g3) (by rw [unl_out nf]; exact g1) (by rw [unl_out nc]; exact g2) (C.at g3 e0.hok) r h) fun r s' hq => ?_
    exact cr_fwd g3 e0.hok (fun c ob e hb => by have := e0.frf c hb; rw [g3 c ob e] at this; cases this) hq
theorem calX_lamC {k : Nat} {N ps : List Str} {f : Addr} {F : LF} {sp : Sp} (S : NdefX.NScope N ps fr F.scope) (C : Caught F.cl fr ws cs) (hz : Cells cs)
    (hb : ∀ (pm ctv : Value) (us : List Value), us.length = ps.length → bindArgs (PySem.W.kla_fn "<lambda>" F.qual F.params F.body F.scope F.cl pm (.ref F.c) ctv) ⟨us, []⟩ = pure (ps.zip us)) (len : ∀ vs H Q E, sp vs H Q E → vs.length = ps.length)
    (hbody : ∀ (A : Around) (outer : List Env) (s : Shared) (H : Hp) (vs : List V) (Q : VK) (E : XK), Room k (A.deeper (NdefX.envF F.nf f s.heap.objs.size)) → sp vs H Q E →
      ∃ t, PE (NdefX.ncx CX0 P w K mg base N F.nf f A outer s H E) F.body t ∧ t (NdefX.startF N vs ws) H Q) :
    CalX P w K mg base (k + 1) f (fun H => H f = some (LamO f F) ∧ H F.c = some (LamX.CodeO F.c F.qual) ∧ LentAt cs H) ps.length (fun vs H Q E => sp vs (unl H cs) (fun v H' => Q v (lend H' cs)) E) := by
  refine ⟨fun vs H Q E h => len _ _ _ _ h, fun s H hok _ hg => ?_, fun A outer s H us vs Q E hr e0 hg r hsp => ?_⟩
  · obtain ⟨⟨pm, ctv, e⟩, _, _⟩ := hok _ _ hg.1
    exact ⟨_, _, _, _, e⟩
  obtain ⟨g1, g2, g3⟩ := hg
  obtain ⟨⟨pm, ctv, ho⟩, _, _⟩ := e0.hok _ _ g1
  have hl := len _ _ _ _ hsp
  have lim : s.heap.NoLimit := e0.mod.nolimit.keeps fun b o e => (e0.bs b o e).1
  refine codeAny_mono (R := CR CX0 outer P w (unl H cs) s (fun v H' => Q v (lend H' cs)) E) ?_ fun r s' hq => cr_fwd g3 e0.hok (fun c ob e hb => by have := e0.frf c hb; rw [g3 c ob e] at this; cases this) hq
  refine PySem.W.kla_callFunE hr.depth ho rfl S.co S.gen rfl (NdefX.codeO_at e0.hok g2) ?_
  rw [hb pm ctv us (by rw [← r.length]; exact hl)]
  refine wpAny_pure (wpAny_newFunctionEnv S.nocell (fun ⟨n, _⟩ hy => S.par n (List.of_mem_zip hy).1) (fun h₁ hns hsb => ⟨lim.fresh _ hsb, ?_⟩) S.kind)
  show codeAny _ _ (.expr F.body (NdefX.envF F.nf f s.heap.objs.size)) _ _
  have kp : ∀ b o, s.heap.get? b = some o → h₁.get? b = some o := fun b o e => hsb.extBut b o (Nat.ne_of_lt (Heap.lt_size e)) (Heap.get?_push_of_some _ e)
  obtain ⟨t, ht, hq⟩ := hbody A outer s (unl H cs) vs _ E (hr.deeper _) hsp
  have I : Inv (NdefX.ncx CX0 P w K mg base N F.nf f A outer s (unl H cs) E) [] (NdefX.startF N vs ws) (unl H cs) { s with heap := h₁, toks := s.toks + (ps.zip us).length } := NdefX.inv_startN S hr.hd (env0_unl e0 g3) hl r (C.at g3 e0.hok) hns kp
  refine PySem.W.kla_codeExpr (wpAny_mono (ht.run [] _ _ _ _ I hq) (fun v s' hq => ?_) fun e s' hq => hq)
  obtain ⟨w', H', J', rv, q⟩ := hq
  exact ⟨w', H', J'.os, J'.bare, J'.base, J'.hok, rv, q⟩
end
section
variable {X : Cx} {pins : List (Addr × Obj)} {σ : L2.St} {H : Hp} {s : Shared}
def ownCells (X : Cx) (h : Heap) : Lent := (X.env.cells.map (·.1)).filterMap fun y => match X.env.cells.lookup y with
  | some c => (h.get? c).map fun o => (c, o)
  | none => none
theorem look_has {α β : Type} [BEq α] [LawfulBEq α] {a : α} {b : β} : ∀ {l : List (α × β)}, (a, b) ∈ l → ∃ b', l.lookup a = some b'
  | (x, y) :: r, h => by
    by_cases e : a = x
    · subst e
      exact ⟨y, by simp [List.lookup]⟩
    · rcases List.mem_cons.mp h with h | h
      · cases h
        exact absurd rfl e
      · obtain ⟨b', h'⟩ := look_has h
        refine ⟨b', ?_⟩
        have : (a == x) = false := by simpa using e
        simp [List.lookup, this, h']
theorem mem_look {α β : Type} [BEq α] [LawfulBEq α] {a : α} {b : β} : ∀ {l : List (α × β)}, l.lookup a = some b → (a, b) ∈ l
  | (x, y) :: r, h => by
    by_cases e : a = x
    · subst e
      simp [List.lookup] at h
      rw [h]
      exact List.mem_cons_self
    · have e2 : (a == x) = false := by simpa using e
      simp only [List.lookup, e2] at h
      exact List.mem_cons_of_mem _ (mem_look h)
theorem own_mem {c : Addr} {o : Obj} {h : Heap} (e : (c, o) ∈ ownCells X h) : h.get? c = some o ∧ ∃ y, X.env.cells.lookup y = some c := by
  unfold ownCells at e
  obtain ⟨y, _, hy⟩ := List.mem_filterMap.mp e
  cases hl : X.env.cells.lookup y with
  | none => rw [hl] at hy; cases hy
  | some c' =>
    rw [hl] at hy
    dsimp only at hy
    cases ho : h.get? c' with
    | none => rw [ho] at hy; cases hy
    | some o' =>
      rw [ho] at hy
      cases hy
      exact ⟨ho, y, hl⟩
theorem own_look {c : Addr} {o : Obj} {h : Heap} (e : (ownCells X h).lookup c = some o) : h.get? c = some o ∧ ∃ y, X.env.cells.lookup y = some c := own_mem (mem_look e)
theorem own_in {c : Addr} {o : Obj} {h : Heap} {y : Str} (hy : X.env.cells.lookup y = some c) (ho : h.get? c = some o) : (ownCells X h).lookup c = some o := by
  have hm : (c, o) ∈ ownCells X h := by
    unfold ownCells
    refine List.mem_filterMap.mpr ⟨y, List.mem_map.mpr ⟨_, PySem.mem_of_lookup hy, rfl⟩, ?_⟩
    rw [hy]
    dsimp only
    rw [ho]
    rfl
  obtain ⟨o', h'⟩ := look_has hm
  have := (own_look h').1
  rw [ho] at this
  cases this
  exact h'
structure Lends (X : Cx) (σ : L2.St) (H : Hp) (cs : Lent) : Prop where
  new : Fresh cs H
  cel : Cells cs
  got : ∀ (scope : PySem.Scope) (fr : List Str) (js : List Nat), NdefX.ndefB X.env.scope scope fr = true → js.map (fun j => X.N[j]?) = fr.map some → Caught (cloFrom X.env.cells scope.names []) fr (js.map (NdefX.slotAt σ)) cs
theorem lends_own (I : Inv X pins σ H s) : Lends X σ H (ownCells X s.heap) := by
  have cel : Cells (ownCells X s.heap) := fun c o e => by
    obtain ⟨h1, y, h2⟩ := own_look e
    obtain ⟨v, o', h3, h4⟩ := I.cell y c h2
    rw [h1] at h3
    cases h3
    exact ⟨v, h4⟩
  refine ⟨fun c o e => ?_, cel, fun scope fr js hfr hjs => ?_⟩
  · obtain ⟨_, y, h2⟩ := own_look e
    exact I.freeC y c h2
  · have C := NdefX.Caps.made I.ok (NdefX.ndef_free hfr) (NdefX.ndef_fr hfr) hjs
    have A := NdefX.cells_of I C
    refine ⟨A.len, fun y c e => ?_, A.inj, fun i y e => ?_⟩
    · obtain ⟨_, v, o, h1, h2⟩ := A.all y c e
      exact ⟨o, v, own_in (C.sub y c e) h1, h2⟩
    · obtain ⟨c, h1, h2⟩ := A.has i y e
      refine ⟨c, h1, fun v hv => ?_⟩
      obtain ⟨u, r, o, h3, h4⟩ := h2 v hv
      exact ⟨u, o, r, own_in (C.sub y c h1) h3, h4⟩
theorem env0_lend (I : Inv X pins σ H s) (hfn : ∀ x, X.fn x = true) : Env0 X.prog X.w X.K X.mg X.base X.A X.stack s (lend H (ownCells X s.heap)) := by
  have L := lends_own I
  have big : ∀ c o, (ownCells X s.heap).lookup c = some o → X.s_0.heap.objs.size ≤ c := fun c o e => by
    obtain ⟨_, y, h2⟩ := own_look e
    exact I.ok.cab y c (hfn y) h2
  refine ⟨I.ok.frames, I.ok.mod, fun b o e => ⟨(I.bs b o e).1, ?_⟩, Nat.le_trans I.ok.bsz I.sz, I.stack, fun b hb => ?_, hok_lend I.hok L.new (fun c o e => (own_look e).1), I.bare⟩
  · cases hl : (ownCells X s.heap).lookup b with
    | none => rw [lend_out hl]; exact (I.bs b o e).2
    | some ob =>
      exact absurd (Nat.lt_of_lt_of_le (Heap.lt_size e) I.ok.bsz) (Nat.not_lt.mpr (big _ _ hl))
  · cases hl : (ownCells X s.heap).lookup b with
    | none => rw [lend_out hl]; exact I.stkFree b hb
    | some ob =>
      exfalso
      rcases List.mem_cons.mp (I.stkSub b hb) with e | hb
      · obtain ⟨v, hv⟩ := L.cel _ _ hl
        obtain ⟨m, hn, _⟩ := I.loc
        obtain ⟨o2, es, ep, h1, h3, _⟩ := hn
        rw [← e, (own_look hl).1] at h1
        cases h1
        rw [hv] at h3
        cases h3
      · obtain ⟨_, o, ho, _⟩ := I.ok.funs.mem hb
        exact absurd (Heap.lt_size ho) (Nat.not_lt.mpr (big _ _ hl))
theorem pe_callLd {k : Nat} {f : Addr} {fd : FuncData} {ps : List Str} {sp : Sp} {x : Str} {p pos : Pos} {e : PySem.Expr} {es : List PySem.Expr} {t : TA} (F : FnOk X.prog X.w X.K X.mg X.base CX0 k f fd ps sp) (hr : Room k X.A) (hg : Gl X x) (hm : X.mg x = some (.ref f)) (hk : PySem.W.keepIn X.K (.ref f) = true) (hb : Binds X.K fd ps []) (hfn : ∀ x, X.fn x = true)
    (ha : PA X (e :: es) t) (hdb : (x == ("__debug__" : Str)) = false := by decide) (he : starEach (e :: es) X.env = (false, eval e X.env) :: starEach es X.env := by rfl) (hpl : (backTo pos (starEach es X.env)).any (·.1) = false := by rfl) :
    PE X (.Call (.Name x p) (e :: es) [] pos) (fun σ H Q => t σ H fun vs H1 => ∀ cs, Lends X σ H1 cs → sp vs (lend H1 cs) (fun v H2 => LentAt cs H2 ∧ Q v (unl H2 cs)) E0) := by
  refine ⟨fun pins s σ H Q I h => ?_⟩
  refine wpAny_Call_Name_kw (ld_glob I hg hm ?_ hdb)
  refine PySem.W.callWith_K (h₀ := X.base) I.ok.mod.kin hk (thn (ha.run pos pins s σ H _ I h) fun us s1 ⟨vs, H1, I1, r, q⟩ => ⟨I1.kIn, ?_⟩) he hpl
  have L := lends_own I1
  have q := q _ L
  have hl : us.length = ps.length := by rw [← r.length]; exact F.len _ _ _ _ q
  have hb' := hb s1 us I1.kIn (by rw [List.append_nil]; exact hl)
  rw [List.append_nil] at hb'
  refine wpAny_call (codeAny_mono (F.run X.A X.stack s1 _ ⟨us, []⟩ us vs _ E0 hr (env0_lend I1 hfn) hb' r q) fun r s' hq => ?_)
  cases r with
  | error e => exact (show False from hq).elim
  | ok fl =>
    cases fl with
    | ret u =>
      obtain ⟨v, H2, h1, h2, h3, h4, h5, h6, h7⟩ := hq
      exact I1.after ⟨v, unl H2 _, h1, h2, un_back h3 L.new h6 h4 (fun c o e => (own_look e).1), hok_unl h4 h6, h5, h7⟩
    | next => exact False.elim hq
    | brk => exact False.elim hq
    | cont => exact False.elim hq
end
theorem pe_lamXc {X : Cx} {c P : Addr} {params : Arguments} {body : PySem.Expr} {scope : PySem.Scope} {pos : Pos} {fr : List Str} (tb : LamX.TabB X.base X.mg c P) (hc : X.env.code = .ref c) (hd : defaultsOf params X.env = ([], []))
    (hfr : NdefX.ndefB X.env.scope scope fr = true) : PE X (.Lambda params body scope pos) (fun σ H Q => LamX.TabS H P (X.env.qual ++ "<lambda>") ∧ ∀ (f c : Addr) (H1 : Hp), Fr P H H1 → (∀ b, H1 b = none → H b = none) → LamX.TabS H1 P (X.env.qual ++ "<lambda>") → H f = none →
      H1 f = some (LamO f ⟨X.env.qual ++ "<lambda>", params, body, scope, cloFrom X.env.cells scope.names [], c⟩) → H1 c = some (LamX.CodeO c (X.env.qual ++ "<lambda>")) → Q (.ref f) H1) :=
  ⟨fun pins s σ H Q I h => (pe_lamX tb hc hd fun y hy e => ((NdefX.ndef_free hfr) y hy e).elim (fun z => I.ok.has _ (.inl z)) fun z => I.ok.has _ (.inr z)).run pins s σ H Q I h⟩


theorem cut_fromU (xs : List V) (k : Nat) (h : k ≤ xs.length) : cutV xs (some (k : Int)) none = xs.drop k := by
  have e : HT.sIx xs.length 0 (some (k : Int)) = k := by
    show (if (k : Int) < 0 then ((k : Int) + (xs.length : Int)).toNat else min ((k : Int).toNat) xs.length) = k
    rw [if_neg (by omega)]
    omega
  have e2 : HT.sIx xs.length xs.length none = xs.length := rfl
  unfold cutV
  rw [e, e2]
  exact List.take_of_length_le (by rw [List.length_drop]; omega)
theorem TabS.fr1 {H H' : Hp} {P p : Addr} {q : Str} {xs : List V} (h : LamX.TabS H P q) (hp : H p = some (.lst xs)) (f : Fr p H H') : LamX.TabS H' P q := by
  obtain ⟨ps, h1, h2, h3⟩ := h
  refine ⟨ps, f _ _ (fun e => by rw [e, hp] at h1; cases h1) h1, h2, fun pos cv hc => ?_⟩
  obtain ⟨c, e, h4⟩ := h3 pos cv hc
  exact ⟨c, e, f _ _ (fun e => by rw [e, hp] at h4; cases h4) h4⟩
mutual
theorem TrAt.kind1 {ok : Addr → Prop} {H : Hp} : ∀ (t : Tr) (v : V), TrAt ok H v t → TrAt (fun b => ok b ∧ ∀ ps, H b ≠ some (.tbl ps)) H v t
  | .node c ks, v, x => by
    cases x with
    | node h1 h2 k1 k2 c1 c2 r => exact .node h1 h2 ⟨k1, fun ps e => by rw [h1] at e; cases e⟩ ⟨k2, fun ps e => by rw [h2] at e; cases e⟩ c1 c2 (TrsAt.kind1 ks _ r)
theorem TrsAt.kind1 {ok : Addr → Prop} {H : Hp} : ∀ (ts : List Tr) (vs : List V), TrsAt ok H vs ts → TrsAt (fun b => ok b ∧ ∀ ps, H b ≠ some (.tbl ps)) H vs ts
  | [], vs, x => by cases x; exact .nil
  | t :: r, vs, x => by
    cases x with
    | cons a b => exact .cons (TrAt.kind1 t _ a) (TrsAt.kind1 r _ b)
end
section
variable {P : Program} {w : World} {K : PySem.W.Frag} {mg : Str → Option Value} {base : Heap}
theorem ok_built_upward (T : Txt K mg) (k : Nat) (hk : 5 ≤ k) (Pt : Addr) (qn : Str) : FnOk P w K mg base CX0 (k + 1) T.f_built_upward T.d_built_upward ["tree", "made"] (sp_built_upward P w K mg base k Pt qn) := by
  have G_parts_upward : FnOk P w K mg base CX0 5 T.f_parts_upward T.d_parts_upward ["tree"] sp_parts_upward := ok_parts_upward T
  refine T.F_built_upward.ok sc_built_upward (fun vs H Q E h => ?_) (fun cdv A outer s H vs Q E hr h => ?_)
  · obtain ⟨v, t, f, It, rfl, _⟩ := h
    rfl
  obtain ⟨v, t, f, It, rfl, ht, hz, hIt, hT, C, q⟩ := h
  have C_made := C
  refine ⟨_, (pss_cons (ps_set (i := 2) sc_built_upward.nd rfl (Or.inl rfl) (pe_lst pa_nil)) (pss_cons (ps_for PassesOwn.never rfl (pi_list (pe_call G_parts_upward (hr.mono (by omega)) (by rfl) T.m_parts_upward T.F_parts_upward.kp T.b_parts_upward .nil pass0 (pa_cons (pv 0) pa_nil))) (pg_tup rfl (pgs_cons (pg_name (i := 3) sc_built_upward.nd rfl (Or.inl rfl)) (pgs_cons (pg_name (i := 4) sc_built_upward.nd rfl (Or.inl rfl)) pgs_nil))) (pss_cons (ps_set (i := 5) sc_built_upward.nd rfl (Or.inl rfl) (pe_op op_sub (pe_callB call_len_seq (by rfl) T.z_len PySem.boot_len (pa_cons (pv 2) pa_nil)) (pe_callB call_len_seq (by rfl) T.z_len PySem.boot_len (pa_cons (pv 4) pa_nil)))) (pss_cons (ps_set (i := 6) sc_built_upward.nd rfl (Or.inl rfl) (pe_slice sl_list (pv 2) (po_some (pv 5)) po_none)) (pss_cons (ps_delFrom (pv 2) (pv 5)) (pss_one (ps_expr (pe_bm PySem.F.plainAttrs_list PySem.F.slot_list_append PySem.F.type_list_append mt_append (pv 2) (pa_cons (pe_calX (i := 1) C_made (hr.mono (by omega)) rfl (.inl (by rfl)) (pa_cons (pv 3) (pa_cons (pv 6) pa_nil))) pa_nil)))))))) (pss_one (ps_ret (pe_ix ix_list (pv 2) pe_int (fun _ _ => rfl)))))), ?_⟩
  obtain ⟨ps0, hP0, _, _⟩ := id hT
  refine ⟨(by show 0 ≤ sizeLine; decide), fun wl hwl => ?_⟩
  have nPw : Pt ≠ wl := ne_of_none hP0 hwl
  have ht1 := (ht.off hwl).same (same_new (o := .lst []) hwl)
  refine ⟨_, rfl, v, t, _, rfl, ht1, hz, fun r wsv H1 s1 hr0 hr1 hparts => ?_⟩
  have hw1 : H1 wl = some (.lst []) := s1 _ _ upd_same
  have nrw : r ≠ wl := fun e => by rw [e, upd_same] at hr0; cases hr0
  have sH1 : Same H H1 := (same_new hwl).trans s1
  have hr00 : H r = none := by rw [upd_ne nrw] at hr0; exact hr0
  have nPr : Pt ≠ r := ne_of_none hP0 hr00
  have hp2 : TrsAt (fun b => b ≠ wl ∧ b ≠ r ∧ b ≠ Pt) H1 wsv t.post := by
    exact (TrsAt.kind1 _ _ hparts).weak fun b ⟨⟨k, h⟩, n⟩ => ⟨k.2, fun e => h (by rw [e]; exact hr0), fun e => n ps0 (by rw [e]; exact sH1 _ _ hP0)⟩
  refine ⟨r, rfl, ⟨_, SqL.of hr1⟩, for_list (xs := wsv) (fun i σ H2 => ∃ (y3 y4 y5 y6 : Option V) (bs : List (V × Tr × List Addr)), σ = [some v, some (.ref f), some (.ref wl), y3, y4, y5, y6] ∧ H2 wl = some (.lst (bs.map (·.1))) ∧
      (∀ b ∈ bs, It (fun b => H b = none ∧ b ≠ wl) H2 b.1 b.2.1 b.2.2) ∧ (lstsI bs).Nodup ∧ Runs (bs.map (·.2.1)) (t.post.drop i) [t] ∧ sizes (bs.map (·.2.1)) ≤ i ∧ Fr Pt H H2 ∧ LamX.TabS H2 Pt qn ∧ H2 r = some (.lst wsv) ∧ TrsAt (fun b => b ≠ wl ∧ b ≠ r ∧ b ≠ Pt) H2 wsv t.post)
    ⟨none, none, none, none, [], rfl, hw1, (fun _ h => by cases h), List.nodup_nil, (by rw [List.drop_zero]; exact runs_all t), (Nat.le_refl _), Fr.same sH1, hT.ext sH1, hr1, hp2⟩ (fun i σ H2 _ ⟨_, _, _, _, _, _, _, _, _, _, _, _, _, h, _⟩ => SqL.of h) ?_ ?_⟩
  · rintro i x σ H2 hx ⟨y3, y4, y5, y6, bs, rfl, hw2, hb, hnd, hst, hsz, hf, hT2, hr2, hpp⟩
    obtain ⟨t1, ht1', hx2⟩ := hpp.getV hx
    have hdrop : t.post.drop i = t1 :: t.post.drop (i + 1) := by
      obtain ⟨hlt, e⟩ := List.getElem?_eq_some_iff.mp ht1'
      rw [← e]
      exact List.drop_eq_getElem_cons hlt
    have hi : i < t.size := by
      have := (List.getElem?_eq_some_iff.mp ht1').1
      rw [post_len] at this
      exact this
    rw [hdrop] at hst
    generalize hus : bs.map (·.2.1) = us0 at hst
    cases hst with
    | cons hst =>
    rename_i us ks c
    obtain ⟨b1, b2, rfl, e1, e2⟩ := List.map_eq_append_iff.mp hus
    subst e1
    subst e2
    rw [List.map_append, sizes_append] at hsz
    have lz := len_sizes (b2.map (·.2.1))
    have lz1 := len_sizes (b1.map (·.2.1))
    rw [List.length_map] at lz lz1
    cases hx2 with
    | node g1 g2 o1 o2 c1 c2 rr =>
      rename_i ax lx vx
      have lr := rr.len
      rw [List.length_map] at lr
      refine ⟨_, _, rfl, SqT.of g1, rfl, ?_⟩
      refine ⟨_, _, rfl, _, _, rfl, rfl, _, rfl, wl, _, rfl, .inl (SqL.of hw2), _, rfl, lx, _, rfl, .inl (SqL.of g2), _, _, rfl, rfl, ?_⟩
      rw [List.length_map, lr, List.length_append]
      have ek : (((b1.length + b2.length : Nat) : Int) - (b2.length : Int)) = (b1.length : Int) := by omega
      show gName 5 (.int (((b1.length + b2.length : Nat) : Int) - (b2.length : Int))) _ _ _
      rw [ek]
      refine ⟨_, rfl, _, rfl, _, rfl, wl, _, rfl, SqL.of hw2, fun p hp => ?_⟩
      rw [cut_fromU _ _ (by rw [List.length_map, List.length_append]; omega)]
      have hcut : ((b1 ++ b2).map (·.1)).drop b1.length = b2.map (·.1) := by
        rw [List.map_append, List.drop_left' (List.length_map _)]
      have htk : ((b1 ++ b2).map (·.1)).take b1.length = b1.map (·.1) := by
        rw [List.map_append, List.take_left' (List.length_map _)]
      rw [hcut]
      have nPp : Pt ≠ p := by
        intro e
        obtain ⟨_, e2, _⟩ := hT2
        rw [← e, e2] at hp
        cases hp
      have npw : p ≠ wl := fun e => by rw [e, hw2] at hp; cases hp
      have hp0 : H p = none := by
        cases e : H p with
        | none => rfl
        | some o => rw [hf p o nPp.symm e] at hp; cases hp
      have okP : ∀ b, (H b = none ∧ b ≠ wl) → b ≠ Pt := fun b h e => by rw [e, hP0] at h; cases h.1
      refine ⟨_, rfl, _, rfl, wl, _, b1.length, rfl, rfl, (by rw [upd_ne npw.symm]; exact hw2), (by rw [List.length_map, List.length_append]; omega), ?_⟩
      rw [htk]
      generalize hH5 : upd (upd H2 p (.lst (b2.map (·.1)))) wl (.lst (b1.map (·.1))) = H5
      have hw5 : H5 wl = some (.lst (b1.map (·.1))) := by rw [← hH5]; exact upd_same
      have hp5 : H5 p = some (.lst (b2.map (·.1))) := by rw [← hH5, upd_ne npw]; exact upd_same
      have k25 : ∀ b o, b ≠ wl → H2 b = some o → H5 b = some o := fun b o n e => by rw [← hH5, upd_ne n, upd_ne (ne_of_none e hp)]; exact e
      have T5 : LamX.TabS H5 Pt qn := TabS.fr1 hT2 hw2 fun b o n e => k25 b o n e
      have F5 : Fr Pt H H5 := fun b o n e => k25 _ _ (ne_of_none e hwl) (hf b o n e)
      refine ⟨_, rfl, .inl ⟨rfl, _, SqL.of hw5⟩, rfl, F5, _, rfl, _, rfl, F5, c, p, b2, (fun b => H b = none ∧ b ≠ wl), rfl, c1, c2, hp5, ⟨hp0, npw⟩, ?_, ?_, by omega, okP, T5, fun v' as H6 f6 T6 it6 nd6 ha6 => ?_⟩
      · exact fun b hb5 => hIt.imp (fun _ h => h) (fun b o h e => k25 b o h.2 e) (hb b (List.mem_append_right _ hb5))
      · have e0 : lstsI (b1 ++ b2) = lstsI b1 ++ lstsI b2 := by simp [lstsI]
        rw [e0] at hnd
        rw [List.nodup_cons]
        refine ⟨fun hm => ?_, (List.nodup_append.mp hnd).2.1⟩
        obtain ⟨as, ha, hl2⟩ := List.mem_flatten.mp hm
        obtain ⟨b, hb8, rfl⟩ := List.mem_map.mp ha
        obtain ⟨_, xs, e5⟩ := hIt.lst (hb b (List.mem_append_right _ hb8)) p hl2
        rw [hp] at e5
        cases e5
      have hw6 := f6 _ _ nPw.symm hw5
      refine ⟨wl, _, v', rfl, rfl, hw6, Nat.lt_of_le_of_lt (show (b1.map (·.1)).length ≤ 1000000 by rw [List.length_map]; omega) (by decide), ?_⟩
      have k27 : ∀ b o, b ≠ Pt → b ≠ wl → H2 b = some o → (upd H6 wl (.lst (b1.map (·.1) ++ [v']))) b = some o := fun b o n1 n2 e => by
        rw [upd_ne n2]
        exact f6 _ _ n1 (k25 _ _ n2 e)
      obtain ⟨ps5, hP5, _, _⟩ := id T5
      have free5 : ∀ b, H5 b = none → H b = none ∧ b ≠ wl := fun b h => by
        refine ⟨?_, fun e => by rw [e, hw5] at h; cases h⟩
        cases e : H b with
        | none => rfl
        | some o =>
          have n1 : b ≠ Pt := fun e2 => by rw [e2, hP5] at h; cases h
          rw [F5 _ _ n1 e] at h
          cases h
      refine ⟨_, _, _, _, b1 ++ [(v', .node c (b2.map (·.2.1)), as)], rfl, ?_, ?_, ?_, ?_, ?_, ?_, ?_, k27 _ _ nPr.symm nrw hr2, ?_⟩
      · rw [upd_same, List.map_append]
        rfl
      · intro b hb7
        rcases List.mem_append.mp hb7 with h | h
        · exact hIt.imp (fun _ h => h) (fun b o h e => k27 b o (okP b h) h.2 e) (hb b (List.mem_append_left _ h))
        · simp only [List.mem_singleton] at h
          subst h
          refine hIt.imp (fun b h => h.elim id (free5 b)) (fun b o h e => ?_) it6
          rw [upd_ne (h.elim (fun h => h.2) fun h => (free5 b h).2)]
          exact e
      · have e0 : lstsI (b1 ++ b2) = lstsI b1 ++ lstsI b2 := by simp [lstsI]
        have e1 : lstsI (b1 ++ [(v', Tr.node c (b2.map (·.2.1)), as)]) = lstsI b1 ++ as := by simp [lstsI]
        rw [e0] at hnd
        rw [e1]
        refine nodup_snoc (List.nodup_append.mp hnd).1 nd6 fun a h1 h2 => ?_
        obtain ⟨as1, hm1, hl1⟩ := List.mem_flatten.mp h1
        obtain ⟨b, hb8, rfl⟩ := List.mem_map.mp hm1
        obtain ⟨o1, xs, e5⟩ := hIt.lst (hb b (List.mem_append_left _ hb8)) a hl1
        rcases ha6 a h2 with h | h
        · rcases List.mem_cons.mp h with h | h
          · rw [h, hp] at e5; cases e5
          · exact (List.nodup_append.mp hnd).2.2 a h1 a h rfl
        · rw [k25 _ _ o1.2 e5] at h
          cases h
      · rw [List.map_append]
        exact hst
      · rw [List.map_append, sizes_append]
        simp only [List.map_cons, List.map_nil, sizes, Tr.size]
        omega
      · intro b o n e
        exact k27 b o n (ne_of_none e hwl) (hf b o n e)
      · exact TabS.fr1 T6 hw6 fun b o n e => by rw [upd_ne n]; exact e
      · exact hpp.keep fun b o h e => k27 b o h.2.2 h.1 e
  · rintro σ H2 ⟨y3, y4, y5, y6, bs, rfl, hw2, hb, hnd, hst, hsz, hf, hT2, hr2, hpp⟩
    rw [hpp.len, List.drop_length] at hst
    generalize hus : bs.map (·.2.1) = us0 at hst
    cases hst
    obtain ⟨b, rfl⟩ : ∃ b, bs = [b] := by
      have := congrArg List.length hus
      rw [List.length_map] at this
      exact List.length_eq_one_iff.mp this
    simp only [List.map_cons, List.map_nil, List.cons.injEq, and_true] at hus
    refine ⟨_, rfl, wl, _, 0, b.1, rfl, rfl, SqL.of hw2, atI_nat (j := 0) rfl, ?_⟩
    have hb1 := hb b (by simp)
    refine q b.1 b.2.2 H2 hf hT2 ?_ (by simpa [lstsI] using hnd)
    rw [← hus]
    exact hIt.imp (fun b h => h.1) (fun _ _ _ h => h) hb1
end

def FrX (E : Addr → Prop) (H H' : Hp) : Prop := ∀ b o, ¬ E b → H b = some o → H' b = some o
theorem FrX.refl {E : Addr → Prop} {H : Hp} : FrX E H H := fun _ _ _ h => h
theorem FrX.trans {E : Addr → Prop} {H H1 H2 : Hp} (a : FrX E H H1) (b : FrX E H1 H2) : FrX E H H2 := fun c o n h => b c o n (a c o n h)
theorem FrX.same {E : Addr → Prop} {H H' : Hp} (s : Same H H') : FrX E H H' := fun b o _ h => s b o h
def sp_madeJ (R : Tr → V) (E : Addr → Prop) (H0 : Hp) (J : List Tr → Hp → Prop) (t0 : Tr) : Sp := fun vs H Q _ => ∃ (c : Nat) (bl : Addr) (ks done rest : List Tr), vs = [.str (ch c), .ref bl] ∧ t0.post = done ++ .node c ks :: rest ∧ 97 ≤ c ∧ c ≤ 122 ∧ ks.length ≤ 1000000 ∧
  H bl = some (.lst (ks.map R)) ∧ H0 bl = none ∧ FrX E H0 H ∧ J done H ∧ ∀ H', FrX E H H' → J (done ++ [.node c ks]) H' → Q (R (.node c ks)) H'
def sp_built_upwardJ (P : Program) (w : World) (K : PySem.W.Frag) (mg : Str → Option Value) (base : Heap) (k : Nat) : Sp := fun vs H Q _ => ∃ (v : V) (t : Tr) (f : Addr) (R : Tr → V) (E : Addr → Prop) (J : List Tr → Hp → Prop), vs = [v, .ref f] ∧ TrAt (fun b => ¬ E b) H v t ∧ t.size ≤ 1000000 ∧
  (∀ b, E b → H b ≠ none) ∧ (∀ l H' b, J l H' → E b → H' b ≠ none) ∧ (∀ l H1 H2, (∀ b o, H b ≠ none → H1 b = some o → H2 b = some o) → J l H1 → J l H2) ∧ J [] H ∧
  CalX P w K mg base k f (fun H' => FrX E H H') 2 (sp_madeJ R E H J t) ∧ ∀ H', FrX E H H' → J t.post H' → Q (R t) H'
section
variable {P : Program} {w : World} {K : PySem.W.Frag} {mg : Str → Option Value} {base : Heap}
theorem ok_built_upwardJ (T : Txt K mg) (k : Nat) (hk : 5 ≤ k) : FnOk P w K mg base CX0 (k + 1) T.f_built_upward T.d_built_upward ["tree", "made"] (sp_built_upwardJ P w K mg base k) := by
  have G_parts_upward : FnOk P w K mg base CX0 5 T.f_parts_upward T.d_parts_upward ["tree"] sp_parts_upward := ok_parts_upward T
  refine T.F_built_upward.ok sc_built_upward (fun vs H Q E h => ?_) (fun cdv A outer s H vs Q E hr h => ?_)
  · obtain ⟨v, t, f, R, EE, J, rfl, _⟩ := h
    rfl
  obtain ⟨v, t, f, R, EE, J, rfl, ht, hz, hE, hJE, hJ, J0, C, q⟩ := h
  have C_made := C
  refine ⟨_, (pss_cons (ps_set (i := 2) sc_built_upward.nd rfl (Or.inl rfl) (pe_lst pa_nil)) (pss_cons (ps_for PassesOwn.never rfl (pi_list (pe_call G_parts_upward (hr.mono (by omega)) (by rfl) T.m_parts_upward T.F_parts_upward.kp T.b_parts_upward .nil pass0 (pa_cons (pv 0) pa_nil))) (pg_tup rfl (pgs_cons (pg_name (i := 3) sc_built_upward.nd rfl (Or.inl rfl)) (pgs_cons (pg_name (i := 4) sc_built_upward.nd rfl (Or.inl rfl)) pgs_nil))) (pss_cons (ps_set (i := 5) sc_built_upward.nd rfl (Or.inl rfl) (pe_op op_sub (pe_callB call_len_seq (by rfl) T.z_len PySem.boot_len (pa_cons (pv 2) pa_nil)) (pe_callB call_len_seq (by rfl) T.z_len PySem.boot_len (pa_cons (pv 4) pa_nil)))) (pss_cons (ps_set (i := 6) sc_built_upward.nd rfl (Or.inl rfl) (pe_slice sl_list (pv 2) (po_some (pv 5)) po_none)) (pss_cons (ps_delFrom (pv 2) (pv 5)) (pss_one (ps_expr (pe_bm PySem.F.plainAttrs_list PySem.F.slot_list_append PySem.F.type_list_append mt_append (pv 2) (pa_cons (pe_calX (i := 1) C_made (hr.mono (by omega)) rfl (.inl (by rfl)) (pa_cons (pv 3) (pa_cons (pv 6) pa_nil))) pa_nil)))))))) (pss_one (ps_ret (pe_ix ix_list (pv 2) pe_int (fun _ _ => rfl)))))), ?_⟩
  refine ⟨(by show 0 ≤ sizeLine; decide), fun wl hwl => ?_⟩
  have nEw : ∀ b, H b = none → ¬ EE b := fun b h e => hE b e h
  have ht1 := (ht.off hwl).same (same_new (o := .lst []) hwl)
  refine ⟨_, rfl, v, t, _, rfl, ht1, hz, fun r wsv H1 s1 hr0 hr1 hparts => ?_⟩
  have hw1 : H1 wl = some (.lst []) := s1 _ _ upd_same
  have nrw : r ≠ wl := fun e => by rw [e, upd_same] at hr0; cases hr0
  have sH1 : Same H H1 := (same_new hwl).trans s1
  have hr00 : H r = none := by rw [upd_ne nrw] at hr0; exact hr0
  have hp2 : TrsAt (fun b => b ≠ wl ∧ b ≠ r ∧ ¬ EE b) H1 wsv t.post := by
    exact hparts.weak fun b ⟨k, h⟩ => ⟨k.2, fun e => h (by rw [e]; exact hr0), k.1⟩
  refine ⟨r, rfl, ⟨_, SqL.of hr1⟩, for_list (xs := wsv) (fun i σ H2 => ∃ (y3 y4 y5 y6 : Option V) (us : List Tr), σ = [some v, some (.ref f), some (.ref wl), y3, y4, y5, y6] ∧ H2 wl = some (.lst (us.map R)) ∧
      Runs us (t.post.drop i) [t] ∧ sizes us ≤ i ∧ FrX EE H H2 ∧ J (t.post.take i) H2 ∧ H2 r = some (.lst wsv) ∧ TrsAt (fun b => b ≠ wl ∧ b ≠ r ∧ ¬ EE b) H2 wsv t.post)
    ⟨none, none, none, none, [], rfl, hw1, (by rw [List.drop_zero]; exact runs_all t), (Nat.le_refl _), FrX.same sH1, (by rw [List.take_zero]; exact hJ _ _ _ (fun b o _ e => sH1 b o e) J0), hr1, hp2⟩ (fun i σ H2 _ ⟨_, _, _, _, _, _, _, _, _, _, _, h, _⟩ => SqL.of h) ?_ ?_⟩
  · rintro i x σ H2 hx ⟨y3, y4, y5, y6, us0, rfl, hw2, hst, hsz, hf, hJ2, hr2, hpp⟩
    obtain ⟨t1, ht1', hx2⟩ := hpp.getV hx
    have hdrop : t.post.drop i = t1 :: t.post.drop (i + 1) := by
      obtain ⟨hlt, e⟩ := List.getElem?_eq_some_iff.mp ht1'
      rw [← e]
      exact List.drop_eq_getElem_cons hlt
    have hi : i < t.size := by
      have := (List.getElem?_eq_some_iff.mp ht1').1
      rw [post_len] at this
      exact this
    have hsplit : t.post = t.post.take i ++ t1 :: t.post.drop (i + 1) := by rw [← hdrop, List.take_append_drop]
    have htake : t.post.take (i + 1) = t.post.take i ++ [t1] := take_succ_of ht1'
    rw [hdrop] at hst
    cases hst with
    | cons hst =>
    rename_i us ks c
    rw [sizes_append] at hsz
    have lz := len_sizes ks
    have lz1 := len_sizes us
    cases hx2 with
    | node g1 g2 o1 o2 c1 c2 rr =>
      rename_i ax lx vx
      have lr := rr.len
      refine ⟨_, _, rfl, SqT.of g1, rfl, ?_⟩
      refine ⟨_, _, rfl, _, _, rfl, rfl, _, rfl, wl, _, rfl, .inl (SqL.of hw2), _, rfl, lx, _, rfl, .inl (SqL.of g2), _, _, rfl, rfl, ?_⟩
      rw [List.length_map, lr, List.length_append]
      have ek : (((us.length + ks.length : Nat) : Int) - (ks.length : Int)) = (us.length : Int) := by omega
      show gName 5 (.int (((us.length + ks.length : Nat) : Int) - (ks.length : Int))) _ _ _
      rw [ek]
      refine ⟨_, rfl, _, rfl, _, rfl, wl, _, rfl, SqL.of hw2, fun p hp => ?_⟩
      rw [cut_fromU _ _ (by rw [List.length_map, List.length_append]; omega)]
      have hcut : ((us ++ ks).map R).drop us.length = ks.map R := by
        rw [List.map_append, List.drop_left' (List.length_map _)]
      have htk : ((us ++ ks).map R).take us.length = us.map R := by
        rw [List.map_append, List.take_left' (List.length_map _)]
      rw [hcut]
      have npw : p ≠ wl := fun e => by rw [e, hw2] at hp; cases hp
      have hp0 : H p = none := by
        cases e : H p with
        | none => rfl
        | some o =>
          by_cases hEp : EE p
          · exact absurd hp (hJE _ _ _ hJ2 hEp)
          · rw [hf p o hEp e] at hp; cases hp
      refine ⟨_, rfl, _, rfl, wl, _, us.length, rfl, rfl, (by rw [upd_ne npw.symm]; exact hw2), (by rw [List.length_map, List.length_append]; omega), ?_⟩
      rw [htk]
      generalize hH5 : upd (upd H2 p (.lst (ks.map R))) wl (.lst (us.map R)) = H5
      have hw5 : H5 wl = some (.lst (us.map R)) := by rw [← hH5]; exact upd_same
      have hp5 : H5 p = some (.lst (ks.map R)) := by rw [← hH5, upd_ne npw]; exact upd_same
      have k25 : ∀ b o, b ≠ wl → H2 b = some o → H5 b = some o := fun b o n e => by rw [← hH5, upd_ne n, upd_ne (ne_of_none e hp)]; exact e
      have F5 : FrX EE H H5 := fun b o n e => k25 _ _ (ne_of_none e hwl) (hf b o n e)
      have J5 : J (t.post.take i) H5 := hJ _ _ _ (fun b o hb e => k25 b o (fun e2 => hb (by rw [e2]; exact hwl)) e) hJ2
      refine ⟨_, rfl, .inl ⟨rfl, _, SqL.of hw5⟩, rfl, F5, _, rfl, _, rfl, F5, c, p, ks, t.post.take i, _, rfl, hsplit, c1, c2, by omega, hp5, hp0, F5, J5, fun H6 f6 J6 => ?_⟩
      have hw6 := f6 _ _ (nEw _ hwl) hw5
      refine ⟨wl, _, _, rfl, rfl, hw6, Nat.lt_of_le_of_lt (show (us.map R).length ≤ 1000000 by rw [List.length_map]; omega) (by decide), ?_⟩
      have k27 : ∀ b o, ¬ EE b → b ≠ wl → H2 b = some o → (upd H6 wl (.lst (us.map R ++ [R (.node c ks)]))) b = some o := fun b o n1 n2 e => by
        rw [upd_ne n2]
        exact f6 _ _ n1 (k25 _ _ n2 e)
      refine ⟨_, _, _, _, us ++ [.node c ks], rfl, ?_, hst, ?_, ?_, ?_, k27 _ _ (nEw _ hr00) nrw hr2, ?_⟩
      · rw [upd_same, List.map_append]
        rfl
      · rw [sizes_append]
        simp only [sizes, Tr.size]
        omega
      · intro b o n e
        exact k27 b o n (ne_of_none e hwl) (hf b o n e)
      · rw [htake]
        exact hJ _ _ _ (fun b o hb e => by rw [upd_ne (fun e2 => hb (by rw [e2]; exact hwl))]; exact e) J6
      · exact hpp.keep fun b o h e => k27 b o h.2.2 h.1 e
  · rintro σ H2 ⟨y3, y4, y5, y6, us, rfl, hw2, hst, hsz, hf, hJ2, hr2, hpp⟩
    rw [hpp.len, List.drop_length] at hst
    rw [hpp.len, List.take_length] at hJ2
    cases hst
    exact ⟨_, rfl, wl, _, 0, R t, rfl, rfl, SqL.of hw2, atI_nat (j := 0) rfl, q H2 hf hJ2⟩
end


theorem join_go (g : Str) (hg : g.cps = #[]) : ∀ (ts : List Tr) (a : Array Nat), (ts.map ws).foldl (fun acc p => acc ++ g.cps ++ p.cps) a = a ++ (wrs ts).toArray
  | [], a => by simp [wrs]
  | t :: r, a => by
    rw [List.map_cons, List.foldl_cons, join_go g hg r, hg]
    simp [wrs, ws]
theorem join_ws (ts : List Tr) : Txt.join (Str.ofString "") (ts.map ws) = ⟨(wrs ts).toArray⟩ := by
  show Builtin.Str.glued _ _ = _
  unfold Builtin.Str.glued
  cases ts with
  | nil => rfl
  | cons t r =>
    have e : (Str.ofString "").cps = #[] := by decide +kernel
    have := join_go (Str.ofString "") e r t.wr.toArray
    simp only [List.map_cons, List.headD_cons, List.drop_succ_cons, List.drop_zero, wrs]
    rw [show (ws t).cps = t.wr.toArray from rfl, this]
    simp
theorem ws_len (ts : List Tr) : ((ts.map ws).map (·.length)).sum = (wrs ts).length := by
  induction ts with
  | nil => rfl
  | cons t r ih => simp only [List.map_cons, List.sum_cons, ih, wrs, List.length_append]; simp [ws, Str.length]
theorem cut_from (xs : List V) (k : Nat) (h : k ≤ xs.length) : cutV xs (some (k : Int)) none = xs.drop k := by
  have e : HT.sIx xs.length 0 (some (k : Int)) = k := by
    show (if (k : Int) < 0 then ((k : Int) + (xs.length : Int)).toNat else min ((k : Int).toNat) xs.length) = k
    rw [if_neg (by omega)]
    omega
  have e2 : HT.sIx xs.length xs.length none = xs.length := rfl
  unfold cutV
  rw [e, e2]
  exact List.take_of_length_le (by rw [List.length_drop]; omega)
def leB (a b : V × Tr × List Addr) : Bool := leW a.2.1 b.2.1
theorem leB_str (l : List (V × Tr × List Addr)) : ((l.map fun b => (b.1, ws b.2.1)).mergeSort leS).map Prod.fst = (l.mergeSort leB).map (·.1) := by
  rw [← PySem.W.sort_maps (r := leB) (s := leS) (fun b : V × Tr × List Addr => (b.1, ws b.2.1)) (fun a _ b _ => rfl), List.map_map]
  rfl
theorem leB_tr (l : List (V × Tr × List Addr)) : (l.mergeSort leB).map (·.2.1) = (l.map (·.2.1)).mergeSort leW :=
  PySem.W.sort_maps (r := leB) (s := leW) (fun b : V × Tr × List Addr => b.2.1) (fun a _ b _ => rfl)
mutual
theorem TrAt.ltr {ok : Addr → Prop} {H : Hp} : ∀ (t : Tr) (v : V), TrAt ok H v t → t.lets Ltr
  | .node c ks, v, x => by
    cases x with
    | node h1 h2 k1 k2 c1 c2 r =>
      simp only [Tr.lets]
      exact ⟨⟨c1, c2⟩, TrsAt.ltr ks _ r⟩
theorem TrsAt.ltr {ok : Addr → Prop} {H : Hp} : ∀ (ts : List Tr) (vs : List V), TrsAt ok H vs ts → letss Ltr ts
  | [], vs, x => trivial
  | t :: r, vs, x => by
    cases x with
    | cons a b =>
      simp only [letss]
      exact ⟨TrAt.ltr t _ a, TrsAt.ltr r _ b⟩
end
abbrev lsts (bs : List (V × Tr × List Addr)) : List Addr := (bs.map fun b => b.2.2).flatten
mutual
theorem TrAt.kind {ok : Addr → Prop} {H : Hp} : ∀ (t : Tr) (v : V), TrAt ok H v t → TrAt (fun b => ok b ∧ ∀ ps, H b ≠ some (.tbl ps)) H v t
  | .node c ks, v, x => by
    cases x with
    | node h1 h2 k1 k2 c1 c2 r => exact .node h1 h2 ⟨k1, fun ps e => by rw [h1] at e; cases e⟩ ⟨k2, fun ps e => by rw [h2] at e; cases e⟩ c1 c2 (TrsAt.kind ks _ r)
theorem TrsAt.kind {ok : Addr → Prop} {H : Hp} : ∀ (ts : List Tr) (vs : List V), TrsAt ok H vs ts → TrsAt (fun b => ok b ∧ ∀ ps, H b ≠ some (.tbl ps)) H vs ts
  | [], vs, x => by cases x; exact .nil
  | t :: r, vs, x => by
    cases x with
    | cons a b => exact .cons (TrAt.kind t _ a) (TrsAt.kind r _ b)
end
theorem TabS.fr {H H' : Hp} {P p : Addr} {q : Str} {xs : List V} (h : LamX.TabS H P q) (hp : H p = some (.lst xs)) (f : Fr p H H') : LamX.TabS H' P q := by
  obtain ⟨ps, h1, h2, h3⟩ := h
  refine ⟨ps, f _ _ (fun e => by rw [e, hp] at h1; cases h1) h1, h2, fun pos cv hc => ?_⟩
  obtain ⟨c, e, h4⟩ := h3 pos cv hc
  exact ⟨c, e, f _ _ (fun e => by rw [e, hp] at h4; cases h4) h4⟩

def ItR : ItP := fun ok H v t as => RowO1 ok H (v, t.told, as)
theorem itOk_ItR : ItOk ItR := ⟨fun hk h x => RowO1.imp x hk h, fun ⟨_, _, _, _, _, h⟩ => TrO.lst _ _ _ h⟩
def sp_written_part : Sp := fun vs H Q _ => ∃ (c : Nat) (l : Addr) (ts : List Tr), vs = [.str (ch c), .ref l] ∧ H l = some (.lst (ts.map fun t => V.str (ws t))) ∧ sizes ts ≤ 1000000 ∧ Q (.str (ws (.node c ts))) H
section
variable {P : Program} {w : World} {K : PySem.W.Frag} {mg : Str → Option Value} {base : Heap}
theorem ok_written_part (T : Txt K mg) : FnOk P w K mg base CX0 1 T.f_written_part T.d_written_part ["letter", "texts"] sp_written_part := by
  refine T.F_written_part.ok sc_written_part (fun vs H Q E h => ?_) (fun cdv A outer s H vs Q E hr h => ?_)
  · obtain ⟨c, l, ts, rfl, _⟩ := h
    rfl
  obtain ⟨c, l, ts, rfl, hl, hz, q⟩ := h
  refine ⟨_, (pss_cons (ps_if (pt_not (pt_truth (pv 1) (by intro _; rfl))) (pss_one (ps_ret (pv 0))) pss_nil) (pss_cons (ps_set (i := 2) sc_written_part.nd rfl (Or.inl rfl) (pe_join pe_str (pv 1))) (pss_one (ps_ret (pe_joined (.cons (pe_fmt (pv 0)) (.cons pe_str (.cons (pe_fmt (pv 2)) (.cons pe_str .nil))))))))), ?_⟩
  cases ts with
  | nil =>
    refine ⟨_, rfl, false, .inl ⟨_, SqL.of hl, rfl⟩, iteT ?_⟩
    exact ⟨_, rfl, q⟩
  | cons t0 r =>
    refine ⟨_, rfl, true, .inl ⟨_, SqL.of hl, rfl⟩, iteF ?_⟩
    generalize hts : t0 :: r = ts at *
    have e0 : (ts.map fun t => V.str (ws t)) = (ts.map ws).map V.str := by simp
    rw [e0] at hl
    refine ⟨⟨_, rfl⟩, _, rfl, _, l, _, rfl, rfl, .inl (SqL.of hl), ?_, ?_⟩
    · rw [ws_len]
      have := wrs_len ts
      have e : (Str.ofString "").length = 0 := by decide +kernel
      rw [e, Nat.mul_zero]
      omega
    rw [join_ws]
    have lw := wrs_len ts
    generalize hW : (⟨(wrs ts).toArray⟩ : Str) = W
    have lW : W.length ≤ 3000000 := by
      rw [← hW]
      show (wrs ts).toArray.size ≤ _
      rw [List.size_toArray]
      omega
    have l1 : (ch c).length = 1 := rfl
    have l2 : (Str.ofString "(").length = 1 := by decide +kernel
    have l3 : (Str.ofString ")").length = 1 := by decide +kernel
    have la : ∀ a b : Str, (a ++ b).length = a.length + b.length := fun a b => by
      show (a.cps ++ b.cps).size = _
      rw [Array.size_append]
      rfl
    have l0 : Str.empty.length = 0 := rfl
    have big : ∀ n : Nat, n ≤ 3000010 → n ≤ sizeLine := fun n h => Nat.le_trans h (by decide)
    refine ⟨_, rfl, .inl ⟨_, rfl, big _ (by omega), _, rfl, big _ (by rw [la]; omega), ?_⟩⟩
    refine ⟨_, rfl, big _ (by rw [la, la]; omega), ?_⟩
    refine ⟨_, rfl, .inl ⟨_, rfl, big _ (by omega), _, rfl, big _ (by rw [la, la, la]; omega), ?_⟩⟩
    refine ⟨_, rfl, big _ (by rw [la, la, la, la]; omega), ?_⟩
    have e : ws (.node c ts) = Str.empty ++ ch c ++ Str.ofString "(" ++ W ++ Str.ofString ")" := by
      have e1 : (Str.ofString "(").cps = #[40] := by decide +kernel
      have e2 : (Str.ofString ")").cps = #[41] := by decide +kernel
      rw [← hW, ← hts]
      show (⟨(c :: brk (wrs _)).toArray⟩ : Str) = (⟨((((#[] ++ #[c]) ++ (Str.ofString "(").cps) ++ (wrs _).toArray) ++ (Str.ofString ")").cps)⟩ : Str)
      rw [e1, e2, brk_wrs]
      simp
    rw [e] at q
    exact q
theorem told_sizes : ∀ (ts : List Tr), sizes (ts.map Tr.told) = sizes ts
  | [] => rfl
  | t :: r => by simp only [List.map_cons, sizes, told_size, told_sizes r]
theorem ok__joined (T : Txt K mg) (B : Tbs T base) : FnOk P w K mg base CX0 2 T.f__joined T.d__joined ["letter", "below"] (sp_made ItR T.P__joined q__joined) := by
  have G_written_part : FnOk P w K mg base CX0 1 T.f_written_part T.d_written_part ["letter", "texts"] sp_written_part := ok_written_part T
  refine okC T.F__joined T.h__joined sc__joined (fun vs H Q E h => ?_) (fun A outer s H vs Q E hr h => ?_)
  · obtain ⟨c, bl, bs, ok, rfl, _⟩ := h
    rfl
  obtain ⟨c, bl, bs0, ok, rfl, c1, c2, hbl, okb, hb0, hnd, hsz0, hok, hT, q⟩ := h
  refine ⟨_, (pss_cons (ps_set (i := 2) sc__joined.nd rfl (Or.inl rfl) (pe_callBK (cr_sortRow hr) (by rfl) T.z_sorted (by decide +kernel) (pa_cons (pv 1) pa_nil) (pk_cons (pe_lamRow B.tb__joined rfl (by rfl) (rowL_mk (x := "row") (by decide +kernel) rfl rfl rfl rfl (fun _ _ _ _ _ _ _ _ _ _ _ _ _ => rfl))) pk_nil))) (pss_one (ps_ret (pe_tup (pa_cons (pe_call G_written_part (hr.mono (by omega)) (by rfl) T.m_written_part T.F_written_part.kp T.b_written_part .nil pass0 (pa_cons (pv 0) (pa_cons (pe_lc (own := [("row", 3)]) (g := gName 3) (te := tOp (rIxT K) (tVar 3) (tC (.int 0))) (tt := tYes) rfl sc__joined.nd (pi_list (pv 2)) (blkOk_by (own := [("row", 3)]) (N := ["letter", "below", "rows", "row"]) (sc := (defScope s__joined)) (by decide +kernel)) (fun _ _ _ _ _ => (pg_name (i := 3) sc__joined.nd rfl (Or.inl rfl))) (fun _ _ _ _ _ => pts_nil) (fun _ _ _ _ _ => (pe_ix ix_tup (pv 3) pe_int (fun _ _ => rfl)))) pa_nil))) (pa_cons (pe_tup (pa_cons (pv 0) (pa_cons (pe_lc (own := [("row", 3)]) (g := gName 3) (te := tOp (rIxT K) (tVar 3) (tC (.int 1))) (tt := tYes) rfl sc__joined.nd (pi_list (pv 2)) (blkOk_by (own := [("row", 3)]) (N := ["letter", "below", "rows", "row"]) (sc := (defScope s__joined)) (by decide +kernel)) (fun _ _ _ _ _ => (pg_name (i := 3) sc__joined.nd rfl (Or.inl rfl))) (fun _ _ _ _ _ => pts_nil) (fun _ _ _ _ _ => (pe_ix ix_tup (pv 3) pe_int (fun _ _ => rfl)))) pa_nil))) pa_nil)))))), ?_⟩
  obtain ⟨ps0, hP0, _, _⟩ := id hT
  generalize hbs : bs0.map (fun b => (b.1, b.2.1.told, b.2.2)) = bs at *
  have e1 : bs0.map (·.1) = bs.map (·.1) := by rw [← hbs, List.map_map]; rfl
  have e2 : (bs0.map (·.2.1)).map Tr.told = bs.map (·.2.1) := by rw [← hbs, List.map_map, List.map_map]; rfl
  have e3 : lstsI bs0 = lsts bs := by rw [← hbs]; simp only [lstsI, lsts, List.map_map]; rfl
  have hb : ∀ b ∈ bs, RowO1 ok H b := by
    intro b h
    rw [← hbs] at h
    obtain ⟨b0, hb1, rfl⟩ := List.mem_map.mp h
    exact hb0 b0 hb1
  have hsz : sizes (bs.map (·.2.1)) ≤ 1000000 := by rw [← e2, told_sizes]; exact hsz0
  rw [e1] at hbl
  rw [e3] at hnd
  have lz := len_sizes (bs.map (·.2.1))
  rw [List.length_map] at lz
  refine ⟨_, rfl, hT, fun f cc H3 f3 hT3' hF hC => ?_⟩
  have hb3 : ∀ b ∈ bs, RowO1 ok H3 b := fun b h => (hb b h).imp (fun _ h => h) fun b o h e => f3 b o (hok b h) e
  have hbl3 := f3 _ _ (hok _ okb) hbl
  refine ⟨bl, f, cc, _, bs.map fun b => (b.1, ws b.2.1), rfl, rfl, hF, hC, ?_, ?_, ?_, fun rs hrs => ?_⟩
  · rw [hbl3, List.map_map]
    rfl
  · intro b hb4
    obtain ⟨b2, hb5, rfl⟩ := List.mem_map.mp hb4
    obtain ⟨p2, x2, e1, e2, _⟩ := hb3 b2 hb5
    exact ⟨p2, _, e1, e2⟩
  · rw [List.length_map]
    exact Nat.le_trans (show _ ≤ 1000000 by omega) (by decide)
  rw [leB_str]
  generalize hcs : bs.mergeSort leB = cs
  have hperm : cs.Perm bs := by rw [← hcs]; exact List.mergeSort_perm _ _
  have hctr : cs.map (·.2.1) = (bs.map (·.2.1)).mergeSort leW := by rw [← hcs, leB_tr]
  have hrs0 : H rs = none := by
    cases e : H rs with
    | none => rfl
    | some o =>
      have n1 : rs ≠ T.P__joined := fun e2 => by
        obtain ⟨_, e3, _⟩ := hT3'
        rw [e2, e3] at hrs
        cases hrs
      rw [f3 _ _ n1 e] at hrs
      cases hrs
  have lcs := hperm.length_eq
  have szc : sizes (cs.map (·.2.1)) = sizes (bs.map (·.2.1)) := sizes_perm (hperm.map _)
  have s34 : Same H3 (upd H3 rs (.lst (cs.map (·.1)))) := same_new hrs
  have hb4 : ∀ b ∈ cs, RowO1 ok (upd H3 rs (.lst (cs.map (·.1)))) b := fun b h => (hb3 b (hperm.mem_iff.mp h)).same s34
  have hR : (upd H3 rs (.lst (cs.map (·.1)))) rs = some (.lst (cs.map (·.1))) := upd_same
  have T4 := hT3'.ext s34
  have F4 : Fr T.P__joined H (upd H3 rs (.lst (cs.map (·.1)))) := fun b o n e => s34 _ _ (f3 b o n e)
  generalize hH4 : upd H3 rs (.lst (cs.map (·.1))) = H4 at *
  refine ⟨_, rfl, _, rfl, rs, rfl, ⟨_, SqL.of hR⟩, fun D hD => ?_⟩
  refine lc_list (xs := cs.map (·.1)) (fun i H5 => H5 D = some (.lst ((cs.take i).map fun b => .str (ws b.2.1))) ∧ Same H4 H5) ⟨upd_same, same_new hD⟩ (fun i H5 _ ⟨_, s⟩ => SqL.of (s _ _ hR)) ?_ ?_
  · rintro i x H5 hx ⟨g1, g2⟩
    rw [List.getElem?_map] at hx
    cases hc : cs[i]? with
    | none => rw [hc] at hx; cases hx
    | some b =>
      rw [hc] at hx
      cases hx
      obtain ⟨p, y, e, h1, h2, h3⟩ := hb4 b (List.mem_of_getElem? hc)
      obtain ⟨bv, bt, bl⟩ := b
      cases e
      refine ⟨rfl, _, rfl, p, _, 0, _, rfl, rfl, SqT.of (g2 _ _ h1), atI_nat (j := 0) rfl, _, g1, ?_, ?_, same_add g2 hD⟩
      · rw [List.length_map, List.length_take]
        exact Nat.lt_of_le_of_lt (show _ ≤ 1000000 by omega) (by decide)
      · rw [upd_same, take_succ_of hc, List.map_append]
        rfl
  rintro H5 ⟨g1, g2⟩
  rw [List.length_map, List.take_length] at g1
  have e0 : (cs.map fun b => V.str (ws b.2.1)) = (cs.map (·.2.1)).map fun t => V.str (ws t) := by simp
  rw [e0] at g1
  refine ⟨c, D, cs.map (·.2.1), rfl, g1, by omega, ?_⟩
  refine ⟨_, rfl, _, rfl, rs, rfl, ⟨_, SqL.of (g2 _ _ hR)⟩, fun D2 hD2 => ?_⟩
  have free4 : ∀ b, H4 b = none → H b = none := fun b h => by
    cases e : H b with
    | none => rfl
    | some o =>
      by_cases n1 : b = T.P__joined
      · obtain ⟨_, e3, _⟩ := T4
        rw [n1, e3] at h
        cases h
      · rw [F4 _ _ n1 e] at h
        cases h
  have hD20 : H D2 = none := free4 _ (g2.free hD2)
  have hD24 : H4 D2 = none := g2.free hD2
  refine lc_list (xs := cs.map (·.1)) (fun i H6 => ∃ ys, H6 D2 = some (.lst ys) ∧ TrsO (fun b => ok b ∧ b ≠ D2) H6 ys ((cs.take i).map (·.2.1)) ((cs.take i).map (·.2.2)).flatten ∧ Same H5 H6) ⟨[], upd_same, .nil, same_new hD2⟩ (fun i H6 _ ⟨_, _, _, s⟩ => SqL.of (s _ _ (g2 _ _ hR))) ?_ ?_
  · rintro i x H6 hx ⟨ys, k1, k2, k3⟩
    rw [List.getElem?_map] at hx
    cases hc : cs[i]? with
    | none => rw [hc] at hx; cases hx
    | some b =>
      rw [hc] at hx
      cases hx
      obtain ⟨p, y, e, h1, h2, h3⟩ := hb4 b (List.mem_of_getElem? hc)
      obtain ⟨bv, bt, bl⟩ := b
      cases e
      have hy := ((h3.off hD24).same (g2.trans k3))
      have kl := k2.len
      rw [List.length_map, List.length_take] at kl
      refine ⟨rfl, _, rfl, p, _, 1, _, rfl, rfl, SqT.of (k3 _ _ (g2 _ _ h1)), atI_nat (j := 1) rfl, ys, k1, ?_, ys ++ [y], upd_same, ?_, same_add k3 hD2⟩
      · exact Nat.lt_of_le_of_lt (show _ ≤ 1000000 by omega) (by decide)
      · rw [take_succ_of hc, List.map_append, List.map_append, List.flatten_append]
        have ky := k2.snoc hy
        simp only [List.map_cons, List.map_nil, List.flatten_cons, List.flatten_nil, List.append_nil]
        exact ky.keep (upd_keep fun b h => h.2)
  rintro H6 ⟨ys, k1, k2, k3⟩
  rw [List.length_map, List.take_length] at k2
  have s46 : Same H4 H6 := g2.trans k3
  refine ⟨(by show 2 ≤ sizeLine; decide), fun a ha => ⟨(by show 2 ≤ sizeLine; decide), fun p hp => ?_⟩⟩
  have nap : a ≠ p := fun e => by rw [← e, upd_same] at hp; cases hp
  have hp1 : H6 p = none := NdefX.upd_none hp
  have s68 : Same H6 (upd (upd H6 a (.tup [.str (ch c), .ref D2])) p (.tup [.str (ws (.node c (cs.map (·.2.1)))), .ref a])) := (same_new ha).trans (same_new hp)
  have s48 := s46.trans s68
  have nDa : D2 ≠ a := ne_of_none k1 ha
  have nDp : D2 ≠ p := ne_of_none k1 hp1
  have e3' : ((cs.map (·.2.2)).flatten).Perm (lsts bs) := (hperm.map _).flatten
  have etold : (Tr.node c (bs0.map (·.2.1))).told = .node c (cs.map (·.2.1)) := by
    rw [hctr, ← e2]
    simp only [Tr.told, tolds_map]
  have ndb := (List.nodup_cons.mp hnd)
  refine q (.ref p) (D2 :: (cs.map (·.2.2)).flatten) _ (fun b o n e => s48 _ _ (F4 b o n e)) (T4.ext s48) ?_ ?_ ?_
  · show RowO1 _ _ (V.ref p, (Tr.node c (bs0.map (·.2.1))).told, _)
    rw [etold]
    refine ⟨p, .ref a, rfl, upd_same, .inr (free4 _ (s46.free hp1)), ?_⟩
    refine .node (by rw [upd_ne nap]; exact upd_same) (by rw [upd_ne nDp, upd_ne nDa]; exact k1) (.inr (free4 _ (s46.free ha))) (.inr hD20) c1 c2 ?_
    exact (k2.same s68).weak fun b h => .inl h.1
  · rw [List.nodup_cons]
    refine ⟨fun hm => ?_, (e3'.nodup_iff).mpr ndb.2⟩
    exact (TrsO.lst _ _ _ k2 D2 hm).1.2 rfl
  · intro b hb8
    rcases List.mem_cons.mp hb8 with h | h
    · exact .inr (h ▸ hD20)
    · refine .inl (List.mem_cons_of_mem _ ?_)
      rw [e3]
      exact e3'.mem_iff.mp h
def sp__written_and_told (Pt : Addr) (q : Str) : Sp := fun vs H Q _ => ∃ (v : V) (t : Tr), vs = [v] ∧ TrAt (fun _ => True) H v t ∧ t.size ≤ 1000000 ∧ LamX.TabS H Pt q ∧
  ∀ v' as H', Fr Pt H H' → LamX.TabS H' Pt q → as.Nodup → RowO1 (fun b => H b = none) H' (v', t.told, as) → Q v' H'
theorem ok__written_and_told (T : Txt K mg) (B : Tbs T base) : FnOk P w K mg base CX0 8 T.f__written_and_told T.d__written_and_told ["tree"] (sp__written_and_told T.P__joined q__joined) := by
  have G_built_upward : FnOk P w K mg base CX0 7 T.f_built_upward T.d_built_upward ["tree", "made"] (sp_built_upward P w K mg base 6 T.P__joined q__joined) := ok_built_upward T 6 (by decide) _ _
  refine T.F__written_and_told.ok sc__written_and_told (fun vs H Q E h => ?_) (fun cdv A outer s H vs Q E hr h => ?_)
  · obtain ⟨v, t, rfl, _⟩ := h
    rfl
  obtain ⟨v, t, rfl, ht, hz, hT, q⟩ := h
  refine ⟨_, (pss_one (ps_ret (pe_call G_built_upward (hr.mono (by omega)) (by rfl) T.m_built_upward T.F_built_upward.kp T.b_built_upward .nil pass0 (pa_cons (pv 0) (pa_cons (pe_glob (v := .ref T.f__joined) rfl T.m__joined rfl) pa_nil))))), ?_⟩
  refine ⟨_, rfl, v, t, T.f__joined, ItR, rfl, ht, hz, itOk_ItR, hT, ?_, fun r as H' f T' x nd => q r as H' f T' nd x⟩
  exact (calX_of (ok__joined T B) T.F__joined T.b__joined (G := fun H' => Fr T.P__joined H H')).imp (by decide) (fun _ h => h) (fun _ _ _ _ h => h)
end
def sp_told_form (Pt : Addr) (q : Str) : Sp := fun vs H Q _ => ∃ (v : V) (t : Tr), vs = [v] ∧ TrAt (fun _ => True) H v t ∧ t.size ≤ 1000000 ∧ LamX.TabS H Pt q ∧
  ∀ x as H', Fr Pt H H' → LamX.TabS H' Pt q → as.Nodup → TrO (fun b => H b = none) H' x t.told as → Q x H'
def sp_written_tree (Pt : Addr) (q : Str) : Sp := fun vs H Q _ => ∃ (v : V) (t : Tr), vs = [v] ∧ TrAt (fun _ => True) H v t ∧ t.size ≤ 1000000 ∧ LamX.TabS H Pt q ∧
  ∀ H', Fr Pt H H' → LamX.TabS H' Pt q → Q (.str (ws t.told)) H'
section
variable {P : Program} {w : World} {K : PySem.W.Frag} {mg : Str → Option Value} {base : Heap}
theorem ok_told_form (T : Txt K mg) (B : Tbs T base) : FnOk P w K mg base CX0 9 T.f_told_form T.d_told_form ["tree"] (sp_told_form T.P__joined q__joined) := by
  have G__written_and_told : FnOk P w K mg base CX0 8 T.f__written_and_told T.d__written_and_told ["tree"] (sp__written_and_told T.P__joined q__joined) := ok__written_and_told T B
  refine T.F_told_form.ok sc_told_form (fun vs H Q E h => ?_) (fun cdv A outer s H vs Q E hr h => ?_)
  · obtain ⟨v, t, rfl, _⟩ := h
    rfl
  obtain ⟨v, t, rfl, ht, hz, hT, q⟩ := h
  refine ⟨_, (pss_one (ps_ret (pe_ix ix_tup (pe_call G__written_and_told (hr.mono (by omega)) (by rfl) T.m__written_and_told T.F__written_and_told.kp T.b__written_and_told .nil pass0 (pa_cons (pv 0) pa_nil)) pe_int (fun _ _ => rfl)))), ?_⟩
  refine ⟨_, rfl, v, t, rfl, ht, hz, hT, fun v' as H' f T' nd row => ?_⟩
  obtain ⟨p, x, rfl, h1, h2, h3⟩ := row
  exact ⟨p, _, 1, _, rfl, rfl, SqT.of h1, atI_nat (j := 1) rfl, q x as H' f T' nd h3⟩
end

abbrev nI (n : Nat) : V := .int (n : Int)
theorem nI_map (xs : List Nat) : xs.map nI = (xs.map fun n : Nat => (n : Int)).map V.int := by rw [List.map_map]; rfl
theorem tabsN_fr1 {TT : List NdefX.NTab} {H H' : Hp} {p : Addr} {xs : List V} (h : NdefX.TabsN TT H) (hp : H p = some (.lst xs)) (f : Fr p H H') : NdefX.TabsN TT H' := fun z hz => by
  obtain ⟨ps, h1, h2, h3⟩ := h z hz
  refine ⟨ps, f _ _ (fun e => by rw [e, hp] at h1; cases h1) h1, h2, fun pos cv hc => ?_⟩
  obtain ⟨c, e, h4⟩ := h3 pos cv hc
  exact ⟨c, e, f _ _ (fun e => by rw [e, hp] at h4; unfold LamX.CodeO at h4; cases h4) h4⟩
theorem CalX.imp2 {P : Program} {w : World} {K : PySem.W.Frag} {mg : Str → Option Value} {base : Heap} {k j : Nat} {f : Addr} {G G' : Hp → Prop} {np : Nat} {sp sp' : Sp} (C : CalX P w K mg base k f G np sp) (hk : k ≤ j) (hl : ∀ vs H Q E, sp' vs H Q E → vs.length = np) (hG : ∀ H, G' H → G H) (hs : ∀ vs H Q E, G' H → sp' vs H Q E → sp vs H Q E) : CalX P w K mg base j f G' np sp' :=
  ⟨hl, fun s H a b g => C.at_ s H a b (hG H g), fun A outer s H us vs Q E hr e0 g r q => C.run A outer s H us vs Q E (hr.mono hk) e0 (hG H g) r (hs _ _ _ _ g q)⟩


def cnts (n : Nat) (xs : List Nat) : List Nat := (List.range n).map fun s => xs.count s
mutual
def St (fs : Nat → List Nat → Nat) (n : Nat) : Tr → Nat
  | .node c ks => fs c (cnts n (Sts fs n ks))
def Sts (fs : Nat → List Nat → Nat) (n : Nat) : List Tr → List Nat
  | [] => []
  | t :: r => St fs n t :: Sts fs n r
end
theorem Sts_map (fs : Nat → List Nat → Nat) (n : Nat) : ∀ ks : List Tr, Sts fs n ks = ks.map (St fs n)
  | [] => rfl
  | t :: r => by simp only [Sts, List.map_cons, Sts_map fs n r]
theorem count_cast (s : Nat) : ∀ xs : List Nat, (xs.map fun n : Nat => (n : Int)).count (s : Int) = xs.count s
  | [] => rfl
  | x :: r => by
    rw [List.map_cons, List.count_cons, List.count_cons, count_cast s r]
    by_cases e : x = s
    · subst e; simp
    · have : ¬ ((x : Int) = (s : Int)) := by omega
      simp [e, this]
def sp__numbers (K : PySem.W.Frag) : Sp := fun vs H Q _ => ∃ (b : Addr) (xs : List Nat) (n : Nat), vs = [.ref b, nI n] ∧ SqL K H b (xs.map nI) ∧ n ≤ 1000 ∧ ∀ r H', Same H H' → H r = none → H' r = some (.lst ((cnts n xs).map nI)) → Q (.ref r) H'
def sp_state_at (L : Str) (n : Nat) (fs : Nat → List Nat → Nat) : Sp := fun vs H Q _ => ∃ (c : Nat) (b : Addr) (cs : List Nat), vs = [.str (ch c), .ref b] ∧ c ∈ L.cps.toList ∧ cs.length = n ∧ (∀ x ∈ cs, x ≤ 1000000) ∧ H b = some (.lst (cs.map nI)) ∧ ∀ H', Same H H' → Q (nI (fs c cs)) H'
def sp_check_letters (K : PySem.W.Frag) : Sp := fun vs H Q _ => ∃ (a : Addr) (L : Str) (ws : List V) (ts : List Tr) (ok : Addr → Prop), vs = [.ref a, .str L] ∧ SqL K H a ws ∧ TrsAt ok H ws ts ∧ (∀ t ∈ ts, ∀ c ks, t = .node c ks → c ∈ L.cps.toList) ∧ ∀ H', Same H H' → Q .non H'
def sp_next_state (L : Str) (n : Nat) (fs : Nat → List Nat → Nat) (f p : Addr) (G : Hp → Prop) : List (Option V) → Sp := fun ws vs H Q _ => ∃ (c : Nat) (bl : Addr) (xs ds : List Nat), vs = [.str (ch c), .ref bl] ∧ ws = [some (.ref p), some (.ref f), some (nI n)] ∧ c ∈ L.cps.toList ∧ n ≤ 1000 ∧ xs.length ≤ 1000000 ∧ ds.length ≤ 1000000 ∧
  H bl = some (.lst (xs.map nI)) ∧ H p = some (.lst (ds.map nI)) ∧ (∀ H', Same H H' → G H') ∧ ∀ H', Fr p H H' → H' p = some (.lst ((ds ++ [fs c (cnts n xs)]).map nI)) → Q (nI (fs c (cnts n xs))) H'
def sp_states_upward (P : Program) (w : World) (K : PySem.W.Frag) (mg : Str → Option Value) (base : Heap) (TT : List NdefX.NTab) : Sp := fun vs H Q _ => ∃ (v : V) (t : Tr) (L : Str) (n : Nat) (f : Addr) (fs : Nat → List Nat → Nat), vs = [v, .str L, nI n, .ref f] ∧ TrAt (fun _ => True) H v t ∧ t.size ≤ 1000000 ∧
  t.lets (fun c => c ∈ L.cps.toList) ∧ n ≤ 1000 ∧ NdefX.TabsN TT H ∧ CalX P w K mg base 10 f (fun H' => LamX.ExtN H H') 2 (sp_state_at L n fs) ∧
  ∀ r H', LamX.ExtN H H' → NdefX.TabsN TT H' → H r = none → H' r = some (.lst ((t.post.map (St fs n)).map nI)) → Q (.ref r) H'
mutual
theorem lets_post {q : Nat → Prop} : ∀ t : Tr, t.lets q → ∀ u ∈ t.post, ∀ c ks, u = .node c ks → q c
  | .node c ks, h, u, hu, c', ks', e => by
    simp only [Tr.lets] at h
    simp only [Tr.post, List.mem_append, List.mem_singleton] at hu
    rcases hu with hu | hu
    · exact letss_post ks h.2 u hu c' ks' e
    · rw [hu] at e
      cases e
      exact h.1
theorem letss_post {q : Nat → Prop} : ∀ ts : List Tr, letss q ts → ∀ u ∈ posts ts, ∀ c ks, u = .node c ks → q c
  | [], _, u, hu, _, _, _ => by simp [posts] at hu
  | t :: r, h, u, hu, c', ks', e => by
    simp only [letss] at h
    simp only [posts, List.mem_append] at hu
    rcases hu with hu | hu
    · exact lets_post t h.1 u hu c' ks' e
    · exact letss_post r h.2 u hu c' ks' e
end
theorem TrAt.extN1 {ok : Addr → Prop} {H H' : Hp} {v : V} {t : Tr} (x : TrAt ok H v t) (f : LamX.ExtN H H') : TrAt ok H' v t :=
  ((TrAt.kind1 t v x).keep fun b o h e => f b o e fun ps e2 => h.2 ps (by rw [e, e2])).weak fun b h => h.1
theorem Same.fr {H H' : Hp} {p : Addr} (s : Same H H') : Fr p H H' := Fr.same s
section
variable {P : Program} {w : World} {K : PySem.W.Frag} {mg : Str → Option Value} {base : Heap}
theorem ok__numbers (T : Txt K mg) : FnOk P w K mg base CX0 1 T.f__numbers T.d__numbers ["below", "states"] (sp__numbers K) := by
  refine T.F__numbers.ok sc__numbers (fun vs H Q E h => ?_) (fun cdv A outer s H vs Q E hr h => ?_)
  · obtain ⟨b, xs, n, rfl, _⟩ := h
    rfl
  obtain ⟨b, xs, n, rfl, hb, hn, q⟩ := h
  refine ⟨_, (pss_one (ps_ret (pe_lc (own := [("state", 2)]) (g := gName 2) (te := tBM K "list" (rCntI K) (tVar 0) (tCons (tVar 2) tNil)) (tt := tYes) rfl sc__numbers.nd (pi_range1 (by rfl) T.z_range (pa_cons (pv 1) pa_nil)) (blkOk_by (own := [("state", 2)]) (N := ["below", "states", "state"]) (sc := (defScope s__numbers)) (by decide +kernel)) (fun _ _ _ _ _ => (pg_name (i := 2) sc__numbers.nd rfl (Or.inl rfl))) (fun _ _ _ _ _ => pts_nil) (fun _ _ _ _ _ => (by exact (pe_bm PySem.F.plainAttrs_list PySem.F.slot_list_count PySem.F.type_list_count mt_lcount (pv 0) (pa_cons (pv 2) pa_nil))))))), ?_⟩
  refine ⟨_, rfl, (n : Int), rfl, by omega, by omega, fun D hD => lc_range (lo := 0) (n := n) (fun i H3 => H3 D = some (.lst ((cnts i xs).map nI)) ∧ Same H H3)
    ⟨upd_same, same_new hD⟩ ?_ ?_⟩
  · rintro i H3 hi ⟨g1, g2⟩
    have hb3 := Same.seq g2 hb
    rw [nI_map] at hb3
    refine ⟨rfl, _, rfl, .inl ⟨rfl, _, hb3⟩, _, rfl, b, _, (i : Int), rfl, congrArg (fun z => [V.int z]) (Int.zero_add _), hb3, _, g1, ?_, ?_, same_add g2 hD⟩
    · rw [List.length_map]
      unfold cnts
      rw [List.length_map, List.length_range]
      exact Nat.lt_of_le_of_lt (show i ≤ 1000 by omega) (by decide)
    · rw [upd_same, count_cast]
      unfold cnts
      rw [List.range_succ, List.map_append, List.map_append]
      rfl
  · rintro H3 ⟨g1, g2⟩
    exact q D H3 g2 hD g1
theorem ok_check_letters (T : Txt K mg) : FnOk P w K mg base CX0 1 T.f_check_letters T.d_check_letters ["parts", "letters"] (sp_check_letters K) := by
  refine T.F_check_letters.ok sc_check_letters (fun vs H Q E h => ?_) (fun cdv A outer s H vs Q E hr h => ?_)
  · obtain ⟨a, L, ws, ts, ok, rfl, _⟩ := h
    rfl
  obtain ⟨a, L, ws, ts, ok, rfl, ha, ht, hL, q⟩ := h
  refine ⟨_, (pss_one (ps_for PassesOwn.never rfl (pi_list (pv 0)) (pg_tup rfl (pgs_cons (pg_name (i := 2) sc_check_letters.nd rfl (Or.inl rfl)) (pgs_cons (pg_name (i := 3) sc_check_letters.nd rfl (Or.inl rfl)) pgs_nil))) (pss_one (ps_if (pt_cmpR op_notInS (pv 2) (pv 1) (by rfl)) (pss_one ps_never) pss_nil)))), ?_⟩
  refine ⟨_, rfl, a, rfl, ⟨_, ha⟩, for_list (xs := ws) (fun i σ H2 => (∃ y2 y3, σ = [some (.ref a), some (.str L), y2, y3]) ∧ H2 = H) ⟨⟨_, _, rfl⟩, rfl⟩ (fun i σ H2 _ ⟨_, e⟩ => by rw [e]; exact ha) ?_ ?_⟩
  · rintro i x σ H2 hx ⟨⟨y2, y3, rfl⟩, rfl⟩
    obtain ⟨t1, ht1, hx2⟩ := ht.getV hx
    cases hx2 with
    | node g1 g2 o1 o2 c1 c2 rr =>
      rename_i ax lx vx c ks
      have hc := hL _ (List.mem_of_getElem? ht1) c ks rfl
      refine ⟨_, _, rfl, SqT.of g1, rfl, ?_⟩
      refine ⟨_, _, rfl, _, _, rfl, rfl, ?_⟩
      refine ⟨_, rfl, _, rfl, c, L, rfl, rfl, _, rfl, ?_⟩
      rw [decide_eq_true hc]
      exact iteF ⟨⟨_, _, rfl⟩, rfl⟩
  · rintro σ H2 ⟨⟨y2, y3, rfl⟩, rfl⟩
    exact q _ (Same.refl _)
theorem ok_next_state (T : Txt K mg) {f p : Addr} {G : Hp → Prop} {L : Str} {n : Nat} {fs : Nat → List Nat → Nat} (C_state_at : CalX P w K mg base 10 f G 2 (sp_state_at L n fs)) (qual : Str) (cl : List (Str × Addr)) (c' nf : Addr) :
    NdefX.NOk P w K mg base CX0 11 nf (NdefX.NF.of n_states_upward__next_state "next_state" qual cl c') ["letter", "below"] ["told", "state_at", "states"] (sp_next_state L n fs f p G) := by
  have G__numbers : FnOk P w K mg base CX0 1 T.f__numbers T.d__numbers ["below", "states"] (sp__numbers K) := ok__numbers T
  refine NdefX.nok_of sc_states_upward__next_state (fun doc pm ctv us hl => match us, hl with | [_, _], _ => rfl) (fun ws vs H Q E h => ?_) (fun A outer s H vs ws Q E hr hf hc hw h => ?_)
  · obtain ⟨c, bl, xs, ds, rfl, _⟩ := h
    rfl
  obtain ⟨c, bl, xs, ds, rfl, rfl, hcL, hn, hx, hd, hbl, hp, hG, q⟩ := h
  refine ⟨_, (pss_cons (ps_expr (pe_bm PySem.F.plainAttrs_list PySem.F.slot_list_append PySem.F.type_list_append mt_append (pv 2) (pa_cons (pe_calX (i := 3) C_state_at (hr.mono (by omega)) rfl (.inr (.inr (by rfl))) (pa_cons (pv 0) (pa_cons (pe_call G__numbers (hr.mono (by omega)) (by rfl) T.m__numbers T.F__numbers.kp T.b__numbers .nil pass0 (pa_cons (pv 1) (pa_cons (pv 4) pa_nil))) pa_nil))) pa_nil))) (pss_one (ps_ret (pe_ix ix_list (pv 2) (pe_un un_neg pe_int) (fun _ _ => rfl))))), ?_⟩
  refine ⟨_, rfl, .inl ⟨rfl, _, SqL.of hp⟩, rfl, hG _ (Same.refl _), _, rfl, _, rfl, _, rfl, bl, xs, n, rfl, SqL.of hbl, hn, fun r H1 s1 hr1 hr2 => ⟨hG _ s1, c, r, _, rfl, hcL, ?_, ?_, hr2, fun H2 s2 => ?_⟩⟩
  · unfold cnts
    rw [List.length_map, List.length_range]
  · intro x hx2
    obtain ⟨s', _, rfl⟩ := List.mem_map.mp hx2
    exact Nat.le_trans List.count_le_length hx
  have hp2 := s2 _ _ (s1 _ _ hp)
  refine ⟨p, _, _, rfl, rfl, hp2, ?_, ?_⟩
  · rw [List.length_map]
    exact Nat.lt_of_le_of_lt hd (by decide)
  have e1 : ds.map nI ++ [nI (fs c (cnts n xs))] = (ds ++ [fs c (cnts n xs)]).map nI := by rw [List.map_append]; rfl
  rw [e1]
  refine ⟨_, rfl, 1, rfl, p, _, -1, _, rfl, rfl, SqL.of upd_same, ?_, q _ ?_ upd_same⟩
  · rw [← e1]
    exact atI_last _ _
  · intro b o nb e
    rw [upd_ne nb]
    exact s2 _ _ (s1 _ _ e)
theorem ok_states_upward (T : Txt K mg) (B : Tbs T base) (TT : List NdefX.NTab) (hTT : (T.P_states_upward, fun _ _ => q_states_upward) ∈ TT) (hu : ∀ z ∈ TT, z.1 = T.P_states_upward → z.2 = fun _ _ => q_states_upward) : FnOk P w K mg base CX0 14 T.f_states_upward T.d_states_upward ["tree", "letters", "states", "state_at"] (sp_states_upward P w K mg base TT) := by
  have G_check_letters : FnOk P w K mg base CX0 1 T.f_check_letters T.d_check_letters ["parts", "letters"] (sp_check_letters K) := ok_check_letters T
  have G_parts_upward : FnOk P w K mg base CX0 5 T.f_parts_upward T.d_parts_upward ["tree"] sp_parts_upward := ok_parts_upward T
  have G_built_upward : FnOk P w K mg base CX0 12 T.f_built_upward T.d_built_upward ["tree", "made"] (sp_built_upwardJ P w K mg base 11) := ok_built_upwardJ T 11 (by decide)
  refine okC T.F_states_upward T.h_states_upward sc_states_upward (fun vs H Q E h => ?_) (fun A outer s H vs Q E hr h => ?_)
  · obtain ⟨v, t, L, n, f, fs, rfl, _⟩ := h
    rfl
  obtain ⟨v, t, L, n, f, fs, rfl, ht, hz, hL, hn, hT, C, q⟩ := h
  refine ⟨_, (pss_cons (ps_expr (pe_call G_check_letters (hr.mono (by omega)) (by rfl) T.m_check_letters T.F_check_letters.kp T.b_check_letters .nil pass0 (pa_cons (pe_call G_parts_upward (hr.mono (by omega)) (by rfl) T.m_parts_upward T.F_parts_upward.kp T.b_parts_upward .nil pass0 (pa_cons (pv 0) pa_nil)) (pa_cons (pv 1) pa_nil)))) (pss_cons (ps_set (i := 4) sc_states_upward.nd rfl (Or.inr rfl) (pe_lst pa_nil)) (pss_cons (NdefX.ps_ndefMS (T := TT) (nm := fun _ _ => q_states_upward) (i := 5) (st := n_states_upward__next_state) rfl B.tb_states_upward rfl hTT rfl hu (NdefX.ndef_free nd_states_upward__next_state) rfl rfl rfl sc_states_upward.nd rfl (Or.inl rfl) (.inl rfl)) (pss_cons (ps_expr (pe_callLd G_built_upward (hr.mono (by omega)) (by rfl) T.m_built_upward T.F_built_upward.kp T.b_built_upward (fun _ => rfl) (pa_cons (pv 0) (pa_cons (pv 5) pa_nil)))) (pss_one (ps_ret (pv 4))))))), ?_⟩
  refine ⟨_, rfl, v, t, _, rfl, ht, hz, fun r ws H1 s1 hr0 hr1 hparts => ⟨_, rfl, r, L, ws, t.post, _, rfl, SqL.of hr1, hparts, lets_post t hL, fun H2 s2 => ?_⟩⟩
  refine ⟨(by show 0 ≤ sizeLine; decide), fun p hp => ?_⟩
  have S3 : Same H (upd H2 p (.lst [])) := (s1.trans s2).trans (same_new hp)
  have hp0 : H p = none := (s1.trans s2).free hp
  have k3 := upd_same (H := H2) (a := p) (o := .lst [])
  generalize hH3 : upd H2 p (.lst []) = H3 at *
  refine ⟨hT.ext S3, fun nf c' H4 e4 n4 T4 hf0 hf hc => ?_⟩
  have hp4 : H4 p = some (.lst []) := e4 _ _ k3 (fun _ e => by cases e)
  have E4 : LamX.ExtN H H4 := (LamX.ExtN.of S3).trans e4
  refine ⟨_, rfl, _, rfl, fun cs hcs => ?_⟩
  have Cc := hcs.got (C8.fnScope n_states_upward__next_state) ["told", "state_at", "states"] [4, 3, 2] nd_states_upward__next_state rfl
  have hnew := hcs.new
  have hcel := hcs.cel
  clear hcs
  generalize (cloFrom _ _ [] : List (Str × Addr)) = cl at *
  have N0 := ok_next_state T C (q_states_upward) cl c' nf (p := p)
  have X0 := calX_ndef N0 Cc hcel
  have hpL : (lend H4 cs) p = some (.lst []) := lend_some hnew hp4
  have npf : nf ≠ p := fun e => by rw [e, hp4] at hf; unfold NdefX.FnO at hf; cases hf
  have npc : c' ≠ p := fun e => by rw [e, hp4] at hc; unfold LamX.CodeO at hc; cases hc
  have hE0 : ∀ H', FrX (fun b => b = p) (lend H4 cs) H' → Fr p H4 (unl H' cs) := fun H' f b o n e => by
    rw [unl_out (hnew.out e)]
    exact f b o n (lend_some hnew e)
  have hlt : ∀ H', FrX (fun b => b = p) (lend H4 cs) H' → LentAt cs H' := fun H' f c o e => f c _ (fun e2 => by
    have := hnew c o e
    rw [show c = p from e2, hp4] at this
    cases this) (lend_in e)
  refine ⟨v, t, nf, fun u => nI (St fs n u), (fun b => b = p), (fun l H' => H' p = some (.lst ((l.map (St fs n)).map nI))), rfl, ?_, hz, ?_, ?_, ?_, hpL, ?_, fun H5 f5 J5 => ⟨?_, ?_⟩⟩
  · exact ((TrAt.extN1 (TrAt.there t v ht) E4).same (lend_same hnew)).weak fun b ⟨_, o, e⟩ e2 => by rw [e2, hp0] at e; cases e
  · rintro b rfl; rw [hpL]; simp
  · rintro l H' b e rfl; rw [e]; simp
  · intro l Ha Hb k e
    exact k _ _ (by rw [hpL]; simp) e
  · refine CalX.imp2 X0 (Nat.le_refl _) (fun vs H Q E h => ?_) (fun H' f => ⟨f _ _ npf (lend_some hnew hf), f _ _ npc (lend_some hnew hc), hlt H' f⟩) (fun vs H' Q E f h => ?_)
    · obtain ⟨c, bl, ks, done, rest, rfl, _⟩ := h
      rfl
    · obtain ⟨c, bl, ks, done, rest, rfl, hsplit, c1, c2, hk, hbl, hbl0, hf', hJ, qq⟩ := h
      have hl' := hlt H' f
      have hlen : done.length ≤ 1000000 := by
        have e1 := congrArg List.length hsplit
        rw [post_len, List.length_append] at e1
        omega
      have eS : (ks.map (St fs n)).map nI = ks.map fun u => nI (St fs n u) := by rw [List.map_map]; rfl
      have eN : St fs n (.node c ks) = fs c (cnts n (ks.map (St fs n))) := by simp only [St, Sts_map]
      refine ⟨c, bl, ks.map (St fs n), done.map (St fs n), rfl, rfl, lets_post t hL (.node c ks) (by rw [hsplit]; simp) c ks rfl, hn, by rw [List.length_map]; exact hk, by rw [List.length_map]; exact hlen, ?_, unl_keep hl' hJ (fun _ e => by cases e), fun H2 s2 b o e nt => s2 _ _ (hE0 H' f b o (fun e2 => by rw [e2, hp0] at e; cases e) (E4 b o e nt)), fun H2 f2 e2 => ?_⟩
      · rw [eS]; exact unl_keep hl' hbl (fun _ e => by cases e)
      · rw [← eN] at e2 ⊢
        refine qq (lend H2 cs) (fun b o nb e => ?_) ?_
        · cases hb : cs.lookup b with
          | some ob =>
            rw [lend_in hb, ← hl' b ob hb]
            exact e
          | none =>
            rw [lend_out hb]
            exact f2 b o nb (by rw [unl_out hb]; exact e)
        · show (lend H2 cs) p = some (.lst (((done ++ [Tr.node c ks]).map (St fs n)).map nI))
          rw [lend_out (hnew.out hp4), e2]
          simp only [List.map_append, List.map_cons, List.map_nil]
  · exact hlt H5 f5
  · refine ⟨_, rfl, q p (unl H5 cs) (fun b o e nt => hE0 H5 f5 b o (fun e2 => by rw [e2, hp0] at e; cases e) (E4 b o e nt)) (tabsN_fr1 T4 hp4 (hE0 H5 f5)) hp0 (unl_keep (hlt H5 f5) J5 (fun _ e => by cases e))⟩
end


def Pool (H : Hp) (p : Addr) (n : Nat) : Prop := ∃ x f s : Int, H p = some (.lst [.int x, .int f, .int s]) ∧ 0 ≤ s ∧ s ≤ (n : Int)
theorem Pool.mono {H : Hp} {p : Addr} {n m : Nat} (h : Pool H p n) (l : n ≤ m) : Pool H p m := let ⟨x, f, s, a, b, c⟩ := h; ⟨x, f, s, a, b, by omega⟩
theorem Pool.keep {H H' : Hp} {p : Addr} {n : Nat} (h : Pool H p n) (e : Same H H') : Pool H' p n := let ⟨x, f, s, a, b, c⟩ := h; ⟨x, f, s, e _ _ a, b, c⟩
theorem Pool.ne {H : Hp} {p q : Addr} {n : Nat} (h : Pool H p n) (e : H q = none) : p ≠ q := let ⟨_, _, _, a, _⟩ := h; ne_of_none a e
theorem Pool.some {H : Hp} {p : Addr} {n : Nat} (h : Pool H p n) : H p ≠ none := let ⟨_, _, _, a, _⟩ := h; by rw [a]; simp
def sp__law_pool (K : PySem.W.Frag) : Sp := fun vs H Q _ => ∃ (a : Addr) (ns : List Int) (k : Int), vs = [.ref a, .int k] ∧ SqL K H a (ns.map V.int) ∧ ns.length ≤ 63 ∧ 0 ≤ k ∧ k ≤ 63 ∧
  ∀ p H', H p = none → Chg p H H' → Pool H' p 3000 → Q (.ref p) H'
def sp__law_take : Sp := fun vs H Q _ => ∃ (p : Addr) (m : Int) (n : Nat), vs = [.ref p, .int m] ∧ Pool H p n ∧ n < 1000000 ∧ 0 < m ∧ m < 2 ^ 60 ∧
  ∀ r H', 0 ≤ r → r < m → Chg p H H' → Pool H' p (n + 1) → Q (.int r) H'
section
variable {P : Program} {w : World} {K : PySem.W.Frag} {mg : Str → Option Value} {base : Heap}
theorem ok__law_pool (T : Txt K mg) : FnOk P w K mg base CX0 1 T.f__law_pool T.d__law_pool ["script", "k"] (sp__law_pool K) := by
  refine T.F__law_pool.ok sc__law_pool (fun vs H Q E h => ?_) (fun cdv A outer s H vs Q E hr h => ?_)
  · obtain ⟨a, ns, k, rfl, _⟩ := h
    rfl
  obtain ⟨a, ns, k, rfl, hS, h63, h0, h1, q⟩ := h
  refine ⟨_, (pss_cons (ps_set (i := 2) sc__law_pool.nd rfl (Or.inl rfl) pe_int) (pss_cons (ps_if (pt_cmpR op_lt (pv 1) (pe_callB call_len_seq (by rfl) T.z_len PySem.boot_len (pa_cons (pv 0) pa_nil)) (nomark _)) (pss_one (ps_set (i := 2) sc__law_pool.nd rfl (Or.inl rfl) (pe_ix ix_list (pv 0) (pv 1) (fun _ _ => rfl)))) pss_nil) (pss_cons (ps_if (pt_cmpR op_ge (pv 2) (pe_op op_pow pe_int pe_int) (nomark _)) (pss_one (ps_ret (pe_lst (pa_cons (pe_op op_sub (pv 2) (pe_op op_pow pe_int pe_int)) (pa_cons pe_int (pa_cons pe_int pa_nil)))))) pss_nil) (pss_one (ps_ret (pe_lst (pa_cons (pv 2) (pa_cons pe_int (pa_cons (pe_op op_mul pe_int (pv 1)) pa_nil))))))))), ?_⟩
  have fin : ∀ p, H p = none → ∀ x f s : Int, 0 ≤ s → s ≤ 3000 → Q (.ref p) (upd H p (.lst [.int x, .int f, .int s])) := fun p hp x f s hs0 hs1 =>
    q p _ hp Chg.upd ⟨x, f, s, upd_same, hs0, by omega⟩
  refine ⟨_, rfl, _, rfl, a, _, rfl, .inl hS, _, _, rfl, rfl, _, rfl, ?_⟩
  refine ite2 (fun c => ?_) (fun c => ?_)
  · have hk : k.toNat < ns.length := by
      have c' : k < (((ns.map V.int).length : Nat) : Int) := of_decide_eq_true c
      rw [List.length_map] at c'
      omega
    refine ⟨_, rfl, _, rfl, a, _, _, _, rfl, rfl, hS, at_of (j := k.toNat) (v := V.int ns[k.toNat]) (by omega) (by rw [List.getElem?_map, List.getElem?_eq_getElem hk]; rfl), ?_⟩
    refine ⟨_, rfl, 10, 18, rfl, rfl, ⟨by decide, by decide, by decide⟩, _, _, rfl, rfl, _, rfl, ?_⟩
    refine ite2 (fun c2 => ?_) (fun c2 => ?_)
    · refine ⟨_, rfl, 10, 18, rfl, rfl, ⟨by decide, by decide, by decide⟩, _, _, rfl, rfl, (by show 3 ≤ sizeLine; decide), fun p hp => ?_⟩
      exact fin p hp _ _ _ (by decide) (by decide)
    · refine ⟨_, rfl, _, rfl, _, _, rfl, rfl, .inl ⟨by decide, by decide⟩, (by show 3 ≤ sizeLine; decide), fun p hp => ?_⟩
      exact fin p hp _ _ _ (by omega) (by omega)
  · refine ⟨_, rfl, 10, 18, rfl, rfl, ⟨by decide, by decide, by decide⟩, _, _, rfl, rfl, _, rfl, ?_⟩
    refine ite2 (fun c2 => ?_) (fun c2 => ?_)
    · exact absurd (of_decide_eq_true c2) (by decide)
    · refine ⟨_, rfl, _, rfl, _, _, rfl, rfl, .inl ⟨by decide, by decide⟩, (by show 3 ≤ sizeLine; decide), fun p hp => ?_⟩
      exact fin p hp _ _ _ (by omega) (by omega)
theorem ok__law_take (T : Txt K mg) : FnOk P w K mg base CX0 1 T.f__law_take T.d__law_take ["pool", "many"] sp__law_take := by
  refine T.F__law_take.ok sc__law_take (fun vs H Q E h => ?_) (fun cdv A outer s H vs Q E hr h => ?_)
  · obtain ⟨p, m, n, rfl, _⟩ := h
    rfl
  obtain ⟨p, m, n, rfl, ⟨x, f, t, hp, ht0, ht1⟩, hn, hm0, hm1, q⟩ := h
  refine ⟨_, (pss_cons (ps_if (pt_cmpR op_eq (pe_ix ix_list (pv 0) pe_int (fun _ _ => rfl)) pe_int (nomark _)) (pss_cons (ps_set (i := 2) sc__law_take.nd rfl (Or.inl rfl) (pe_op op_mod (pe_ix ix_list (pv 0) pe_int (fun _ _ => rfl)) (pv 1))) (pss_cons (ps_asg (pe_op op_fdivW (pe_ix ix_list (pv 0) pe_int (fun _ _ => rfl)) (pv 1)) (pg_sub (pv 0) pe_int set_list)) (pss_one (ps_ret (pv 2))))) pss_nil) (pss_cons (ps_asg (pe_op op_add (pe_ix ix_list (pv 0) pe_int (fun _ _ => rfl)) pe_int) (pg_sub (pv 0) pe_int set_list)) (pss_cons (ps_set (i := 3) sc__law_take.nd rfl (Or.inl rfl) (pe_ix ix_list (pv 0) pe_int (fun _ _ => rfl))) (pss_cons (ps_set (i := 4) sc__law_take.nd rfl (Or.inl rfl) (pe_op op_mul (pe_op op_add (pe_op op_mod (pe_ix ix_list (pv 0) pe_int (fun _ _ => rfl)) pe_int) pe_int) (pe_op op_add (pe_op op_mul pe_int (pv 3)) pe_int))) (pss_cons (ps_set (i := 4) sc__law_take.nd rfl (Or.inl rfl) (pe_op op_add (pv 4) (pe_op op_mul (pe_op op_mul pe_int (pv 3)) (pv 3)))) (pss_cons (ps_set (i := 4) sc__law_take.nd rfl (Or.inl rfl) (pe_op op_mod (pe_op op_mul (pv 4) (pv 4)) pe_int)) (pss_one (ps_ret (pe_op op_mod (pe_op op_fdivW (pe_op op_mod (pe_op op_mul (pv 4) (pe_op op_add (pv 4) pe_int)) pe_int) pe_int) (pv 1)))))))))), ?_⟩
  have i0 : atI [V.int x, V.int f, V.int t] 0 = some (.int x) := atI_nat (j := 0) rfl
  have i1 : atI [V.int x, V.int f, V.int t] 1 = some (.int f) := atI_nat (j := 1) rfl
  have i2 : atI [V.int x, V.int f, V.int t] 2 = some (.int t) := atI_nat (j := 2) rfl
  refine ⟨_, rfl, p, _, 1, _, rfl, rfl, SqL.of hp, i1, rfl, _, rfl, ?_⟩
  refine ite2 (fun c => ?_) (fun c => ?_)
  · -- the digits
    refine ⟨_, rfl, p, _, 0, _, rfl, rfl, SqL.of hp, i0, _, rfl, x, m, rfl, rfl, hm0, ?_⟩
    refine ⟨_, rfl, p, _, 0, _, rfl, rfl, SqL.of hp, i0, _, rfl, x, m, rfl, rfl, divW hm0 hm1, ?_⟩
    refine ⟨_, rfl, p, _, 0, 0, rfl, rfl, hp, rfl, ?_⟩
    refine ⟨_, rfl, q _ _ (Int.emod_nonneg _ (by omega)) (Int.emod_lt_of_pos _ hm0) Chg.upd ⟨_, _, _, upd_same, ht0, by omega⟩⟩
  · -- mixed
    refine ⟨_, rfl, p, _, 2, _, rfl, rfl, SqL.of hp, i2, t, 1, rfl, rfl, ?_⟩
    refine ⟨_, rfl, p, _, 2, 2, rfl, rfl, hp, rfl, ?_⟩
    have hp' : (upd H p (.lst [V.int x, V.int f, V.int (t + 1)])) p = some (.lst [V.int x, V.int f, V.int (t + 1)]) := upd_same
    have j0 : atI [V.int x, V.int f, V.int (t + 1)] 0 = some (.int x) := atI_nat (j := 0) rfl
    have j2 : atI [V.int x, V.int f, V.int (t + 1)] 2 = some (.int (t + 1)) := atI_nat (j := 2) rfl
    refine ⟨_, rfl, p, _, 2, _, rfl, rfl, SqL.of hp', j2, ?_⟩
    have a0 : 0 ≤ x % 9999999557 := Int.emod_nonneg _ (by decide)
    have a1 : x % 9999999557 < 9999999557 := Int.emod_lt_of_pos _ (by decide)
    refine ⟨_, rfl, p, _, 0, _, rfl, rfl, SqL.of hp', j0, x, 9999999557, rfl, rfl, (by show (0 : Int) < 9999999557; decide), _, 1013, rfl, rfl, _, rfl, 41, t + 1, rfl, rfl, .inl ⟨by decide, by decide⟩, _, 71, rfl, rfl, _, _, rfl, rfl, .inl ⟨by omega, by omega⟩, ?_⟩
    have b1 := nn_mul (a := x % 9999999557 + 1013) (A := 10000000570) (b := 41 * (t + 1) + 71) (B := 41000112) (by omega) (by omega) (by omega) (by omega)
    obtain ⟨M, hM⟩ : ∃ M, (x % 9999999557 + 1013) * (41 * (t + 1) + 71) = M := ⟨_, rfl⟩
    rw [hM] at b1
    have b2 := nn_mul (a := 3571 * (t + 1)) (A := 3571000000) (b := t + 1) (B := 1000000) (by omega) (by omega) (by omega) (by omega)
    refine ⟨_, rfl, _, rfl, 3571, t + 1, rfl, rfl, .inl ⟨by decide, by decide⟩, _, rfl, _, t + 1, rfl, rfl, .inl ⟨by omega, by omega⟩, M, _, congrArg V.int hM, rfl, ?_⟩
    obtain ⟨M2, hM2⟩ : ∃ M2, M + 3571 * (t + 1) * (t + 1) = M2 := ⟨_, rfl⟩
    refine ⟨_, rfl, _, rfl, M2, M2, congrArg V.int hM2, congrArg V.int hM2, .inl ⟨by omega, by omega⟩, _, 99999999587, rfl, rfl, (by show (0 : Int) < 99999999587; decide), ?_⟩
    have d0 : 0 ≤ M2 * M2 % 99999999587 := Int.emod_nonneg _ (by decide)
    have d1 : M2 * M2 % 99999999587 < 99999999587 := Int.emod_lt_of_pos _ (by decide)
    obtain ⟨M3, hM3⟩ : ∃ M3, M2 * M2 % 99999999587 = M3 := ⟨_, rfl⟩
    rw [hM3] at d0 d1
    refine ⟨_, rfl, _, rfl, M3, 53, congrArg V.int hM3, rfl, M3, M3 + 53, congrArg V.int hM3, rfl, .inl ⟨by omega, by omega⟩, _, 99999999881, rfl, rfl, (by show (0 : Int) < 99999999881; decide), _, 103, rfl, rfl, divW (by decide) (by decide), _, rfl, _, m, rfl, rfl, hm0, ?_⟩
    exact q _ _ (Int.emod_nonneg _ (by omega)) (Int.emod_lt_of_pos _ hm0) Chg.upd ⟨_, _, _, upd_same, by omega, by omega⟩
end


section
variable {ok : Addr → Prop} {H : Hp} {p : Addr} {x : Int} {zs : List V}
mutual
theorem TrAt.offL (hp : H p = some (.lst (.int x :: zs))) : ∀ (t : Tr) (v : V), TrAt ok H v t → TrAt (fun b => ok b ∧ b ≠ p) H v t
  | .node c ks, v, h => by
    cases h with
    | node h1 h2 k1 k2 c1 c2 r =>
      refine .node h1 h2 ⟨k1, ne_of h1 hp (by intro z; cases z)⟩ ⟨k2, fun e => ?_⟩ c1 c2 (TrsAt.offL hp ks _ r)
      subst e
      rw [h2] at hp
      cases hp
      cases r with
      | cons a _ => cases a
theorem TrsAt.offL (hp : H p = some (.lst (.int x :: zs))) : ∀ (ts : List Tr) (vs : List V), TrsAt ok H vs ts → TrsAt (fun b => ok b ∧ b ≠ p) H vs ts
  | [], _, h => by cases h; exact .nil
  | t :: r, _, h => by
    cases h with
    | cons a b => exact .cons (TrAt.offL hp t _ a) (TrsAt.offL hp r _ b)
end
end
theorem Pool.off {ok : Addr → Prop} {H : Hp} {p : Addr} {n : Nat} {v : V} {t : Tr} (hp : Pool H p n) (h : TrAt ok H v t) : TrAt (fun b => ok b ∧ b ≠ p) H v t := let ⟨_, _, _, hx, _⟩ := hp; TrAt.offL hx t v h
theorem Pool.offs {ok : Addr → Prop} {H : Hp} {p : Addr} {n : Nat} {vs : List V} {ts : List Tr} (hp : Pool H p n) (h : TrsAt ok H vs ts) : TrsAt (fun b => ok b ∧ b ≠ p) H vs ts := let ⟨_, _, _, hx, _⟩ := hp; TrsAt.offL hx ts vs h
theorem TrAt.fr {ok : Addr → Prop} {H H' : Hp} {p : Addr} {v : V} {t : Tr} (h : TrAt (fun b => ok b ∧ b ≠ p) H v t) (f : Fr p H H') : TrAt (fun b => ok b ∧ b ≠ p) H' v t := h.keep fun b o k e => f b o k.2 e
theorem TrsAt.fr {ok : Addr → Prop} {H H' : Hp} {p : Addr} {vs : List V} {ts : List Tr} (h : TrsAt (fun b => ok b ∧ b ≠ p) H vs ts) (f : Fr p H H') : TrsAt (fun b => ok b ∧ b ≠ p) H' vs ts := h.keep fun b o k e => f b o k.2 e
theorem Pool.new {H : Hp} {p q : Addr} {n : Nat} {o : HO} (hp : Pool H p n) (h : H q = none) : Pool (upd H q o) p n := hp.keep (same_new h)
theorem Pool.ne' {H : Hp} {p q : Addr} {n : Nat} (hp : Pool H p n) (h : H q = none) : q ≠ p := fun e => (hp.ne h) e.symm
theorem Pool.upd {H : Hp} {p q : Addr} {n : Nat} {o : HO} (hp : Pool H p n) (h : q ≠ p) : Pool (upd H q o) p n := by
  obtain ⟨x, f, s, a, b, c⟩ := hp
  exact ⟨x, f, s, by rw [upd_ne (fun e => h e.symm)]; exact a, b, c⟩
theorem erase_perm {α : Type} : ∀ (l : List α) (i : Nat) (h : i < l.length), l.Perm (l[i] :: l.eraseIdx i)
  | a :: r, 0, _ => .refl _
  | a :: r, i + 1, h => by
    have ih := erase_perm r i (by simpa using h)
    exact (ih.cons a).trans (.swap _ _ _)
def sp__law_mixed_up (K : PySem.W.Frag) : Sp := fun vs H Q _ => ∃ (p l : Addr) (n : Nat) (xs : List V), vs = [.ref p, .ref l] ∧ Pool H p n ∧ n + xs.length < 1000000 ∧ SqL K H l xs ∧
  (∀ H', Fr p H H' → ∀ v ∈ xs, DatOk K H' v) ∧ ∀ r ws H', xs.Perm ws → H r = none → Fr p H H' → H' r = some (.lst ws) → Pool H' p (n + xs.length) → Q (.ref r) H'
section
variable {P : Program} {w : World} {K : PySem.W.Frag} {mg : Str → Option Value} {base : Heap}
theorem ok__law_mixed_up (T : Txt K mg) : FnOk P w K mg base CX0 2 T.f__law_mixed_up T.d__law_mixed_up ["pool", "things"] (sp__law_mixed_up K) := by
  have G__law_take : FnOk P w K mg base CX0 1 T.f__law_take T.d__law_take ["pool", "many"] sp__law_take := ok__law_take T
  refine T.F__law_mixed_up.ok sc__law_mixed_up (fun vs H Q E h => ?_) (fun cdv A outer s H vs Q E hr h => ?_)
  · obtain ⟨p, l, n, xs, rfl, _⟩ := h
    rfl
  obtain ⟨p, l, n, xs, rfl, hp, hn, hl, hd, q⟩ := h
  refine ⟨_, (pss_cons (ps_set (i := 2) sc__law_mixed_up.nd rfl (Or.inl rfl) (pe_callTy call_list_of (by rfl) T.z_list (by decide +kernel) (pa_cons (pv 1) pa_nil))) (pss_cons (ps_set (i := 3) sc__law_mixed_up.nd rfl (Or.inl rfl) (pe_lst pa_nil)) (pss_cons (ps_while PassesOwn.never (pt_cmpR (op_neD hr.units) (pv 2) (pe_lst pa_nil) (nomark _)) (pss_one (ps_expr (pe_bm PySem.F.plainAttrs_list PySem.F.slot_list_append PySem.F.type_list_append mt_append (pv 3) (pa_cons (pe_bm PySem.F.plainAttrs_list PySem.F.slot_list_pop PySem.F.type_list_pop mt_popAt (pv 2) (pa_cons (pe_call G__law_take (hr.mono (by omega)) (by rfl) T.m__law_take T.F__law_take.kp T.b__law_take .nil pass0 (pa_cons (pv 0) (pa_cons (pe_callB call_len_seq (by rfl) T.z_len PySem.boot_len (pa_cons (pv 2) pa_nil)) pa_nil))) pa_nil)) pa_nil))))) (pss_one (ps_ret (pv 3)))))), ?_⟩
  refine ⟨_, rfl, l, xs, rfl, .inl hl, fun a ha => ?_⟩
  refine ⟨(by show 0 ≤ sizeLine; decide), fun f hf => ?_⟩
  have naf : a ≠ f := fun e => by rw [e, upd_same] at hf; cases hf
  have hf0 : H f = none := by rw [upd_ne (fun e => naf e.symm)] at hf; exact hf
  have nap : a ≠ p := hp.ne' ha
  have nfp : f ≠ p := hp.ne' hf0
  refine ⟨fun m σ H' => ∃ us ys, σ = [some (.ref p), some (.ref l), some (.ref a), some (.ref f)] ∧ H' a = some (.lst us) ∧ H' f = some (.lst ys) ∧ xs.Perm (us ++ ys) ∧ m = us.length ∧ Pool H' p (n + ys.length) ∧ Fr p H H',
    ⟨xs.length, xs, [], rfl, by rw [upd_ne naf]; exact upd_same, upd_same, by rw [List.append_nil], rfl, (hp.new ha).new hf, ((Fr.refl p H).new ha).new hf0⟩, ?_⟩
  rintro m σ H' ⟨us, ys, rfl, hA, hF, hP, rfl, pp, fr⟩
  have hlen : us.length + ys.length = xs.length := by
    have := hP.length_eq
    rw [List.length_append] at this
    omega
  refine ⟨_, rfl, (by show 0 ≤ sizeLine; decide), fun e he => ?_⟩
  have he0 : H e = none := fr.free pp.some he
  have fr2 : Fr p H (upd H' e (.lst [])) := fr.new he0
  obtain ⟨ds, hds, hsh, hdl⟩ := DatOk.all (K := K) (H := upd H' e (.lst [])) (vs := us) fun v hv => hd _ fr2 v (hP.mem_iff.mpr (List.mem_append_left _ hv))
  have hA2 : (upd H' e (.lst [])) a = some (.lst us) := by rw [upd_ne (ne_of_none hA he)]; exact hA
  have hF2 : (upd H' e (.lst [])) f = some (.lst ys) := by rw [upd_ne (ne_of_none hF he)]; exact hF
  refine ⟨_, _, .lst (SqL.of hA2) hds, dp_nil upd_same, hsh, shaped_nil, _, rfl, ?_⟩
  rw [eqv_nil, hdl]
  by_cases hu : us.length = 0
  · rw [decide_eq_true hu]
    refine iteF ?_
    have : us = [] := List.length_eq_zero_iff.mp hu
    subst this
    refine ⟨_, rfl, q f ys _ (by simpa using hP) hf0 fr2 hF2 ?_⟩
    have e1 : ys.length = xs.length := by simpa using hlen
    rw [← e1]
    exact pp.new he
  · rw [decide_eq_false hu]
    refine iteT ?_
    refine ⟨fun σ2 H2 => ∃ us2 ys, σ2 = [some (.ref p), some (.ref l), some (.ref a), some (.ref f)] ∧ H2 a = some (.lst us2) ∧ H2 f = some (.lst ys) ∧ xs.Perm (us2 ++ ys) ∧ us2.length < us.length ∧ Pool H2 p (n + ys.length) ∧ Fr p H H2,
      fun σ2 H2 ⟨us2, ys, e1, e2, e3, e4, e5, e6, e7⟩ => ⟨us2.length, e5, us2, ys, e1, e2, e3, e4, rfl, e6, e7⟩, ?_⟩
    refine ⟨_, rfl, .inl ⟨rfl, _, SqL.of hF2⟩, _, rfl, .inl ⟨rfl, _, SqL.of hA2⟩, _, rfl, _, rfl, a, us, rfl, .inl (SqL.of hA2), ?_⟩
    refine ⟨p, _, n + ys.length, rfl, pp.new he, by omega, by omega, by omega, fun r H2 r0 r1 c2 p2 => ?_⟩
    obtain ⟨k, rfl⟩ : ∃ k : Nat, r = (k : Int) := ⟨r.toNat, by omega⟩
    have hk : k < us.length := by omega
    have hA3 := c2.at hA2 nap
    have hF3 := c2.at hF2 nfp
    refine ⟨a, us, k, k, us[k], rfl, rfl, hA3, by omega, by omega, PySem.seqIndex_of (by omega) (by omega) |>.trans (by simp), List.getElem?_eq_getElem hk, ?_⟩
    have hF4 : (upd H2 a (.lst (us.eraseIdx k))) f = some (.lst ys) := by rw [upd_ne (fun e => naf e.symm)]; exact hF3
    refine ⟨f, ys, us[k], rfl, rfl, hF4, Nat.lt_of_le_of_lt (show ys.length ≤ 1000000 by omega) (by decide), ?_⟩
    refine ⟨us.eraseIdx k, ys ++ [us[k]], rfl, by rw [upd_ne naf]; exact upd_same, upd_same, ?_, ?_, ?_, ?_⟩
    · refine hP.trans ?_
      have pe : us.Perm (us[k] :: us.eraseIdx k) := erase_perm us k hk
      refine (pe.append_right ys).trans ?_
      rw [← List.append_assoc, List.cons_append]
      exact (List.perm_append_singleton _ _).symm
    · rw [List.length_eraseIdx_of_lt hk]
      omega
    · rw [List.length_append, List.length_singleton, ← Nat.add_assoc]
      exact (p2.upd nap).upd nfp
    · intro b o hb e
      have nb1 : b ≠ f := ne_of_none e hf0
      have nb2 : b ≠ a := ne_of_none e ha
      rw [upd_ne nb1, upd_ne nb2]
      exact c2.at (fr2 b o hb e) hb
end

def Lets (L : Str) : Prop := 1 ≤ L.length ∧ L.length ≤ 26 ∧ ∀ c ∈ L.cps.toList, 97 ≤ c ∧ c ≤ 122
def sp__law_shuffled (d : Nat) : Sp := fun vs H Q _ => ∃ (p : Addr) (n : Nat) (v : V) (t : Tr), vs = [.ref p, v] ∧ Pool H p n ∧ n + t.size < 1000000 ∧ TrAt (fun _ => True) H v t ∧ t.depth ≤ d ∧ t.depth ≤ 32 ∧
  ∀ r u H', Sh t u → Fr p H H' → TrAt (fun b => H b = none) H' r u → Pool H' p (n + (t.size - 1)) → Q r H'
def sp__law_copy (d : Nat) : Sp := fun vs H Q _ => ∃ (v : V) (t : Tr), vs = [v] ∧ TrAt (fun _ => True) H v t ∧ t.depth ≤ d ∧ t.size ≤ 1000000 ∧
  ∀ r H', Same H H' → TrAt (fun b => H b = none) H' r t → Q r H'
def sp__law_letters : Sp := fun vs H Q _ => ∃ (p : Addr) (n : Nat), vs = [.ref p] ∧ Pool H p n ∧ n < 1000000 ∧ ∀ L H', Lets L → Fr p H H' → Pool H' p (n + 1) → Q (.str L) H'
theorem none_of {sp : Sp} {P : Program} {w : World} {K : PySem.W.Frag} {mg : Str → Option Value} {base : Heap} {f : Addr} {fd : FuncData} {ps : List Str} {k : Nat} (no : ∀ vs H Q E, ¬ sp vs H Q E) : FnOk P w K mg base CX0 k f fd ps sp :=
  ⟨fun vs H Q E h => absurd h (no vs H Q E), fun A outer s H args us vs Q E _ _ _ _ h => absurd h (no vs H Q E)⟩
theorem depth_pos : ∀ t : Tr, 1 ≤ t.depth
  | .node c ks => by simp only [Tr.depth]; omega
section
variable {P : Program} {w : World} {K : PySem.W.Frag} {mg : Str → Option Value} {base : Heap}
theorem ok__law_shuffled (T : Txt K mg) : ∀ d : Nat, FnOk P w K mg base CX0 (d + 2) T.f__law_shuffled T.d__law_shuffled ["pool", "tree"] (sp__law_shuffled d)
  | 0 => none_of fun vs H Q E ⟨p, n, v, t, _, _, _, _, h, _⟩ => by have := depth_pos t; omega
  | d + 1 => by
    have G__law_shuffled : FnOk P w K mg base CX0 (d + 2) T.f__law_shuffled T.d__law_shuffled ["pool", "tree"] (sp__law_shuffled d) := ok__law_shuffled T d
    have G__law_mixed_up : FnOk P w K mg base CX0 2 T.f__law_mixed_up T.d__law_mixed_up ["pool", "things"] (sp__law_mixed_up K) := ok__law_mixed_up T
    refine T.F__law_shuffled.ok sc__law_shuffled (fun vs H Q E h => ?_) (fun cdv A outer s H vs Q E hr h => ?_)
    · obtain ⟨p, n, v, t, rfl, _⟩ := h
      rfl
    obtain ⟨p, n, v, t, rfl, hp, hn, ht, hd, hd2, q⟩ := h
    refine ⟨_, (pss_one (ps_ret (pe_tup (pa_cons (pe_ix ix_tup (pv 1) pe_int (fun _ _ => rfl)) (pa_cons (pe_lc (own := [("child", 2)]) (g := gName 2) (tt := tYes) rfl sc__law_shuffled.nd (pi_list (pe_call G__law_mixed_up (hr.mono (by omega)) (by rfl) T.m__law_mixed_up T.F__law_mixed_up.kp T.b__law_mixed_up .nil pass0 (pa_cons (pv 0) (pa_cons (pe_ix ix_tup (pv 1) pe_int (fun _ _ => rfl)) pa_nil)))) (blkOk_by (own := [("child", 2)]) (N := ["pool", "tree", "child"]) (sc := (defScope s__law_shuffled)) (by decide +kernel)) (fun _ _ _ _ _ => (pg_name (i := 2) sc__law_shuffled.nd rfl (Or.inl rfl))) (fun _ _ _ _ _ => pts_nil) (fun _ _ _ _ _ => (pe_call G__law_shuffled (hr.mono (by omega)) (by rfl) T.m__law_shuffled T.F__law_shuffled.kp T.b__law_shuffled .nil pass0 (pa_cons (pv 0) (pa_cons (pv 2) pa_nil))))) pa_nil))))), ?_⟩
    obtain ⟨c, ks⟩ := t
    simp only [Tr.depth] at hd hd2
    simp only [Tr.size] at hn q
    have lz := len_sizes ks
    cases hp.off ht with
    | node h1 h2 k1 k2 c1 c2 r =>
      rename_i a l xs
      have lr := r.len
      refine ⟨_, rfl, _, _, 0, _, rfl, rfl, SqT.of h1, atI_nat (j := 0) rfl, ?_⟩
      refine ⟨_, rfl, _, rfl, _, _, 1, _, rfl, rfl, SqT.of h1, atI_nat (j := 1) rfl, p, l, n, xs, rfl, hp, by omega, SqL.of h2, ?_, fun m ws H1 pw m0 f1 hm p1 => ?_⟩
      · intro H' f v hv
        obtain ⟨i, hi⟩ := List.getElem?_of_mem hv
        obtain ⟨t1, ht1, hx⟩ := (r.fr f).getV hi
        have dt := depths_mem (List.mem_of_getElem? ht1)
        exact datOk_tr hx (by omega)
      obtain ⟨us, pu, hus⟩ := (r.fr f1).perm pw
      have lu := hus.len
      have zu := sizes_perm pu
      have du := depths_perm pu
      have nu := pu.length_eq
      refine ⟨m, rfl, ⟨_, SqL.of hm⟩, fun D hD => ?_⟩
      have hD0 : H D = none := f1.free p1.some hD
      have hmD : m ≠ D := ne_of_none hm hD
      have nmp : m ≠ p := hp.ne' m0
      have nDp : D ≠ p := p1.ne' hD
      have husD := hus.off hD
      refine lc_list (xs := ws) (fun i H2 => ∃ acc vs2, H2 D = some (.lst acc) ∧ TrsAt (fun b => H b = none ∧ b ≠ D) H2 acc vs2 ∧ Shs (us.take i) vs2 ∧ H2 m = some (.lst ws) ∧ Pool H2 p (n + xs.length + (sizes (us.take i) - i)) ∧ Fr p H1 H2 ∧ i ≤ us.length)
        ⟨[], [], upd_same, .nil, .nil, by rw [upd_ne hmD]; exact hm, p1.new hD, (Fr.refl p H1).new hD, Nat.zero_le _⟩ (fun i H2 _ ⟨_, _, _, _, _, s, _⟩ => SqL.of s) ?_ ?_
      · rintro i x H2 hx ⟨acc, vs2, g1, g2, g3, g4, g5, g6, g7⟩
        obtain ⟨t1, ht1, hx2⟩ := hus.getV hx
        have dt := depths_mem (List.mem_of_getElem? ht1)
        have st := sizes_mem (List.mem_of_getElem? ht1)
        have tk := congrArg sizes (List.take_append_drop (i + 1) us)
        rw [sizes_append] at tk
        have e1 := take_succ_of ht1
        have li : i < us.length := (List.getElem?_eq_some_iff.mp ht1).1
        have lt := len_sizes (us.take i)
        rw [List.length_take] at lt
        have ld := len_sizes (us.drop (i + 1))
        rw [List.length_drop] at ld
        have pz := size_pos t1
        have la := g2.len
        have lb := Shs.len g3
        rw [List.length_take] at lb
        have e2 : sizes (us.take (i + 1)) = sizes (us.take i) + t1.size := by
          rw [e1, sizes_append]
          simp only [sizes]
          omega
        refine ⟨rfl, _, rfl, _, rfl, p, _, x, t1, rfl, g5, by omega, (hx2.fr g6).weak fun _ _ => trivial, by omega, by omega, fun y u H3 hsh f3 hy p3 => ?_⟩
        have g1' := f3 _ _ nDp g1
        refine ⟨acc, g1', Nat.lt_of_le_of_lt (show acc.length ≤ 1000000 by omega) (by decide), acc ++ [y], vs2 ++ [u], upd_same, ?_, ?_, ?_, ?_, ?_, by omega⟩
        · have hy2 : TrAt (fun b => H b = none ∧ b ≠ D) H3 y u := hy.weak fun b hb => ⟨f1.free p1.some (g6.free g5.some hb), fun e => by rw [e, g1] at hb; cases hb⟩
          refine ((?_ : TrsAt (fun b => H b = none ∧ b ≠ D) H3 acc vs2).append (.cons hy2 .nil)).keep (upd_keep fun b h => h.2)
          exact g2.keep fun b o k e => f3 b o (hp.ne' k.1) e
        · rw [e1]
          exact g3.append (.cons hsh .nil)
        · rw [upd_ne hmD]
          exact f3 _ _ nmp g4
        · refine (p3.upd nDp).mono ?_
          omega
        · exact (g6.trans f3).new hD
      · rintro H2 ⟨acc, vs2, g1, g2, g3, g4, g5, g6, g7⟩
        rw [lu, List.take_length] at g3 g5
        refine ⟨(by show 2 ≤ sizeLine; decide), fun e he => ?_⟩
        have he0 := f1.free p1.some (g6.free g5.some he)
        have nDe : D ≠ e := ne_of_none g1 he
        refine q _ (.node c vs2) _ (.node pu g3) ((f1.trans g6).new he0) (.node upd_same (by rw [upd_ne nDe]; exact g1) he0 hD0 c1 c2 ?_) ((g5.new he).mono ?_)
        · exact (g2.same (same_new he)).weak fun b h => h.1
        · omega
end


def rowOf (par : Nat → Nat) (k i : Nat) : List Nat := (List.range k).filter fun j => decide (1 ≤ j ∧ par j = i)
def setF {α : Type} (f : Nat → α) (k : Nat) (v : α) : Nat → α := fun j => if j = k then v else f j
theorem setF_same {α : Type} {f : Nat → α} {k : Nat} {v : α} : setF f k v k = v := if_pos rfl
theorem setF_ne {α : Type} {f : Nat → α} {k j : Nat} {v : α} (h : j ≠ k) : setF f k v j = f j := if_neg h
theorem rng_set {α β : Type} (G : α → β) (f : Nat → α) (k : Nat) (v : α) : ((List.range (k + 1)).map fun j => G (setF f k v j)) = ((List.range k).map fun j => G (f j)) ++ [G v] := by
  rw [List.range_succ, List.map_append]
  refine congr (congrArg _ (List.map_congr_left fun j hj => ?_)) ?_
  · rw [setF_ne (Nat.ne_of_lt (List.mem_range.mp hj))]
  · show [G (setF f k v k)] = [G v]
    rw [setF_same]
theorem rng_get {α : Type} (F : Nat → α) {k j : Nat} (h : j < k) : ((List.range k).map F)[j]? = some (F j) := by
  rw [List.getElem?_map, List.getElem?_range h]
  rfl
theorem row_succ (par : Nat → Nat) (k h i : Nat) (hk : 1 ≤ k) : rowOf (setF par k h) (k + 1) i = rowOf par k i ++ (if i = h then [k] else []) := by
  unfold rowOf
  rw [List.range_succ, List.filter_append]
  refine congr (congrArg _ (List.filter_congr fun j hj => ?_)) ?_
  · rw [setF_ne (Nat.ne_of_lt (List.mem_range.mp hj))]
  · rw [List.filter_cons, List.filter_nil, setF_same]
    by_cases e : i = h
    · subst e
      rw [if_pos rfl, if_pos (by simpa using hk)]
    · rw [if_neg e, if_neg (by simp; intro _ z; exact e z.symm)]
theorem row_out (par : Nat → Nat) (k i : Nat) (h : ∀ j, 1 ≤ j → j < k → par j < j) (hi : k ≤ i) : rowOf par k i = [] := by
  unfold rowOf
  rw [List.filter_eq_nil_iff]
  intro j hj e
  have e' := of_decide_eq_true e
  have hj' := List.mem_range.mp hj
  have := h j e'.1 hj'
  omega
theorem row_mem {par : Nat → Nat} {k i j : Nat} (h : j ∈ rowOf par k i) : 1 ≤ j ∧ par j = i ∧ j < k := by
  unfold rowOf at h
  have a := List.mem_filter.mp h
  have b := of_decide_eq_true a.2
  exact ⟨b.1, b.2, List.mem_range.mp a.1⟩
theorem row_len (par : Nat → Nat) (k i : Nat) : (rowOf par k i).length ≤ k := by
  have := List.length_filter_le (fun j => decide (1 ≤ j ∧ par j = i)) (List.range k)
  rw [List.length_range] at this
  exact this
def tot (par f : Nat → Nat) (s : Nat) : Nat → Nat
  | 0 => 0
  | m + 1 => tot par f s m + if s ≤ m ∧ (m = 0 ∨ par m < s) then f m else 0
def rowSum (par f : Nat → Nat) (i : Nat) : Nat → Nat
  | 0 => 0
  | m + 1 => rowSum par f i m + if 1 ≤ m ∧ par m = i then f m else 0
theorem rowSum_eq (par f : Nat → Nat) (i : Nat) : ∀ m, ((rowOf par m i).map f).sum = rowSum par f i m
  | 0 => rfl
  | m + 1 => by
    have ih := rowSum_eq par f i m
    unfold rowOf at ih ⊢
    rw [List.range_succ, List.filter_append, List.map_append, List.sum_append, ih, List.filter_cons, List.filter_nil]
    by_cases e : 1 ≤ m ∧ par m = i
    · rw [if_pos (decide_eq_true e)]
      simp only [rowSum, if_pos e, List.map_cons, List.map_nil, List.sum_cons, List.sum_nil, Nat.add_zero]
    · rw [if_neg (by simpa using e)]
      simp only [rowSum, if_neg e, List.map_nil, List.sum_nil]
theorem tot_step (par f : Nat → Nat) (s g : Nat) : ∀ m, (∀ j, 1 ≤ j → j < m → par j < j) → tot par (setF f s g) s m + rowSum par f s m = tot par f (s + 1) m + if s < m then g else 0
  | 0, _ => by simp [tot, rowSum]
  | m + 1, h => by
    have ih := tot_step par f s g m fun j a b => h j a (by omega)
    have hm := h m
    simp only [tot, rowSum]
    by_cases e : m = s
    · subst e
      rw [setF_same, if_pos (show m ≤ m ∧ (m = 0 ∨ par m < m) by omega), if_neg (show ¬ (1 ≤ m ∧ par m = m) by omega), if_neg (show ¬ (m + 1 ≤ m ∧ (m = 0 ∨ par m < m + 1)) by omega), if_pos (show m < m + 1 by omega)]
      rw [if_neg (show ¬ m < m by omega)] at ih
      omega
    · rw [setF_ne e]
      split <;> split <;> split <;> split <;> (split at ih) <;> omega
theorem tot_top (par f : Nat → Nat) : ∀ m, tot par f 0 (m + 1) = f 0
  | 0 => by simp [tot]
  | m + 1 => by
    have ih := tot_top par f m
    rw [tot, ih, if_neg (by omega)]
    rfl
theorem tot_none (par f : Nat → Nat) (s : Nat) : ∀ m, m ≤ s → tot par f s m = 0
  | 0, _ => rfl
  | m + 1, h => by
    rw [tot, tot_none par f s m (by omega), if_neg (by omega)]
theorem perm_map {α β : Type} (f : α → β) {l ws : List β} (p : l.Perm ws) : ∀ {xs : List α}, l = xs.map f → ∃ us, xs.Perm us ∧ ws = us.map f := by
  induction p with
  | nil =>
    intro xs e
    exact ⟨xs, .refl _, e⟩
  | cons x _ ih =>
    intro xs e
    cases xs with
    | nil => cases e
    | cons a r =>
      rw [List.map_cons] at e
      injection e with e1 e2
      obtain ⟨us, h1, h2⟩ := ih e2
      exact ⟨a :: us, h1.cons a, by rw [h2, e1, List.map_cons]⟩
  | swap x y l =>
    intro xs e
    match xs, e with
    | a :: b :: r, e =>
      simp only [List.map_cons, List.cons.injEq] at e
      exact ⟨b :: a :: r, .swap _ _ _, by simp only [List.map_cons, e.1, e.2.1, e.2.2]⟩
  | trans _ _ ih1 ih2 =>
    intro xs e
    obtain ⟨us, h1, h2⟩ := ih1 e
    obtain ⟨ws, h3, h4⟩ := ih2 h2
    exact ⟨ws, h1.trans h3, h4⟩
theorem trs_map {ok : Addr → Prop} {H : Hp} (tv : Nat → V) (tt : Nat → Tr) : ∀ {us : List Nat}, (∀ c ∈ us, TrAt ok H (tv c) (tt c)) → TrsAt ok H (us.map tv) (us.map tt)
  | [], _ => .nil
  | c :: r, h => .cons (h c List.mem_cons_self) (trs_map tv tt fun d hd => h d (List.mem_cons_of_mem _ hd))
theorem sizes_map (tt : Nat → Tr) : ∀ us : List Nat, sizes (us.map tt) = (us.map fun c => (tt c).size).sum
  | [] => rfl
  | c :: r => by simp only [List.map_cons, sizes, List.sum_cons, sizes_map tt r]
theorem depths_map (tt : Nat → Tr) (b : Nat) : ∀ us : List Nat, (∀ c ∈ us, (tt c).depth ≤ b) → depths (us.map tt) ≤ b
  | [], _ => Nat.zero_le _
  | c :: r, h => by
    have h1 := h c List.mem_cons_self
    have h2 := depths_map tt b r fun d hd => h d (List.mem_cons_of_mem _ hd)
    simp only [List.map_cons, depths]
    omega
theorem letss_map {p : Nat → Prop} (tt : Nat → Tr) : ∀ us : List Nat, (∀ c ∈ us, (tt c).lets p) → letss p (us.map tt)
  | [], _ => trivial
  | c :: r, h => by
    simp only [List.map_cons, letss]
    exact ⟨h c List.mem_cons_self, letss_map tt r fun d hd => h d (List.mem_cons_of_mem _ hd)⟩
theorem sum_perm {a b : List Nat} (p : a.Perm b) : a.sum = b.sum := by
  induction p with
  | nil => rfl
  | cons x _ ih => simp only [List.sum_cons, ih]
  | swap x y l => simp only [List.sum_cons]; omega
  | trans _ _ h1 h2 => exact h1.trans h2
theorem rep_rng {α : Type} (x : α) : ∀ k : Nat, (List.replicate k [x]).flatten = (List.range k).map fun _ => x
  | 0 => rfl
  | k + 1 => by
    rw [List.replicate_succ', List.flatten_append, rep_rng x k, List.range_succ, List.map_append]
    rfl
theorem ixN_nat {n k : Nat} (h : k < n) : ixN n (k : Int) = some k := by
  unfold ixN
  rw [if_pos (by omega), if_pos (by omega)]
  simp
theorem set_rng {α : Type} {F F' : Nat → α} {n k : Nat} {v : α} (h : ∀ j, j < n → j ≠ k → F j = F' j) (hk : F' k = v) : ((List.range n).map F).set k v = (List.range n).map F' := by
  refine List.ext_getElem? fun j => ?_
  rw [List.getElem?_set]
  by_cases hj : j < n
  · by_cases e : k = j
    · subst e
      rw [if_pos rfl, if_pos (by rw [List.length_map, List.length_range]; exact hj), rng_get _ hj, hk]
    · rw [if_neg e, rng_get _ hj, rng_get _ hj, h j hj (fun z => e z.symm)]
  · have o1 : ((List.range n).map F)[j]? = none := List.getElem?_eq_none_iff.mpr (by rw [List.length_map, List.length_range]; omega)
    have o2 : ((List.range n).map F')[j]? = none := List.getElem?_eq_none_iff.mpr (by rw [List.length_map, List.length_range]; omega)
    rw [o1, o2]
    split
    · rw [if_neg (by rw [List.length_map, List.length_range]; omega)]
    · rfl
theorem setF_size (tt : Nat → Tr) (k : Nat) (u : Tr) : (fun j => (setF tt k u j).size) = setF (fun j => (tt j).size) k u.size := by
  funext j
  unfold setF
  split <;> rfl
structure Rows (H0 H' : Hp) (p ro de : Addr) (n k : Nat) (par dep : Nat → Nat) (ad : Nat → Addr) : Prop where
  fr : Fr p H0 H'
  pool : Pool H' p n
  ro_ : H' ro = some (.lst ((List.range k).map fun j => V.ref (ad j)))
  de_ : H' de = some (.lst ((List.range k).map fun j => V.int (dep j : Nat)))
  row : ∀ j, j < k → H' (ad j) = some (.lst ((rowOf par k j).map fun i : Nat => V.int (i : Nat)))
  new : H0 ro = none ∧ H0 de = none ∧ ro ≠ de
  off : ∀ j, j < k → H0 (ad j) = none ∧ ad j ≠ ro ∧ ad j ≠ de
  inj : ∀ i j, i < k → j < k → ad i = ad j → i = j
  par_ : ∀ j, 1 ≤ j → j < k → par j < j ∧ dep j = dep (par j) + 1
  dep_ : ∀ j, j < k → 1 ≤ dep j ∧ dep j ≤ 30
  dep0 : dep 0 = 1
theorem Rows.go {H0 H' H2 : Hp} {p ro de : Addr} {n n2 k : Nat} {par dep : Nat → Nat} {ad : Nat → Addr} (R : Rows H0 H' p ro de n k par dep ad) (hp : H0 p ≠ none) (f : Fr p H' H2) (p2 : Pool H2 p n2) : Rows H0 H2 p ro de n2 k par dep ad := by
  have np : ∀ b, H0 b = none → b ≠ p := fun b h e => hp (by rw [← e]; exact h)
  exact ⟨R.fr.trans f, p2, f _ _ (np _ R.new.1) R.ro_, f _ _ (np _ R.new.2.1) R.de_, fun j hj => f _ _ (np _ (R.off j hj).1) (R.row j hj), R.new, R.off, R.inj, R.par_, R.dep_, R.dep0⟩
theorem Rows.step {H0 H' : Hp} {p ro de b : Addr} {n k h : Nat} {par dep : Nat → Nat} {ad : Nat → Addr} (R : Rows H0 H' p ro de n k par dep ad) (hp : H0 p ≠ none) (hk : 1 ≤ k) (hh : h < k) (hd : dep h ≤ 29)
    (hb : (upd H' (ad h) (.lst (((rowOf par k h).map fun i : Nat => V.int (i : Nat)) ++ [V.int (k : Nat)]))) b = none) :
    Rows H0 (upd (upd (upd (upd H' (ad h) (.lst (((rowOf par k h).map fun i : Nat => V.int (i : Nat)) ++ [V.int (k : Nat)]))) b (.lst [])) ro (.lst (((List.range k).map fun j => V.ref (ad j)) ++ [V.ref b]))) de (.lst (((List.range k).map fun j => V.int (dep j : Nat)) ++ [V.int ((dep h + 1 : Nat) : Int)])))
      p ro de n (k + 1) (setF par k h) (setF dep k (dep h + 1)) (setF ad k b) := by
  have np : ∀ b, H0 b = none → b ≠ p := fun b h e => hp (by rw [← e]; exact h)
  obtain ⟨n1, n2, n3⟩ := R.new
  have nah := R.off h hh
  have nb1 : b ≠ ad h := fun e => by rw [e, upd_same] at hb; cases hb
  have hb' : H' b = none := by rw [upd_ne nb1] at hb; exact hb
  have hb0 : H0 b = none := R.fr.free R.pool.some hb'
  have nbr : b ≠ ro := fun e => by rw [e, R.ro_] at hb'; cases hb'
  have nbd : b ≠ de := fun e => by rw [e, R.de_] at hb'; cases hb'
  have nba : ∀ j, j < k → b ≠ ad j := fun j hj e => by rw [e, R.row j hj] at hb'; cases hb'
  refine ⟨?_, ?_, ?_, ?_, fun j hj => ?_, R.new, fun j hj => ?_, fun i j hi hj e => ?_, fun j h1 hj => ?_, fun j hj => ?_, ?_⟩
  · intro c o hc e
    rw [upd_ne (ne_of_none e n2), upd_ne (ne_of_none e n1), upd_ne (ne_of_none e hb0), upd_ne (ne_of_none e nah.1)]
    exact R.fr c o hc e
  · exact (((R.pool.upd (np _ nah.1)).upd (np _ hb0)).upd (np _ n1)).upd (np _ n2)
  · rw [upd_ne n3, upd_same, rng_set V.ref]
  · rw [upd_same, rng_set (fun d : Nat => V.int (d : Nat))]
  · by_cases e : j = k
    · subst e
      rw [setF_same, upd_ne nbd, upd_ne nbr, upd_same, row_succ _ _ _ _ hk, if_neg (by omega), row_out par j j (fun i a c => (R.par_ i a c).1) (Nat.le_refl _)]
      rfl
    · have hj' : j < k := by omega
      have o := R.off j hj'
      rw [setF_ne e, upd_ne o.2.2, upd_ne o.2.1, upd_ne (fun z => nba j hj' z.symm), row_succ _ _ _ _ hk]
      by_cases ej : j = h
      · subst ej
        rw [upd_same, if_pos rfl, List.map_append]
        rfl
      · rw [upd_ne (fun z => ej (R.inj j h hj' hh z)), if_neg ej, List.append_nil]
        exact R.row j hj'
  · by_cases e : j = k
    · subst e
      rw [setF_same]
      exact ⟨hb0, nbr, nbd⟩
    · rw [setF_ne e]
      exact R.off j (by omega)
  · by_cases e1 : i = k
    · by_cases e2 : j = k
      · omega
      · rw [e1, setF_same, setF_ne e2] at e
        exact absurd e (nba j (by omega))
    · by_cases e2 : j = k
      · rw [e2, setF_same, setF_ne e1] at e
        exact absurd e.symm (nba i (by omega))
      · rw [setF_ne e1, setF_ne e2] at e
        exact R.inj i j (by omega) (by omega) e
  · by_cases e : j = k
    · subst e
      rw [setF_same, setF_same, setF_ne (by omega)]
      exact ⟨hh, rfl⟩
    · have q := R.par_ j h1 (by omega)
      rw [setF_ne e, setF_ne e, setF_ne (by omega)]
      exact q
  · by_cases e : j = k
    · subst e
      rw [setF_same]
      omega
    · rw [setF_ne e]
      exact R.dep_ j (by omega)
  · rw [setF_ne (by omega)]
    exact R.dep0
def sp__law_grown : Sp := fun vs H Q _ => ∃ (p : Addr) (n : Nat) (m : Nat) (L : Str), vs = [.ref p, .int m, .str L] ∧ Pool H p n ∧ n + 20000 < 1000000 ∧ 1 ≤ m ∧ m ≤ 100 ∧ Lets L ∧
  ∀ r t H', t.size ≤ m → t.depth ≤ 30 → t.lets (fun c => c ∈ L.cps.toList) → Fr p H H' → TrAt (fun b => H b = none) H' r t → Pool H' p (n + 20000) → Q r H'
section
variable {P : Program} {w : World} {K : PySem.W.Frag} {mg : Str → Option Value} {base : Heap}
theorem ok__law_grown (T : Txt K mg) : FnOk P w K mg base CX0 3 T.f__law_grown T.d__law_grown ["pool", "most", "letters"] sp__law_grown := by
  have G__law_take : FnOk P w K mg base CX0 1 T.f__law_take T.d__law_take ["pool", "many"] sp__law_take := ok__law_take T
  have G__law_mixed_up : FnOk P w K mg base CX0 2 T.f__law_mixed_up T.d__law_mixed_up ["pool", "things"] (sp__law_mixed_up K) := ok__law_mixed_up T
  refine T.F__law_grown.ok sc__law_grown (fun vs H Q E h => ?_) (fun cdv A outer s H vs Q E hr h => ?_)
  · obtain ⟨p, n, m, L, rfl, _⟩ := h
    rfl
  obtain ⟨p, n, m, L, rfl, hp, hn, hm0, hm1, hL, q⟩ := h
  refine ⟨_, (pss_cons (ps_set (i := 3) sc__law_grown.nd rfl (Or.inl rfl) (pe_op op_add pe_int (pe_ix ix_list (pe_lst (pa_cons (pe_call G__law_take (hr.mono (by omega)) (by rfl) T.m__law_take T.F__law_take.kp T.b__law_take .nil pass0 (pa_cons (pv 0) (pa_cons (pe_callB (call_min2 rfl) (by rfl) T.z_min (by decide +kernel) (pa_cons (pv 1) (pa_cons pe_int pa_nil))) pa_nil))) (pa_cons (pe_call G__law_take (hr.mono (by omega)) (by rfl) T.m__law_take T.F__law_take.kp T.b__law_take .nil pass0 (pa_cons (pv 0) (pa_cons (pv 1) pa_nil))) pa_nil))) (pe_call G__law_take (hr.mono (by omega)) (by rfl) T.m__law_take T.F__law_take.kp T.b__law_take .nil pass0 (pa_cons (pv 0) (pa_cons pe_int pa_nil))) (fun _ _ => rfl)))) (pss_cons (ps_set (i := 4) sc__law_grown.nd rfl (Or.inl rfl) (pe_call G__law_take (hr.mono (by omega)) (by rfl) T.m__law_take T.F__law_take.kp T.b__law_take .nil pass0 (pa_cons (pv 0) (pa_cons pe_int pa_nil)))) (pss_cons (ps_set (i := 5) sc__law_grown.nd rfl (Or.inl rfl) (pe_lst (pa_cons pe_int pa_nil))) (pss_cons (ps_set (i := 6) sc__law_grown.nd rfl (Or.inl rfl) (pe_lst (pa_cons (pe_lst pa_nil) pa_nil))) (pss_cons (ps_for PassesOwn.never rfl (pi_range2 (by rfl) T.z_range (pa_cons pe_int (pa_cons (pv 3) pa_nil))) (pg_name (i := 7) sc__law_grown.nd rfl (Or.inl rfl)) (pss_cons (ps_set (i := 8) sc__law_grown.nd rfl (Or.inl rfl) (pe_ix ix_list (pe_lst (pa_cons (pe_call G__law_take (hr.mono (by omega)) (by rfl) T.m__law_take T.F__law_take.kp T.b__law_take .nil pass0 (pa_cons (pv 0) (pa_cons (pv 7) pa_nil))) (pa_cons (pe_op op_sub (pv 7) pe_int) (pa_cons (pe_call G__law_take (hr.mono (by omega)) (by rfl) T.m__law_take T.F__law_take.kp T.b__law_take .nil pass0 (pa_cons (pv 0) (pa_cons (pe_callB (call_min2 rfl) (by rfl) T.z_min (by decide +kernel) (pa_cons (pv 7) (pa_cons pe_int pa_nil))) pa_nil))) pa_nil)))) (pv 4) (fun _ _ => rfl))) (C8.pss_cut (ps_if (pt_cmpR op_gt (pe_ix ix_list (pv 5) (pv 8) (fun _ _ => rfl)) pe_int (nomark _)) (pss_one (ps_set (i := 8) sc__law_grown.nd rfl (Or.inl rfl) pe_int)) pss_nil) (pss_cons (ps_expr (pe_bm PySem.F.plainAttrs_list PySem.F.slot_list_append PySem.F.type_list_append mt_append (pe_ix ix_list (pv 6) (pv 8) (fun _ _ => rfl)) (pa_cons (pv 7) pa_nil))) (pss_cons (ps_expr (pe_bm PySem.F.plainAttrs_list PySem.F.slot_list_append PySem.F.type_list_append mt_append (pv 6) (pa_cons (pe_lst pa_nil) pa_nil))) (pss_one (ps_expr (pe_bm PySem.F.plainAttrs_list PySem.F.slot_list_append PySem.F.type_list_append mt_append (pv 5) (pa_cons (pe_op op_add (pe_ix ix_list (pv 5) (pv 8) (fun _ _ => rfl)) pe_int) pa_nil))))))))) (pss_cons (ps_set (i := 9) sc__law_grown.nd rfl (Or.inr rfl) (pe_op op_rep (pe_lst (pa_cons pe_non pa_nil)) (pv 3))) (pss_cons (ps_for PassesOwn.never rfl (pi_range3 (by rfl) T.z_range (pa_cons (pe_op op_sub (pv 3) pe_int) (pa_cons (pe_un un_neg pe_int) (pa_cons (pe_un un_neg pe_int) pa_nil)))) (pg_name (i := 7) sc__law_grown.nd rfl (Or.inl rfl)) (pss_cons (ps_setLc (i := 10) (own := [("child", 11)]) (g := gName 11) (te := tOp (rIxL K) (tVar 9) (tVar 11)) (tt := tYes) rfl sc__law_grown.nd rfl rfl (sw_true rfl rfl rfl (by decide +kernel)) (pi_list (pe_call G__law_mixed_up (hr.mono (by omega)) (by rfl) T.m__law_mixed_up T.F__law_mixed_up.kp T.b__law_mixed_up .nil pass0 (pa_cons (pv 0) (pa_cons (pe_ix ix_list (pv 6) (pv 7) (fun _ _ => rfl)) pa_nil)))) (blkOk_by (own := [("child", 11)]) (N := ["pool", "most", "letters", "many", "way", "depths", "rows", "k", "head", "trees", "children", "child"]) (sc := (defScope s__law_grown)) (by decide +kernel)) (fun _ _ _ _ _ => (pg_name (i := 11) sc__law_grown.nd rfl (Or.inl rfl))) (fun _ _ _ _ _ => pts_nil) (fun _ _ _ _ _ => (pe_ix ix_list (pv 9) (pv 11) (fun _ _ => rfl)))) (pss_one (ps_asg (pe_tup (pa_cons (pe_ix ix_str (pv 2) (pe_call G__law_take (hr.mono (by omega)) (by rfl) T.m__law_take T.F__law_take.kp T.b__law_take .nil pass0 (pa_cons (pv 0) (pa_cons (pe_callB call_len_str (by rfl) T.z_len PySem.boot_len (pa_cons (pv 2) pa_nil)) pa_nil))) (fun _ _ => rfl)) (pa_cons (pv 10) pa_nil))) (pg_sub (pv 9) (pv 7) set_list))))) (pss_one (ps_ret (pe_ix ix_list (pv 9) pe_int (fun _ _ => rfl))))))))))), ?_⟩
  refine ⟨_, rfl, _, rfl, m, 7, rfl, p, _, n, rfl, hp, by omega, ?_, ?_, fun r1 H1 a0 a1 c1 p1 => ?_⟩
  · split <;> omega
  · split <;> omega
  refine ⟨_, rfl, _, rfl, p, m, n + 1, rfl, p1, by omega, by omega, by omega, fun r2 H2 b0 b1 c2 p2 => ?_⟩
  refine ⟨(by show 2 ≤ sizeLine; decide), fun l1 hl1 => ?_⟩
  refine ⟨_, rfl, p, 2, n + 2, rfl, p2.new hl1, by omega, by decide, by decide, fun r3 H3 d0 d1 c3 p3 => ?_⟩
  have nl1 : l1 ≠ p := p2.ne' hl1
  have hl3 := c3.at (upd_same (H := H2) (a := l1) (o := .lst [.int r1, .int r2])) nl1
  obtain ⟨many, hmany, hmv⟩ : ∃ many : Nat, (1 ≤ many ∧ many ≤ m) ∧ ∃ z : Int, atI [V.int r1, V.int r2] r3 = some (.int z) ∧ 1 + z = (many : Int) := by
    have a1' : r1 < m := by
      have := a1
      split at this <;> omega
    by_cases e : r3 = 0
    · subst e
      exact ⟨(1 + r1).toNat, by omega, r1, atI_nat (j := 0) rfl, by omega⟩
    · have e1 : r3 = 1 := by omega
      subst e1
      exact ⟨(1 + r2).toNat, by omega, r2, atI_nat (j := 1) rfl, by omega⟩
  obtain ⟨z, hz, hzm⟩ := hmv
  refine ⟨l1, _, r3, _, rfl, rfl, SqL.of hl3, hz, 1, z, rfl, rfl, ?_⟩
  have f3 : Fr p H H3 := (((Fr.chg c1).trans (Fr.chg c2)).new (by
    have := (c1.trans c2) l1 nl1
    rw [hl1] at this
    exact this.symm)).trans (Fr.chg c3)
  refine ⟨_, rfl, p, 3, n + 3, rfl, p3, by omega, by decide, by decide, fun way H4 w0 w1 c4 p4 => ?_⟩
  refine ⟨(by show 1 ≤ sizeLine; decide), fun de hde => ?_⟩
  refine ⟨(by show 0 ≤ sizeLine; decide), fun a0_ ha0 => ⟨(by show 1 ≤ sizeLine; decide), fun ro hro => ?_⟩⟩
  have n0 : H4 de = none := hde
  have na0 : a0_ ≠ de := fun e => by rw [e, upd_same] at ha0; cases ha0
  have ha0' : H4 a0_ = none := by rw [upd_ne na0] at ha0; exact ha0
  have nro1 : ro ≠ a0_ := fun e => by rw [e, upd_same] at hro; cases hro
  have hro1 := hro
  rw [upd_ne nro1] at hro1
  have nro2 : ro ≠ de := fun e => by rw [e, upd_same] at hro1; cases hro1
  rw [upd_ne nro2] at hro1
  have f4 : Fr p H H4 := f3.trans (Fr.chg c4)
  have e0 : ∀ {b}, H4 b = none → H b = none := fun h => f4.free p4.some h
  have hps : H p ≠ none := hp.some
  have np : ∀ b, H b = none → b ≠ p := fun b h e => hps (by rw [← e]; exact h)
  have R0 : Rows H (upd (upd (upd H4 de (.lst [V.int 1])) a0_ (.lst [])) ro (.lst [V.ref a0_])) p ro de (n + 4) 1 (fun _ => 0) (fun _ => 1) (fun _ => a0_) := by
    refine ⟨((f4.new (e0 hde)).new (e0 ha0')).new (e0 hro1), ?_, upd_same, by rw [upd_ne (fun e => nro2 e.symm), upd_ne (fun e => na0 e.symm)]; exact upd_same, fun j hj => ?_, ⟨e0 hro1, e0 hde, nro2⟩, fun j hj => ⟨e0 ha0', fun e => nro1 e.symm, na0⟩, fun i j hi hj _ => by omega, fun j h1 h2 => by omega, fun j hj => ⟨Nat.le_refl _, by decide⟩, rfl⟩
    · exact ((p4.upd (np _ (e0 hde))).upd (np _ (e0 ha0'))).upd (np _ (e0 hro1))
    · rw [upd_ne (fun e => nro1 e.symm)]
      exact upd_same
  refine ⟨_, rfl, 1, many, congrArg (fun x => [V.int 1, V.int x]) hzm, ⟨by decide, by decide, by omega, by omega⟩, for_range (lo := 1) (n := ((many : Int) - 1).toNat)
    (fun i σ H' => ∃ par dep ad y7 y8 y9 y10 y11, σ = [some (.ref p), some (.int m), some (.str L), some (.int many), some (.int way), some (.ref de), some (.ref ro), y7, y8, y9, y10, y11] ∧ Rows H H' p ro de (n + 4 + 2 * i) (1 + i) par dep ad)
    ⟨_, _, _, none, none, none, none, none, by rw [← hzm]; rfl, R0⟩ ?_ ?_⟩
  · rintro i σ H5 hi ⟨par, dep, ad, y7, y8, y9, y10, y11, rfl, R⟩
    have hk : 1 + i < many := by omega
    rw [show (1 : Int) + (i : Int) = ((1 + i : Nat) : Int) by omega]
    refine ⟨_, rfl, _, rfl, p, _, _, rfl, R.pool, by omega, by omega, by omega, fun s1 H6 a0 a1 c6 p6 => ?_⟩
    refine ⟨_, rfl, _, 1, rfl, rfl, _, rfl, _, rfl, _, 3, rfl, p, _, _, rfl, p6, by omega, ?_, ?_, fun s2 H7 b0 b1 c7 p7 => ?_⟩
    · split <;> omega
    · split <;> omega
    refine ⟨(by show 3 ≤ sizeLine; decide), fun e he => ?_⟩
    obtain ⟨hd, hdk, hdv⟩ : ∃ hd : Nat, hd < 1 + i ∧ atI [V.int s1, V.int (((1 + i : Nat) : Int) - 1), V.int s2] way = some (.int (hd : Nat)) := by
      have b1' : s2 < ((1 + i : Nat) : Int) := by
        have := b1
        split at this <;> omega
      obtain rfl | rfl | rfl : way = 0 ∨ way = 1 ∨ way = 2 := by omega
      · exact ⟨s1.toNat, by omega, at_of (j := 0) rfl (congrArg (fun z => some (V.int z)) (show s1 = ((s1.toNat : Nat) : Int) by omega))⟩
      · exact ⟨i, by omega, at_of (j := 1) rfl (congrArg (fun z => some (V.int z)) (show ((1 + i : Nat) : Int) - 1 = (i : Int) by omega))⟩
      · exact ⟨s2.toNat, by omega, at_of (j := 2) rfl (congrArg (fun z => some (V.int z)) (show s2 = ((s2.toNat : Nat) : Int) by omega))⟩
    have R7 : Rows H (upd H7 e (.lst [V.int s1, V.int (((1 + i : Nat) : Int) - 1), V.int s2])) p ro de (n + 4 + 2 * i + 2) (1 + i) par dep ad :=
      R.go hps ((Fr.chg (c6.trans c7)).new (by
        have := (c6.trans c7) e (p7.ne' he)
        rw [he] at this
        exact this.symm)) (p7.new he)
    refine ⟨_, rfl, e, _, way, _, rfl, rfl, SqL.of upd_same, hdv, ?_⟩
    generalize (upd H7 e (.lst [V.int s1, V.int (((1 + i : Nat) : Int) - 1), V.int s2])) = H8 at R7
    refine ⟨fun σ' H' => ∃ hd : Nat, hd < 1 + i ∧ dep hd ≤ 29 ∧ H' = H8 ∧ σ' = [some (.ref p), some (.int m), some (.str L), some (.int many), some (.int way), some (.ref de), some (.ref ro), some (.int ((1 + i : Nat) : Int)), some (.int (hd : Nat)), y9, y10, y11], ?_, ?_⟩
    · refine ⟨_, rfl, _, rfl, de, _, hd, _, rfl, rfl, SqL.of R7.de_, at_of (j := hd) rfl (rng_get _ hdk), _, 29, rfl, rfl, _, rfl, ?_⟩
      refine ite2 (fun c => ?_) (fun c => ?_)
      · exact ⟨0, by omega, by rw [R7.dep0]; decide, rfl, rfl⟩
      · have c' : ¬ (29 : Int) < (dep hd : Nat) := of_decide_eq_false (Bool.eq_false_iff.mpr c)
        exact ⟨hd, hdk, by omega, rfl, rfl⟩
    · rintro σ' H' ⟨hd, hdk, hd29, rfl, rfl⟩
      have rl := row_len par (1 + i) hd
      refine ⟨_, rfl, _, rfl, ro, _, hd, _, rfl, rfl, SqL.of R7.ro_, at_of (j := hd) rfl (rng_get _ hdk), .inl ⟨rfl, _, SqL.of (R7.row hd hdk)⟩, _, rfl, ad hd, _, _, rfl, rfl, R7.row hd hdk, ?_, ?_⟩
      · rw [List.length_map]
        exact small1000 (by omega)
      have o := R7.off hd hdk
      have hro9 : (upd H' (ad hd) (.lst (((rowOf par (1 + i) hd).map fun i : Nat => V.int (i : Nat)) ++ [V.int ((1 + i : Nat) : Int)]))) ro = some (.lst ((List.range (1 + i)).map fun j => V.ref (ad j))) := by
        rw [upd_ne (fun z => o.2.1 z.symm)]
        exact R7.ro_
      refine ⟨_, rfl, .inl ⟨rfl, _, SqL.of hro9⟩, (by show 0 ≤ sizeLine; decide), fun b hb => ?_⟩
      have nrb : ro ≠ b := ne_of_none hro9 hb
      refine ⟨ro, _, .ref b, rfl, rfl, by rw [upd_ne nrb]; exact hro9, by rw [List.length_map, List.length_range]; exact small1000 (by omega), ?_⟩
      have hde9 : (upd H' (ad hd) (.lst (((rowOf par (1 + i) hd).map fun i : Nat => V.int (i : Nat)) ++ [V.int ((1 + i : Nat) : Int)]))) de = some (.lst ((List.range (1 + i)).map fun j => V.int (dep j : Nat))) := by
        rw [upd_ne (fun z => o.2.2 z.symm)]
        exact R7.de_
      have hde10 : ∀ o1 o2, (upd (upd (upd H' (ad hd) (.lst (((rowOf par (1 + i) hd).map fun i : Nat => V.int (i : Nat)) ++ [V.int ((1 + i : Nat) : Int)]))) b o1) ro o2) de = some (.lst ((List.range (1 + i)).map fun j => V.int (dep j : Nat))) := fun o1 o2 => by
        rw [upd_ne (fun z => R7.new.2.2 z.symm), upd_ne (ne_of_none hde9 hb)]
        exact hde9
      refine ⟨_, rfl, .inl ⟨rfl, _, SqL.of (hde10 _ _)⟩, _, rfl, _, rfl, de, _, hd, _, rfl, rfl, SqL.of (hde10 _ _), at_of (j := hd) rfl (rng_get _ hdk), _, 1, rfl, rfl, de, _, _, rfl, rfl, hde10 _ _, by rw [List.length_map, List.length_range]; exact small1000 (by omega), ?_⟩
      have R8 := R7.step hps (by omega) hdk hd29 hb
      exact ⟨_, _, _, _, _, _, _, _, rfl, R8⟩
  · rintro σ H5 ⟨par, dep, ad, y7, y8, y9, y10, y11, rfl, R⟩
    have ek : 1 + ((many : Int) - 1).toNat = many := by omega
    rw [ek] at R
    refine ⟨(by show 1 ≤ sizeLine; decide), fun t0 ht0 => ⟨_, rfl, t0, many, [.non], rfl, rfl, upd_same, by omega, by omega, Nat.le_trans (show 1 * (many : Int).toNat ≤ 1000 by omega) (by decide), fun tr htr => ?_⟩⟩
    have nt : tr ≠ t0 := fun e => by rw [e, upd_same] at htr; cases htr
    have htr5 : H5 tr = none := by rw [upd_ne nt] at htr; exact htr
    have htr0 : H tr = none := R.fr.free R.pool.some htr5
    have ntp : tr ≠ p := np _ htr0
    refine ⟨_, rfl, _, 1, rfl, rfl, _, rfl, _, rfl, (many : Int) - 1, -1, -1, many, rfl, ?_, for_rangeC (lo := (many : Int) - 1) (c := -1) (n := many)
      (fun i σ H' => ∃ tv tt y7 y8 y10 y11, σ = [some (.ref p), some (.int m), some (.str L), some (.int many), some (.int way), some (.ref de), some (.ref ro), y7, y8, some (.ref tr), y10, y11] ∧
        H' tr = some (.lst ((List.range many).map fun j => if many - i ≤ j then tv j else .non)) ∧ (∀ j, many - i ≤ j → j < many → TrAt (fun b => H b = none ∧ b ≠ tr) H' (tv j) (tt j) ∧ (tt j).depth + dep j ≤ 31 ∧ (tt j).lets (fun c => c ∈ L.cps.toList)) ∧
        tot par (fun j => (tt j).size) (many - i) many = i ∧ Fr p H5 H' ∧ Pool H' p (n + 300 + 101 * i))
      ⟨fun _ => .non, fun _ => .node 97 [], _, _, _, _, rfl, ?_, fun j h1 h2 => by omega, tot_none _ _ _ _ (by omega), ((Fr.refl p H5).new (by exact ht0)).new htr5, ((R.pool.new ht0).new htr).mono (by omega)⟩ ?_ ?_⟩
    · have e := RgC.neg (i := (many : Int) - 1) (j := -1) (by omega) (by omega) (by omega) (by omega)
      rw [show ((many : Int) - 1 - -1).toNat = many by omega] at e
      exact e
    · rw [upd_same, show (many : Int).toNat = many by omega, rep_rng]
      refine congrArg (fun z => some (HO.lst z)) (List.map_congr_left fun j hj => ?_)
      rw [if_neg (by have := List.mem_range.mp hj; omega)]
    · rintro i σ H6 hi ⟨tv, tt, y7, y8, y10, y11, rfl, hT, hTr, hTot, f6, p6⟩
      obtain ⟨k, hk⟩ : ∃ k : Nat, k + 1 + i = many := ⟨many - 1 - i, by omega⟩
      rw [show (many : Int) - 1 + (i : Int) * -1 = (k : Int) by omega]
      have R6 := R.go hps f6 p6
      have hkm : k < many := by omega
      have rl := row_len par many k
      refine ⟨_, rfl, _, rfl, _, rfl, ro, _, k, _, rfl, rfl, SqL.of R6.ro_, at_of (j := k) rfl (rng_get _ hkm), p, ad k, _, _, rfl, p6, by rw [List.length_map]; omega, SqL.of (R6.row k hkm), ?_, fun mm ws H7 pw m0 f7 hm p7 => ?_⟩
      · intro H' f v hv
        obtain ⟨c, _, rfl⟩ := List.mem_map.mp hv
        exact datOk_int _
      obtain ⟨us, pu, rfl⟩ := perm_map _ pw rfl
      have lu : us.length = (rowOf par many k).length := pu.length_eq.symm
      have mem : ∀ c ∈ us, 1 ≤ c ∧ par c = k ∧ c < many ∧ k < c := fun c hc => by
        have a := row_mem (pu.mem_iff.mpr hc)
        have b := (R.par_ c a.1 a.2.2).1
        omega
      refine ⟨mm, rfl, ⟨_, SqL.of hm⟩, fun D hD => ?_⟩
      have hD6 : H6 D = none := f7.free p7.some hD
      have hD0 : H D = none := R6.fr.free p6.some hD6
      have nDt : D ≠ tr := fun e => by rw [e, hT] at hD6; cases hD6
      have hT7 := f7 _ _ ntp hT
      have nmD : mm ≠ D := ne_of_none hm hD
      refine lc_list (xs := us.map fun i : Nat => V.int (i : Nat)) (fun j H8 => H8 = upd H7 D (.lst ((us.take j).map tv))) rfl (fun j H8 _ e => by rw [e]; exact SqL.of (by rw [upd_ne nmD]; exact hm)) ?_ ?_
      · rintro j x H8 hx rfl
        rw [List.getElem?_map] at hx
        cases hc : us[j]? with
        | none => rw [hc] at hx; cases hx
        | some c =>
          rw [hc] at hx
          cases hx
          have hcm := mem c (List.mem_of_getElem? hc)
          have hg : ((List.range many).map fun j => if many - i ≤ j then tv j else .non)[c]? = some (tv c) := by
            rw [rng_get _ hcm.2.2.1, if_pos (by omega)]
          refine ⟨rfl, _, rfl, _, rfl, tr, _, c, tv c, rfl, rfl, SqL.of (by rw [upd_ne (fun z => nDt z.symm)]; exact hT7), at_of (j := c) rfl hg, _, upd_same, ?_, ?_⟩
          · rw [List.length_map, List.length_take]
            exact small1000 (by omega)
          · rw [upd_upd, take_succ_of hc, List.map_append]
            rfl
      · rintro H8 rfl
        rw [List.length_map, List.take_length]
        have hT8 : (upd H7 D (.lst (us.map tv))) tr = some (.lst ((List.range many).map fun j => if many - i ≤ j then tv j else .non)) := by
          rw [upd_ne (fun z => nDt z.symm)]
          exact hT7
        have hLs : L.cps.toList.length = L.length := by
          show L.cps.toList.length = L.cps.size
          exact Array.length_toList
        have p8 : Pool (upd H7 D (.lst (us.map tv))) p _ := p7.new hD
        refine ⟨_, rfl, _, rfl, _, rfl, L, rfl, Nat.le_trans hL.2.1 (by decide), p, _, _, rfl, p8, by rw [List.length_map]; omega, by have := hL.1; omega, by have := hL.2.1; omega, fun r H9 r0 r1 c9 p9 => ?_⟩
        obtain ⟨rn, rfl⟩ : ∃ rn : Nat, r = (rn : Int) := ⟨r.toNat, by omega⟩
        have hrn : rn < L.cps.toList.length := by rw [hLs]; omega
        obtain ⟨c, hc⟩ : ∃ c, L.cps.toList[rn]? = some c := ⟨_, List.getElem?_eq_getElem hrn⟩
        have cL := hL.2.2 c (List.mem_of_getElem? hc)
        refine ⟨L, rn, c, rfl, rfl, Nat.le_trans hL.2.1 (by decide), atI_nat hc, _, rfl, (by show 2 ≤ sizeLine; decide), fun g hg => ?_⟩
        have hT9 := c9.at hT8 ntp
        have ngt : g ≠ tr := fun e => by rw [e, hT9] at hg; cases hg
        have f9 : Fr p H6 H9 := (f7.new hD6).trans (Fr.chg c9)
        have hg6 : H6 g = none := f9.free p9.some hg
        have hg0 : H g = none := R6.fr.free p6.some hg6
        have hD9 : H9 D = some (.lst (us.map tv)) := c9.at upd_same (np _ hD0)
        have nDg : D ≠ g := ne_of_none hD9 hg
        refine ⟨_, rfl, _, rfl, tr, _, k, k, rfl, rfl, by rw [upd_ne (fun z => ngt z.symm)]; exact hT9, ixN_nat (by rw [List.length_map, List.length_range]; exact hkm), ?_⟩
        have keep : ∀ v t, TrAt (fun b => H b = none ∧ b ≠ tr) H6 v t → ∀ o, TrAt (fun b => H b = none ∧ b ≠ tr) (upd (upd H9 g (.tup [.str (ch c), .ref D])) tr o) v t := fun v t h o =>
          ((h.keep fun b o k e => f9 b o (np b k.1) e).same (same_new hg)).keep (upd_keep fun b k => k.2)
        refine ⟨setF tv k (.ref g), setF tt k (.node c (us.map tt)), _, _, _, _, rfl, ?_, ?_, ?_, ?_, ?_⟩
        · rw [upd_same]
          refine congrArg (fun z => some (HO.lst z)) (set_rng (fun j hj ne => ?_) ?_)
          · rw [setF_ne ne]
            by_cases e : many - i ≤ j
            · rw [if_pos e, if_pos (by omega)]
            · rw [if_neg e, if_neg (by omega)]
          · rw [if_pos (by omega), setF_same]
        · intro j h1 h2
          by_cases e : j = k
          · subst e
            rw [setF_same, setF_same]
            refine ⟨.node (by rw [upd_ne ngt]; exact upd_same) (by rw [upd_ne nDt, upd_ne nDg]; exact hD9) ⟨hg0, ngt⟩ ⟨hD0, nDt⟩ cL.1 cL.2 (trs_map tv tt fun d hd => keep _ _ (hTr d (by have := mem d hd; omega) (mem d hd).2.2.1).1 _), ?_, ?_⟩
            · have := depths_map tt (30 - dep j) us fun d hd => by
                have a := mem d hd
                have b := (hTr d (by omega) a.2.2.1).2.1
                have e := (R.par_ d a.1 a.2.2.1).2
                rw [a.2.1] at e
                omega
              have b := R.dep_ j hkm
              simp only [Tr.depth]
              omega
            · simp only [Tr.lets]
              exact ⟨List.mem_of_getElem? hc, letss_map tt us fun d hd => (hTr d (by have := mem d hd; omega) (mem d hd).2.2.1).2.2⟩
          · rw [setF_ne e, setF_ne e]
            have a := hTr j (by omega) h2
            exact ⟨keep _ _ a.1 _, a.2⟩
        · have st := tot_step par (fun j => (tt j).size) k (1 + sizes (us.map tt)) many fun j a b => (R.par_ j a b).1
          rw [← rowSum_eq, if_pos hkm, sum_perm (pu.map fun j => (tt j).size)] at st
          rw [setF_size, show many - (i + 1) = k by omega]
          rw [show many - i = k + 1 by omega] at hTot
          simp only [Tr.size]
          rw [sizes_map] at st ⊢
          omega
        · intro b o hb e
          rw [upd_ne (ne_of_none e htr5)]
          exact same_new hg _ _ (f9 b o hb (f6 b o hb e))
        · refine ((p9.new hg).upd ntp).mono ?_
          rw [List.length_map]
          omega
    · rintro σ H6 ⟨tv, tt, y7, y8, y10, y11, rfl, hT, hTr, hTot, f6, p6⟩
      have h0 := hTr 0 (by omega) (by omega)
      rw [show many - many = 0 by omega] at hTot
      obtain ⟨m', rfl⟩ : ∃ m', many = m' + 1 := ⟨many - 1, by omega⟩
      rw [tot_top] at hTot
      have hd0 := R.dep0
      refine ⟨_, rfl, tr, _, 0, tv 0, rfl, rfl, SqL.of hT, at_of (j := 0) rfl (by rw [rng_get _ (by omega), if_pos (by omega)]), ?_⟩
      refine q _ (tt 0) _ (by omega) (by omega) h0.2.2 (R.fr.trans f6) (h0.1.weak fun b k => k.1) (p6.mono (by omega))
end

section
variable {P : Program} {w : World} {K : PySem.W.Frag} {mg : Str → Option Value} {base : Heap}
end


theorem TrAt.go {H H1 H2 : Hp} {p : Addr} {v : V} {t : Tr} (x : TrAt (fun b => H b = none) H1 v t) (hp : H p ≠ none) (f : Fr p H1 H2) : TrAt (fun b => H b = none) H2 v t :=
  x.keep fun b o k e => f b o (fun z => hp (by rw [← z]; exact k)) e
theorem TrsAt.go {H H1 H2 : Hp} {p : Addr} {vs : List V} {ts : List Tr} (x : TrsAt (fun b => H b = none) H1 vs ts) (hp : H p ≠ none) (f : Fr p H1 H2) : TrsAt (fun b => H b = none) H2 vs ts :=
  x.keep fun b o k e => f b o (fun z => hp (by rw [← z]; exact k)) e
theorem TrAt.base {H H1 H2 : Hp} {p : Addr} {v : V} {t : Tr} (x : TrAt (fun b => H1 b = none) H2 v t) (f : Fr p H H1) (hp : H1 p ≠ none) : TrAt (fun b => H b = none) H2 v t := x.weak fun _ h => f.free hp h
theorem letss_of {p : Nat → Prop} : ∀ {ts : List Tr}, (∀ t ∈ ts, t.lets p) → letss p ts
  | [], _ => trivial
  | t :: r, h => by
    simp only [letss]
    exact ⟨h t List.mem_cons_self, letss_of fun u hu => h u (List.mem_cons_of_mem _ hu)⟩
def sp__law_tree : Sp := fun vs H Q _ => ∃ (p : Addr) (n : Nat) (m : Nat) (L : Str), vs = [.ref p, .int m, .str L] ∧ Pool H p n ∧ n + 50000 < 1000000 ∧ 6 ≤ m ∧ m ≤ 100 ∧ Lets L ∧
  ∀ r t H', t.size ≤ m → t.depth ≤ 31 → t.lets (fun c => c ∈ L.cps.toList) → Fr p H H' → TrAt (fun b => H b = none) H' r t → Pool H' p (n + 50000) → Q r H'
section
variable {P : Program} {w : World} {K : PySem.W.Frag} {mg : Str → Option Value} {base : Heap}
theorem ok__law_tree (T : Txt K mg) : FnOk P w K mg base CX0 40 T.f__law_tree T.d__law_tree ["pool", "most", "letters"] sp__law_tree := by
  have G__law_take : FnOk P w K mg base CX0 1 T.f__law_take T.d__law_take ["pool", "many"] sp__law_take := ok__law_take T
  have G__law_grown : FnOk P w K mg base CX0 3 T.f__law_grown T.d__law_grown ["pool", "most", "letters"] sp__law_grown := ok__law_grown T
  have G__law_mixed_up : FnOk P w K mg base CX0 2 T.f__law_mixed_up T.d__law_mixed_up ["pool", "things"] (sp__law_mixed_up K) := ok__law_mixed_up T
  have G__law_shuffled : FnOk P w K mg base CX0 (32 + 2) T.f__law_shuffled T.d__law_shuffled ["pool", "tree"] (sp__law_shuffled 32) := ok__law_shuffled T 32
  refine T.F__law_tree.ok sc__law_tree (fun vs H Q E h => ?_) (fun cdv A outer s H vs Q E hr h => ?_)
  · obtain ⟨p, n, m, L, rfl, _⟩ := h
    rfl
  obtain ⟨p, n, m, L, rfl, hp, hn, hm0, hm1, hL, q⟩ := h
  refine ⟨_, (pss_cons (ps_if (pt_cmpR op_eq (pe_call G__law_take (hr.mono (by omega)) (by rfl) T.m__law_take T.F__law_take.kp T.b__law_take .nil pass0 (pa_cons (pv 0) (pa_cons pe_int pa_nil))) pe_int (nomark _)) (pss_one (ps_ret (pe_call G__law_grown (hr.mono (by omega)) (by rfl) T.m__law_grown T.F__law_grown.kp T.b__law_grown .nil pass0 (pa_cons (pv 0) (pa_cons (pv 1) (pa_cons (pv 2) pa_nil)))))) pss_nil) (pss_cons (ps_set (i := 3) sc__law_tree.nd rfl (Or.inl rfl) (pe_call G__law_grown (hr.mono (by omega)) (by rfl) T.m__law_grown T.F__law_grown.kp T.b__law_grown .nil pass0 (pa_cons (pv 0) (pa_cons (pe_op op_fdivW (pv 1) pe_int) (pa_cons (pv 2) pa_nil))))) (pss_cons (ps_set (i := 4) sc__law_tree.nd rfl (Or.inl rfl) (pe_call G__law_grown (hr.mono (by omega)) (by rfl) T.m__law_grown T.F__law_grown.kp T.b__law_grown .nil pass0 (pa_cons (pv 0) (pa_cons (pe_op op_sub (pe_op op_fdivW (pv 1) pe_int) pe_int) (pa_cons (pv 2) pa_nil))))) (pss_cons (ps_set (i := 5) sc__law_tree.nd rfl (Or.inl rfl) (pe_lst (pa_cons (pe_lst (pa_cons (pv 3) (pa_cons (pe_call G__law_shuffled (hr.mono (by omega)) (by rfl) T.m__law_shuffled T.F__law_shuffled.kp T.b__law_shuffled .nil pass0 (pa_cons (pv 0) (pa_cons (pv 3) pa_nil))) pa_nil))) (pa_cons (pe_lst (pa_cons (pv 3) (pa_cons (pv 4) (pa_cons (pe_call G__law_shuffled (hr.mono (by omega)) (by rfl) T.m__law_shuffled T.F__law_shuffled.kp T.b__law_shuffled .nil pass0 (pa_cons (pv 0) (pa_cons (pv 3) pa_nil))) pa_nil)))) (pa_cons (pe_lst (pa_cons (pv 4) (pa_cons (pv 3) (pa_cons (pv 3) pa_nil)))) pa_nil))))) (pss_one (ps_ret (pe_tup (pa_cons (pe_ix ix_str (pv 2) (pe_call G__law_take (hr.mono (by omega)) (by rfl) T.m__law_take T.F__law_take.kp T.b__law_take .nil pass0 (pa_cons (pv 0) (pa_cons (pe_callB call_len_str (by rfl) T.z_len PySem.boot_len (pa_cons (pv 2) pa_nil)) pa_nil))) (fun _ _ => rfl)) (pa_cons (pe_call G__law_mixed_up (hr.mono (by omega)) (by rfl) T.m__law_mixed_up T.F__law_mixed_up.kp T.b__law_mixed_up .nil pass0 (pa_cons (pv 0) (pa_cons (pe_ix ix_list (pv 5) (pe_call G__law_take (hr.mono (by omega)) (by rfl) T.m__law_take T.F__law_take.kp T.b__law_take .nil pass0 (pa_cons (pv 0) (pa_cons pe_int pa_nil))) (fun _ _ => rfl)) pa_nil))) pa_nil))))))))), ?_⟩
  have hps : H p ≠ none := hp.some
  have np : ∀ b, H b = none → b ≠ p := fun b h e => hps (by rw [← e]; exact h)
  refine ⟨_, rfl, p, 2, n, rfl, hp, by omega, by decide, by decide, fun r0 H1 a0 a1 c1 p1 => ⟨rfl, _, rfl, ?_⟩⟩
  have f1 : Fr p H H1 := Fr.chg c1
  refine ite2 (fun _ => ?_) (fun _ => ?_)
  · refine ⟨_, rfl, _, rfl, _, rfl, p, n + 1, m, L, rfl, p1, by omega, by omega, hm1, hL, fun r t H' z1 z2 z3 f T1 p2 => ?_⟩
    exact q r t H' z1 (by omega) z3 (f1.trans f) (T1.base f1 p1.some) (p2.mono (by omega))
  · refine ⟨_, rfl, _, rfl, m, 3, rfl, rfl, divW (by decide) (by decide), _, rfl, p, n + 1, m / 3, L, congrArg (fun z => [V.ref p, V.int z, V.str L]) (show (m : Int) / 3 = ((m / 3 : Nat) : Int) by omega), p1, by omega, by omega, by omega, hL, fun one t1 H2 z1 d1 l1 f2 T1 p2 => ?_⟩
    refine ⟨_, rfl, _, rfl, m, 3, rfl, rfl, divW (by decide) (by decide), (m : Int) / 3, 1, rfl, rfl, _, rfl, p, _, m / 3 - 1, L, congrArg (fun z => [V.ref p, V.int z, V.str L]) (show (m : Int) / 3 - 1 = ((m / 3 - 1 : Nat) : Int) by omega), p2, by omega, by omega, by omega, hL, fun other t2 H3 z2 d2 l2 f3 T2 p3 => ?_⟩
    have T1a := T1.base f1 p1.some
    have T2a := T2.base (f1.trans f2) p2.some
    have T1b := T1a.go hps f3
    refine ⟨_, rfl, _, rfl, _, rfl, p, _, one, t1, rfl, p3, by omega, T1b.weak fun _ _ => trivial, by omega, by omega, fun s1 u1 H4 sh1 f4 S1 p4 => ⟨(by show 2 ≤ sizeLine; decide), fun ra hra => ?_⟩⟩
    have S1a := S1.base ((f1.trans f2).trans f3) p3.some
    have p5 := p4.new (o := .lst [one, s1]) hra
    have f5 : Fr p H4 (upd H4 ra (.lst [one, s1])) := (Fr.refl p H4).new hra
    have F5 := (((f1.trans f2).trans f3).trans f4).trans f5
    have T1c := T1b.go hps (f4.trans f5)
    have e1 := sh1.size
    have e2 := sh1.depth
    refine ⟨_, rfl, _, rfl, _, rfl, _, rfl, p, _, one, t1, rfl, p5, by omega, T1c.weak fun _ _ => trivial, by omega, by omega, fun s2 u2 H6 sh2 f6 S2 p6 => ⟨(by show 3 ≤ sizeLine; decide), fun rb hrb => ?_⟩⟩
    have S2a := S2.base F5 p5.some
    have e3 := sh2.size
    have e4 := sh2.depth
    have p7 := p6.new (o := .lst [one, other, s2]) hrb
    have f7 : Fr p H6 (upd H6 rb (.lst [one, other, s2])) := (Fr.refl p H6).new hrb
    refine ⟨_, rfl, _, rfl, _, rfl, (by show 3 ≤ sizeLine; decide), fun rc hrc => ⟨(by show 3 ≤ sizeLine; decide), fun rr hrr => ?_⟩⟩
    have nab : H (ra) = none := (((f1.trans f2).trans f3).trans f4).free p4.some hra
    have nbb : H rb = none := (F5.trans f6).free p6.some hrb
    have p8 := (p7.new (o := .lst [other, one, one]) hrc).new (o := .lst [.ref ra, .ref rb, .ref rc]) hrr
    have f8 : Fr p (upd H6 rb (.lst [one, other, s2])) _ := ((Fr.refl p _).new (o := .lst [other, one, one]) hrc).trans ((Fr.refl p _).new (o := .lst [.ref ra, .ref rb, .ref rc]) hrr)
    have ncb : H rc = none := ((F5.trans f6).trans f7).free p7.some hrc
    have nrb : H rr = none := ((F5.trans f6).trans f7).free p7.some (by
      by_cases e : rr = rc
      · rw [e, upd_same] at hrr; cases hrr
      · rw [upd_ne e] at hrr; exact hrr)
    have nrc : rr ≠ rc := fun e => by rw [e, upd_same] at hrr; cases hrr
    have hLs : L.cps.toList.length = L.length := by
      show L.cps.toList.length = L.cps.size
      exact Array.length_toList
    refine ⟨_, rfl, _, rfl, _, rfl, L, rfl, Nat.le_trans hL.2.1 (by decide), p, _, _, rfl, p8, by omega, by have := hL.1; omega, by have := hL.2.1; omega, fun r H9 r0 r1 c9 p9 => ?_⟩
    obtain ⟨rn, rfl⟩ : ∃ rn : Nat, r = (rn : Int) := ⟨r.toNat, by omega⟩
    have hrn : rn < L.cps.toList.length := by rw [hLs]; omega
    obtain ⟨c, hc⟩ : ∃ c, L.cps.toList[rn]? = some c := ⟨_, List.getElem?_eq_getElem hrn⟩
    have cL := hL.2.2 c (List.mem_of_getElem? hc)
    refine ⟨L, rn, c, rfl, rfl, Nat.le_trans hL.2.1 (by decide), atI_nat hc, _, rfl, _, rfl, _, rfl, p, 3, _, rfl, p9, by omega, by decide, by decide, fun r' H10 b0 b1 c10 p10 => ?_⟩
    have f10 : Fr p (upd H6 rb (.lst [one, other, s2])) H10 := (f8.trans (Fr.chg c9)).trans (Fr.chg c10)
    have F10 := ((F5.trans f6).trans f7).trans f10
    have T1e := T1c.go hps ((f6.trans f7).trans f10)
    have T2e := T2a.go hps ((((f4.trans f5).trans f6).trans f7).trans f10)
    have S1e := S1a.go hps (((f5.trans f6).trans f7).trans f10)
    have S2e := S2a.go hps (f7.trans f10)
    have hrr10 : H10 rr = some (.lst [.ref ra, .ref rb, .ref rc]) := c10.at (c9.at upd_same (np _ nrb)) (np _ nrb)
    have hra10 : H10 ra = some (.lst [one, s1]) := ((f6.trans f7).trans f10) _ _ (np _ nab) upd_same
    have hrb10 : H10 rb = some (.lst [one, other, s2]) := f10 _ _ (np _ nbb) upd_same
    have hrc10 : H10 rc = some (.lst [other, one, one]) := c10.at (c9.at (by rw [upd_ne (fun e => nrc e.symm)]; exact upd_same) (np _ ncb)) (np _ ncb)
    have done : ∀ (x : Addr) (xs : List V) (ts : List Tr), H10 x = some (.lst xs) → TrsAt (fun b => H b = none) H10 xs ts → 1 + sizes ts ≤ m → depths ts ≤ 30 → letss (fun c => c ∈ L.cps.toList) ts → ts.length ≤ 3 →
        sp__law_mixed_up K [.ref p, .ref x] H10 (fun y H' => 2 ≤ sizeLine ∧ ∀ e, H' e = none → Q (.ref e) (upd H' e (.tup [.str (ch c), y]))) E0 := by
      intro x xs ts hx hts hz hdp hlt hln
      have hlen := hts.len
      refine ⟨p, x, _, xs, rfl, p10, by omega, SqL.of hx, fun H' f v hv => ?_, fun r ws H' pw r0 f11 hr' p11 => ⟨by decide, fun e he => ?_⟩⟩
      · obtain ⟨i, hi⟩ := List.getElem?_of_mem hv
        obtain ⟨t1, ht1, hx⟩ := (hts.go hps f).getV hi
        have dt := depths_mem (List.mem_of_getElem? ht1)
        exact datOk_tr hx (by omega)
      · obtain ⟨us, pu, hus⟩ := (hts.go hps f11).perm pw
        have zu := sizes_perm pu
        have du := depths_perm pu
        have nr0 : H r = none := F10.free p10.some r0
        have ne0 : H e = none := (F10.trans f11).free p11.some he
        refine q _ (.node c us) _ (by simp only [Tr.size]; omega) (by simp only [Tr.depth]; omega) ?_ ((F10.trans f11).new ne0) (.node upd_same (by rw [upd_ne (ne_of_none hr' he)]; exact hr') ne0 nr0 cL.1 cL.2 (hus.same (same_new he))) ((p11.new he).mono (by omega))
        simp only [Tr.lets]
        exact ⟨List.mem_of_getElem? hc, letss_perm pu hlt⟩
    obtain rfl | rfl | rfl : r' = 0 ∨ r' = 1 ∨ r' = 2 := by omega
    · refine ⟨rr, _, 0, .ref ra, rfl, rfl, SqL.of hrr10, at_of (j := 0) rfl rfl, done ra _ [t1, u1] hra10 (.cons T1e (.cons S1e .nil)) ?_ ?_ ?_ (by simp)⟩
      · simp only [sizes]; omega
      · simp only [depths]; omega
      · simp only [letss]; exact ⟨l1, sh1.lets l1, trivial⟩
    · refine ⟨rr, _, 1, .ref rb, rfl, rfl, SqL.of hrr10, at_of (j := 1) rfl rfl, done rb _ [t1, t2, u2] hrb10 (.cons T1e (.cons T2e (.cons S2e .nil))) ?_ ?_ ?_ (by simp)⟩
      · simp only [sizes]; omega
      · simp only [depths]; omega
      · simp only [letss]; exact ⟨l1, l2, sh2.lets l1, trivial⟩
    · refine ⟨rr, _, 2, .ref rc, rfl, rfl, SqL.of hrr10, at_of (j := 2) rfl rfl, done rc _ [t2, t1, t1] hrc10 (.cons T2e (.cons T1e (.cons T1e .nil))) ?_ ?_ ?_ (by simp)⟩
      · simp only [sizes]; omega
      · simp only [depths]; omega
      · simp only [letss]; exact ⟨l2, l1, l1, trivial⟩
end

mutual
inductive Dt (ok : Addr → Prop) (H : Hp) : V → PyData → Prop
  | non : Dt ok H .non .none
  | bl (b : Bool) : Dt ok H (.bl b) (.bool b)
  | int (i : Int) : Dt ok H (.int i) (.int i)
  | str (x : Str) : Dt ok H (.str x) (.str x)
  | dic {a : Addr} : H a = some (.dK []) → ok a → Dt ok H (.ref a) (.dict [])
  | lst {a : Addr} {xs : List V} {ds : List PyData} : H a = some (.lst xs) → ok a → xs.length ≤ 1000 → DtAll ok H xs ds → Dt ok H (.ref a) (.list ds)
  | tup {a : Addr} {xs : List V} {ds : List PyData} : H a = some (.tup xs) → ok a → xs.length ≤ 1000 → DtAll ok H xs ds → Dt ok H (.ref a) (.tuple ds)
inductive DtAll (ok : Addr → Prop) (H : Hp) : List V → List PyData → Prop
  | nil : DtAll ok H [] []
  | cons {v : V} {vs : List V} {d : PyData} {ds : List PyData} : Dt ok H v d → DtAll ok H vs ds → DtAll ok H (v :: vs) (d :: ds)
end
section
variable {ok ok' : Addr → Prop} {H H' : Hp} {K : PySem.W.Frag}
mutual
theorem Dt.imp (hk : ∀ b o, ok b → H b = some o → ok' b) (h : ∀ b o, ok b → H b = some o → H' b = some o) : ∀ {v : V} {d : PyData}, Dt ok H v d → Dt ok' H' v d
  | _, _, .non => .non
  | _, _, .bl b => .bl b
  | _, _, .int i => .int i
  | _, _, .str x => .str x
  | _, _, .dic e k => .dic (h _ _ k e) (hk _ _ k e)
  | _, _, .lst e k l r => .lst (h _ _ k e) (hk _ _ k e) l (DtAll.imp hk h r)
  | _, _, .tup e k l r => .tup (h _ _ k e) (hk _ _ k e) l (DtAll.imp hk h r)
theorem DtAll.imp (hk : ∀ b o, ok b → H b = some o → ok' b) (h : ∀ b o, ok b → H b = some o → H' b = some o) : ∀ {vs : List V} {ds : List PyData}, DtAll ok H vs ds → DtAll ok' H' vs ds
  | _, _, .nil => .nil
  | _, _, .cons a b => .cons (Dt.imp hk h a) (DtAll.imp hk h b)
end
theorem Dt.keep {v : V} {d : PyData} (x : Dt ok H v d) (h : ∀ b o, ok b → H b = some o → H' b = some o) : Dt ok H' v d := x.imp (fun _ _ k _ => k) h
theorem Dt.same {v : V} {d : PyData} (x : Dt ok H v d) (s : Same H H') : Dt ok H' v d := x.keep fun b o _ h => s b o h
theorem Dt.weak {v : V} {d : PyData} (x : Dt ok H v d) (h : ∀ b, ok b → ok' b) : Dt ok' H v d := x.imp (fun b _ k _ => h b k) fun _ _ _ e => e
theorem Dt.any {v : V} {d : PyData} (x : Dt ok H v d) : Dt (fun _ => True) H v d := x.weak fun _ _ => trivial
theorem Dt.off {w : Addr} {v : V} {d : PyData} (x : Dt ok H v d) (h : H w = none) : Dt (fun b => ok b ∧ b ≠ w) H v d := x.imp (fun _ _ k e => ⟨k, ne_of_none e h⟩) fun _ _ _ e => e
theorem DtAll.keep {vs : List V} {ds : List PyData} (x : DtAll ok H vs ds) (h : ∀ b o, ok b → H b = some o → H' b = some o) : DtAll ok H' vs ds := x.imp (fun _ _ k _ => k) h
theorem DtAll.same {vs : List V} {ds : List PyData} (x : DtAll ok H vs ds) (s : Same H H') : DtAll ok H' vs ds := x.keep fun b o _ h => s b o h
theorem DtAll.weak {vs : List V} {ds : List PyData} (x : DtAll ok H vs ds) (h : ∀ b, ok b → ok' b) : DtAll ok' H vs ds := x.imp (fun b _ k _ => h b k) fun _ _ _ e => e
mutual
theorem Dt.dp : ∀ {v : V} {d : PyData}, Dt ok H v d → d.canLay0 = true → Dp K H v d
  | _, _, .non, _ => .non
  | _, _, .bl b, _ => .bl b
  | _, _, .int i, _ => .int i
  | _, _, .str x, _ => .str x
  | _, _, .dic _ _, h => by simp [PyData.canLay0] at h
  | _, _, .lst e _ _ r, h => .lst (SqL.of e) (DtAll.dp r (by simpa only [PyData.canLay0] using h))
  | _, _, .tup e _ _ r, h => .tup (SqT.of e) (DtAll.dp r (by simpa only [PyData.canLay0] using h))
theorem DtAll.dp : ∀ {vs : List V} {ds : List PyData}, DtAll ok H vs ds → PyData.canLayAll0 ds = true → DpAll K H vs ds
  | _, _, .nil, _ => .nil
  | _, _, .cons a b, h => by
    simp only [PyData.canLayAll0, Bool.and_eq_true] at h
    exact .cons (Dt.dp a h.1) (DtAll.dp b h.2)
end
theorem DtAll.len : ∀ {vs : List V} {ds : List PyData}, DtAll ok H vs ds → vs.length = ds.length
  | _, _, .nil => rfl
  | _, _, .cons _ b => by simp only [List.length_cons, DtAll.len b]
theorem DtAll.getV : ∀ {vs : List V} {ds : List PyData} {i : Nat} {x : V}, DtAll ok H vs ds → vs[i]? = some x → ∃ d, ds[i]? = some d ∧ Dt ok H x d
  | _, _, 0, _, .cons a _, h => by cases h; exact ⟨_, rfl, a⟩
  | _, _, i + 1, _, .cons _ b, h => by
    rw [List.getElem?_cons_succ] at h
    obtain ⟨d, h1, h2⟩ := DtAll.getV b h
    exact ⟨d, by rw [List.getElem?_cons_succ]; exact h1, h2⟩
theorem DtAll.snoc : ∀ {vs : List V} {ds : List PyData} {v : V} {d : PyData}, DtAll ok H vs ds → Dt ok H v d → DtAll ok H (vs ++ [v]) (ds ++ [d])
  | _, _, _, _, .nil, y => .cons y .nil
  | _, _, _, _, .cons a b, y => .cons a (DtAll.snoc b y)
theorem dt_ints : ∀ xs : List Int, DtAll ok H (xs.map V.int) (xs.map PyData.int)
  | [] => .nil
  | x :: r => .cons (.int x) (dt_ints r)
theorem dt_intsL {a : Addr} {xs : List Int} (h : H a = some (.lst (xs.map V.int))) (k : ok a) (l : xs.length ≤ 1000) : Dt ok H (.ref a) (.list (xs.map PyData.int)) := .lst h k (by rw [List.length_map]; exact l) (dt_ints xs)
theorem dtAll_ints : ∀ {w : List Int} {vs : List V}, DtAll ok H vs (w.map PyData.int) → vs = w.map V.int
  | [], _, h => by cases h; rfl
  | x :: r, _, h => by
    cases h with
    | cons a b =>
      cases a
      rw [dtAll_ints b]
      rfl
theorem Dt.intsL {v : V} {w : List Int} (h : Dt ok H v (.list (w.map PyData.int))) : ∃ a, v = .ref a ∧ H a = some (.lst (w.map V.int)) ∧ ok a := by
  cases h with
  | lst e k l r =>
    rw [dtAll_ints r] at e
    exact ⟨_, rfl, e, k⟩
end
theorem layAll_mem {d : PyData} : ∀ {ds : List PyData}, PyData.canLayAll0 ds = true → d ∈ ds → d.canLay0 = true
  | x :: r, h, hm => by
    simp only [PyData.canLayAll0, Bool.and_eq_true] at h
    rcases List.mem_cons.mp hm with rfl | hm
    · exact h.1
    · exact layAll_mem h.2 hm
theorem depthAll_mem {d : PyData} : ∀ {ds : List PyData}, d ∈ ds → d.depth ≤ PyData.depthAll ds
  | x :: r, h => by
    simp only [PyData.depthAll]
    rcases List.mem_cons.mp h with rfl | h
    · omega
    · have := depthAll_mem h
      omega
theorem eqT {x y : V} {i : Decidable (x = y)} {A B : Prop} (h : x = y) (k : A) : if (@decide (x = y) i) = true then A else B := by
  rw [decide_eq_true h]
  exact iteT k
theorem eqF {x y : V} {i : Decidable (x = y)} {A B : Prop} (h : x ≠ y) (k : B) : if (@decide (x = y) i) = true then A else B := by
  rw [decide_eq_false h]
  exact iteF k
theorem noneOf {sp : Sp} {P : Program} {w : World} {K : PySem.W.Frag} {mg : Str → Option Value} {base : Heap} {f : Addr} {fd : FuncData} {ps : List Str} {k : Nat} (no : ∀ vs H Q E, ¬ sp vs H Q E) : FnOk P w K mg base CX0 k f fd ps sp :=
  ⟨fun vs H Q E h => absurd h (no vs H Q E), fun A outer s H args us vs Q E _ _ _ _ h => absurd h (no vs H Q E)⟩

mutual
inductive NK (H : Hp) : NestedKey → V → Prop
  | int (i : Int) : NK H (.num i) (.int i)
  | text (x : Str) : NK H (.text x) (.str x)
  | tup {a : Addr} {vs : List V} {ks : List NestedKey} : H a = some (.tup vs) → NKs H ks vs → NK H (.tup ks) (.ref a)
inductive NKs (H : Hp) : List NestedKey → List V → Prop
  | nil : NKs H [] []
  | cons {k : NestedKey} {v : V} {ks : List NestedKey} {vs : List V} : NK H k v → NKs H ks vs → NKs H (k :: ks) (v :: vs)
end
section
variable {X : Cx} {pins : List (Addr × Obj)} {σ : L2.St} {H H' : Hp} {s : Shared}
mutual
theorem NK.is (I : Inv X pins σ H s) : ∀ {k : NestedKey} {v : V} {u : Value}, NK H k v → RelV v u → NestedIs s.heap k u
  | _, _, _, .int i, r => by
    obtain ⟨t, rfl⟩ := r
    exact .int i t
  | _, _, _, .text x, r => by
    obtain ⟨t, rfl⟩ := r
    exact .text x t
  | _, _, _, .tup h1 h2, r => by
    cases r
    obtain ⟨_, its, rv, o, e1, e2, n, e3⟩ := I.hok _ _ h1
    exact .tup e1 e2 e3 (by simpa using NKs.is I h2 rv)
theorem NKs.is (I : Inv X pins σ H s) : ∀ {ks : List NestedKey} {vs : List V} {us : List Value}, NKs H ks vs → Vals vs us → NestedAll s.heap ks us
  | _, _, _, .nil, r => by cases r; exact .nil
  | _, _, _, .cons a b, r => by
    cases r with
    | cons r1 r2 => exact .cons (NK.is I a r1) (NKs.is I b r2)
end
mutual
theorem NK.keep (f : ∀ b xs, H b = some (.tup xs) → H' b = some (.tup xs)) : ∀ {k : NestedKey} {v : V}, NK H k v → NK H' k v
  | _, _, .int i => .int i
  | _, _, .text x => .text x
  | _, _, .tup h1 h2 => .tup (f _ _ h1) (NKs.keep f h2)
theorem NKs.keep (f : ∀ b xs, H b = some (.tup xs) → H' b = some (.tup xs)) : ∀ {ks : List NestedKey} {vs : List V}, NKs H ks vs → NKs H' ks vs
  | _, _, .nil => .nil
  | _, _, .cons a b => .cons (NK.keep f a) (NKs.keep f b)
end
end
abbrev NRow := NestedKey × Addr × V
def DictN (P : Program) (w : World) (a : Addr) (xs : List NRow) : HO := .ext fun h => (a == sysModules) = false ∧ xs.length ≤ sizeLine ∧ ∃ us : List (NestedKey × Addr × Value), Paired (fun (p : NRow) (q : NestedKey × Addr × Value) => p.1 = q.1 ∧ p.2.1 = q.2.1 ∧ RelV p.2.2 q.2.2) xs us ∧
  ∃ o es ep, h.get? a = some o ∧ o.ExactDict ∧ o.data = .dict es ep ∧ es.toList = us.map (entryOfKey (nestedKind P w)) ∧ (us.map (·.1)).Nodup
theorem dictN_ok {P : Program} {w : World} {H : Hp} {h : Heap} {a : Addr} {xs : List NRow} (h1 : (a == sysModules) = false) (h2 : xs.length ≤ sizeLine) {us : List (NestedKey × Addr × Value)} (h3 : Paired (fun (p : NRow) (q : NestedKey × Addr × Value) => p.1 = q.1 ∧ p.2.1 = q.2.1 ∧ RelV p.2.2 q.2.2) xs us)
    (h4 : ∃ o es ep, h.get? a = some o ∧ o.ExactDict ∧ o.data = .dict es ep ∧ es.toList = us.map (entryOfKey (nestedKind P w)) ∧ (us.map (·.1)).Nodup) : ObjOk P w H h a (DictN P w a xs) :=
  ⟨⟨h1, h2, us, h3, h4⟩, (let ⟨o, _, _, e, _⟩ := h4; ⟨o, e⟩), fun _ _ ⟨b1, b2, us, b3, o, es, ep, e, r⟩ k => ⟨b1, b2, us, b3, o, es, ep, k o e, r⟩⟩
def RowsN (H : Hp) (xs : List NRow) : Prop := ∀ x ∈ xs, NK H x.1 (.ref x.2.1) ∧ x.1.depth ≤ 8
def atN (xs : List NRow) (k : NestedKey) : Option V := (xs.find? fun x => decide (x.1 = k)).map (·.2.2)
section
variable {X : Cx} {pins : List (Addr × Obj)} {σ : L2.St} {H : Hp} {s : Shared} {a : Addr} {xs : List NRow}
theorem dictN_of (I : Inv X pins σ H s) (h : H a = some (DictN X.prog X.w a xs)) (hk : RowsN H xs) : (a == sysModules) = false ∧ ∃ us : List (NestedKey × Addr × Value), Paired (fun (p : NRow) (q : NestedKey × Addr × Value) => p.1 = q.1 ∧ p.2.1 = q.2.1 ∧ RelV p.2.2 q.2.2) xs us ∧ s.heap.DictOfH (nestedKind X.prog X.w) a us := by
  obtain ⟨⟨h1, h2, us, h3, o, es, ep, e1, e2, e3, e4, e5⟩, _, _⟩ := I.hok _ _ h
  refine ⟨h1, us, h3, o, es, ep, e1, e2, e3, e4, fun u hu => ?_, e5⟩
  have : ∀ (xs : List NRow) (us : List (NestedKey × Addr × Value)), Paired (fun (p : NRow) (q : NestedKey × Addr × Value) => p.1 = q.1 ∧ p.2.1 = q.2.1 ∧ RelV p.2.2 q.2.2) xs us → RowsN H xs → ∀ u ∈ us, (nestedKind X.prog X.w).is s.heap u.1 u.2.1 := by
    intro xs us p
    induction p with
    | nil => intro _ u hu; cases hu
    | cons r t ih =>
      intro hk u hu
      rcases List.mem_cons.mp hu with rfl | hu
      · obtain ⟨n1, n2⟩ := hk _ List.mem_cons_self
        refine ⟨?_, ?_⟩
        · rw [← r.1, ← r.2.1]
          exact NK.is I n1 rfl
        · rw [← r.1]
          exact n2
      · exact ih (fun x hx => hk x (List.mem_cons_of_mem _ hx)) u hu
  exact this _ _ h3 hk u hu
def tDGetN (P : Program) (w : World) (td ty : TE) : TE := fun σ H Q => td σ H fun x H1 => ty σ H1 fun y H2 => ∃ (a b : Addr) (xs : List NRow) (k : NestedKey) (v : V), x = .ref a ∧ y = .ref b ∧ H2 a = some (DictN P w a xs) ∧ RowsN H2 xs ∧ NK H2 k (.ref b) ∧ k.depth ≤ 8 ∧ atN xs k = some v ∧ Q v H2
theorem atN_pairs {k : NestedKey} {xs : List NRow} {us : List (NestedKey × Addr × Value)} (p : Paired (fun (p : NRow) (q : NestedKey × Addr × Value) => p.1 = q.1 ∧ p.2.1 = q.2.1 ∧ RelV p.2.2 q.2.2) xs us) : (∃ v u, atN xs k = some v ∧ valueAt (pairsH us) k = some u ∧ RelV v u) ∨ (atN xs k = none ∧ valueAt (pairsH us) k = none) := by
  induction p with
  | nil => exact .inr ⟨rfl, rfl⟩
  | cons r t ih =>
    rename_i x u xs us
    by_cases e : x.1 = k
    · have e2 : u.1 = k := r.1.symm.trans e
      exact .inl ⟨x.2.2, u.2.2, by simp [atN, e], by simp [valueAt, pairsH, e2], r.2.2⟩
    · have e2 : ¬ u.1 = k := fun z => e (r.1.trans z)
      have a1 : atN (x :: xs) k = atN xs k := by simp [atN, List.find?_cons, e]
      have a2 : valueAt (pairsH (u :: us)) k = valueAt (pairsH us) k := by simp [valueAt, pairsH, List.find?_cons, e2]
      rw [a1, a2]
      exact ih
theorem pe_dgetN {o i : PySem.Expr} {td ty : TE} {pos : Pos} (hu : X.A.units + 9 < cLine) (ho : PE X o td) (hi : PE X i ty) (hs : NoSl i) : PE X (.Subscript o i pos) (tDGetN X.prog X.w td ty) := by
  refine ⟨fun pins s σ H Q I h => ?_⟩
  refine subD_of PySem.F.slot_dict_getitem.lookup hs (thn (ho.run pins s σ H _ I h) fun u s1 ⟨x, H1, I1, rx, q1⟩ => thn (hi.run pins s1 σ H1 _ I1 q1) fun iv s2 ⟨y, H2, I2, ry, a, b, xs, k, v, ex, ey, g, gr, gk, gd, ga, q2⟩ => ?_)
  subst ex ey
  cases rx
  cases ry
  obtain ⟨ha, us, hp, hm⟩ := dictN_of I2 g gr
  rcases atN_pairs (k := k) hp with ⟨v', uv, e1, e2, rv⟩ | ⟨e1, _⟩
  · have ev := Option.some.inj (e1.symm.trans ga)
    subst ev
    exact ⟨hm.typeIs, getItem_keyed (knd := nestedKind X.prog X.w) (show X.A.units + 1 + 8 < cLine by omega) ⟨NK.is I2 gk rfl, gd⟩ ⟨us, hm, rfl⟩ e2 ⟨_, H2, I2.tok _, rv, q2⟩⟩
  · rw [ga] at e1
    cases e1
def rInN (P : Program) (w : World) : R2 := fun y x H Q => ∃ (a b : Addr) (xs : List NRow) (k : NestedKey), x = .ref a ∧ y = .ref b ∧ H a = some (DictN P w a xs) ∧ RowsN H xs ∧ NK H k (.ref b) ∧ k.depth ≤ 8 ∧ Q (.bl (atN xs k).isSome) H
theorem op_inN (hu : X.A.units + 9 < cLine) : OpR X (compareOp .In) (rInN X.prog X.w) := by
  intro pins s σ H y x u iv Q I ry rx h
  obtain ⟨a, b, xs, k, rfl, rfl, g, gr, gk, gd, q⟩ := h
  cases rx
  cases ry
  obtain ⟨ha, us, hp, hm⟩ := dictN_of I g gr
  refine in_keyed (knd := nestedKind X.prog X.w) (show X.A.units + 1 + 8 < cLine by omega) ⟨NK.is I gk rfl, gd⟩ ha ⟨us, hm, rfl⟩ ?_
  rcases atN_pairs (k := k) hp with ⟨v', uv, e1, e2, _⟩ | ⟨e1, e2⟩
  · rw [e1] at q
    rw [e2]
    exact ⟨.bl true, H, I.tok _, rfl, q⟩
  · rw [e1] at q
    rw [e2]
    exact ⟨.bl false, H, I.tok _, rfl, q⟩
def rNotInN (P : Program) (w : World) : R2 := fun y x H Q => ∃ (a b : Addr) (xs : List NRow) (k : NestedKey), x = .ref a ∧ y = .ref b ∧ H a = some (DictN P w a xs) ∧ RowsN H xs ∧ NK H k (.ref b) ∧ k.depth ≤ 8 ∧ Q (.bl (!(atN xs k).isSome)) H
theorem op_notInN (hu : X.A.units + 9 < cLine) : OpR X (compareOp .NotIn) (rNotInN X.prog X.w) := by
  intro pins s σ H y x u iv Q I ry rx h
  obtain ⟨a, b, xs, k, rfl, rfl, g, gr, gk, gd, q⟩ := h
  cases rx
  cases ry
  obtain ⟨ha, us, hp, hm⟩ := dictN_of I g gr
  refine notIn_keyed (knd := nestedKind X.prog X.w) (show X.A.units + 1 + 8 < cLine by omega) ⟨NK.is I gk rfl, gd⟩ ha ⟨us, hm, rfl⟩ ?_
  rcases atN_pairs (k := k) hp with ⟨v', uv, e1, e2, _⟩ | ⟨e1, e2⟩
  · rw [e1] at q
    rw [e2]
    exact ⟨.bl false, H, I.tok _, rfl, q⟩
  · rw [e1] at q
    rw [e2]
    exact ⟨.bl true, H, I.tok _, rfl, q⟩
def storedN (xs : List NRow) (k : NestedKey) (b : Addr) (v : V) : List NRow := if (atN xs k).isSome then xs.map (fun x => if x.1 = k then (x.1, x.2.1, v) else x) else xs ++ [(k, b, v)]
abbrev RowsP (xs : List NRow) (us : List (NestedKey × Addr × Value)) : Prop := Paired (fun (p : NRow) (q : NestedKey × Addr × Value) => p.1 = q.1 ∧ p.2.1 = q.2.1 ∧ RelV p.2.2 q.2.2) xs us
theorem rows_map {k : NestedKey} {v : V} {u : Value} (rv : RelV v u) : ∀ {xs : List NRow} {us : List (NestedKey × Addr × Value)}, RowsP xs us → RowsP (xs.map (fun x => if x.1 = k then (x.1, x.2.1, v) else x)) (us.map (putAt k u))
  | _, _, .nil => .nil
  | x :: xs, y :: us, .cons r t => by
    refine .cons ?_ (rows_map rv t)
    show (if x.1 = k then (x.1, x.2.1, v) else x).1 = (putAt k u y).1 ∧ (if x.1 = k then (x.1, x.2.1, v) else x).2.1 = (putAt k u y).2.1 ∧ RelV (if x.1 = k then (x.1, x.2.1, v) else x).2.2 (putAt k u y).2.2
    unfold putAt
    by_cases e : x.1 = k
    · rw [if_pos e, if_pos (r.1.symm.trans e)]
      exact ⟨r.1, r.2.1, rv⟩
    · rw [if_neg e, if_neg (fun z => e (r.1.trans z))]
      exact r
theorem rows_app {k : NestedKey} {b : Addr} {v : V} {u : Value} (rv : RelV v u) : ∀ {xs : List NRow} {us : List (NestedKey × Addr × Value)}, RowsP xs us → RowsP (xs ++ [(k, b, v)]) (us ++ [(k, b, u)])
  | _, _, .nil => .cons ⟨rfl, rfl, rv⟩ .nil
  | _ :: _, _ :: _, .cons r t => .cons r (rows_app rv t)
theorem stored_pairs {k : NestedKey} {b : Addr} {v : V} {u : Value} (rv : RelV v u) {xs : List NRow} {us : List (NestedKey × Addr × Value)} (p : Paired (fun (p : NRow) (q : NestedKey × Addr × Value) => p.1 = q.1 ∧ p.2.1 = q.2.1 ∧ RelV p.2.2 q.2.2) xs us) :
    Paired (fun (p : NRow) (q : NestedKey × Addr × Value) => p.1 = q.1 ∧ p.2.1 = q.2.1 ∧ RelV p.2.2 q.2.2) (storedN xs k b v) (storedH us k b u) := by
  have hs : (atN xs k).isSome = (atKey us k).isSome := by
    have e : valueAt (pairsH us) k = (atKey us k).map (·.2) := valueAt_pairsH us k
    rcases atN_pairs (k := k) p with ⟨v', u', e1, e2, _⟩ | ⟨e1, e2⟩
    · rw [e1]
      rw [e2] at e
      cases h : atKey us k with
      | none => rw [h] at e; cases e
      | some _ => rfl
    · rw [e1]
      rw [e2] at e
      cases h : atKey us k with
      | none => rfl
      | some _ => rw [h] at e; cases e
  unfold storedN storedH
  rw [hs]
  split
  · exact rows_map rv p
  · exact rows_app rv p
theorem storedN_len (xs : List NRow) (k : NestedKey) (b : Addr) (v : V) : (storedN xs k b v).length ≤ xs.length + 1 := by
  unfold storedN
  split
  · rw [List.length_map]; omega
  · rw [List.length_append]; exact Nat.le_refl _
def sDPutN (P : Program) (w : World) (td ty tv : TE) : TS := fun D σ H => tv σ H fun v H1 => td σ H1 fun x H2 => ty σ H2 fun y H3 => ∃ (a b : Addr) (xs : List NRow) (k : NestedKey), x = .ref a ∧ y = .ref b ∧ H3 a = some (DictN P w a xs) ∧ RowsN H3 xs ∧ NK H3 k (.ref b) ∧ k.depth ≤ 8 ∧ xs.length < sizeLine ∧ D.nx σ (upd H3 a (DictN P w a (storedN xs k b v)))
theorem ps_dputN {o i value : PySem.Expr} {td ty tv : TE} {pos pos' : Pos} (hu : X.A.units + 9 < cLine) (ho : PE X o td) (hi : PE X i ty) (hv : PE X value tv) (hs : swapsWith value (some (.Subscript o i pos')) pos.line X.env = pure false) :
    PS X (.Assign [.Subscript o i pos'] value pos) (sDPutN X.prog X.w td ty tv) := by
  refine ⟨fun pins s σ H D I h => ?_⟩
  refine wpAny_Assign_Subscript (thn (hv.run pins s σ H _ I h) fun r s1 ⟨v, H1, I1, rv, q1⟩ => thn (ho.run pins s1 σ H1 _ I1 q1) fun u s2 ⟨x, H2, I2, rx, q2⟩ => thn (hi.run pins s2 σ H2 _ I2 q2) fun iv s3 ⟨y, H3, I3, ry, a, b, xs, k, ex, ey, g, gr, gk, gd, gz, q3⟩ => ?_) hs
  subst ex ey
  cases rx
  cases ry
  obtain ⟨ha, us, hp, hm⟩ := dictN_of I3 g gr
  have hl : us.length ≤ sizeLine := by rw [← Paired.length hp]; omega
  refine wpAny_setItem_heap (knd := nestedKind X.prog X.w) (hsz := hl) (show X.A.units + 1 + 8 < cLine by omega) ⟨NK.is I3 gk rfl, gd⟩ hm fun h' hm' sb => ?_
  obtain ⟨ob, es, ep, e1, e2, e3, e4, _, e5⟩ := hm'
  have hz : (storedN xs k b v).length ≤ sizeLine := by have := storedN_len xs k b v; omega
  exact ⟨σ, _, d_write I3 (by rw [g]; exact True.intro) sb ⟨ob, e1⟩ (dictN_ok ha hz (stored_pairs rv hp) ⟨ob, es, ep, e1, e2, e3, e4, e5⟩), q3⟩
theorem pe_dnewN {pos : Pos} : PE X (.Dict [] [] pos) (fun _ H Q => ∀ p, H p = none → Q (.ref p) (upd H p (DictN X.prog X.w p []))) := ⟨fun pins s σ H Q I h =>
  wpAny_Dict_empty ⟨.ref s.heap.objs.size, _, I.laid (a := s.heap.objs.size) (o := DictN X.prog X.w s.heap.objs.size []) (t' := s.toks) (fun _ _ q => Heap.get?_push_of_some _ q) (Nat.le_refl _)
    (dictN_ok (beq_eq_false_iff_ne.mpr (Ne.symm (Nat.ne_of_lt I.big))) (Nat.zero_le _) .nil ⟨_, #[], 0, Heap.get?_push_size _ rfl, ⟨rfl, rfl, rfl⟩, rfl, rfl, List.nodup_nil⟩), rfl, h _ (I.hok.fresh (Nat.le_refl _))⟩⟩
end
theorem frzN {X : Cx} {pins : List (Addr × Obj)} {σ : L2.St} {H : Hp} {s : Shared} {a : Addr} {o : Obj} {xs : List NRow} (I : Inv X pins σ H s) (h : H a = some (.frz o (DictN X.prog X.w a xs))) :
    (a == sysModules) = false ∧ s.heap.get? a = some o ∧ o.ExactDict ∧ ∃ (es : Array DictEntry) (ep : Nat), o.data = .dict es ep ∧ es.size = xs.length ∧ ∀ (i : Nat) (row : NRow), xs[i]? = some row → ∃ en : DictEntry, es[i]? = some en ∧ en.key = Value.ref row.2.1 ∧ RelV row.2.2 en.val := by
  obtain ⟨hg, ⟨h1, h2, us, h3, o2, es, ep, e1, e2, e3, e4, e5⟩, _, _⟩ := I.hok _ _ h
  have eo : o2 = o := Option.some.inj (e1.symm.trans hg)
  subst eo
  have hl : us.length = es.size := by
    have := congrArg List.length e4
    rw [List.length_map, Array.length_toList] at this
    exact this.symm
  refine ⟨h1, hg, e2, es, ep, e3, by rw [← hl]; exact (Paired.length h3).symm, fun i row hr => ?_⟩
  have : ∀ (xs : List NRow) (us : List (NestedKey × Addr × Value)), RowsP xs us → ∀ (i : Nat) (row : NRow), xs[i]? = some row → ∃ u : NestedKey × Addr × Value, us[i]? = some u ∧ u.2.1 = row.2.1 ∧ RelV row.2.2 u.2.2 := by
    intro xs us p
    induction p with
    | nil => intro i row h; cases h
    | cons r t ih =>
      intro i row h
      cases i with
      | zero => cases h; exact ⟨_, rfl, r.2.1.symm, r.2.2⟩
      | succ i => exact ih i row (by simpa using h)
  obtain ⟨u, hu, k1, k2⟩ := this _ _ h3 i row hr
  refine ⟨entryOfKey (nestedKind X.prog X.w) u, ?_, by show Value.ref u.2.1 = _; rw [k1], k2⟩
  rw [← Array.getElem?_toList, e4, List.getElem?_map, hu]
  rfl
def ItkN (P : Program) (w : World) (d : Addr) (o : Obj) (xs : List NRow) : It :=
  ⟨fun i H => H d = some (.frz o (DictN P w d xs)) ∧ i < xs.length, fun i H x H' => H' = H ∧ ∃ row, xs[i]? = some row ∧ x = .ref row.2.1, fun i H => H d = some (.frz o (DictN P w d xs)) ∧ xs.length ≤ i⟩
theorem turn_keysN {P : Program} {w : World} {K : PySem.W.Frag} {tg : PySem.Expr} {d : Addr} {o : Obj} {es : Array DictEntry} {ep : Nat} {xs : List NRow} (it : Addr) (hod : o.data = .dict es ep) : Turn P w K tg (ItkN P w d o xs) [it] it (fun i h => h.IsKeyIter it d i xs.length ep) where
  mem := List.mem_singleton.mpr rfl
  obj := by
    intro i h st b hb
    cases List.mem_singleton.mp hb
    obtain ⟨x, e, c, dd⟩ := st
    exact ⟨x, e, fun v z => by rw [dd] at z; cases z⟩
  keep := by
    intro i h h' st k
    exact st.at fun x e => k it (List.mem_singleton.mpr rfl) x e
  item := by
    intro X hP hw hK hc i pins s σ H E I hf st hg
    subst hP hw hK
    obtain ⟨hd, hi⟩ := hg
    obtain ⟨z0, z1, z2, z3, z4, z5⟩ := hf it (List.mem_singleton.mpr rfl)
    obtain ⟨hs, hgd, hx, es2, ep2, hdt, hsz, ent⟩ := frzN I hd
    obtain ⟨rfl, rfl⟩ := dict_ep hod hdt
    obtain ⟨row, hrow⟩ : ∃ row, xs[i]? = some row := ⟨_, List.getElem?_eq_getElem hi⟩
    obtain ⟨en, hen, hkey, _⟩ := ent i row hrow
    refine next_key_item st hgd hdt hsz hen fun h' st' sb => ?_
    have J : Inv X pins σ H { s with heap := h' } := I.turned (t' := s.toks) (fun b ob hb e => (sb.2 b hb).trans e) z0 z1 z3 z4 z5
    obtain ⟨x, e, c, dd⟩ := id st'
    exact ⟨en.key, rfl, go_of (s := { s with heap := h' }) e c dd (by decide) ⟨.ref row.2.1, H, J, hkey, ⟨rfl, row, hrow, rfl⟩, st', fun b hb => (hf b hb).1⟩⟩
  done := by
    intro X hP hw hK hc i pins s σ H E I hf st hg
    subst hP hw hK
    obtain ⟨hd, hi⟩ := hg
    obtain ⟨z0, z1, z2, z3, z4, z5⟩ := hf it (List.mem_singleton.mpr rfl)
    obtain ⟨hs, hgd, hx, es2, ep2, hdt, hsz, ent⟩ := frzN I hd
    obtain ⟨rfl, rfl⟩ := dict_ep hod hdt
    exact next_key_end (I.ok.hd hc) st hgd hdt hsz hi fun h' eb => ⟨rfl, I.turned (t' := s.toks) (fun b ob hb e => eb b ob hb e) z0 z1 z3 z4 z5⟩
  self := fun A i s Q E st h => wpAny_pyIter_keyiter st h
def iKeysN (P : Program) (w : World) (td : TE) : TI := fun σ H R => td σ H fun x H1 => ∃ d o xs, x = .ref d ∧ H1 d = some (.frz o (DictN P w d xs)) ∧ R (ItkN P w d o xs) H1
theorem pi_keysN {X : Cx} {tg e : PySem.Expr} {td : TE} (he : PE X e td) : PI X tg e (iKeysN X.prog X.w td) := by
  refine ⟨fun pins s σ H R I h => ?_⟩
  refine thn (he.run pins s σ H _ I h) fun u s1 ⟨x, H1, I1, rx, d, o, xs, ex, hd, q⟩ => ?_
  subst ex
  cases rx
  obtain ⟨hs, hgd, hx, es, ep, hdt, hsz, ent⟩ := frzN I1 hd
  refine iter_keys hs hgd hx hdt (pi_one (tk := s1.toks) I1 _ (turn_keysN _ hdt) ⟨_, Heap.get?_push_size _ rfl, rfl, ?_⟩ q)
  rw [hsz] <;> rfl
theorem walk_keysN {P : Program} {w : World} {d : Addr} {o : Obj} {xs : List NRow} : Walk (ItkN P w d o xs) xs.length (fun H => H d = some (.frz o (DictN P w d xs))) (fun i H x H' => H' = H ∧ ∃ row, xs[i]? = some row ∧ x = .ref row.2.1) :=
  ⟨fun _ _ hi q => ⟨q, hi⟩, fun _ q => ⟨q, Nat.le_refl _⟩, fun _ _ _ _ _ _ y => y⟩
theorem roomN {k : Nat} {A : Around} (r : Room k A) : A.units + 9 < cLine := by have := r.un; omega
theorem call_lenN {X : Cx} : CallR X (.builtin "len") (fun xs H Q => ∃ (a : Addr) (rows : List NRow), xs = [.ref a] ∧ H a = some (DictN X.prog X.w a rows) ∧ RowsN H rows ∧ Q (.int (rows.length : Nat)) H) := by
  intro pins s σ H xs us Q I r h
  obtain ⟨a, rows, rfl, g, gr, q⟩ := h
  have hz : rows.length ≤ sizeLine := by
    obtain ⟨⟨_, h2, _⟩, _, _⟩ := I.hok _ _ g
    exact h2
  cases r with
  | cons r1 r2 =>
    cases r2
    cases r1
    obtain ⟨ha, us, hp, hm⟩ := dictN_of I g gr
    have hl : (pairsH us).length = rows.length := by
      rw [pairsH_length]
      exact (Paired.length hp).symm
    refine PyProof.Rows.call_len_slot (n := (pairsH us).length) hm.typeIs PySem.F.slot_dict_len (fun Q' hq => len_keyed (knd := nestedKind X.prog X.w) ha ⟨us, hm, rfl⟩ hq) (by omega) (by rw [hl]; rw [sizeLine_eq] at hz; omega) ?_
    rw [hl]
    exact ⟨.int _, H, I.tok _, ⟨_, rfl⟩, q⟩

def ItiN (P : Program) (w : World) (d : Addr) (o : Obj) (xs : List NRow) : It :=
  ⟨fun n H => H d = some (.frz o (DictN P w d xs)) ∧ n < xs.length, fun n H v H' => ∃ (p : Addr) (row : NRow), xs[n]? = some row ∧ v = .ref p ∧ H p = none ∧ H' = upd H p (.tup [.ref row.2.1, row.2.2]), fun n H => H d = some (.frz o (DictN P w d xs)) ∧ xs.length ≤ n⟩
theorem turn_itemsN {P : Program} {w : World} {K : PySem.W.Frag} {parts : List PySem.Expr} {many : Nat} {at_ : Pos} {d : Addr} {o : Obj} {es : Array DictEntry} {ep : Nat} {xs : List NRow} (it : Addr) (hod : o.data = .dict es ep) :
    Turn P w K (.Tuple parts many at_) (ItiN P w d o xs) [it] it (fun n h => ∃ x y, IsItemIter h it d n xs.length ep x y) where
  mem := List.mem_singleton.mpr rfl
  obj := by
    rintro n h ⟨x, y, e⟩ b hb
    cases List.mem_singleton.mp hb
    exact ⟨_, e, fun v z => nomatch z⟩
  keep := by
    rintro n h h' ⟨x, y, e⟩ k
    exact ⟨x, y, k it (List.mem_singleton.mpr rfl) _ e⟩
  item := by
    rintro X rfl rfl rfl calm n pins s σ H E I free ⟨x, y, here⟩ ⟨hd, more⟩
    obtain ⟨sys, got, exact_, es2, ep2, hdt, hsz, ent⟩ := frzN I hd
    obtain ⟨rfl, rfl⟩ := dict_ep hod hdt
    obtain ⟨row, hrow⟩ : ∃ row, xs[n]? = some row := ⟨_, List.getElem?_eq_getElem more⟩
    obtain ⟨en, hen, hkey, hval⟩ := ent n row hrow
    rw [← hsz] at here more
    have een : es2[n] = en := by
      have := List.getElem?_eq_some_iff.mp (show es2.toList[n]? = some en by rw [Array.getElem?_toList]; exact hen)
      simpa using this.2
    have low : it < s.heap.objs.size := Heap.lt_size here
    refine DT.nextI here ⟨o, got, exact_, hdt⟩ more fun h1 out tup _ stays => ?_
    refine ⟨_, rfl, wpAny_letOwnedTupleGo_items (s := { s with heap := h1 }) out fun h2 back but => ?_⟩
    rw [een] at tup back
    have tup2 : h2.get? s.heap.objs.size = some { cls := .type "tuple", data := .seq #[en.key, en.val] } := (but.2 _ (Nat.ne_of_gt low)).trans tup
    have made : ObjOk X.prog X.w (upd H s.heap.objs.size (.tup [.ref row.2.1, row.2.2])) h2 s.heap.objs.size (.tup [.ref row.2.1, row.2.2]) :=
      ⟨by show 2 ≤ sizeLine; decide, [en.key, en.val], .cons hkey (.cons hval .nil), _, tup2, rfl, _, rfl⟩
    have J : Inv X pins σ (upd H s.heap.objs.size (.tup [.ref row.2.1, row.2.2])) { s with heap := h2 } :=
      I.turnedNew (t' := s.toks) (ch := [it]) (fun b ob hb e => by
        have ne : b ≠ it := fun z => hb (by rw [z]; exact List.mem_singleton.mpr rfl)
        exact (but.2 b ne).trans (stays b ob ne e)) free (Nat.le_refl _) made
    refine ⟨.ref s.heap.objs.size, _, J, rfl, ⟨_, row, hrow, rfl, I.hok.fresh (Nat.le_refl _), rfl⟩, ⟨en.key, en.val, ?_⟩, fun b hb => ?_⟩
    · rw [← hsz]
      exact back
    · cases List.mem_singleton.mp hb
      rw [upd_ne (Nat.ne_of_lt low)]
      exact (free it (List.mem_singleton.mpr rfl)).1
  done := by
    rintro X rfl rfl rfl calm n pins s σ H E I free ⟨x, y, here⟩ ⟨hd, over⟩
    obtain ⟨z0, z1, z2, z3, z4, z5⟩ := free it (List.mem_singleton.mpr rfl)
    obtain ⟨sys, got, exact_, es2, ep2, hdt, hsz, _⟩ := frzN I hd
    obtain ⟨rfl, rfl⟩ := dict_ep hod hdt
    rw [← hsz] at here over
    exact DT.endI (I.ok.hd calm) here ⟨o, got, exact_, hdt⟩ over fun h' eb => ⟨rfl, I.turned (t' := s.toks) (fun b ob hb e => eb b ob hb e) z0 z1 z3 z4 z5⟩
  self := fun A i s Q E st h => let ⟨_, _, e⟩ := st; PySem.W.kcp_self e h
def iItemsN (P : Program) (w : World) (td : TE) : TI := fun σ H R => td σ H fun x H1 => ∃ d o xs, x = .ref d ∧ H1 d = some (.frz o (DictN P w d xs)) ∧ R (ItiN P w d o xs) H1
theorem pi_itemsN {X : Cx} {e : PySem.Expr} {td : TE} {parts : List PySem.Expr} {many : Nat} {at_ at1 at2 : Pos} (he : PE X e td) (base : attributeBase e "items" X.env (eval e X.env) = eval e X.env := by rfl) (line : (at1.endLine == at2.line) = true := by rfl) :
    PI X (.Tuple parts many at_) (.Call (.Attribute e "items" at1) [] [] at2) (iItemsN X.prog X.w td) := by
  refine ⟨fun pins s σ H R I h => wpAny_Call_method (T := "dict") (id := "dict.items") base rfl line F.plainAttrs_dict F.slot_dict_items F.type_dict_items (thn (he.run pins s σ H _ I h) ?_)⟩
  rintro u s1 ⟨x, H1, I1, rx, d, o, xs, rfl, hd, q⟩
  obtain rfl : u = Value.ref d := rx
  obtain ⟨sys, got, exact_, es, ep, hdt, hsz, _⟩ := frzN I1 hd
  have raw : DT.Raw s1.heap d es ep := ⟨o, got, exact_, hdt⟩
  refine ⟨raw.typeIs, (fun a e => by cases e; exact ⟨o, got, exact_.2.1⟩), ?_⟩
  have I2 : Inv X pins σ H1 { s1 with heap := s1.heap.push { cls := .type "dict_items", data := .fields #[.ref d] } } := I1.kept (t' := s1.toks) fun b ob z => Heap.get?_push_of_some _ z
  have go : wpAny (model X.prog X.w) X.A (pyIter (.ref s1.heap.objs.size)) (PIE X pins σ (.Tuple parts many at_) R) X.xe { s1 with heap := s1.heap.push { cls := .type "dict_items", data := .fields #[.ref d] } } := by
    refine DT.iterI (d := d) (es := es) (ep := ep) ⟨_, Heap.get?_push_size _ rfl, rfl, rfl⟩ (raw.push _) (pi_one (tk := s1.toks) I2 _ (turn_itemsN _ hdt) ⟨.none, .none, ?_⟩ q)
    rw [← hsz]
    exact Heap.get?_push_size _ rfl
  show wpAny _ _ (callWith at2 (.builtin "dict.items") [.ref d] [] []) _ X.xe s1
  exact method_meetsIn F.slot_dict_items F.entry_dict_items rfl (PySem.evalArgs_none ⟨rfl, raw.typeIs, F.args_dict_items_1 _, _, DT.meetsItems (es := es) (ep := ep) sys, raw, go⟩)
theorem walk_itemsN {P : Program} {w : World} {d : Addr} {o : Obj} {xs : List NRow} : Walk (ItiN P w d o xs) xs.length (fun H => H d = some (.frz o (DictN P w d xs))) (fun i H x H' => ∃ (p : Addr) (row : NRow), xs[i]? = some row ∧ x = .ref p ∧ H p = none ∧ H' = upd H p (.tup [.ref row.2.1, row.2.2])) :=
  ⟨fun _ _ hi q => ⟨q, hi⟩, fun _ q => ⟨q, Nat.le_refl _⟩, fun _ _ _ _ _ _ y => y⟩
def rIsN (P : Program) (w : World) (K : PySem.W.Frag) : List V → Hp → VK → Prop := fun xs H Q => ∃ (a : Addr) (rows : List NRow) (y : V) (u : Value) (b : Bool), xs = [.ref a, y] ∧ H a = some (DictN P w a rows) ∧ ClsV y u ∧ PySem.W.kitOne K (.type "dict") u = some b ∧ Q (.bl b) H
theorem call_isN {X : Cx} : CallR X (.builtin "isinstance") (rIsN X.prog X.w X.K) := by
  rintro pins s σ H _ us Q I r ⟨a, rows, y, u, b, rfl, ha, hy, hk, q⟩
  obtain ⟨_, u2, rfl, r1, r2⟩ := vals2 r
  obtain rfl := hy.eq r2
  cases r1
  obtain ⟨⟨_, _, _, _, o, _, _, e1, e2, _⟩, _, _⟩ := I.hok a _ ha
  exact PySem.W.kia_one PySem.W.kitx_dict I.kIn ⟨o, e1, e2.1⟩ hk (fun z => nomatch z) fun tk => ⟨.bl b, H, I.tok tk, rfl, q⟩

abbrev InBlk (X : Cx) (scope : PySem.Scope) (F : Cx → Prop) : Prop := ∀ (s : Shared) (H : Hp) (C : Addr) (cl : List (Str × Addr)) (fp : List Addr), F (X.blk s H scope (compEnvC scope cl C X.env) fp)
def tDcN (P : Program) (w : World) (wi : TI) (g : TG) (tt : TT) (tk tv : TE) (vs : List Nat) : TE := fun σ H Q => wi σ H fun J H1 => ∀ D, H1 D = none → ∃ W : Nat → Nat → Hp → Prop, (∃ m, W 0 m (upd H1 D (DictN P w D []))) ∧ ∀ n m H, W n m H →
  ((J.stop n H ∧ Q (.ref D) H) ∨ (J.go n H ∧ ∃ Nx : Hp → Prop, (∀ H', Nx H' → ∃ less, less < m ∧ W (n + 1) less H') ∧ ∀ x H', J.yld n H x H' → g x (wipe σ vs) H' fun σ2 H2 => wipe σ2 vs = wipe σ vs ∧ tt σ2 H2 fun yes H3 =>
    if yes = true then tk σ2 H3 fun y H4 => tv σ2 H4 fun z H5 => ∃ (xs : List NRow) (k : NestedKey) (b : Addr), y = .ref b ∧ H5 D = some (DictN P w D xs) ∧ RowsN H5 xs ∧ NK H5 k (.ref b) ∧ k.depth ≤ 8 ∧ xs.length < sizeLine ∧ Nx (upd H5 D (DictN P w D (storedN xs k b z))) else Nx H3))
section
variable {X : Cx} {pins : List (Addr × Obj)} {σ : L2.St} {H : Hp} {s : Shared}
theorem put_rowN {D b : Addr} {xs : List NRow} {k : NestedKey} {z : V} {r : Value} {E : Value → Shared → Prop} {Q : Unit → Shared → Prop} (hu : X.A.units + 9 < cLine) (I : Inv X pins σ H s) (hD : H D = some (DictN X.prog X.w D xs)) (hr : RowsN H xs) (hk : NK H k (.ref b)) (hd : k.depth ≤ 8) (hz : xs.length < sizeLine) (rv : RelV z r)
    (h : ∀ s', Inv X pins σ (upd H D (DictN X.prog X.w D (storedN xs k b z))) s' → Q () s') : wpAny (model X.prog X.w) X.A (dictSet D (.ref b) r) Q E s := by
  obtain ⟨hs, us, hp, hm⟩ := dictN_of I hD hr
  have hl : us.length ≤ sizeLine := by rw [← Paired.length hp]; omega
  refine wpAny_dictSet_heap (knd := nestedKind X.prog X.w) (hsz := hl) (show X.A.units + 8 < cLine by omega) ⟨NK.is I hk rfl, hd⟩ hm fun h' hm' but => h _ ?_
  obtain ⟨ob, es, ep, e1, e2, e3, e4, _, e5⟩ := hm'
  have fits : (storedN xs k b z).length ≤ sizeLine := by have := storedN_len xs k b z; omega
  exact d_write I (by rw [hD]; exact True.intro) but ⟨ob, e1⟩ (dictN_ok hs fits (stored_pairs rv hp) ⟨ob, es, ep, e1, e2, e3, e4, e5⟩)
theorem pe_dcN {kx vx tg iter : PySem.Expr} {ifs : List PySem.Expr} {scope : PySem.Scope} {own : List (Str × Nat)} {pos : Pos} {wi : TI} {g : TG} {tt : TT} {tk tv : TE} (hu : X.A.units + 9 < cLine) (calm : X.calm = true) (nd : X.N.Nodup) (hi : PI X tg iter wi) (ok : BlkOk X.N X.env.scope scope own)
    (hg : InBlk X scope fun Y => PG Y tg g) (ht : InBlk X scope fun Y => PTs Y ifs tt) (hk : InBlk X scope fun Y => PE Y kx tk) (he : InBlk X scope fun Y => PE Y vx tv) (plain : ∀ x, foldedSetIterable iter X.env x = pure x := by intro _; rfl) :
    PE X (.DictComp kx vx [⟨tg, iter, ifs, 0⟩] scope pos) (tDcN X.prog X.w wi g tt tk tv (own.map (·.2))) := by
  refine ⟨fun pins s σ H Q I h => ?_⟩
  rw [arm_eval_DictComp]
  have known : ∀ y ∈ scope.names, y.2 = .free → ∃ c, X.env.cells.lookup y.1 = some c := fun y hy e => (ok.free y hy e).elim (fun k => I.ok.has _ (.inl k)) (fun k => I.ok.has _ (.inr k))
  refine wpAny_comprehension_free (use := none) rfl plain (closure_ok known) ok.kind (fun y hy e => by rw [ok.uniq y hy, e]) (thn (hi.run pins s σ H _ I h) fun _ t1 a1 => thn a1 fun _ t2 a2 => ?_)
  obtain ⟨it, fp, tn, J, H2, rfl, I2, T, st2, apart, q⟩ := a2
  refine wpAny_newObj_type (newEnv_comp ?_)
  obtain ⟨W, ⟨m0, w0⟩, turn⟩ := q _ (I2.hok.fresh (Nat.le_refl _))
  have nsys : (t2.heap.objs.size == sysModules) = false := beq_eq_false_iff_ne.mpr (Ne.symm (Nat.ne_of_lt I2.big))
  have I3 : Inv X pins σ (upd H2 t2.heap.objs.size (DictN X.prog X.w t2.heap.objs.size [])) { t2 with heap := t2.heap.push { cls := .type "dict", data := .dict #[] } } :=
    I2.laid (t' := t2.toks) (fun _ _ z => Heap.get?_push_of_some _ z) (Nat.le_refl _) (dictN_ok nsys (Nat.zero_le _) .nil ⟨_, #[], 0, Heap.get?_push_size _ rfl, ⟨rfl, rfl, rfl⟩, rfl, rfl, List.nodup_nil⟩)
  have ahead : ∀ b ∈ fp, b < t2.heap.objs.size := fun b hb => let ⟨_, z, _⟩ := T.obj _ _ st2 b hb; Heap.lt_size z
  generalize e3 : ({ t2 with heap := t2.heap.push { cls := .type "dict", data := .dict #[] } } : Shared) = t3 at I3
  have h3 : t3.heap = t2.heap.push { cls := .type "dict", data := .dict #[] } := by rw [← e3]
  have fp3 : ∀ b ∈ fp, FpOk X pins (upd H2 t2.heap.objs.size (DictN X.prog X.w t2.heap.objs.size [])) b ∧ b < t3.heap.objs.size := fun b hb => by
    refine ⟨⟨?_, (apart b hb).2⟩, ?_⟩
    · rw [upd_ne (Nat.ne_of_lt (ahead b hb))]
      exact (apart b hb).1
    · rw [h3, Heap.size_push]
      exact Nat.lt_succ_of_lt (ahead b hb)
  have st3 : tn 0 t3.heap := T.keep _ _ _ st2 fun b _ o z => by rw [h3]; exact Heap.get?_push_of_some _ z
  have I4 := block_start I3 ok nd fp3
  generalize eD : t2.heap.objs.size = D at *
  generalize eH : upd H2 D (DictN X.prog X.w D []) = H3 at *
  have pg := hg t3 H3 t3.heap.objs.size (cellsFrom (t3.heap.objs.size + 1) scope.names (cloFrom X.env.cells scope.names [])) fp
  have pt := ht t3 H3 t3.heap.objs.size (cellsFrom (t3.heap.objs.size + 1) scope.names (cloFrom X.env.cells scope.names [])) fp
  have pk := hk t3 H3 t3.heap.objs.size (cellsFrom (t3.heap.objs.size + 1) scope.names (cloFrom X.env.cells scope.names [])) fp
  have pv := he t3 H3 t3.heap.objs.size (cellsFrom (t3.heap.objs.size + 1) scope.names (cloFrom X.env.cells scope.names [])) fp
  show codeAny _ _ (.compStart (.DictComp kx vx [⟨tg, iter, ifs, 0⟩] scope pos) 0 (.ref it) (.ref D) (compEnvC scope (cellsFrom (t3.heap.objs.size + 1) scope.names (cloFrom X.env.cells scope.names [])) t3.heap.objs.size X.env)) (compPost (model X.prog X.w) X.A X.xe none (EP X pins σ Q) (.ref D) t3.heap.objs.size) { t3 with heap := pushCells (t3.heap.push { cls := .type "dict", data := .dict #[] }) scope.names }
  have off : ∀ b ∈ fp, H3 b = none := fun b hb => (fp3 b hb).1.1
  generalize eC : compEnvC scope (cellsFrom (t3.heap.objs.size + 1) scope.names (cloFrom X.env.cells scope.names [])) t3.heap.objs.size X.env = ce at I4 pg pt pk pv ⊢
  have place : ce.locals = t3.heap.objs.size := by rw [← eC]; rfl
  generalize e4 : ({ t3 with heap := pushCells (t3.heap.push { cls := .type "dict", data := .dict #[] }) scope.names } : Shared) = t4 at I4 ⊢
  have st4 : tn 0 t4.heap := T.keep _ _ _ st3 fun b _ o z => by rw [← e4]; exact pushCells_keeps _ _ _ _ (Heap.get?_push_of_some _ z)
  have still : ∀ {σ' : L2.St} {H' : Hp} {t : Shared}, Inv (X.blk t3 H3 scope ce fp) [] σ' H' t → (∀ b ∈ fp, H' b = none) → ∀ b ∈ fp, FpOk (X.blk t3 H3 scope ce fp) [] H' b := fun J n b hb =>
    ⟨n b hb, (J.ok.exf b hb).1, J.ok.exfs b hb, .inl hb, fun x c z => (J.ok.exf b hb).2 x c z, fun z hz => absurd (show z ∈ ([] : List (Addr × Obj)) ++ [] from hz) (by simp)⟩
  have main : codeAny (model X.prog X.w) X.A (.compLoop (.DictComp kx vx [⟨tg, iter, ifs, 0⟩] scope pos) 0 (.ref it) (.ref D) ce) (compPost (model X.prog X.w) X.A X.xe none (EP X pins σ Q) (.ref D) t3.heap.objs.size) t4 := by
    refine compLoop_anyD (fun m t => ∃ n Hn, Inv (X.blk t3 H3 scope ce fp) [] (wipe σ (own.map (·.2))) Hn t ∧ tn n t.heap ∧ (∀ b ∈ fp, Hn b = none) ∧ W n m Hn) ?_ m0 ⟨0, H3, I4, st4, off, w0⟩
    rintro m t5 ⟨n, H5, I5, st5, off5, w5⟩
    rcases turn n m H5 w5 with ⟨stop, over⟩ | ⟨go, Nx, lower, step⟩
    · refine thnF (T.done (X.blk t3 H3 scope ce fp) rfl rfl rfl calm n [] t5 _ H5 (fun _ _ => False) I5 (still I5 off5) st5 stop) ?_
      rintro _ t6 ⟨rfl, I6⟩
      have I7 : Inv X pins σ H5 t6 := I3.call' (ch := fp) I6.os I6.base I6.hok I6.bare fun b hb => let z := (fp3 b hb).1.2; ⟨z.2.2.1, z.1, z.2.2.2.1, z.2.2.2.2⟩
      have gone : H5 t3.heap.objs.size = none := by rw [← place]; exact I6.free
      obtain ⟨names, hn, _⟩ := I6.loc
      have hn2 : t6.heap.Ns ce.locals names := hn
      rw [place] at hn2
      obtain ⟨z0, z1, z2, z3, z4, z5⟩ := I3.fpOk (Nat.le_refl _) gone
      exact ⟨names, hn2, fun h7 but => ⟨.ref D, H5, I7.turned (t' := t6.toks) (fun b ob hb z => (but.2 b hb).trans z) z0 z1 z3 z4 z5, rfl, over⟩⟩
    · refine thnF (T.item (X.blk t3 H3 scope ce fp) rfl rfl rfl calm n [] t5 _ H5 (fun _ _ => False) I5 (still I5 off5) st5 go) ?_
      rintro _ t6 ⟨u, rfl, a6⟩
      refine thnF a6 ?_
      rintro _ t7 ⟨x, H7, I7, rx, yx, st7, off7⟩
      refine thnF (pg.run _ t7 _ H7 x u _ (I7.pinned (still I7 off7) (T.obj _ _ st7)) rx (step x H7 yx)) ?_
      rintro _ t8 ⟨σ8, H8, I8, same8, q8⟩
      have close : ∀ {t : Shared} {Hn : Hp}, Inv (X.blk t3 H3 scope ce fp) ([] ++ pinsAt fp t7.heap) σ8 Hn t → Nx Hn → ∃ less, less < m ∧ ∃ n Hn, Inv (X.blk t3 H3 scope ce fp) [] (wipe σ (own.map (·.2))) Hn t ∧ tn n t.heap ∧ (∀ b ∈ fp, Hn b = none) ∧ W n less Hn := fun {t Hn} J nx => by
        obtain ⟨less, hl, wl⟩ := lower Hn nx
        have kept : ∀ b ∈ fp, ∀ o, t7.heap.get? b = some o → t.heap.get? b = some o ∧ Hn b = none := fun b hb o z =>
          let y := J.pin (b, o) (List.mem_append_right _ (List.mem_append_right _ (mem_pinsAt hb z)))
          ⟨y.1, y.2.1⟩
        refine ⟨less, hl, n + 1, Hn, (J.unpinned (pins := [])).weak (by rw [← same8, wipe_length]) fun j v z => ?_, T.keep _ _ _ st7 fun b hb o z => (kept b hb o z).1, fun b hb => ?_, wl⟩
        · rw [← same8] at z
          exact (wipe_some z).1
        · obtain ⟨o, z, _⟩ := T.obj _ _ st7 b hb
          exact (kept b hb o z).2
      refine thnF (pt.run _ t8 σ8 H8 _ I8 q8) ?_
      rintro yes t9 ⟨H9, I9, q9⟩
      cases yes with
      | false => exact close I9 (by simpa using q9)
      | true =>
        simp only [if_true] at q9 ⊢
        refine thnF (pk.run _ t9 σ8 H9 _ I9 q9) ?_
        rintro uk t10 ⟨y, H10, I10, ry, q10⟩
        refine thnF (pv.run _ t10 σ8 H10 _ I10 q10) ?_
        rintro uz t11 ⟨z, H11, I11, rz, xs, k, b, rfl, g1, g2, g3, g4, g5, nx⟩
        cases ry
        exact put_rowN (X := X.blk t3 H3 scope ce fp) hu I11 g1 g2 g3 g4 g5 rz fun t12 I12 => close I12 nx
  exact codeAny_compStart_dict main (T.self X.A 0 _ _ _ st4 main)
end

def rLcm : List V → Hp → VK → Prop := fun vs H Q => ∃ a b : Nat, vs = [nI a, nI b] ∧ a < 1000 ∧ b < 1000 ∧ Q (nI (a.lcm b)) H
theorem cr_lcm {X : Cx} : CallR X (.builtin "math.lcm") rLcm := by
  intro pins s σ H vs us Q I r ⟨a, b, e, ha, hb, q⟩
  subst e
  obtain ⟨t, u, rfl⟩ := Vals.int2 r
  refine PySem.W.mc_lcm (by rw [Int.natAbs_natCast]; exact Nat.lt_trans ha (by decide)) (by rw [Int.natAbs_natCast]; exact Nat.lt_trans hb (by decide)) fun _ => ⟨nI (a.lcm b), H, I.tok _, ⟨s.toks, ?_⟩, q⟩
  simp

theorem lc_outT {K : PySem.W.Frag} {a : Addr} {xs : List V} {Bd : V → Hp → (Hp → Prop) → Prop} {Qd : Hp → Prop} {H0 : Hp} (Pv : Nat → Hp → Prop) (h0 : Pv 0 H0) (hl : ∀ i H, i ≤ xs.length → Pv i H → SqT K H a xs)
    (hs : ∀ i x H, xs[i]? = some x → Pv i H → Bd x H (Pv (i + 1))) (hd : ∀ H, Pv xs.length H → Qd H) :
    ∃ W : Nat → Nat → Hp → Prop, (∃ m, W 0 m H0) ∧ ∀ i m H, W i m H → ((Itt K a).stop i H ∧ Qd H) ∨ ((Itt K a).go i H ∧ ∃ Nx : Hp → Prop, (∀ H', Nx H' → ∃ m', m' < m ∧ W (i + 1) m' H') ∧ ∀ x H', (Itt K a).yld i H x H' → Bd x H' Nx) := by
  refine ⟨fun i m H => m = xs.length - i ∧ i ≤ xs.length ∧ Pv i H, ⟨xs.length, by simp, Nat.zero_le _, h0⟩, ?_⟩
  rintro i m H ⟨rfl, hi, p⟩
  have q := hl i H hi p
  rcases Nat.lt_or_ge i xs.length with lt | ge
  · exact .inr ⟨⟨xs, xs[i], q, by simp [lt]⟩, Pv (i + 1), fun H' p' => ⟨_, by omega, rfl, lt, p'⟩, fun x H' y => by
      obtain ⟨e, y⟩ := y
      subst e
      exact hs i x _ (y xs q) p⟩
  · obtain rfl : i = xs.length := by omega
    exact .inl ⟨⟨xs, q, Nat.le_refl _⟩, hd H p⟩
theorem cut1 {x : V} {r : List V} : cutV (x :: r) (some 1) none = r := by
  have h1 : HT.sIx (x :: r).length 0 (some 1) = 1 := by
    have := HT.sIx_nat (x :: r).length 0 1
    rw [show ((1 : Nat) : Int) = 1 from rfl] at this
    rw [this, List.length_cons]
    omega
  unfold cutV
  rw [h1, HT.sIx_none, List.length_cons, List.drop_succ_cons, List.drop_zero, Nat.add_sub_cancel, List.take_length]
theorem cut1_not {x : V} {r : List V} : ¬ (HT.sIx (x :: r).length 0 (some 1) = 0 ∧ HT.sIx (x :: r).length (x :: r).length none = (x :: r).length) := by
  have h1 : HT.sIx (x :: r).length 0 (some 1) = 1 := by
    have := HT.sIx_nat (x :: r).length 0 1
    rw [show ((1 : Nat) : Int) = 1 from rfl] at this
    rw [this, List.length_cons]
    omega
  rw [h1]
  omega
theorem dtAll_app {ok : Addr → Prop} {H : Hp} : ∀ {xs ys : List V} {ds es : List PyData}, DtAll ok H xs ds → DtAll ok H ys es → DtAll ok H (xs ++ ys) (ds ++ es)
  | _, _, _, _, .nil, y => y
  | _, _, _, _, .cons a b, y => .cons a (dtAll_app b y)
theorem flat_take {α β : Type} (f : α → List β) {l : List α} {i : Nat} {x : α} (h : l[i]? = some x) : (l.take (i + 1)).flatMap f = (l.take i).flatMap f ++ f x := by
  rw [take_succ_of h, List.flatMap_append]
  simp


def rowsTo : Nat → Nat → List (List Nat)
  | 0, _ => [[]]
  | n + 1, k => (rowsTo n k).flatMap fun r => (List.range k).map fun x => r ++ [x]
def keysOf (L : Str) (n k : Nat) : List (Nat × List Nat) := L.cps.toList.flatMap fun c => (rowsTo n k).map fun r => (c, r)
def RowsAt (H : Hp) (as : List Addr) (rows : List (List Nat)) : Prop := Paired (fun (a : Addr) (row : List Nat) => H a = some (.tup (row.map nI))) as rows
def KeysAt (H : Hp) (bs : List Addr) (keys : List (Nat × List Nat)) : Prop := Paired (fun (b : Addr) (key : Nat × List Nat) => ∃ a, H b = some (.tup [.str (ch key.1), .ref a]) ∧ H a = some (.tup (key.2.map nI))) bs keys
theorem ext_len (k : Nat) : ∀ l : List (List Nat), (l.flatMap fun r => (List.range k).map fun x => r ++ [x]).length = l.length * k
  | [] => by simp
  | a :: t => by rw [List.flatMap_cons, List.length_append, List.length_map, List.length_range, ext_len k t, List.length_cons, Nat.succ_mul, Nat.add_comm]
theorem rowsTo_len (k : Nat) : ∀ n, (rowsTo n k).length = k ^ n
  | 0 => rfl
  | n + 1 => by rw [rowsTo, ext_len, rowsTo_len k n, Nat.pow_succ]
theorem rowsTo_mem {k : Nat} : ∀ {n : Nat} {r : List Nat}, r ∈ rowsTo n k → r.length = n ∧ ∀ x ∈ r, x < k
  | 0, r, h => by simp [rowsTo] at h; subst h; simp
  | n + 1, r, h => by
    simp only [rowsTo, List.mem_flatMap, List.mem_map, List.mem_range] at h
    obtain ⟨r0, h0, x, hx, rfl⟩ := h
    obtain ⟨a, b⟩ := rowsTo_mem h0
    refine ⟨by simp [a], fun y hy => ?_⟩
    rcases List.mem_append.mp hy with hy | hy
    · exact b y hy
    · rw [List.mem_singleton.mp hy]; exact hx
theorem prd_app {α β : Type} {F : α → β → Prop} : ∀ {as cs : List α} {bs ds : List β}, Paired F as bs → Paired F cs ds → Paired F (as ++ cs) (bs ++ ds)
  | _, _, _, _, .nil, y => y
  | _, _, _, _, .cons r t, y => .cons r (prd_app t y)
theorem prd_at {α β : Type} {F : α → β → Prop} : ∀ {as : List α} {bs : List β} {i : Nat} {a : α}, Paired F as bs → as[i]? = some a → ∃ b, bs[i]? = some b ∧ F a b
  | _, _, 0, _, .cons r _, h => by cases h; exact ⟨_, rfl, r⟩
  | _, _, i + 1, _, .cons _ t, h => by
    rw [List.getElem?_cons_succ] at h
    obtain ⟨b, h1, h2⟩ := prd_at t h
    exact ⟨b, by rw [List.getElem?_cons_succ]; exact h1, h2⟩
theorem RowsAt.keep {H H' : Hp} {as : List Addr} {rows : List (List Nat)} (x : RowsAt H as rows) (h : ∀ b xs, H b = some (.tup xs) → H' b = some (.tup xs)) : RowsAt H' as rows := Paired.mapP x fun _ _ e => h _ _ e
theorem KeysAt.keep {H H' : Hp} {as : List Addr} {ks : List (Nat × List Nat)} (x : KeysAt H as ks) (h : ∀ b xs, H b = some (.tup xs) → H' b = some (.tup xs)) : KeysAt H' as ks := Paired.mapP x fun _ _ ⟨a, e1, e2⟩ => ⟨a, h _ _ e1, h _ _ e2⟩
theorem upd_tup {H : Hp} {D : Addr} {xs : List V} {o : HO} (hD : H D = some (.lst xs)) : ∀ b ys, H b = some (.tup ys) → (upd H D o) b = some (.tup ys) := fun b ys e => by
  rw [upd_ne (fun z => by rw [z, hD] at e; cases e)]
  exact e
theorem lc_walk {J : It} {len : Nat} {G : Hp → Prop} {Y : Nat → Hp → V → Hp → Prop} (wk : Walk J len G Y) {Bd : V → Hp → (Hp → Prop) → Prop} {Qd : Hp → Prop} {H0 : Hp} (Pv : Nat → Hp → Prop) (h0 : Pv 0 H0) (hp : ∀ i H, i ≤ len → Pv i H → G H)
    (hs : ∀ i x H H', i < len → Pv i H → Y i H x H' → Bd x H' (Pv (i + 1))) (hd : ∀ H, Pv len H → Qd H) :
    ∃ W : Nat → Nat → Hp → Prop, (∃ m, W 0 m H0) ∧ ∀ i m H, W i m H → (J.stop i H ∧ Qd H) ∨ (J.go i H ∧ ∃ Nx : Hp → Prop, (∀ H', Nx H' → ∃ m', m' < m ∧ W (i + 1) m' H') ∧ ∀ x H', J.yld i H x H' → Bd x H' Nx) := by
  refine ⟨fun i m H => m = len - i ∧ i ≤ len ∧ Pv i H, ⟨len, by simp, Nat.zero_le _, h0⟩, ?_⟩
  rintro i m H ⟨rfl, hi, p⟩
  have g := hp i H hi p
  rcases Nat.lt_or_ge i len with lt | ge
  · exact .inr ⟨wk.goes i H lt g, Pv (i + 1), fun H' p' => ⟨_, by omega, rfl, lt, p'⟩, fun x H' y => hs i x H H' lt p (wk.yields i H x H' lt g y)⟩
  · obtain rfl : i = len := by omega
    exact .inl ⟨wk.stops H g, hd H p⟩
def sp_tuples_due : Sp := fun vs H Q _ => ∃ (L : Str) (n k : Nat), vs = [.str L, nI n, nI k] ∧ L.length ≤ 26 ∧ n ≤ 6 ∧ k ≤ 20 ∧ Q (nI (L.length * k ^ n)) H
def sp_class_rows : Sp := fun vs H Q _ => ∃ (n k : Nat), vs = [nI n, nI k] ∧ n ≤ 6 ∧ 1 ≤ k ∧ k ≤ 20 ∧ k ^ n ≤ 600 ∧ ∀ r as H', Same H H' → H r = none → H' r = some (.lst (as.map V.ref)) → RowsAt H' as (rowsTo n k) → Q (.ref r) H'
def sp_keys_due : Sp := fun vs H Q _ => ∃ (L : Str) (n k : Nat), vs = [.str L, nI n, nI k] ∧ Lets L ∧ n ≤ 6 ∧ 1 ≤ k ∧ k ≤ 20 ∧ L.length * k ^ n ≤ 600 ∧ ∀ r bs H', Same H H' → H r = none → H' r = some (.lst (bs.map V.ref)) → KeysAt H' bs (keysOf L n k) → Q (.ref r) H'
section
variable {P : Program} {w : World} {K : PySem.W.Frag} {mg : Str → Option Value} {base : Heap}
theorem ok_tuples_due (T : Txt K mg) : FnOk P w K mg base CX0 1 T.f_tuples_due T.d_tuples_due ["letters", "states", "classes"] sp_tuples_due := by
  refine T.F_tuples_due.ok sc_tuples_due (fun vs H Q E h => ?_) (fun cdv A outer s H vs Q E hr h => ?_)
  · obtain ⟨L, n, k, rfl, _⟩ := h
    rfl
  obtain ⟨L, n, k, rfl, hl, h6, k20, q⟩ := h
  refine ⟨_, (pss_cons (ps_set (i := 3) sc_tuples_due.nd rfl (Or.inl rfl) (pe_callB call_len_str (by rfl) T.z_len PySem.boot_len (pa_cons (pv 0) pa_nil))) (pss_cons (ps_for PassesOwn.never rfl (pi_range1 (by rfl) T.z_range (pa_cons (pv 1) pa_nil)) (pg_name (i := 4) sc_tuples_due.nd rfl (Or.inl rfl)) (pss_one (ps_set (i := 3) sc_tuples_due.nd rfl (Or.inl rfl) (pe_op op_mul (pv 3) (pv 2))))) (pss_one (ps_ret (pv 3))))), ?_⟩
  refine ⟨_, rfl, L, rfl, Nat.le_of_lt (Nat.lt_of_le_of_lt (show _ ≤ 1000000 by omega) (by decide)), _, rfl, n, rfl, by omega, by omega, for_range (lo := 0) (n := n) (fun i σ H' => ∃ y4, σ = [some (.str L), some (nI n), some (nI k), some (nI (L.length * k ^ i)), y4] ∧ H' = H) ⟨_, by rw [Nat.pow_zero, Nat.mul_one]; rfl, rfl⟩ ?_ ?_⟩
  · rintro i σ H1 hi ⟨y4, rfl, rfl⟩
    refine ⟨_, rfl, _, rfl, _, _, rfl, rfl, .inr ⟨by omega, by omega⟩, ?_⟩
    refine ⟨some (V.int (0 + (i : Int))), ?_, rfl⟩
    have e : ((L.length * k ^ i : Nat) : Int) * (k : Int) = ((L.length * k ^ (i + 1) : Nat) : Int) := by
      rw [Nat.pow_succ, ← Nat.mul_assoc]
      push_cast
      rfl
    show ([some (V.str L), some (nI n), some (nI k), some (V.int (((L.length * k ^ i : Nat) : Int) * (k : Int))), some (V.int (0 + (i : Int)))] : List (Option V)) = _
    rw [e]
  · rintro σ H1 ⟨y4, rfl, rfl⟩
    exact ⟨_, rfl, q⟩
end

def keyN (c : Nat) (row : List Nat) : NestedKey := .tup [.text (ch c), .tup (row.map fun x : Nat => .num (x : Int))]
def RowsJ (xs : List NRow) (keys : List (Nat × List Nat)) (fs : Nat → List Nat → Nat) : Prop := Paired (fun (x : NRow) (key : Nat × List Nat) => x.1 = keyN key.1 key.2 ∧ x.2.2 = nI (fs key.1 key.2)) xs keys
def Rises (L : Str) : Prop := L.cps.toList.Pairwise (· < ·)
def sp_at (L : Str) (n : Nat) (fs : Nat → List Nat → Nat) : Sp := fun vs H Q _ => ∃ (c : Nat) (b : Addr) (row : List Nat), vs = [.str (ch c), .ref b] ∧ c ∈ L.cps.toList ∧ row.length = n ∧ H b = some (.tup (row.map nI)) ∧ ∀ H', Same H H' → Q (nI (fs c row)) H'
def sp_table_made (P : Program) (w : World) (K : PySem.W.Frag) (mg : Str → Option Value) (base : Heap) : Sp := fun vs H Q _ => ∃ (L : Str) (n few turn : Nat) (f : Addr) (fs : Nat → List Nat → Nat), vs = [.str L, nI n, nI few, nI turn, .ref f] ∧ Lets L ∧ Rises L ∧ n ≤ 6 ∧ few ≤ 4 ∧ 1 ≤ turn ∧ turn ≤ 4 ∧ L.length * (few + turn) ^ n ≤ 600 ∧
  CalX P w K mg base 8 f (fun H' => Same H H') 2 (sp_at L n fs) ∧ ∀ d xs H', Same H H' → H d = none → H' d = some (DictN P w d xs) → RowsN H' xs → RowsJ xs (keysOf L n (few + turn)) fs → Q (.ref d) H'
theorem ch_inj {a b : Nat} (h : ch a = ch b) : a = b := by
  have := congrArg (fun s : Str => s.cps.toList) h
  simpa [ch] using this
theorem keyN_inj {c c' : Nat} {r r' : List Nat} (h : keyN c r = keyN c' r') : c = c' ∧ r = r' := by
  unfold keyN at h
  injection h with h
  injection h with h1 h2
  injection h1 with h1
  injection h2 with h2
  injection h2 with h2
  refine ⟨ch_inj h1, ?_⟩
  clear h1
  induction r generalizing r' with
  | nil => cases r' with | nil => rfl | cons a b => cases h2
  | cons a b ih => cases r' with
    | nil => cases h2
    | cons a' b' =>
      rw [List.map_cons, List.map_cons] at h2
      injection h2 with e1 e2
      injection e1 with e1
      rw [ih e2, show a = a' by omega]
theorem keyN_depth (c : Nat) (r : List Nat) : (keyN c r).depth ≤ 8 := by
  have : ∀ r : List Nat, NestedKey.depthAll (r.map fun x : Nat => NestedKey.num (x : Int)) ≤ 1 := by
    intro r
    induction r with
    | nil => simp [NestedKey.depthAll]
    | cons a b ih => simp only [List.map_cons, NestedKey.depthAll, NestedKey.depth]; omega
  have := this r
  simp only [keyN, NestedKey.depth, NestedKey.depthAll]
  omega
theorem nk_nums {H : Hp} : ∀ r : List Nat, NKs H (r.map fun x : Nat => .num (x : Int)) (r.map nI)
  | [] => .nil
  | x :: r => .cons (.int _) (nk_nums r)
theorem nk_key {H : Hp} {b a : Addr} {c : Nat} {r : List Nat} (hb : H b = some (.tup [.str (ch c), .ref a])) (ha : H a = some (.tup (r.map nI))) : NK H (keyN c r) (.ref b) := .tup hb (.cons (.text _) (.cons (.tup ha (nk_nums r)) .nil))
theorem rowsTo_nd (k : Nat) : ∀ n, (rowsTo n k).Pairwise (· ≠ ·)
  | 0 => by simp [rowsTo]
  | n + 1 => by
    rw [rowsTo, List.pairwise_flatMap]
    refine ⟨fun r _ => ?_, (rowsTo_nd k n).imp fun {a b} hab x hx y hy e => ?_⟩
    · rw [List.pairwise_map]
      exact List.nodup_range.imp fun h e => h (by simpa using e)
    · simp only [List.mem_map] at hx hy
      obtain ⟨p, _, rfl⟩ := hx
      obtain ⟨q, _, rfl⟩ := hy
      exact hab (List.append_inj' e rfl).1
theorem keysOf_nd {L : Str} (h : Rises L) (n k : Nat) : (keysOf L n k).Pairwise (· ≠ ·) := by
  unfold keysOf
  rw [List.pairwise_flatMap]
  refine ⟨fun c _ => ?_, h.imp fun {a b} hab x hx y hy e => ?_⟩
  · rw [List.pairwise_map]
    exact (rowsTo_nd k n).imp fun h e => h (by simpa using e)
  · simp only [List.mem_map] at hx hy
    obtain ⟨p, _, rfl⟩ := hx
    obtain ⟨q, _, rfl⟩ := hy
    have : a = b := (Prod.mk.inj e).1
    omega
theorem atN_none {xs : List NRow} {k : NestedKey} (h : ∀ x ∈ xs, x.1 ≠ k) : atN xs k = none := by
  unfold atN
  rw [List.find?_eq_none.mpr fun x hx => by simpa using h x hx]
  rfl
theorem storedN_new {xs : List NRow} {k : NestedKey} {b : Addr} {v : V} (h : ∀ x ∈ xs, x.1 ≠ k) : storedN xs k b v = xs ++ [(k, b, v)] := by
  unfold storedN
  rw [atN_none h]
  rfl
theorem prd_mem {α β : Type} {F : α → β → Prop} {as : List α} {bs : List β} {a : α} (p : Paired F as bs) (h : a ∈ as) : ∃ b ∈ bs, F a b := by
  obtain ⟨i, hi⟩ := List.getElem?_of_mem h
  obtain ⟨b, h1, h2⟩ := prd_at p hi
  exact ⟨b, List.mem_of_getElem? h1, h2⟩
theorem ahead_ne {α : Type} {l : List α} {i : Nat} {x : α} (h : l.Pairwise (· ≠ ·)) (hx : l[i]? = some x) : ∀ y ∈ l.take i, y ≠ x := fun y hy e => by
  obtain ⟨j, hj⟩ := List.getElem?_of_mem hy
  have lt := (List.getElem?_eq_some_iff.mp hj).1
  rw [List.length_take] at lt
  rw [List.getElem?_take_of_lt (by omega)] at hj
  have h1 := List.getElem?_eq_some_iff.mp hj
  have h2 := List.getElem?_eq_some_iff.mp hx
  exact (List.pairwise_iff_getElem.mp h) j i h1.1 h2.1 (by omega) (by rw [h1.2, h2.2]; exact e)
theorem dF {p : Prop} {i : Decidable p} {A B : Prop} (h : ¬p) (k : B) : if (@decide p i) = true then A else B := by
  rw [decide_eq_false h]
  exact iteF k
theorem dT {p : Prop} {i : Decidable p} {A B : Prop} (h : p) (k : A) : if (@decide p i) = true then A else B := by
  rw [decide_eq_true h]
  exact iteT k
theorem RowsN.keep {H H' : Hp} {xs : List NRow} (x : RowsN H xs) (h : ∀ b ys, H b = some (.tup ys) → H' b = some (.tup ys)) : RowsN H' xs := fun r hr => ⟨NK.keep h (x r hr).1, (x r hr).2⟩
theorem upd_tupN {H : Hp} {D : Addr} {P : Program} {w : World} {d : Addr} {xs : List NRow} {o : HO} (hD : H D = some (DictN P w d xs)) : ∀ b ys, H b = some (.tup ys) → (upd H D o) b = some (.tup ys) := fun b ys e => by
  rw [upd_ne (fun z => by rw [z, hD] at e; unfold DictN at e; cases e)]
  exact e
theorem upd_lstN {H : Hp} {D : Addr} {P : Program} {w : World} {d : Addr} {xs : List NRow} {o : HO} (hD : H D = some (DictN P w d xs)) : ∀ b ys, H b = some (.lst ys) → (upd H D o) b = some (.lst ys) := fun b ys e => by
  rw [upd_ne (fun z => by rw [z, hD] at e; unfold DictN at e; cases e)]
  exact e
section
variable {P : Program} {w : World} {K : PySem.W.Frag} {mg : Str → Option Value} {base : Heap}
end

theorem inV_nI (x : Nat) : ∀ g : List Nat, inV (nI x) (g.map nI) = decide (x ∈ g)
  | [] => rfl
  | y :: r => by
    have ih := inV_nI x r
    unfold inV at ih ⊢
    rw [List.map_cons, List.any_cons, ih]
    have e : eqV (nI y) (nI x) = decide (x = y) := by
      show ((y : Int) == (x : Int)) = _
      rw [Bool.eq_iff_iff]
      simp
      omega
    rw [e]
    simp
theorem flat_nI : ∀ g : List Nat, (g.map nI).all flatV = true
  | [] => rfl
  | y :: r => by rw [List.map_cons, List.all_cons, flat_nI r]; rfl
theorem post_last : ∀ t : Tr, ∃ l, t.post = l ++ [t]
  | .node c ks => ⟨posts ks, rfl⟩

def ItzS (x y : Str) : It := ⟨fun n _ => n < x.cps.size ∧ n < y.cps.size,
  fun n H v H' => ∃ (p : Addr) (c d : Nat), v = .ref p ∧ H p = none ∧ H' = upd H p (.tup [.str (ch c), .str (ch d)]) ∧ x.cps[n]? = some c ∧ y.cps[n]? = some d,
  fun n _ => n ≤ x.cps.size ∧ n ≤ y.cps.size ∧ (n = x.cps.size ∨ n = y.cps.size)⟩
theorem five {z TI TO i1 i2 b : Addr} (h : b ∈ [z, TI, TO, i1, i2]) : b = z ∨ b = TI ∨ b = TO ∨ b = i1 ∨ b = i2 := by simpa using h
theorem turn_zipS {P : Program} {w : World} {K : PySem.W.Frag} {parts : List PySem.Expr} {many : Nat} {at_ : Pos} {z TI TO i1 i2 : Addr} (S : ZipSep2 z TI TO i1 i2 [i1] [i2]) (x y : Str) (t u : Tok) :
    Turn P w K (.Tuple parts many at_) (ItzS x y) [z, TI, TO, i1, i2] z (fun n h => IsZip h z TI TO .none ∧ IsTupOf2 h TI (.ref i1) (.ref i2) ∧ (∃ a b, IsTupOf2 h TO a b) ∧ h.IsStrIter i1 (strIterType x) x t n ∧ h.IsStrIter i2 (strIterType y) y u n) where
  mem := List.mem_cons_self
  obj := by
    rintro n h ⟨hz, hTI, ⟨a, b, hTO⟩, ⟨o1, e1, _, d1⟩, ⟨o2, e2, _, d2⟩⟩ c hc
    rcases five hc with rfl | rfl | rfl | rfl | rfl
    · exact ⟨_, hz, fun v q => nomatch q⟩
    · exact ⟨_, hTI, fun v q => nomatch q⟩
    · exact ⟨_, hTO, fun v q => nomatch q⟩
    · exact ⟨o1, e1, fun v q => by rw [d1] at q; cases q⟩
    · exact ⟨o2, e2, fun v q => by rw [d2] at q; cases q⟩
  keep := by
    rintro n h h' ⟨hz, hTI, ⟨a, b, hTO⟩, ⟨o1, e1, r1⟩, ⟨o2, e2, r2⟩⟩ k
    exact ⟨k z (by simp) _ hz, k TI (by simp) _ hTI, ⟨a, b, k TO (by simp) _ hTO⟩, ⟨o1, k i1 (by simp) _ e1, r1⟩, ⟨o2, k i2 (by simp) _ e2, r2⟩⟩
  item := by
    rintro X rfl rfl rfl calm n pins s σ H E I free ⟨hz, hTI, ⟨a, b, hTO⟩, h1, h2⟩ ⟨lt1, lt2⟩
    have D1 := Draws.text (prog := X.prog) (w := X.w) (A := X.A.in1) (I.ok.hd calm) i1 x t
    have D2 := Draws.text (prog := X.prog) (w := X.w) (A := X.A.in1) (I.ok.hd calm) i2 y u
    have low : z < s.heap.objs.size := Heap.lt_size hz
    refine wpAny_pyNext_zipD2_item S D1 D2 hz hTI hTO h1 h2 lt1 lt2 ?_
    rintro _ _ h3 tk ⟨c, tc, hc, rfl⟩ ⟨d, td, hd, rfl⟩ out pair n1 n2 made _ stays
    refine ⟨_, rfl, wpAny_letOwnedTupleGo_zip (s := { s with heap := h3, toks := tk }) out fun h4 back but => ?_⟩
    have made4 : h4.get? s.heap.objs.size = some { cls := .type "tuple", data := .seq #[.str ⟨#[c]⟩ tc, .str ⟨#[d]⟩ td] } := (but.2 _ (Nat.ne_of_gt low)).trans made
    have new : ObjOk X.prog X.w (upd H s.heap.objs.size (.tup [.str (ch c), .str (ch d)])) h4 s.heap.objs.size (.tup [.str (ch c), .str (ch d)]) :=
      ⟨by show 2 ≤ sizeLine; decide, [.str ⟨#[c]⟩ tc, .str ⟨#[d]⟩ td], .cons ⟨_, rfl⟩ (.cons ⟨_, rfl⟩ .nil), _, made4, rfl, _, rfl⟩
    have J : Inv X pins σ (upd H s.heap.objs.size (.tup [.str (ch c), .str (ch d)])) { s with heap := h4, toks := tk } :=
      I.turnedNew (t' := tk) (ch := [z, TI, TO, i1, i2]) (fun b ob hb e => by
        have ne : b ≠ z ∧ b ≠ TO ∧ b ≠ i1 ∧ b ≠ i2 := ⟨fun q => hb (by simp [q]), fun q => hb (by simp [q]), fun q => hb (by simp [q]), fun q => hb (by simp [q])⟩
        exact (but.2 b ne.1).trans (stays b ob ne.1 ne.2.1 ne.2.2.1 ne.2.2.2 e)) free (Nat.le_refl _) new
    refine ⟨.ref s.heap.objs.size, _, J, rfl, ⟨_, c, d, rfl, I.hok.fresh (Nat.le_refl _), rfl, hc, hd⟩, ⟨back, ?_, ⟨_, _, (but.2 _ S.TOz).trans pair⟩, D1.over n1 but S.zf1, D2.over n2 but S.zf2⟩, fun b hb => ?_⟩
    · exact (but.2 _ S.TIz).trans (stays _ _ S.TIz S.TITO S.TIi1 S.TIi2 hTI)
    · have lt : b < s.heap.objs.size := by
        rcases five hb with rfl | rfl | rfl | rfl | rfl
        · exact low
        · exact Heap.lt_size hTI
        · exact Heap.lt_size hTO
        · obtain ⟨_, e, _⟩ := h1; exact Heap.lt_size e
        · obtain ⟨_, e, _⟩ := h2; exact Heap.lt_size e
      rw [upd_ne (Nat.ne_of_lt lt)]
      exact (free b hb).1
  done := by
    rintro X rfl rfl rfl calm n pins s σ H E I free ⟨hz, hTI, ⟨a, b, hTO⟩, h1, h2⟩ ⟨le1, le2, over⟩
    have D1 := Draws.text (prog := X.prog) (w := X.w) (A := X.A.in1) (I.ok.hd calm) i1 x t
    have D2 := Draws.text (prog := X.prog) (w := X.w) (A := X.A.in1) (I.ok.hd calm) i2 y u
    exact wpAny_pyNext_zipD2_end S D1 D2 hz hTI hTO h1 h2 le1 le2 over fun h' tk stays => ⟨rfl, I.turnedL (t' := tk) (ch := [z, TI, TO, i1, i2]) (fun b ob hb e =>
      stays b ob (fun q => hb (by simp [q])) (fun q => hb (by simp [q])) (fun q => hb (by simp [q])) (fun q => hb (by simp [q])) e) free⟩
  self := fun A n s Q E st h => wpAny_pyIter_zip st.1 h
def iZipS (ta : TA) : TI := fun σ H R => ta σ H fun vs H1 => ∃ x y, vs = [.str x, .str y] ∧ R (ItzS x y) H1
theorem sep_new (n : Nat) : ZipSep2 (n + 4) (n + 2) (n + 3) n (n + 1) [n] [n + 1] := by
  constructor <;> simp <;> omega
theorem pi_zipS {X : Cx} {e e2 : PySem.Expr} {ta : TA} {p pos at_ : Pos} {parts : List PySem.Expr} {many : Nat} (hg : Gl X "zip") (hm : X.mg "zip" = none) (ha : PA X [e, e2] ta)
    (hs : starEach [e, e2] X.env = (false, eval e X.env) :: starEach [e2] X.env := by rfl) (hpl : (backTo pos (starEach [e2] X.env)).any (·.1) = false := by rfl) :
    PI X (.Tuple parts many at_) (.Call (.Name "zip" p) [e, e2] [] pos) (iZipS ta) := by
  refine ⟨fun pins s σ H R I h => Call_ (ld_blt I hg hm PyProof.Rows.boot_zip (PyProof.Rows.callWith_type1 (thn (ha.run pos pins s σ H _ I h) ?_) hs hpl))⟩
  rintro us s1 ⟨_, H1, I1, r1, x, y, rfl, q⟩
  obtain ⟨_, _, rfl, ⟨t, rfl⟩, u, rfl⟩ := Vals.two r1
  refine zip_begins2 (begins_text x t) (begins_text y u) trivial trivial fun h' hz hTI hTO g1 g2 _ keep => wpAny_pyIter_zip hz ?_
  refine ⟨s1.heap.objs.size + 4, [s1.heap.objs.size + 4, s1.heap.objs.size + 2, s1.heap.objs.size + 3, s1.heap.objs.size, s1.heap.objs.size + 1], _, _, H1, rfl, I1.kept (t' := s1.toks) keep, turn_zipS (sep_new _) x y t u, ⟨hz, hTI, ⟨_, _, hTO⟩, ⟨_, g1, rfl, rfl⟩, ⟨_, g2, rfl, rfl⟩⟩, fun b hb => ?_, q⟩
  have hle : s1.heap.objs.size ≤ b := by rcases five hb with rfl | rfl | rfl | rfl | rfl <;> omega
  exact I1.fpOk hle (I1.hok.fresh hle)
theorem walk_zipS {x y : Str} {n : Nat} (hn : n = min x.cps.size y.cps.size) : Walk (ItzS x y) n (fun _ => True) (fun i H v H' => ∃ (p : Addr) (c d : Nat), v = .ref p ∧ H p = none ∧ H' = upd H p (.tup [.str (ch c), .str (ch d)]) ∧ x.cps[i]? = some c ∧ y.cps[i]? = some d) :=
  ⟨fun i _ hi _ => ⟨by omega, by omega⟩, fun _ _ => ⟨by omega, by omega, by omega⟩, fun _ _ _ _ _ _ y => y⟩


def sp_is_whole : Sp := fun vs H Q _ => ∃ i : Int, vs = [.int i] ∧ Q (.bl true) H
def sp_is_whole_within : Sp := fun vs H Q _ => ∃ i lo hi : Int, vs = [.int i, .int lo, .int hi] ∧ lo ≤ i ∧ i ≤ hi ∧ Q (.bl true) H
def sp__rises_str : Sp := fun vs H Q _ => ∃ L : Str, vs = [.str L] ∧ Lets L ∧ Rises L ∧ ∀ H', Same H H' → Q (.bl true) H'
def sp__rises_lst (K : PySem.W.Frag) : Sp := fun vs H Q _ => ∃ (a : Addr) (g : List Nat), vs = [.ref a] ∧ H a = some (.lst (g.map nI)) ∧ g.Pairwise (· < ·) ∧ g.length ≤ 100 ∧ ∀ H', Same H H' → Q (.bl true) H'
def sp_are_letters : Sp := fun vs H Q _ => ∃ L : Str, vs = [.str L] ∧ Lets L ∧ Rises L ∧ ∀ H', Same H H' → Q (.bl true) H'
def sp_are_rising_states : Sp := fun vs H Q _ => ∃ (a : Addr) (g : List Nat) (n : Nat), vs = [.ref a, nI n] ∧ H a = some (.lst (g.map nI)) ∧ g.Pairwise (· < ·) ∧ g.length ≤ 100 ∧ (∀ x ∈ g, x < n) ∧ ∀ H', Same H H' → Q (.bl true) H'
theorem rep_succ {α : Type} (n : Nat) (x : α) : List.replicate (n + 1) x = List.replicate n x ++ [x] := by
  rw [List.replicate_succ']
theorem all_rep (n : Nat) : (List.replicate n true).all id = true := by
  rw [List.all_eq_true]
  intro x hx
  rw [List.eq_of_mem_replicate hx]
  rfl
theorem cut_str {L : Str} (h : 1 ≤ L.length) : (cutS L (some 1) none).cps = (L.cps.toList.drop 1).toArray := by
  have h1 : HT.sIx L.length 0 (some 1) = 1 := by
    have := HT.sIx_nat L.length 0 1
    rw [show ((1 : Nat) : Int) = 1 from rfl] at this
    rw [this]
    omega
  unfold cutS
  rw [h1, HT.sIx_none]
  have : (L.cps.toList.drop 1).take (L.length - 1) = L.cps.toList.drop 1 := List.take_of_length_le (by rw [List.length_drop, Array.length_toList]; exact Nat.le_refl _)
  rw [this]
theorem cut_one {L : Str} (h : 1 ≤ L.length) (j : Nat) : (cutS L (some 1) none).cps[j]? = L.cps[j + 1]? := by
  rw [cut_str h, List.getElem?_toArray, List.getElem?_drop, Array.getElem?_toList, Nat.add_comm]
theorem cut_size {L : Str} (h : 1 ≤ L.length) : (cutS L (some 1) none).cps.size = L.cps.size - 1 := by
  rw [cut_str h, List.size_toArray, List.length_drop, Array.length_toList]
section
variable {P : Program} {w : World} {K : PySem.W.Frag} {mg : Str → Option Value} {base : Heap}
theorem ok_is_whole (T : Txt K mg) : FnOk P w K mg base CX0 1 T.f_is_whole T.d_is_whole ["thing"] sp_is_whole := by
  refine T.F_is_whole.ok sc_is_whole (fun vs H Q E h => ?_) (fun cdv A outer s H vs Q E hr h => ?_)
  · obtain ⟨i, rfl, _⟩ := h
    rfl
  obtain ⟨i, rfl, q⟩ := h
  refine ⟨_, (pss_one (ps_ret (pe_and (pe_callB call_isi (by rfl) T.z_isinstance (by decide +kernel) (pa_cons (pv 0) (pa_cons (pe_bltn (v := .ty "int") (by rfl) T.z_int (by decide +kernel) rfl) pa_nil))) (pe_one (pe_not (pe_callB call_isi (by rfl) T.z_isinstance (by decide +kernel) (pa_cons (pv 0) (pa_cons (pe_bltn (v := .ty "bool") (by rfl) T.z_bool (by decide +kernel) rfl) pa_nil)))))))), ?_⟩
  refine ⟨_, rfl, _, _, _, _, true, rfl, .ty "int", .base (.int _), kit_ty (by decide +kernel), _, rfl, iteT ?_⟩
  exact ⟨_, rfl, _, _, _, _, false, rfl, .ty "bool", .base (.int _), kit_ty (by decide +kernel), _, rfl, q⟩
theorem ok_is_whole_within (T : Txt K mg) : FnOk P w K mg base CX0 2 T.f_is_whole_within T.d_is_whole_within ["thing", "low", "high"] sp_is_whole_within := by
  have G_is_whole : FnOk P w K mg base CX0 1 T.f_is_whole T.d_is_whole ["thing"] sp_is_whole := ok_is_whole T
  refine T.F_is_whole_within.ok sc_is_whole_within (fun vs H Q E h => ?_) (fun cdv A outer s H vs Q E hr h => ?_)
  · obtain ⟨i, lo, hi, rfl, _⟩ := h
    rfl
  obtain ⟨i, lo, hi, rfl, h1, h2, q⟩ := h
  refine ⟨_, (pss_one (ps_ret (pe_and (pe_call G_is_whole (hr.mono (by omega)) (by rfl) T.m_is_whole T.F_is_whole.kp T.b_is_whole .nil pass0 (pa_cons (pv 0) pa_nil)) (pe_one (pe_chain op_le op_le (pv 1) (pv 0) (pv 2)))))), ?_⟩
  refine ⟨_, rfl, i, rfl, _, rfl, iteT ?_⟩
  refine ⟨_, rfl, _, rfl, _, _, rfl, rfl, _, rfl, dT h1 ?_⟩
  refine ⟨_, rfl, _, _, rfl, rfl, ?_⟩
  show Q (V.bl (decide (i ≤ hi))) H
  rw [decide_eq_true h2]
  exact q
theorem ok__rises_str (T : Txt K mg) : FnOk P w K mg base CX0 1 T.f__rises T.d__rises ["row"] sp__rises_str := by
  refine T.F__rises.ok sc__rises (fun vs H Q E h => ?_) (fun cdv A outer s H vs Q E hr h => ?_)
  · obtain ⟨L, rfl, _⟩ := h
    rfl
  obtain ⟨L, rfl, hL, hR, q⟩ := h
  refine ⟨_, (pss_one (ps_ret (pe_callB (cr_all rfl) (by rfl) T.z_all (by decide +kernel) (pa_cons (pe_lc (own := [("low", 1), ("high", 2)]) (g := gTup K 2 (gCons (gName 1) (gCons (gName 2) gNil))) (tt := tYes) rfl sc__rises.nd (pi_zipS (by rfl) T.z_zip (pa_cons (pv 0) (pa_cons (pe_slice sl_str (pv 0) (po_some pe_int) po_none) pa_nil))) (blkOk_by (own := [("low", 1), ("high", 2)]) (N := ["row", "low", "high"]) (sc := (defScope s__rises)) (by decide +kernel)) (fun _ _ _ _ _ => (pg_tup rfl (pgs_cons (pg_name (i := 1) sc__rises.nd rfl (Or.inl rfl)) (pgs_cons (pg_name (i := 2) sc__rises.nd rfl (Or.inl rfl)) pgs_nil)))) (fun _ _ _ _ _ => pts_nil) (fun _ _ _ _ _ => (pe_cmpR op_lt_str (pv 1) (pv 2) (nomark _)))) pa_nil)))), ?_⟩
  have lsz : L.cps.size = L.cps.toList.length := (Array.length_toList).symm
  have l26 : L.cps.toList.length ≤ 26 := by rw [← lsz]; exact hL.2.1
  have hcut : ∀ j : Nat, (cutS L (some 1) none).cps[j]? = L.cps[j + 1]? := cut_one hL.1
  have hsz : (cutS L (some 1) none).cps.size = L.cps.size - 1 := cut_size hL.1
  refine ⟨_, rfl, _, rfl, 1, rfl, L, rfl, Nat.le_of_lt (Nat.lt_of_le_of_lt (show _ ≤ 1000000 by have := hL.2.1; omega) (by decide)), L, _, rfl, fun D hD => ?_⟩
  refine lc_it (n := L.cps.size - 1) (walk_zipS (by rw [hsz]; omega)) (fun i H2 => H2 D = some (.lst ((List.replicate i true).map V.bl)) ∧ Same H H2) ⟨upd_same, same_new hD⟩ (fun _ _ _ _ => trivial) ?_ ?_
  · rintro i x H2 H3 hi ⟨g1, g2⟩ ⟨p, c, d, rfl, hp, rfl, hc, hd⟩
    rw [hcut] at hd
    have lt : c < d := by
      have h1 := Array.getElem?_eq_some_iff.mp hc
      have h2 := Array.getElem?_eq_some_iff.mp hd
      have := (List.pairwise_iff_getElem.mp hR) i (i + 1) (by rw [← lsz]; exact h1.1) (by rw [← lsz]; exact h2.1) (by omega)
      simpa [h1.2, h2.2] using this
    have sp := same_new (o := .tup [.str (ch c), .str (ch d)]) hp
    have kp := upd_same (H := H2) (a := p) (o := .tup [.str (ch c), .str (ch d)])
    generalize upd H2 p (.tup [.str (ch c), .str (ch d)]) = H4 at *
    refine ⟨p, _, rfl, SqT.of kp, rfl, _, _, rfl, _, _, rfl, rfl, rfl, _, rfl, _, rfl, _, _, rfl, rfl, ?_⟩
    have e : decide ((ch c).cps.toList < (ch d).cps.toList) = true := decide_eq_true (List.cons_lt_cons_iff.mpr (.inl lt))
    rw [e]
    refine ⟨_, sp _ _ g1, ?_, ?_, same_add (g2.trans sp) hD⟩
    · rw [List.length_map, List.length_replicate]
      exact Nat.lt_of_le_of_lt (show _ ≤ 1000000 by omega) (by decide)
    · rw [upd_same, rep_succ, List.map_append]
      rfl
  · rintro H2 ⟨g1, g2⟩
    refine ⟨D, _, rfl, SqL.of g1, ?_⟩
    rw [all_rep]
    exact q H2 g2
end

theorem tru_str {K : PySem.W.Frag} {H : Hp} {L : Str} (h : 1 ≤ L.length) (h2 : L.length ≤ 26) : TruV K (.str L) H true := by
  refine ⟨Nat.le_of_lt (Nat.lt_of_le_of_lt (show _ ≤ 1000000 by omega) (by decide)), ?_⟩
  have : (L.length : Int) ≠ 0 := by omega
  have h3 : ¬ L.length = 0 := by omega
  simp [h3]
section
variable {P : Program} {w : World} {K : PySem.W.Frag} {mg : Str → Option Value} {base : Heap}
theorem ok__rises_lst (T : Txt K mg) : FnOk P w K mg base CX0 1 T.f__rises T.d__rises ["row"] (sp__rises_lst K) := by
  refine T.F__rises.ok sc__rises (fun vs H Q E h => ?_) (fun cdv A outer s H vs Q E hr h => ?_)
  · obtain ⟨a, g, rfl, _⟩ := h
    rfl
  obtain ⟨a, g, rfl, ha, hR, h100, q⟩ := h
  refine ⟨_, (pss_one (ps_ret (pe_callB (cr_all rfl) (by rfl) T.z_all (by decide +kernel) (pa_cons (pe_lc (own := [("low", 1), ("high", 2)]) (g := gTup K 2 (gCons (gName 1) (gCons (gName 2) gNil))) (tt := tYes) rfl sc__rises.nd (pi_zip (by rfl) T.z_zip (pa_cons (pv 0) (pa_cons (pe_slice sl_list (pv 0) (po_some pe_int) po_none) pa_nil))) (blkOk_by (own := [("low", 1), ("high", 2)]) (N := ["row", "low", "high"]) (sc := (defScope s__rises)) (by decide +kernel)) (fun _ _ _ _ _ => (pg_tup rfl (pgs_cons (pg_name (i := 1) sc__rises.nd rfl (Or.inl rfl)) (pgs_cons (pg_name (i := 2) sc__rises.nd rfl (Or.inl rfl)) pgs_nil)))) (fun _ _ _ _ _ => pts_nil) (fun _ _ _ _ _ => (pe_cmpR op_lt (pv 1) (pv 2) (nomark _)))) pa_nil)))), ?_⟩
  have hcut : cutV (g.map nI) (some 1) none = (g.drop 1).map nI := by
    cases g with
    | nil => rfl
    | cons x r => rw [List.map_cons, cut1]; rfl
  refine ⟨_, rfl, _, rfl, 1, rfl, a, _, rfl, SqL.of ha, fun p hp => ?_⟩
  rw [hcut]
  have sp := same_new (o := .lst ((g.drop 1).map nI)) hp
  have kp := upd_same (H := H) (a := p) (o := .lst ((g.drop 1).map nI))
  have ka := sp _ _ ha
  generalize upd H p (.lst ((g.drop 1).map nI)) = H1 at *
  refine ⟨a, p, _, _, rfl, SqL.of ka, SqL.of kp, fun D hD => ?_⟩
  refine lc_it (n := g.length - 1) (walk_zip (K := K) (a := a) (b := p) (xs := g.map nI) (ys := (g.drop 1).map nI) (by rw [List.length_map, List.length_map, List.length_drop]; omega)) (fun i H2 => H2 D = some (.lst ((List.replicate i true).map V.bl)) ∧ Same H1 H2) ⟨upd_same, same_new hD⟩ (fun i H2 _ h => ⟨SqL.of (h.2 _ _ ka), SqL.of (h.2 _ _ kp)⟩) ?_ ?_
  · rintro i x H2 H3 hi ⟨g1, g2⟩ ⟨T, u, v, rfl, hT, rfl, hu, hv⟩
    dsimp only at hu hv
    rw [List.getElem?_map] at hu hv
    rw [List.getElem?_drop] at hv
    cases hc : g[i]? with
    | none => rw [hc] at hu; cases hu
    | some c =>
    cases hd : g[1 + i]? with
    | none => rw [hd] at hv; cases hv
    | some d =>
    rw [hc] at hu
    rw [hd] at hv
    cases hu
    cases hv
    have lt : c < d := by
      have h1 := List.getElem?_eq_some_iff.mp hc
      have h2 := List.getElem?_eq_some_iff.mp hd
      have := (List.pairwise_iff_getElem.mp hR) i (1 + i) h1.1 h2.1 (by omega)
      simpa [h1.2, h2.2] using this
    have sT := same_new (o := .tup [nI c, nI d]) hT
    have kT := upd_same (H := H2) (a := T) (o := .tup [nI c, nI d])
    generalize upd H2 T (.tup [nI c, nI d]) = H4 at *
    refine ⟨T, _, rfl, SqT.of kT, rfl, _, _, rfl, _, _, rfl, rfl, rfl, _, rfl, _, rfl, _, _, rfl, rfl, ?_⟩
    have e : decide ((c : Int) < (d : Int)) = true := decide_eq_true (by omega)
    refine ⟨_, sT _ _ g1, ?_, ?_, same_add (g2.trans sT) hD⟩
    · rw [List.length_map, List.length_replicate]
      exact Nat.lt_of_le_of_lt (show _ ≤ 1000000 by omega) (by decide)
    · show (upd H4 D (.lst ((List.replicate i true).map V.bl ++ [V.bl (decide ((c : Int) < (d : Int)))]))) D = _
      rw [upd_same, e, rep_succ, List.map_append]
      rfl
  · rintro H2 ⟨g1, g2⟩
    refine ⟨D, _, rfl, SqL.of g1, ?_⟩
    rw [all_rep]
    exact q H2 (sp.trans g2)
theorem ok_are_letters (T : Txt K mg) : FnOk P w K mg base CX0 2 T.f_are_letters T.d_are_letters ["thing"] sp_are_letters := by
  have G_is_letter : FnOk P w K mg base CX0 1 T.f_is_letter T.d_is_letter ["thing"] sp_is_letter := ok_is_letter T
  have G__rises : FnOk P w K mg base CX0 1 T.f__rises T.d__rises ["row"] sp__rises_str := ok__rises_str T
  refine T.F_are_letters.ok sc_are_letters (fun vs H Q E h => ?_) (fun cdv A outer s H vs Q E hr h => ?_)
  · obtain ⟨L, rfl, _⟩ := h
    rfl
  obtain ⟨L, rfl, hL, hR, q⟩ := h
  refine ⟨_, (pss_cons (ps_if (PW.pt (pw_or (pt_not (pt_val (pe_callB call_isi (by rfl) T.z_isinstance (by decide +kernel) (pa_cons (pv 0) (pa_cons (pe_bltn (v := .ty "str") (by rfl) T.z_str (by decide +kernel) rfl) pa_nil))))) (pw_or1 (pt_not (pt_truth (pv 0) (by intro _; rfl)))))) (pss_one (ps_ret pe_bl)) pss_nil) (pss_one (ps_ret (pe_and (pe_callB (cr_all rfl) (by rfl) T.z_all (by decide +kernel) (pa_cons (pe_lc (own := [("sign", 1)]) (g := gName 1) (tt := tYes) rfl sc_are_letters.nd (pi_str (pv 0)) (blkOk_by (own := [("sign", 1)]) (N := ["thing", "sign"]) (sc := (defScope s_are_letters)) (by decide +kernel)) (fun _ _ _ _ _ => (pg_name (i := 1) sc_are_letters.nd rfl (Or.inl rfl))) (fun _ _ _ _ _ => pts_nil) (fun _ _ _ _ _ => (pe_call G_is_letter (hr.mono (by omega)) (by rfl) T.m_is_letter T.F_is_letter.kp T.b_is_letter .nil pass0 (pa_cons (pv 1) pa_nil)))) pa_nil)) (pe_one (pe_call G__rises (hr.mono (by omega)) (by rfl) T.m__rises T.F__rises.kp T.b__rises .nil pass0 (pa_cons (pv 0) pa_nil))))))), ?_⟩
  have lsz : L.cps.size = L.cps.toList.length := (Array.length_toList).symm
  have l26 : L.cps.toList.length ≤ 26 := by rw [← lsz]; exact hL.2.1
  refine ⟨_, rfl, _, _, _, _, true, rfl, .ty "str", .base (.str _), kit_ty (by decide +kernel), _, rfl, iteF ?_⟩
  refine ⟨_, rfl, true, tru_str hL.1 hL.2.1, iteF ?_⟩
  refine ⟨_, rfl, L, rfl, fun D hD => ?_⟩
  refine lc_it (n := L.cps.size) walk_str (fun i H2 => H2 D = some (.lst ((List.replicate i true).map V.bl)) ∧ Same H H2) ⟨upd_same, same_new hD⟩ (fun _ _ _ _ => trivial) ?_ ?_
  · rintro i x H2 H3 hi ⟨g1, g2⟩ ⟨rfl, c, hc, rfl⟩
    have hm := hL.2.2 c (by have := Array.getElem?_eq_some_iff.mp hc; rw [← this.2]; exact Array.mem_toList_iff.mpr (Array.getElem_mem this.1))
    refine ⟨rfl, _, rfl, c, rfl, hm.1, hm.2, _, g1, ?_, ?_, same_add g2 hD⟩
    · rw [List.length_map, List.length_replicate]
      exact Nat.lt_of_le_of_lt (show _ ≤ 1000000 by omega) (by decide)
    · rw [upd_same, rep_succ, List.map_append]
      rfl
  · rintro H2 ⟨g1, g2⟩
    refine ⟨D, _, rfl, SqL.of g1, ?_⟩
    rw [all_rep]
    exact ⟨_, rfl, iteT ⟨_, rfl, L, rfl, hL, hR, fun H3 s3 => q H3 (g2.trans s3)⟩⟩
theorem ok_are_rising_states (T : Txt K mg) : FnOk P w K mg base CX0 3 T.f_are_rising_states T.d_are_rising_states ["thing", "states"] sp_are_rising_states := by
  have G_is_whole_within : FnOk P w K mg base CX0 2 T.f_is_whole_within T.d_is_whole_within ["thing", "low", "high"] sp_is_whole_within := ok_is_whole_within T
  have G__rises : FnOk P w K mg base CX0 1 T.f__rises T.d__rises ["row"] (sp__rises_lst K) := ok__rises_lst T
  refine T.F_are_rising_states.ok sc_are_rising_states (fun vs H Q E h => ?_) (fun cdv A outer s H vs Q E hr h => ?_)
  · obtain ⟨a, g, n, rfl, _⟩ := h
    rfl
  obtain ⟨a, g, n, rfl, ha, hR, h100, hn, q⟩ := h
  refine ⟨_, (pss_cons (ps_if (pt_not (pt_val (pe_callB call_isi (by rfl) T.z_isinstance (by decide +kernel) (pa_cons (pv 0) (pa_cons (pe_bltn (v := .ty "list") (by rfl) T.z_list (by decide +kernel) rfl) pa_nil))))) (pss_one (ps_ret pe_bl)) pss_nil) (pss_one (ps_ret (pe_and (pe_callB (cr_all rfl) (by rfl) T.z_all (by decide +kernel) (pa_cons (pe_lc (own := [("state", 2)]) (g := gName 2) (tt := tYes) rfl sc_are_rising_states.nd (pi_list (pv 0)) (blkOk_by (own := [("state", 2)]) (N := ["thing", "states", "state"]) (sc := (defScope s_are_rising_states)) (by decide +kernel)) (fun _ _ _ _ _ => (pg_name (i := 2) sc_are_rising_states.nd rfl (Or.inl rfl))) (fun _ _ _ _ _ => pts_nil) (fun _ _ _ _ _ => (pe_call G_is_whole_within (hr.mono (by omega)) (by rfl) T.m_is_whole_within T.F_is_whole_within.kp T.b_is_whole_within .nil pass0 (pa_cons (pv 2) (pa_cons pe_int (pa_cons (pe_op op_sub (pv 1) pe_int) pa_nil)))))) pa_nil)) (pe_one (pe_call G__rises (hr.mono (by omega)) (by rfl) T.m__rises T.F__rises.kp T.b__rises .nil pass0 (pa_cons (pv 0) pa_nil))))))), ?_⟩
  refine ⟨_, rfl, _, _, _, _, true, rfl, .ty "list", .base (.lst ha), kit_ty (by decide +kernel), _, rfl, iteF ?_⟩
  refine ⟨_, rfl, a, rfl, ⟨_, SqL.of ha⟩, fun D hD => ?_⟩
  refine lc_list (xs := g.map nI) (fun i H2 => H2 D = some (.lst ((List.replicate i true).map V.bl)) ∧ Same H H2) ⟨upd_same, same_new hD⟩ (fun i H2 _ ⟨_, s⟩ => SqL.of (s _ _ ha)) ?_ ?_
  · rintro i x H2 hx ⟨g1, g2⟩
    rw [List.getElem?_map] at hx
    cases hc : g[i]? with
    | none => rw [hc] at hx; cases hx
    | some z =>
    rw [hc] at hx
    cases hx
    have hz := hn z (List.mem_of_getElem? hc)
    have hi := (List.getElem?_eq_some_iff.mp hc).1
    refine ⟨rfl, _, rfl, _, rfl, _, _, rfl, rfl, z, 0, n - 1, rfl, by omega, by omega, _, g1, ?_, ?_, same_add g2 hD⟩
    · rw [List.length_map, List.length_replicate]
      exact Nat.lt_of_le_of_lt (show _ ≤ 1000000 by omega) (by decide)
    · rw [upd_same, rep_succ, List.map_append]
      rfl
  · rintro H2 ⟨g1, g2⟩
    refine ⟨D, _, rfl, SqL.of g1, ?_⟩
    rw [all_rep]
    exact ⟨_, rfl, iteT ⟨_, rfl, a, g, rfl, g2 _ _ ha, hR, h100, fun H3 s3 => q H3 (g2.trans s3)⟩⟩
end

theorem neS {x y : V} {i : Decidable (x = y)} {A B : Prop} (h : x = y) (k : B) : if (!@decide (x = y) i) = true then A else B := by
  rw [decide_eq_true h]
  exact iteF k
def FrD (d : Addr) (H H' : Hp) : Prop := ∀ b o, b ≠ d → H b = some o → H' b = some o
theorem keysOf_len (L : Str) (n k : Nat) : (keysOf L n k).length = L.length * k ^ n := by
  have e : (keysOf L n k).length = L.cps.toList.length * (rowsTo n k).length := by
    unfold keysOf
    generalize L.cps.toList = l
    induction l with
    | nil => simp
    | cons a t ih => rw [List.flatMap_cons, List.length_append, List.length_map, ih, List.length_cons, Nat.succ_mul, Nat.add_comm]
  rw [e, rowsTo_len, Array.length_toList]
  rfl
theorem keysOf_mem {L : Str} {n k : Nat} {key : Nat × List Nat} (h : key ∈ keysOf L n k) : key.1 ∈ L.cps.toList ∧ key.2.length = n ∧ ∀ x ∈ key.2, x < k := by
  simp only [keysOf, List.mem_flatMap, List.mem_map] at h
  obtain ⟨c, hc, row, hrow, rfl⟩ := h
  exact ⟨hc, rowsTo_mem hrow⟩
theorem nks_nums {H : Hp} : ∀ {r : List Nat} {vs : List V}, NKs H (r.map fun x : Nat => .num (x : Int)) vs → vs = r.map nI
  | [], _, h => by cases h; rfl
  | x :: r, _, h => by
    cases h with
    | cons a b =>
      cases a
      rw [nks_nums b]
      rfl
theorem nk_inv {H : Hp} {b : Addr} {c : Nat} {r : List Nat} (h : NK H (keyN c r) (.ref b)) : ∃ a, H b = some (.tup [.str (ch c), .ref a]) ∧ H a = some (.tup (r.map nI)) := by
  unfold keyN at h
  cases h with
  | tup h1 h2 =>
    cases h2 with
    | cons a1 a2 =>
    cases a1
    cases a2 with
    | cons b1 b2 =>
    cases b2
    cases b1 with
    | tup c1 c2 =>
    rw [nks_nums c2] at c1
    exact ⟨_, h1, c1⟩

/- may_have_table of letters and numbers within a judge's bounds: whether the tuples due are not too many. -/
def sp_may_have_table : Sp := fun vs H Q _ => ∃ (L : Str) (n few turn : Nat), vs = [.str L, nI n, nI few, nI turn] ∧ Lets L ∧ Rises L ∧ 1 ≤ n ∧ n ≤ 6 ∧ few ≤ 4 ∧ 1 ≤ turn ∧ turn ≤ 4 ∧ ∀ H', Same H H' → Q (.bl (decide (L.length * (few + turn) ^ n ≤ 600))) H'
section
variable {P : Program} {w : World} {K : PySem.W.Frag} {mg : Str → Option Value} {base : Heap}
theorem ok_may_have_table (T : Txt K mg) : FnOk P w K mg base CX0 4 T.f_may_have_table T.d_may_have_table ["letters", "states", "few", "turn"] sp_may_have_table := by
  have G_are_letters : FnOk P w K mg base CX0 2 T.f_are_letters T.d_are_letters ["thing"] sp_are_letters := ok_are_letters T
  have G_is_whole_within : FnOk P w K mg base CX0 2 T.f_is_whole_within T.d_is_whole_within ["thing", "low", "high"] sp_is_whole_within := ok_is_whole_within T
  have G_tuples_due : FnOk P w K mg base CX0 1 T.f_tuples_due T.d_tuples_due ["letters", "states", "classes"] sp_tuples_due := ok_tuples_due T
  refine T.F_may_have_table.ok sc_may_have_table (fun vs H Q E h => ?_) (fun cdv A outer s H vs Q E hr h => ?_)
  · obtain ⟨L, n, few, turn, rfl, _⟩ := h
    rfl
  obtain ⟨L, n, few, turn, rfl, hL, hR, n1, n6, f4, t1, t4, q⟩ := h
  refine ⟨_, (pss_cons (ps_if (PW.pt (pw_or (pt_not (pt_val (pe_call G_are_letters (hr.mono (by omega)) (by rfl) T.m_are_letters T.F_are_letters.kp T.b_are_letters .nil pass0 (pa_cons (pv 0) pa_nil)))) (pw_or1 (pt_not (pt_val (pe_call G_is_whole_within (hr.mono (by omega)) (by rfl) T.m_is_whole_within T.F_is_whole_within.kp T.b_is_whole_within .nil pass0 (pa_cons (pv 1) (pa_cons pe_int (pa_cons (pe_glob (v := .int (6)) rfl T.g_MOST_STATES ⟨_, rfl⟩) pa_nil))))))))) (pss_one (ps_ret pe_bl)) pss_nil) (pss_cons (ps_if (PW.pt (pw_or (pt_not (pt_val (pe_call G_is_whole_within (hr.mono (by omega)) (by rfl) T.m_is_whole_within T.F_is_whole_within.kp T.b_is_whole_within .nil pass0 (pa_cons (pv 2) (pa_cons pe_int (pa_cons (pe_glob (v := .int (4)) rfl T.g_MOST_FEW ⟨_, rfl⟩) pa_nil)))))) (pw_or1 (pt_not (pt_val (pe_call G_is_whole_within (hr.mono (by omega)) (by rfl) T.m_is_whole_within T.F_is_whole_within.kp T.b_is_whole_within .nil pass0 (pa_cons (pv 3) (pa_cons pe_int (pa_cons (pe_glob (v := .int (4)) rfl T.g_MOST_TURN ⟨_, rfl⟩) pa_nil))))))))) (pss_one (ps_ret pe_bl)) pss_nil) (pss_one (ps_ret (pe_cmpR op_le (pe_call G_tuples_due (hr.mono (by omega)) (by rfl) T.m_tuples_due T.F_tuples_due.kp T.b_tuples_due .nil pass0 (pa_cons (pv 0) (pa_cons (pv 1) (pa_cons (pe_op op_add (pv 2) (pv 3)) pa_nil)))) (pe_glob (v := .int (600)) rfl T.g_MOST_TUPLES ⟨_, rfl⟩) (nomark _)))))), ?_⟩
  refine ⟨_, rfl, L, rfl, hL, hR, fun H1 s1 => ⟨_, rfl, iteF ?_⟩⟩
  refine ⟨_, rfl, n, 1, 6, rfl, by omega, by omega, _, rfl, iteF ?_⟩
  refine ⟨_, rfl, few, 0, 4, rfl, by omega, by omega, _, rfl, iteF ?_⟩
  refine ⟨_, rfl, turn, 1, 4, rfl, by omega, by omega, _, rfl, iteF ?_⟩
  refine ⟨_, rfl, _, rfl, _, rfl, _, rfl, _, _, rfl, rfl, L, n, few + turn, rfl, hL.2.1, n6, by omega, ?_⟩
  have e : decide (((L.length * (few + turn) ^ n : Nat) : Int) ≤ 600) = decide (L.length * (few + turn) ^ n ≤ 600) := by
    by_cases h : L.length * (few + turn) ^ n ≤ 600
    · rw [decide_eq_true h, decide_eq_true (by omega)]
    · rw [decide_eq_false h, decide_eq_false (by omega)]
  have q1 := q H1 s1
  rw [← e] at q1
  exact ⟨_, _, rfl, rfl, q1⟩
end

def sp__is_key : Sp := fun vs H Q _ => ∃ (b a : Addr) (L : Str) (n k c : Nat) (row : List Nat), vs = [.ref b, .str L, nI n, nI k] ∧ H b = some (.tup [.str (ch c), .ref a]) ∧ H a = some (.tup (row.map nI)) ∧ Lets L ∧ c ∈ L.cps.toList ∧ row.length = n ∧ n ≤ 6 ∧ (∀ x ∈ row, x < k) ∧ ∀ H', Same H H' → Q (.bl true) H'
def sp__is_table (P : Program) (w : World) : Sp := fun vs H Q _ => ∃ (d : Addr) (L : Str) (n k : Nat) (xs : List NRow) (keys : List (Nat × List Nat)) (fs : Nat → List Nat → Nat), vs = [.ref d, .str L, nI n, nI k] ∧ H d = some (DictN P w d xs) ∧ RowsN H xs ∧ RowsJ xs keys fs ∧ keys.Perm (keysOf L n k) ∧ Lets L ∧ n ≤ 6 ∧ k ≤ 20 ∧ L.length * k ^ n ≤ 600 ∧ (∀ key ∈ keysOf L n k, fs key.1 key.2 < n) ∧ ∀ H', Same H H' → Q (.bl true) H'
def sp_is_judge (P : Program) (w : World) : Sp := fun vs H Q _ => ∃ (j d g : Addr) (L : Str) (n few turn : Nat) (xs : List NRow) (keys : List (Nat × List Nat)) (fs : Nat → List Nat → Nat) (good : List Nat), vs = [.ref j] ∧ H j = some (.tup [.str L, nI n, nI few, nI turn, .ref d, .ref g]) ∧ H d = some (DictN P w d xs) ∧ RowsN H xs ∧ RowsJ xs keys fs ∧ keys.Perm (keysOf L n (few + turn)) ∧ Lets L ∧ Rises L ∧ 1 ≤ n ∧ n ≤ 6 ∧ few ≤ 4 ∧ 1 ≤ turn ∧ turn ≤ 4 ∧ L.length * (few + turn) ^ n ≤ 600 ∧
  (∀ key ∈ keysOf L n (few + turn), fs key.1 key.2 < n) ∧ H g = some (.lst (good.map nI)) ∧ good.Pairwise (· < ·) ∧ good.length ≤ 100 ∧ (∀ x ∈ good, x < n) ∧ ∀ H', Same H H' → Q (.bl true) H'
section
variable {P : Program} {w : World} {K : PySem.W.Frag} {mg : Str → Option Value} {base : Heap}
theorem ok__is_key (T : Txt K mg) : FnOk P w K mg base CX0 3 T.f__is_key T.d__is_key ["thing", "letters", "states", "classes"] sp__is_key := by
  have G_is_letter : FnOk P w K mg base CX0 1 T.f_is_letter T.d_is_letter ["thing"] sp_is_letter := ok_is_letter T
  have G_is_whole_within : FnOk P w K mg base CX0 2 T.f_is_whole_within T.d_is_whole_within ["thing", "low", "high"] sp_is_whole_within := ok_is_whole_within T
  refine T.F__is_key.ok sc__is_key (fun vs H Q E h => ?_) (fun cdv A outer s H vs Q E hr h => ?_)
  · obtain ⟨b, a, L, n, k, c, row, rfl, _⟩ := h
    rfl
  obtain ⟨b, a, L, n, k, c, row, rfl, hb, ha, hL, hc, hl, h6, hk, q⟩ := h
  refine ⟨_, (pss_cons (ps_if (PW.pt (pw_or (pt_not (pt_val (pe_callB call_isi (by rfl) T.z_isinstance (by decide +kernel) (pa_cons (pv 0) (pa_cons (pe_bltn (v := .ty "tuple") (by rfl) T.z_tuple (by decide +kernel) rfl) pa_nil))))) (pw_or1 (pt_cmpR op_ne (pe_callB call_len_seq (by rfl) T.z_len PySem.boot_len (pa_cons (pv 0) pa_nil)) pe_int (nomark _))))) (pss_one (ps_ret pe_bl)) pss_nil) (pss_cons (ps_asg (pv 0) (pg_tup rfl (pgs_cons (pg_name (i := 4) sc__is_key.nd rfl (Or.inl rfl)) (pgs_cons (pg_name (i := 5) sc__is_key.nd rfl (Or.inl rfl)) pgs_nil)))) (pss_cons (ps_if (PW.pt (pw_or (pt_not (pt_val (pe_call G_is_letter (hr.mono (by omega)) (by rfl) T.m_is_letter T.F_is_letter.kp T.b_is_letter .nil pass0 (pa_cons (pv 4) pa_nil)))) (pw_or1 (pt_cmpR op_notInS (pv 4) (pv 1) (by rfl))))) (pss_one (ps_ret pe_bl)) pss_nil) (pss_cons (ps_if (PW.pt (pw_or (pt_not (pt_val (pe_callB call_isi (by rfl) T.z_isinstance (by decide +kernel) (pa_cons (pv 5) (pa_cons (pe_bltn (v := .ty "tuple") (by rfl) T.z_tuple (by decide +kernel) rfl) pa_nil))))) (pw_or1 (pt_cmpR op_ne (pe_callB call_len_seq (by rfl) T.z_len PySem.boot_len (pa_cons (pv 5) pa_nil)) (pv 2) (nomark _))))) (pss_one (ps_ret pe_bl)) pss_nil) (pss_one (ps_ret (pe_callB (cr_all rfl) (by rfl) T.z_all (by decide +kernel) (pa_cons (pe_lc (own := [("number", 6)]) (g := gName 6) (tt := tYes) rfl sc__is_key.nd (pi_tup (pv 5)) (blkOk_by (own := [("number", 6)]) (N := ["thing", "letters", "states", "classes", "letter", "row", "number"]) (sc := (defScope s__is_key)) (by decide +kernel)) (fun _ _ _ _ _ => (pg_name (i := 6) sc__is_key.nd rfl (Or.inl rfl))) (fun _ _ _ _ _ => pts_nil) (fun _ _ _ _ _ => (pe_call G_is_whole_within (hr.mono (by omega)) (by rfl) T.m_is_whole_within T.F_is_whole_within.kp T.b_is_whole_within .nil pass0 (pa_cons (pv 6) (pa_cons pe_int (pa_cons (pe_op op_sub (pv 3) pe_int) pa_nil)))))) pa_nil)))))))), ?_⟩
  have hm := hL.2.2 c hc
  refine ⟨_, rfl, _, _, _, _, true, rfl, .ty "tuple", .base (.tup hb), kit_ty (by decide +kernel), _, rfl, iteF ?_⟩
  refine ⟨_, rfl, b, _, rfl, .inr (SqT.of hb), rfl, _, rfl, neS rfl ?_⟩
  refine ⟨_, rfl, b, _, rfl, SqT.of hb, rfl, _, _, rfl, _, _, rfl, rfl, ?_⟩
  refine ⟨_, rfl, c, rfl, hm.1, hm.2, _, rfl, iteF ?_⟩
  refine ⟨_, rfl, _, rfl, c, L, rfl, rfl, _, rfl, ?_⟩
  rw [decide_eq_true hc]
  refine iteF ?_
  refine ⟨_, rfl, _, _, _, _, true, rfl, .ty "tuple", .base (.tup ha), kit_ty (by decide +kernel), _, rfl, iteF ?_⟩
  refine ⟨_, rfl, a, _, rfl, .inr (SqT.of ha), _, rfl, rfl, _, rfl, neS (by rw [List.length_map, hl]) ?_⟩
  refine ⟨_, rfl, a, rfl, ⟨_, SqT.of ha⟩, fun D hD => ?_⟩
  refine lc_tup (xs := row.map nI) (fun i H2 => H2 D = some (.lst ((List.replicate i true).map V.bl)) ∧ Same H H2) ⟨upd_same, same_new hD⟩ (fun i H2 _ ⟨_, s⟩ => SqT.of (s _ _ ha)) ?_ ?_
  · rintro i x H2 hx ⟨g1, g2⟩
    rw [List.getElem?_map] at hx
    cases hz : row[i]? with
    | none => rw [hz] at hx; cases hx
    | some z =>
    rw [hz] at hx
    cases hx
    have hk1 := hk z (List.mem_of_getElem? hz)
    have hi := (List.getElem?_eq_some_iff.mp hz).1
    refine ⟨rfl, _, rfl, _, rfl, _, _, rfl, rfl, z, 0, k - 1, rfl, by omega, by omega, _, g1, ?_, ?_, same_add g2 hD⟩
    · rw [List.length_map, List.length_replicate]
      exact Nat.lt_of_le_of_lt (show _ ≤ 1000000 by omega) (by decide)
    · rw [upd_same, rep_succ, List.map_append]
      rfl
  · rintro H2 ⟨g1, g2⟩
    refine ⟨D, _, rfl, SqL.of g1, ?_⟩
    rw [all_rep]
    exact q H2 g2
theorem ok__is_table (T : Txt K mg) : FnOk P w K mg base CX0 4 T.f__is_table T.d__is_table ["thing", "letters", "states", "classes"] (sp__is_table P w) := by
  have G_tuples_due : FnOk P w K mg base CX0 1 T.f_tuples_due T.d_tuples_due ["letters", "states", "classes"] sp_tuples_due := ok_tuples_due T
  have G__is_key : FnOk P w K mg base CX0 3 T.f__is_key T.d__is_key ["thing", "letters", "states", "classes"] sp__is_key := ok__is_key T
  have G_is_whole_within : FnOk P w K mg base CX0 2 T.f_is_whole_within T.d_is_whole_within ["thing", "low", "high"] sp_is_whole_within := ok_is_whole_within T
  refine T.F__is_table.ok sc__is_table (fun vs H Q E h => ?_) (fun cdv A outer s H vs Q E hr h => ?_)
  · obtain ⟨d, L, n, k, xs, keys, fs, rfl, _⟩ := h
    rfl
  obtain ⟨d, L, n, k, xs, keys, fs, rfl, hd, hrn, hrj, hper, hL, h6, k20, h600, hfs, q⟩ := h
  refine ⟨_, (pss_cons (ps_if (PW.pt (pw_or (pt_not (pt_val (pe_callB call_isN (by rfl) T.z_isinstance (by decide +kernel) (pa_cons (pv 0) (pa_cons (pe_bltn (v := .ty "dict") (by rfl) T.z_dict (by decide +kernel) rfl) pa_nil))))) (pw_or1 (pt_cmpR op_ne (pe_callB call_lenN (by rfl) T.z_len PySem.boot_len (pa_cons (pv 0) pa_nil)) (pe_call G_tuples_due (hr.mono (by omega)) (by rfl) T.m_tuples_due T.F_tuples_due.kp T.b_tuples_due .nil pass0 (pa_cons (pv 1) (pa_cons (pv 2) (pa_cons (pv 3) pa_nil)))) (nomark _))))) (pss_one (ps_ret pe_bl)) pss_nil) (pss_cons (ps_lock (ps_for PassesOwn.never rfl (pi_itemsN (pv 0)) (pg_tup rfl (pgs_cons (pg_name (i := 4) sc__is_table.nd rfl (Or.inl rfl)) (pgs_cons (pg_name (i := 5) sc__is_table.nd rfl (Or.inl rfl)) pgs_nil))) (pss_one (ps_if (PW.pt (pw_or (pt_not (pt_val (pe_call G__is_key (hr.mono (by omega)) (by rfl) T.m__is_key T.F__is_key.kp T.b__is_key .nil pass0 (pa_cons (pv 4) (pa_cons (pv 1) (pa_cons (pv 2) (pa_cons (pv 3) pa_nil))))))) (pw_or1 (pt_not (pt_val (pe_call G_is_whole_within (hr.mono (by omega)) (by rfl) T.m_is_whole_within T.F_is_whole_within.kp T.b_is_whole_within .nil pass0 (pa_cons (pv 5) (pa_cons pe_int (pa_cons (pe_op op_sub (pv 2) pe_int) pa_nil))))))))) (pss_one (ps_ret pe_bl)) pss_nil)))) (pss_one (ps_ret pe_bl)))), ?_⟩
  have lk : xs.length = L.length * k ^ n := by rw [Paired.length hrj, hper.length_eq, keysOf_len]
  refine ⟨_, rfl, d, xs, _, _, true, rfl, hd, .ty "dict", kit_ty (by decide +kernel), _, rfl, iteF ?_⟩
  refine ⟨_, rfl, d, xs, rfl, hd, hrn, _, rfl, _, rfl, _, rfl, L, n, k, rfl, hL.2.1, h6, k20, rfl, _, rfl, neS (by rw [lk]) ?_⟩
  refine ⟨d, _, hd, trivial, fun od => ?_⟩
  refine ⟨_, rfl, d, od, xs, rfl, upd_same, ?_⟩
  have base0 : FrD d H (upd H d (.frz od (DictN P w d xs))) := fun b o ne e => by rw [upd_ne ne]; exact e
  refine for_it walk_itemsN (fun i σ H' => (∃ y5 y6, σ = [some (.ref d), some (.str L), some (nI n), some (nI k), y5, y6]) ∧ H' d = some (.frz od (DictN P w d xs)) ∧ FrD d H H') ⟨⟨_, _, rfl⟩, upd_same, base0⟩ (fun i σ H' _ h => h.2.1) ?_ ?_
  · rintro i x σ H2 H3 hi ⟨⟨y5, y6, rfl⟩, g1, g2⟩ ⟨p, row, hrow, rfl, hp, rfl⟩
    obtain ⟨⟨c, rw0⟩, hkey, e1, e2⟩ := prd_at hrj hrow
    have hm := hper.mem_iff.mp (List.mem_of_getElem? hkey)
    obtain ⟨hc, hlen, hkk⟩ := keysOf_mem hm
    have hv : fs c rw0 < n := hfs _ hm
    obtain ⟨hn1, _⟩ := hrn row (List.mem_of_getElem? hrow)
    rw [e1] at hn1
    obtain ⟨a, kb, ka⟩ := nk_inv hn1
    have ntup : ∀ (q : Addr) (ys : List V), H q = some (.tup ys) → q ≠ d := fun q ys e z => by rw [z, hd] at e; unfold DictN at e; cases e
    have sp := same_new (o := .tup [.ref row.2.1, row.2.2]) hp
    have kp := upd_same (H := H2) (a := p) (o := .tup [.ref row.2.1, row.2.2])
    have g1' := sp _ _ g1
    generalize upd H2 p (.tup [.ref row.2.1, row.2.2]) = H4 at *
    rw [e2] at kp
    refine ⟨p, _, rfl, SqT.of kp, rfl, _, _, rfl, _, _, rfl, rfl, ?_⟩
    have G4 : FrD d H H4 := fun b o ne e => sp _ _ (g2 b o ne e)
    refine ⟨_, rfl, _, rfl, _, rfl, _, rfl, row.2.1, a, L, n, k, c, rw0, rfl, G4 _ _ (ntup _ _ kb) kb, G4 _ _ (ntup _ _ ka) ka, hL, hc, hlen, h6, hkk, fun H5 s5 => ⟨_, rfl, iteF ?_⟩⟩
    refine ⟨_, rfl, _, rfl, _, _, rfl, rfl, fs c rw0, 0, n - 1, rfl, by omega, by omega, _, rfl, iteF ?_⟩
    exact ⟨⟨_, _, rfl⟩, s5 _ _ g1', fun b o ne e => s5 _ _ (G4 b o ne e)⟩
  · rintro σ H2 ⟨⟨y5, y6, rfl⟩, g1, g2⟩
    refine ⟨g1, q _ fun b o e => ?_⟩
    by_cases hb : b = d
    · rw [hb, upd_same, ← e, hb]; exact hd.symm
    · rw [upd_ne hb]; exact g2 b o hb e
theorem ok_is_judge (T : Txt K mg) : FnOk P w K mg base CX0 5 T.f_is_judge T.d_is_judge ["thing"] (sp_is_judge P w) := by
  have G_may_have_table : FnOk P w K mg base CX0 4 T.f_may_have_table T.d_may_have_table ["letters", "states", "few", "turn"] sp_may_have_table := ok_may_have_table T
  have G__is_table : FnOk P w K mg base CX0 4 T.f__is_table T.d__is_table ["thing", "letters", "states", "classes"] (sp__is_table P w) := ok__is_table T
  have G_are_rising_states : FnOk P w K mg base CX0 3 T.f_are_rising_states T.d_are_rising_states ["thing", "states"] sp_are_rising_states := ok_are_rising_states T
  refine T.F_is_judge.ok sc_is_judge (fun vs H Q E h => ?_) (fun cdv A outer s H vs Q E hr h => ?_)
  · obtain ⟨j, d, g, L, n, few, turn, xs, keys, fs, good, rfl, _⟩ := h
    rfl
  obtain ⟨j, d, g, L, n, few, turn, xs, keys, fs, good, rfl, hj, hd, hrn, hrj, hper, hL, hR, n1, n6, f4, t1, t4, h600, hfs, hg, hup, h100, hgn, q⟩ := h
  refine ⟨_, (pss_cons (ps_if (PW.pt (pw_or (pt_not (pt_val (pe_callB call_isi (by rfl) T.z_isinstance (by decide +kernel) (pa_cons (pv 0) (pa_cons (pe_bltn (v := .ty "tuple") (by rfl) T.z_tuple (by decide +kernel) rfl) pa_nil))))) (pw_or1 (pt_cmpR op_ne (pe_callB call_len_seq (by rfl) T.z_len PySem.boot_len (pa_cons (pv 0) pa_nil)) pe_int (nomark _))))) (pss_one (ps_ret pe_bl)) pss_nil) (pss_cons (ps_asg (pv 0) (pg_tup rfl (pgs_cons (pg_name (i := 1) sc_is_judge.nd rfl (Or.inl rfl)) (pgs_cons (pg_name (i := 2) sc_is_judge.nd rfl (Or.inl rfl)) (pgs_cons (pg_name (i := 3) sc_is_judge.nd rfl (Or.inl rfl)) (pgs_cons (pg_name (i := 4) sc_is_judge.nd rfl (Or.inl rfl)) (pgs_cons (pg_name (i := 5) sc_is_judge.nd rfl (Or.inl rfl)) (pgs_cons (pg_name (i := 6) sc_is_judge.nd rfl (Or.inl rfl)) pgs_nil)))))))) (pss_cons (ps_if (pt_not (pt_val (pe_call G_may_have_table (hr.mono (by omega)) (by rfl) T.m_may_have_table T.F_may_have_table.kp T.b_may_have_table .nil pass0 (pa_cons (pv 1) (pa_cons (pv 2) (pa_cons (pv 3) (pa_cons (pv 4) pa_nil))))))) (pss_one (ps_ret pe_bl)) pss_nil) (pss_one (ps_ret (pe_and (pe_call G__is_table (hr.mono (by omega)) (by rfl) T.m__is_table T.F__is_table.kp T.b__is_table .nil pass0 (pa_cons (pv 5) (pa_cons (pv 1) (pa_cons (pv 2) (pa_cons (pe_op op_add (pv 3) (pv 4)) pa_nil))))) (pe_one (pe_call G_are_rising_states (hr.mono (by omega)) (by rfl) T.m_are_rising_states T.F_are_rising_states.kp T.b_are_rising_states .nil pass0 (pa_cons (pv 6) (pa_cons (pv 2) pa_nil)))))))))), ?_⟩
  refine ⟨_, rfl, _, _, _, _, true, rfl, .ty "tuple", .base (.tup hj), kit_ty (by decide +kernel), _, rfl, iteF ?_⟩
  refine ⟨_, rfl, j, _, rfl, .inr (SqT.of hj), rfl, _, rfl, neS rfl ?_⟩
  refine ⟨_, rfl, j, _, rfl, SqT.of hj, rfl, _, _, rfl, _, _, rfl, _, _, rfl, _, _, rfl, _, _, rfl, _, _, rfl, rfl, ?_⟩
  refine ⟨_, rfl, _, rfl, _, rfl, _, rfl, L, n, few, turn, rfl, hL, hR, n1, n6, f4, t1, t4, fun H1 s1 => ?_⟩
  rw [decide_eq_true h600]
  refine ⟨_, rfl, iteF ?_⟩
  refine ⟨_, rfl, _, rfl, _, rfl, _, rfl, _, rfl, _, _, rfl, rfl, d, L, n, few + turn, xs, keys, fs, rfl, s1 _ _ hd, hrn.keep fun b ys e => s1 _ _ e, hrj, hper, hL, n6, by omega, h600, hfs, fun H2 s2 => ⟨_, rfl, iteT ?_⟩⟩
  have s12 := s1.trans s2
  exact ⟨_, rfl, _, rfl, g, good, n, rfl, s12 _ _ hg, hup, h100, hgn, fun H3 s3 => q H3 (s12.trans s3)⟩
end

theorem tabsN_frP {TT : List NdefX.NTab} {H H' : Hp} {P : Addr} {q : Str} (h : NdefX.TabsN TT H) (hm : (P, fun _ _ => q) ∈ TT) (hu : ∀ z ∈ TT, z.1 = P → z.2 = fun _ _ => q) (f : Fr P H H') (t : LamX.TabS H' P q) : NdefX.TabsN TT H' := fun z hz => by
  by_cases e : z.1 = P
  · rw [hu z hz e, e]
    exact NdefX.TabN.of t
  · obtain ⟨ps, h1, h2, h3⟩ := h z hz
    refine ⟨ps, f _ _ e h1, h2, fun pos cv hc => ?_⟩
    obtain ⟨c, e1, h4⟩ := h3 pos cv hc
    obtain ⟨ps0, g1, _⟩ := h _ hm
    exact ⟨c, e1, f _ _ (fun e2 => by rw [e2, g1] at h4; unfold LamX.CodeO at h4; cases h4) h4⟩
theorem extN_of_frP {H H' : Hp} {P : Addr} {TT : List NdefX.NTab} {q : Str} (h : NdefX.TabsN TT H) (hm : (P, fun _ _ => q) ∈ TT) (f : Fr P H H') : LamX.ExtN H H' := fun b o e n => f b o (fun e2 => by
  obtain ⟨ps0, g1, _⟩ := h _ hm
  rw [e2, g1] at e
  cases e
  exact n _ rfl) e
theorem lent_extN {cs : Lent} {H H' : Hp} (f : LamX.ExtN (lend H cs) H') : LentAt cs H' := fun c o e => f c _ (lend_in e) (fun ps z => by unfold CellO at z; cases z)
theorem same_lend {cs : Lent} {H H2 : Hp} (l : LentAt cs H) (s : Same (unl H cs) H2) : Same H (lend H2 cs) := fun b o e => by
  cases hb : cs.lookup b with
  | some ob => rw [lend_in hb, ← l b ob hb]; exact e
  | none => rw [lend_out hb]; exact s b o (by rw [unl_out hb]; exact e)
theorem extN_unl {cs : Lent} {H H' : Hp} (hn : Fresh cs H) (f : LamX.ExtN (lend H cs) H') : LamX.ExtN H (unl H' cs) := fun b o e n => by
  rw [unl_out (hn.out e)]
  exact f b o (lend_some hn e) n
theorem tabsN_unl {cs : Lent} {TT : List NdefX.NTab} {H H' : Hp} (hn : Fresh cs H) (h : NdefX.TabsN TT H') (l : LentAt cs H') (hcel : Cells cs) : NdefX.TabsN TT (unl H' cs) := fun z hz => by
  obtain ⟨ps, h1, h2, h3⟩ := h z hz
  refine ⟨ps, unl_keep l h1 (fun _ e => by cases e), h2, fun pos cv hc => ?_⟩
  obtain ⟨c, e, h4⟩ := h3 pos cv hc
  refine ⟨c, e, ?_⟩
  cases hb : cs.lookup c with
  | none => rw [unl_out hb]; exact h4
  | some ob =>
    obtain ⟨v, hv⟩ := hcel _ _ hb
    rw [l c ob hb] at h4
    exact absurd (Option.some.inj h4).symm (codeO_cell hv)

def clsN (few turn x : Nat) : Nat := if x < few + turn then x else few + (x - few) % turn
theorem clsN_lt {few turn : Nat} (h : 1 ≤ turn) (x : Nat) : clsN few turn x < few + turn := by
  unfold clsN
  split
  · assumption
  · have := Nat.mod_lt (x - few) (show turn > 0 by omega)
    omega
theorem clsN_low {few turn x : Nat} (h : x < few + turn) : clsN few turn x = x := by
  unfold clsN
  rw [if_pos h]
theorem clsN_few {few turn x : Nat} (h : few ≤ x) : few ≤ clsN few turn x := by
  unfold clsN
  split <;> omega
theorem clsN_dvd {few turn m : Nat} (hm : m ∣ turn) (x : Nat) : ((clsN few turn x : Nat) : Int) % (m : Int) = ((x : Nat) : Int) % (m : Int) := by
  unfold clsN
  split
  · rfl
  · obtain ⟨q, rfl⟩ := hm
    have e := Nat.div_add_mod (x - few) (m * q)
    have e2 : x = (few + (x - few) % (m * q)) + m * (q * ((x - few) / (m * q))) := by
      rw [← Nat.mul_assoc]
      omega
    have e3 : ((x : Nat) : Int) = ((few + (x - few) % (m * q) : Nat) : Int) + (m : Int) * ((q * ((x - few) / (m * q)) : Nat) : Int) := by
      rw [← Int.natCast_mul, ← Int.natCast_add, ← e2]
    rw [e3, Int.add_mul_emod_self_left]

theorem atN_rows {c : Nat} {row : List Nat} {fs : Nat → List Nat → Nat} : ∀ {xs : List NRow} {keys : List (Nat × List Nat)}, RowsJ xs keys fs → (c, row) ∈ keys → atN xs (keyN c row) = some (nI (fs c row))
  | _, _, .nil, h => by cases h
  | x :: xs, (c', row') :: keys, .cons r t, h => by
    obtain ⟨e1, e2⟩ := r
    by_cases e : (c', row') = (c, row)
    · cases e
      simp [atN, e1, e2]
    · have hm : (c, row) ∈ keys := (List.mem_cons.mp h).resolve_left fun z => e z.symm
      have ne : ¬ x.1 = keyN c row := fun z => e (by
        obtain ⟨a, b⟩ := keyN_inj (e1.symm.trans z)
        dsimp only at a b
        rw [a, b])
      have : atN (x :: xs) (keyN c row) = atN xs (keyN c row) := by simp [atN, List.find?_cons, ne]
      rw [this]
      exact atN_rows t hm


structure JD where
  L : Str
  n : Nat
  few : Nat
  turn : Nat
  fs : Nat → List Nat → Nat
  good : List Nat
def JD.keys (J : JD) : List (Nat × List Nat) := keysOf J.L J.n (J.few + J.turn)
def JD.sf (J : JD) (c : Nat) (row : List Nat) : Nat := J.fs c (row.map (clsN J.few J.turn))
structure JD.ok (J : JD) : Prop where
  L : Lets J.L
  n1 : 1 ≤ J.n
  n6 : J.n ≤ 6
  f4 : J.few ≤ 4
  t1 : 1 ≤ J.turn
  t4 : J.turn ≤ 4
  h600 : J.L.length * (J.few + J.turn) ^ J.n ≤ 600
  lt : ∀ key ∈ J.keys, J.fs key.1 key.2 < J.n
  g6 : J.good.length ≤ 6
  gn : ∀ g ∈ J.good, g < J.n
def JAt (P : Program) (w : World) (H : Hp) (v : V) (J : JD) : Prop := ∃ (j d g : Addr) (xs : List NRow) (keys : List (Nat × List Nat)), v = .ref j ∧ H j = some (.tup [.str J.L, nI J.n, nI J.few, nI J.turn, .ref d, .ref g]) ∧ H d = some (DictN P w d xs) ∧ RowsN H xs ∧ RowsJ xs keys J.fs ∧ keys.Perm J.keys ∧ H g = some (.lst (J.good.map nI))
theorem not_tbl {P : Program} {w : World} {d : Addr} {xs : List NRow} : ∀ ps, DictN P w d xs ≠ .tbl ps := fun ps z => by unfold DictN at z; cases z
theorem JAt.extN {P : Program} {w : World} {H H' : Hp} {v : V} {J : JD} (x : JAt P w H v J) (f : LamX.ExtN H H') : JAt P w H' v J := by
  obtain ⟨j, d, g, xs, keys, rfl, h1, h2, h3, h4, h5, h6⟩ := x
  exact ⟨j, d, g, xs, keys, rfl, f _ _ h1 (fun _ z => by cases z), f _ _ h2 not_tbl, h3.keep fun b ys e => f _ _ e (fun _ z => by cases z), h4, h5, f _ _ h6 (fun _ z => by cases z)⟩
theorem JAt.same {P : Program} {w : World} {H H' : Hp} {v : V} {J : JD} (x : JAt P w H v J) (f : Same H H') : JAt P w H' v J := x.extN (.of f)
theorem rowsTo_all {k : Nat} : ∀ {n : Nat} {r : List Nat}, r.length = n → (∀ x ∈ r, x < k) → r ∈ rowsTo n k
  | 0, r, h, _ => by
    rw [List.length_eq_zero_iff] at h
    subst h
    simp [rowsTo]
  | n + 1, r, h, hx => by
    obtain ⟨a, b, rfl⟩ := concat_of (l := r) (by intro z; rw [z] at h; cases h)
    rw [List.length_append, List.length_singleton] at h
    simp only [rowsTo, List.mem_flatMap, List.mem_map, List.mem_range]
    exact ⟨a, rowsTo_all (by omega) fun x hm => hx x (List.mem_append_left _ hm), b, hx b (List.mem_append_right _ (List.mem_singleton.mpr rfl)), rfl⟩
theorem keysOf_all {L : Str} {n k c : Nat} {row : List Nat} (hc : c ∈ L.cps.toList) (hl : row.length = n) (hx : ∀ x ∈ row, x < k) : (c, row) ∈ keysOf L n k :=
  List.mem_flatMap.mpr ⟨c, hc, List.mem_map.mpr ⟨row, rowsTo_all hl hx, rfl⟩⟩
theorem JD.ok.key {J : JD} (h : J.ok) {c : Nat} {row : List Nat} (hc : c ∈ J.L.cps.toList) (hl : row.length = J.n) : (c, row.map (clsN J.few J.turn)) ∈ J.keys :=
  keysOf_all hc (by rw [List.length_map, hl]) fun x hx => by
    obtain ⟨y, _, rfl⟩ := List.mem_map.mp hx
    exact clsN_lt h.t1 y
theorem JD.ok.sf_lt {J : JD} (h : J.ok) {c : Nat} {row : List Nat} (hc : c ∈ J.L.cps.toList) (hl : row.length = J.n) : J.sf c row < J.n := h.lt _ (h.key hc hl)
def NewN (H : Hp) (r : Addr) : Prop := ∀ o, H r = some o → ∃ ps, o = .tbl ps
def sp_class_of : Sp := fun vs H Q _ => ∃ x few turn : Nat, vs = [nI x, nI few, nI turn] ∧ 1 ≤ turn ∧ Q (nI (clsN few turn x)) H
def sp_state_by_numbers (P : Program) (w : World) : Sp := fun vs H Q _ => ∃ (v : V) (J : JD) (c : Nat) (b : Addr) (row : List Nat), vs = [v, .str (ch c), .ref b] ∧ JAt P w H v J ∧ J.ok ∧ c ∈ J.L.cps.toList ∧ row.length = J.n ∧ H b = some (.lst (row.map nI)) ∧ ∀ H', Same H H' → Q (nI (J.sf c row)) H'
def sp_part_states (P : Program) (w : World) (TT : List NdefX.NTab) : Sp := fun vs H Q _ => ∃ (v u : V) (J : JD) (t : Tr), vs = [v, u] ∧ JAt P w H v J ∧ J.ok ∧ TrAt (fun _ => True) H u t ∧ t.size ≤ 1000000 ∧ t.lets (fun c => c ∈ J.L.cps.toList) ∧ NdefX.TabsN TT H ∧
  ∀ r H', LamX.ExtN H H' → NdefX.TabsN TT H' → NewN H r → H' r = some (.lst ((t.post.map (St J.sf J.n)).map nI)) → Q (.ref r) H'
def sp_state_of (P : Program) (w : World) (TT : List NdefX.NTab) : Sp := fun vs H Q _ => ∃ (v u : V) (J : JD) (t : Tr), vs = [v, u] ∧ JAt P w H v J ∧ J.ok ∧ TrAt (fun _ => True) H u t ∧ t.size ≤ 1000000 ∧ t.lets (fun c => c ∈ J.L.cps.toList) ∧ NdefX.TabsN TT H ∧
  ∀ H', LamX.ExtN H H' → NdefX.TabsN TT H' → Q (nI (St J.sf J.n t)) H'
def sp_lets_by (P : Program) (w : World) (TT : List NdefX.NTab) : Sp := fun vs H Q _ => ∃ (v u : V) (J : JD) (t : Tr), vs = [v, u] ∧ JAt P w H v J ∧ J.ok ∧ TrAt (fun _ => True) H u t ∧ t.size ≤ 1000000 ∧ t.lets (fun c => c ∈ J.L.cps.toList) ∧ NdefX.TabsN TT H ∧
  ∀ H', LamX.ExtN H H' → NdefX.TabsN TT H' → Q (.bl (decide (St J.sf J.n t ∈ J.good))) H'
structure TTp {K : PySem.W.Frag} {mg : Str → Option Value} (T : Txt K mg) (TT : List NdefX.NTab) : Prop where
  s1 : (T.P_states_upward, fun _ _ => q_states_upward) ∈ TT
  s2 : ∀ z ∈ TT, z.1 = T.P_states_upward → z.2 = fun _ _ => q_states_upward
  r1 : (T.P_part_states, fun _ _ => q_part_states) ∈ TT
  r2 : ∀ z ∈ TT, z.1 = T.P_part_states → z.2 = fun _ _ => q_part_states
section
variable {P : Program} {w : World} {K : PySem.W.Frag} {mg : Str → Option Value} {base : Heap}
theorem ok_class_of (T : Txt K mg) : FnOk P w K mg base CX0 1 T.f_class_of T.d_class_of ["number", "few", "turn"] sp_class_of := by
  refine T.F_class_of.ok sc_class_of (fun vs H Q E h => ?_) (fun cdv A outer s H vs Q E hr h => ?_)
  · obtain ⟨x, few, turn, rfl, _⟩ := h
    rfl
  obtain ⟨x, few, turn, rfl, ht, q⟩ := h
  refine ⟨_, (pss_cons (ps_if (pt_cmpR op_lt (pv 0) (pe_op op_add (pv 1) (pv 2)) (nomark _)) (pss_one (ps_ret (pv 0))) pss_nil) (pss_one (ps_ret (pe_op op_add (pv 1) (pe_op op_mod (pe_op op_sub (pv 0) (pv 1)) (pv 2)))))), ?_⟩
  refine ⟨_, rfl, _, rfl, _, rfl, _, _, rfl, rfl, _, _, rfl, rfl, _, rfl, ?_⟩
  by_cases hx : x < few + turn
  · rw [clsN_low hx] at q
    exact dT (by omega) ⟨_, rfl, q⟩
  · refine dF (by omega) ⟨_, rfl, _, rfl, _, rfl, _, _, rfl, rfl, _, rfl, _, _, rfl, rfl, by omega, _, _, rfl, rfl, ?_⟩
    have e : (few : Int) + ((x : Int) - (few : Int)) % (turn : Int) = ((clsN few turn x : Nat) : Int) := by
      unfold clsN
      rw [if_neg hx]
      have : ((x : Int) - (few : Int)) = ((x - few : Nat) : Int) := by omega
      rw [this]
      push_cast
      rfl
    show Q (V.int ((few : Int) + ((x : Int) - (few : Int)) % (turn : Int))) H
    rw [e]
    exact q
theorem ok_state_by_numbers (T : Txt K mg) : FnOk P w K mg base CX0 2 T.f_state_by_numbers T.d_state_by_numbers ["judge", "letter", "numbers"] (sp_state_by_numbers P w) := by
  have G_class_of : FnOk P w K mg base CX0 1 T.f_class_of T.d_class_of ["number", "few", "turn"] sp_class_of := ok_class_of T
  refine T.F_state_by_numbers.ok sc_state_by_numbers (fun vs H Q E h => ?_) (fun cdv A outer s H vs Q E hr h => ?_)
  · obtain ⟨v, J, c, b, row, rfl, _⟩ := h
    rfl
  obtain ⟨v, J, c, b, row, rfl, hJ, hok, hc, hl, hb, q⟩ := h
  refine ⟨_, (pss_cons (ps_setLc (i := 3) (own := [("number", 4)]) (g := gName 4) (te := tCall sp_class_of [] E0 (tCons (tVar 4) (tCons (tOp (rIxT K) (tVar 0) (tC (.int 2))) (tCons (tOp (rIxT K) (tVar 0) (tC (.int 3))) tNil)))) (tt := tYes) rfl sc_state_by_numbers.nd rfl rfl (sw_true rfl rfl rfl (by decide +kernel)) (pi_list (pv 2)) (blkOk_by (own := [("number", 4)]) (N := ["judge", "letter", "numbers", "row", "number"]) (sc := (defScope s_state_by_numbers)) (by decide +kernel)) (fun _ _ _ _ _ => (pg_name (i := 4) sc_state_by_numbers.nd rfl (Or.inl rfl))) (fun _ _ _ _ _ => pts_nil) (fun _ _ _ _ _ => (pe_call G_class_of (hr.mono (by omega)) (by rfl) T.m_class_of T.F_class_of.kp T.b_class_of .nil pass0 (pa_cons (pv 4) (pa_cons (pe_ix ix_tup (pv 0) pe_int (fun _ _ => rfl)) (pa_cons (pe_ix ix_tup (pv 0) pe_int (fun _ _ => rfl)) pa_nil)))))) (pss_one (ps_ret (pe_dgetN (roomN hr) (pe_ix ix_tup (pv 0) pe_int (fun _ _ => rfl)) (pe_tup (pa_cons (pv 1) (pa_cons (pe_callTy call_tuple_of (by rfl) T.z_tuple (by decide +kernel) (pa_cons (pv 3) pa_nil)) pa_nil))) (fun _ _ => rfl))))), ?_⟩
  have hkey := hok.key hc hl
  have l6 : row.length ≤ 6 := by rw [hl]; exact hok.n6
  obtain ⟨j, d, g, xs, keys, rfl, hj, hd, hrn, hrj, hper, hg⟩ := hJ
  have hat := atN_rows hrj (hper.mem_iff.mpr hkey)
  refine ⟨_, rfl, b, rfl, ⟨_, SqL.of hb⟩, fun D hD => ?_⟩
  refine lc_list (xs := row.map nI) (fun i H2 => H2 D = some (.lst (((row.take i).map (clsN J.few J.turn)).map nI)) ∧ Same H H2) ⟨upd_same, same_new hD⟩ (fun i H2 _ ⟨_, s⟩ => SqL.of (s _ _ hb)) ?_ ?_
  · rintro i x H2 hx ⟨g1, g2⟩
    rw [List.getElem?_map] at hx
    cases hz : row[i]? with
    | none => rw [hz] at hx; cases hx
    | some z =>
    rw [hz] at hx
    cases hx
    refine ⟨rfl, _, rfl, _, rfl, j, _, 2, _, rfl, rfl, SqT.of (g2 _ _ hj), atI_nat (j := 2) rfl, _, rfl, j, _, 3, _, rfl, rfl, SqT.of (g2 _ _ hj), atI_nat (j := 3) rfl, z, J.few, J.turn, rfl, hok.t1, _, g1, ?_, ?_, same_add g2 hD⟩
    · rw [List.length_map, List.length_map, List.length_take]
      exact Nat.lt_of_le_of_lt (show _ ≤ 1000000 by omega) (by decide)
    · rw [upd_same, take_succ_of hz, List.map_append, List.map_append]
      rfl
  · rintro H2 ⟨g1, g2⟩
    rw [List.length_map, List.take_length] at g1
    refine ⟨_, rfl, j, _, 4, .ref d, rfl, rfl, SqT.of (g2 _ _ hj), atI_nat (j := 4) rfl, _, rfl, _, rfl, D, _, rfl, .inl ⟨SqL.of g1, fun t ht => ?_⟩⟩
    have s3 := same_new ht (o := .tup ((row.map (clsN J.few J.turn)).map nI))
    have k3 := upd_same (H := H2) (a := t) (o := .tup ((row.map (clsN J.few J.turn)).map nI))
    generalize upd H2 t (.tup ((row.map (clsN J.few J.turn)).map nI)) = H3 at *
    refine ⟨(by show 2 ≤ sizeLine; decide), fun b2 hb2 => ?_⟩
    have s4 := same_new hb2 (o := .tup [.str (ch c), .ref t])
    have k4 := upd_same (H := H3) (a := b2) (o := .tup [.str (ch c), .ref t])
    generalize upd H3 b2 (.tup [.str (ch c), .ref t]) = H4 at *
    have S := (g2.trans s3).trans s4
    exact ⟨d, b2, xs, keyN c (row.map (clsN J.few J.turn)), _, rfl, rfl, S _ _ hd, hrn.keep fun b ys e => S _ _ e, nk_key k4 (s4 _ _ k3), keyN_depth _ _, hat, q H4 S⟩
def sp_judge_lam (P : Program) (w : World) (J : JD) (v : V) : Sp := fun vs H Q _ => ∃ (c : Nat) (b : Addr) (cs : List Nat), vs = [.str (ch c), .ref b] ∧ c ∈ J.L.cps.toList ∧ cs.length = J.n ∧ H b = some (.lst (cs.map nI)) ∧ JAt P w H v J ∧ ∀ H', Same H H' → Q (nI (J.sf c cs)) H'
theorem ok_part_states (T : Txt K mg) (B : Tbs T base) {TT : List NdefX.NTab} (hTT : TTp T TT) : FnOk P w K mg base CX0 15 T.f_part_states T.d_part_states ["judge", "tree"] (sp_part_states P w TT) := by
  have G_states_upward : FnOk P w K mg base CX0 14 T.f_states_upward T.d_states_upward ["tree", "letters", "states", "state_at"] (sp_states_upward P w K mg base TT) := ok_states_upward T B TT hTT.s1 hTT.s2
  refine okC T.F_part_states T.h_part_states sc_part_states (fun vs H Q E h => ?_) (fun A outer s H vs Q E hr h => ?_)
  · obtain ⟨v, u, J, t, rfl, _⟩ := h
    rfl
  obtain ⟨v, u, J, t, rfl, hJ, hok, ht, hz, hL, hT, q⟩ := h
  refine ⟨_, (pss_one (ps_ret (pe_callLd G_states_upward (hr.mono (by omega)) (by rfl) T.m_states_upward T.F_states_upward.kp T.b_states_upward (fun _ => rfl) (pa_cons (pv 1) (pa_cons (pe_ix ix_tup (pv 0) pe_int (fun _ _ => rfl)) (pa_cons (pe_ix ix_tup (pv 0) pe_int (fun _ _ => rfl)) (pa_cons (pe_lamXc B.tb_part_states rfl (by rfl) (fr := ["judge"]) (by show NdefX.ndefB (defScope s_part_states) _ _ = true; decide +kernel)) pa_nil))))))), ?_⟩
  have hJ0 := hJ
  obtain ⟨j, d, g, xs, keys, rfl, hj, hd, hrn, hrj, hper, hg⟩ := hJ0
  refine ⟨_, rfl, _, rfl, j, _, 0, _, rfl, rfl, SqT.of hj, atI_nat (j := 0) rfl, _, rfl, j, _, 1, _, rfl, rfl, SqT.of hj, atI_nat (j := 1) rfl, NdefX.TabN.to (hT _ hTT.r1), fun f c H1 f1 n1 T1 hf0 hf hc cs hcs => ?_⟩
  have hnew := hcs.new
  have E1 : LamX.ExtN H H1 := extN_of_frP hT hTT.r1 f1
  have TN1 : NdefX.TabsN TT H1 := tabsN_frP hT hTT.r1 hTT.r2 f1 T1
  have hJ1 := hJ.extN E1
  refine ⟨u, t, J.L, J.n, f, J.sf, rfl, (ht.extN1 E1).same (lend_same hnew), hz, hL, Nat.le_trans hok.n6 (by decide), TN1.ext (fun b o e => lend_some hnew e), ?_, fun r H2 e2 T2 hr0 hr2 => ⟨lent_extN e2, ?_⟩⟩
  · refine CalX.imp2 (k := 9 + 1) (calX_lamC (k := 9) (N := ["letter", "numbers", "judge"]) (ps := ["letter", "numbers"]) (f := f) (F := _) (sp := sp_judge_lam P w J (.ref j)) (NdefX.nscope_by (by dsimp only; decide +kernel)) (hcs.got _ ["judge"] [0] (by show NdefX.ndefB (defScope s_part_states) _ _ = true; decide +kernel) rfl) hcs.cel (fun pm ctv us hl => match us, hl with | [_, _], _ => rfl) (fun vs H Q E h => ?_) (fun A outer s H vs Q E hr h => ?_)) (Nat.le_refl _) (fun vs H Q E h => ?_) (fun H' e => ⟨e _ _ (lend_some hnew hf) (fun ps z => by unfold LamO at z; cases z), e _ _ (lend_some hnew hc) (fun ps z => by unfold LamX.CodeO at z; cases z), lent_extN e⟩) (fun vs H' Q E e h => ?_)
    · obtain ⟨c, b, cs, rfl, _⟩ := h
      rfl
    · obtain ⟨c, b, cs, rfl, hc, hl, hb, hJ', qq⟩ := h
      have G_state_by_numbers : FnOk P w K mg base CX0 2 T.f_state_by_numbers T.d_state_by_numbers ["judge", "letter", "numbers"] (sp_state_by_numbers P w) := ok_state_by_numbers T
      refine ⟨_, (pe_call G_state_by_numbers (hr.mono (by omega)) (by rfl) T.m_state_by_numbers T.F_state_by_numbers.kp T.b_state_by_numbers .nil pass0 (pa_cons (pv 2) (pa_cons (pv 0) (pa_cons (pv 1) pa_nil)))), ?_⟩
      exact ⟨_, rfl, _, rfl, _, rfl, _, J, c, b, cs, rfl, hJ', hok, hc, hl, hb, fun H2 s2 => qq H2 s2⟩
    · obtain ⟨c, b, cs, rfl, _⟩ := h
      rfl
    · obtain ⟨c, b, ds, rfl, hc', hl, _, hb, qq⟩ := h
      have lt := lent_extN e
      exact ⟨c, b, ds, rfl, hc', hl, unl_keep lt hb (fun _ z => by cases z), hJ1.extN (extN_unl hnew e), fun H2 s2 => qq _ (same_lend lt s2)⟩
  · have lt := lent_extN e2
    have hr3 := unl_keep lt hr2 (fun _ z => by cases z)
    refine q r _ (E1.trans (extN_unl hnew e2)) (tabsN_unl hnew T2 lt hcs.cel) (fun o hh => Classical.byContradiction fun ht => ?_) hr3
    have := E1 _ _ hh fun ps z => ht ⟨ps, z⟩
    rw [lend_some hnew this] at hr0
    cases hr0
theorem ok_state_of (T : Txt K mg) (B : Tbs T base) {TT : List NdefX.NTab} (hTT : TTp T TT) : FnOk P w K mg base CX0 16 T.f_state_of T.d_state_of ["judge", "tree"] (sp_state_of P w TT) := by
  have G_part_states : FnOk P w K mg base CX0 15 T.f_part_states T.d_part_states ["judge", "tree"] (sp_part_states P w TT) := ok_part_states T B hTT
  refine T.F_state_of.ok sc_state_of (fun vs H Q E h => ?_) (fun cdv A outer s H vs Q E hr h => ?_)
  · obtain ⟨v, u, J, t, rfl, _⟩ := h
    rfl
  obtain ⟨v, u, J, t, rfl, hJ, hok, ht, hz, hL, hT, q⟩ := h
  refine ⟨_, (pss_one (ps_ret (pe_ix ix_list (pe_call G_part_states (hr.mono (by omega)) (by rfl) T.m_part_states T.F_part_states.kp T.b_part_states .nil pass0 (pa_cons (pv 0) (pa_cons (pv 1) pa_nil))) (pe_un un_neg pe_int) (fun _ _ => rfl)))), ?_⟩
  refine ⟨_, rfl, _, rfl, v, u, J, t, rfl, hJ, hok, ht, hz, hL, hT, fun r H2 e2 T2 hr0 hr2 => ?_⟩
  obtain ⟨l, hl⟩ := post_last t
  rw [hl, List.map_append, List.map_append] at hr2
  exact ⟨1, rfl, r, _, -1, _, rfl, rfl, SqL.of hr2, atI_last _ _, q _ e2 T2⟩
theorem ok_lets_by (T : Txt K mg) (B : Tbs T base) {TT : List NdefX.NTab} (hTT : TTp T TT) : FnOk P w K mg base CX0 17 T.f_lets_by T.d_lets_by ["judge", "tree"] (sp_lets_by P w TT) := by
  have G_state_of : FnOk P w K mg base CX0 16 T.f_state_of T.d_state_of ["judge", "tree"] (sp_state_of P w TT) := ok_state_of T B hTT
  refine T.F_lets_by.ok sc_lets_by (fun vs H Q E h => ?_) (fun cdv A outer s H vs Q E hr h => ?_)
  · obtain ⟨v, u, J, t, rfl, _⟩ := h
    rfl
  obtain ⟨v, u, J, t, rfl, hJ, hok, ht, hz, hL, hT, q⟩ := h
  refine ⟨_, (pss_one (ps_ret (pe_cmpR op_in_seq (pe_call G_state_of (hr.mono (by omega)) (by rfl) T.m_state_of T.F_state_of.kp T.b_state_of .nil pass0 (pa_cons (pv 0) (pa_cons (pv 1) pa_nil))) (pe_ix ix_tup (pv 0) pe_int (fun _ _ => rfl)) (by rfl)))), ?_⟩
  refine ⟨_, rfl, _, rfl, v, u, J, t, rfl, hJ, hok, ht, hz, hL, hT, fun H2 e2 T2 => ?_⟩
  obtain ⟨j, d, g, xs, keys, rfl, hj, hd, hrn, hrj, hper, hg⟩ := hJ.extN e2
  exact ⟨_, rfl, j, _, 5, _, rfl, rfl, SqT.of hj, atI_nat (j := 5) rfl, g, _, rfl, .inl (SqL.of hg), rfl, flat_nI _, by rw [if_neg (by decide), inV_nI]; exact q H2 e2 T2⟩
end

theorem depth_pos1 : ∀ t : Tr, 1 ≤ t.depth
  | .node c ks => by simp only [Tr.depth]; omega
theorem cnts_len (n : Nat) (xs : List Nat) : (cnts n xs).length = n := by unfold cnts; rw [List.length_map, List.length_range]
theorem cnts_nil (n : Nat) : cnts n [] = List.replicate n 0 := by
  unfold cnts
  refine List.ext_getElem (by simp) fun i h1 h2 => by simp
theorem cnts_at {n s : Nat} (xs : List Nat) (h : s < n) : (cnts n xs)[s]? = some (xs.count s) := by
  unfold cnts
  rw [List.getElem?_map, List.getElem?_range h]
  rfl
theorem cnts_set {n s : Nat} (xs : List Nat) (h : s < n) : (cnts n xs).set s (xs.count s + 1) = cnts n (xs ++ [s]) := by
  refine List.ext_getElem? fun j => ?_
  rw [List.getElem?_set]
  by_cases hj : j < n
  · rw [cnts_at _ hj]
    by_cases e : s = j
    · subst e
      rw [if_pos rfl, if_pos (by rw [cnts_len]; exact hj), cnts_at _ hj, List.count_append]
      simp
    · rw [if_neg e, cnts_at _ hj, List.count_append, List.count_singleton]
      have : (s == j) = false := by simpa using e
      simp [this]
  · have o1 : (cnts n xs)[j]? = none := List.getElem?_eq_none (by rw [cnts_len]; omega)
    have o2 : (cnts n (xs ++ [s]))[j]? = none := List.getElem?_eq_none (by rw [cnts_len]; omega)
    rw [o1, o2]
    split
    · rw [if_neg (by rw [cnts_len]; omega)]
    · rfl
theorem set_nI {xs : List Nat} {i x : Nat} : (xs.map nI).set i (nI x) = (xs.set i x).map nI := by
  rw [List.map_set]

theorem St_ltJ {J : JD} (hok : J.ok) : ∀ t : Tr, t.lets (fun c => c ∈ J.L.cps.toList) → St J.sf J.n t < J.n
  | .node c ks, h => by
    simp only [Tr.lets] at h
    simp only [St]
    exact hok.sf_lt h.1 (cnts_len _ _)

section
variable {ok : Addr → Prop} {H H' : Hp}
theorem DtAll.take : ∀ {vs : List V} {ds : List PyData} (n : Nat), DtAll ok H vs ds → DtAll ok H (vs.take n) (ds.take n)
  | _, _, 0, _ => .nil
  | _, _, n + 1, .nil => .nil
  | _, _, n + 1, .cons a b => .cons a (DtAll.take n b)
theorem DtAll.drop : ∀ {vs : List V} {ds : List PyData} (n : Nat), DtAll ok H vs ds → DtAll ok H (vs.drop n) (ds.drop n)
  | _, _, 0, h => h
  | _, _, n + 1, .nil => .nil
  | _, _, n + 1, .cons a b => DtAll.drop n b
theorem DtAll.app : ∀ {vs us : List V} {ds es : List PyData}, DtAll ok H vs ds → DtAll ok H us es → DtAll ok H (vs ++ us) (ds ++ es)
  | _, _, _, _, .nil, y => y
  | _, _, _, _, .cons a b, y => .cons a (DtAll.app b y)
theorem DtAll.at {vs : List V} {ds : List PyData} {r : Int} (h : DtAll ok H vs ds) (h0 : 0 ≤ r) (h1 : r < ds.length) : ∃ v d, atI vs r = some v ∧ ds[r.toNat]? = some d ∧ Dt ok H v d := by
  have hl := h.len
  have hn : r.toNat < vs.length := by omega
  obtain ⟨d, hd, hv⟩ := h.getV (List.getElem?_eq_getElem hn)
  exact ⟨_, d, at_of (j := r.toNat) (by omega) (List.getElem?_eq_getElem hn), hd, hv⟩
end
theorem cut_hi {xs : List V} {k : Nat} (h : k ≤ xs.length) : cutV xs none (some (k : Int)) = xs.take k := by
  unfold cutV
  rw [HT.sIx_none, HT.sIx_nat, List.drop_zero, Nat.sub_zero, Nat.min_eq_left h]
theorem cut_lo {xs : List V} {k : Nat} (h : k ≤ xs.length) : cutV xs (some (k : Int)) none = xs.drop k := by
  unfold cutV
  rw [HT.sIx_nat, HT.sIx_none, Nat.min_eq_left h, List.take_of_length_le (by rw [List.length_drop]; omega)]
theorem cut_m1 {xs : List V} : cutV xs none (some (-1)) = xs.take (xs.length - 1) := by
  have h : HT.sIx xs.length xs.length (some (-1)) = xs.length - 1 := by
    show (if (-1 : Int) < 0 then ((-1 : Int) + (xs.length : Int)).toNat else min (-1 : Int).toNat xs.length) = xs.length - 1
    rw [if_pos (by decide)]
    omega
  unfold cutV
  rw [HT.sIx_none, h, List.drop_zero, Nat.sub_zero]
theorem cut_whole {xs : List V} {lo hi : Option Int} (h : HT.sIx xs.length 0 lo = 0 ∧ HT.sIx xs.length xs.length hi = xs.length) : cutV xs lo hi = xs := by
  unfold cutV
  rw [h.1, h.2, List.drop_zero, Nat.sub_zero, List.take_length]
theorem slA {K : PySem.W.Frag} {H : Hp} {a : Addr} {xs : List V} {lo hi : Option Int} {Q : VK} (hx : H a = some (.tup xs))
    (q : ∀ t H', Same H H' → H' t = some (.tup (cutV xs lo hi)) → (t = a ∨ H t = none) → Q (.ref t) H') : rSlA K (.ref a) lo hi H Q :=
  ⟨a, xs, rfl, SqT.of hx, fun hw => q a H (Same.refl _) (by rw [cut_whole hw]; exact hx) (.inl rfl), fun _ p hp => q p _ (same_new hp) upd_same (.inr hp)⟩
theorem catA {K : PySem.W.Frag} {H : Hp} {a b : Addr} {xs ys : List V} {Q : VK} (ha : H a = some (.tup xs)) (hb : H b = some (.tup ys)) (hz : xs.length + ys.length ≤ 3000)
    (q : ∀ t H', Same H H' → H' t = some (.tup (xs ++ ys)) → (t = a ∨ t = b ∨ H t = none) → Q (.ref t) H') : rCatA K (.ref a) (.ref b) H Q :=
  ⟨a, b, xs, ys, rfl, rfl, SqT.of ha, SqT.of hb, Nat.le_trans hz (by decide), fun e => q b H (Same.refl _) (by rw [e]; exact hb) (.inr (.inl rfl)), fun _ e => q a H (Same.refl _) (by rw [e, List.append_nil]; exact ha) (.inl rfl),
    fun _ _ p hp => q p _ (same_new hp) upd_same (.inr (.inr hp))⟩


def sp__law_tuples : Sp := fun vs H Q _ => ∃ (L : Str) (n k : Nat), vs = [.str L, nI n, nI k] ∧ Lets L ∧ n ≤ 6 ∧ 1 ≤ k ∧ k ≤ 20 ∧ L.length * k ^ n ≤ 600 ∧ ∀ r bs H', Same H H' → H r = none → H' r = some (.lst (bs.map V.ref)) → KeysAt H' bs (keysOf L n k) → Q (.ref r) H'
section
variable {P : Program} {w : World} {K : PySem.W.Frag} {mg : Str → Option Value} {base : Heap}
theorem ok__law_tuples (T : Txt K mg) : FnOk P w K mg base CX0 1 T.f__law_tuples T.d__law_tuples ["letters", "states", "classes"] sp__law_tuples := by
  refine T.F__law_tuples.ok sc__law_tuples (fun vs H Q E h => ?_) (fun cdv A outer s H vs Q E hr h => ?_)
  · obtain ⟨L, n, k, rfl, _⟩ := h
    rfl
  obtain ⟨L, n, k, rfl, hL, n6, k1, k20, hz, q⟩ := h
  refine ⟨_, (pss_cons (ps_set (i := 3) sc__law_tuples.nd rfl (Or.inl rfl) (pe_lst (pa_cons (pe_tup pa_nil) pa_nil))) (pss_cons (ps_for PassesOwn.never rfl (pi_range1 (by rfl) T.z_range (pa_cons (pv 1) pa_nil)) (pg_name (i := 4) sc__law_tuples.nd rfl (Or.inl rfl)) (pss_cons (ps_set (i := 5) sc__law_tuples.nd rfl (Or.inl rfl) (pe_lst pa_nil)) (pss_cons (ps_for PassesOwn.never rfl (pi_list (pv 3)) (pg_name (i := 6) sc__law_tuples.nd rfl (Or.inr rfl)) (pss_one (ps_expr (pe_bm PySem.F.plainAttrs_list PySem.F.slot_list_extend PySem.F.type_list_extend mt_extend (pv 5) (pa_cons (pe_lc (own := [("one", 9)]) (g := gName 9) (te := tOp (rCatA K) (tVar 6) (tTup (tCons (tVar 9) tNil))) (tt := tYes) rfl sc__law_tuples.nd (pi_range1 (by rfl) T.z_range (pa_cons (pv 2) pa_nil)) (blkOk_by (own := [("one", 9)]) (N := ["letters", "states", "classes", "rows", "turn", "longer", "row", "found", "letter", "one"]) (sc := (defScope s__law_tuples)) (by decide +kernel)) (fun _ _ _ _ _ => (pg_name (i := 9) sc__law_tuples.nd rfl (Or.inl rfl))) (fun _ _ _ _ _ => pts_nil) (fun _ _ _ _ _ => (pe_op op_catA (pv 6) (pe_tup (pa_cons (pv 9) pa_nil))))) pa_nil))))) (pss_one (ps_set (i := 3) sc__law_tuples.nd rfl (Or.inl rfl) (pv 5)))))) (pss_cons (ps_set (i := 7) sc__law_tuples.nd rfl (Or.inl rfl) (pe_lst pa_nil)) (pss_cons (ps_for PassesOwn.never rfl (pi_str (pv 0)) (pg_name (i := 8) sc__law_tuples.nd rfl (Or.inr rfl)) (pss_one (ps_expr (pe_bm PySem.F.plainAttrs_list PySem.F.slot_list_extend PySem.F.type_list_extend mt_extend (pv 7) (pa_cons (pe_lc (own := [("row", 6)]) (g := gName 6) (te := tTup (tCons (tVar 8) (tCons (tVar 6) tNil))) (tt := tYes) rfl sc__law_tuples.nd (pi_list (pv 3)) (blkOk_by (own := [("row", 6)]) (N := ["letters", "states", "classes", "rows", "turn", "longer", "row", "found", "letter", "one"]) (sc := (defScope s__law_tuples)) (by decide +kernel)) (fun _ _ _ _ _ => (pg_name (i := 6) sc__law_tuples.nd rfl (Or.inl rfl))) (fun _ _ _ _ _ => pts_nil) (fun _ _ _ _ _ => (pe_tup (pa_cons (pv 8) (pa_cons (pv 6) pa_nil))))) pa_nil))))) (pss_one (ps_ret (pv 7))))))), ?_⟩
  have l1 := hL.1
  have h600 : k ^ n ≤ 600 := Nat.le_trans (Nat.le_mul_of_pos_left _ l1) hz
  refine ⟨(by show 0 ≤ sizeLine; decide), fun p0 hp0 => ⟨(by show 1 ≤ sizeLine; decide), fun r0 hr0 => ?_⟩⟩
  have s0 := (same_new (o := .tup []) hp0).trans (same_new (o := .lst [V.ref p0]) hr0)
  have kp0 := same_new (o := .lst [V.ref p0]) hr0 _ _ (upd_same (H := H) (a := p0) (o := .tup []))
  have kr0 := upd_same (H := upd H p0 (.tup [])) (a := r0) (o := .lst [V.ref p0])
  have nr0 : H r0 = none := (same_new (o := .tup []) hp0).free hr0
  generalize upd (upd H p0 (.tup [])) r0 (.lst [V.ref p0]) = H2 at *
  refine ⟨_, rfl, n, rfl, by omega, by omega, for_range (lo := 0) (n := n) (fun i σ H' => ∃ (r : Addr) (as : List Addr) (y4 y5 y6 : Option V), σ = [some (.str L), some (nI n), some (nI k), some (.ref r), y4, y5, y6, none, none, none] ∧ H' r = some (.lst (as.map V.ref)) ∧ RowsAt H' as (rowsTo i k) ∧ Same H H' ∧ H r = none) ⟨r0, [p0], none, none, none, rfl, kr0, .cons kp0 .nil, s0, nr0⟩ ?_ ?_⟩
  · rintro i σ H3 hi ⟨r, as, y4, y5, y6, rfl, hr3, ha3, s3, nr⟩
    have la : as.length = k ^ i := by rw [Paired.length ha3, rowsTo_len]
    have pw : k ^ i ≤ 600 := Nat.le_trans (Nat.pow_le_pow_right k1 (by omega)) h600
    refine ⟨(by show 0 ≤ sizeLine; decide), fun f0 hf0 => ?_⟩
    have s4 := same_new (o := .lst []) hf0
    have kf0 := upd_same (H := H3) (a := f0) (o := .lst [])
    generalize upd H3 f0 (.lst []) = H4 at *
    refine ⟨_, rfl, r, rfl, ⟨_, SqL.of (s4 _ _ hr3)⟩, for_list (xs := as.map V.ref) (fun j σ H' => ∃ (bs : List Addr) (y6 : Option V), σ = [some (.str L), some (nI n), some (nI k), some (.ref r), some (.int (0 + i)), some (.ref f0), y6, none, none, none] ∧ H' f0 = some (.lst (bs.map V.ref)) ∧ RowsAt H' bs (((rowsTo i k).take j).flatMap fun r => (List.range k).map fun x => r ++ [x]) ∧ Same H3 H') ⟨[], _, rfl, kf0, .nil, s4⟩ (fun j σ H' _ ⟨_, _, _, _, _, s5⟩ => SqL.of (s5 _ _ hr3)) ?_ ?_⟩
    · rintro j x σ H5 hx ⟨bs, y6, rfl, hf5, hb5, s5⟩
      rw [List.getElem?_map] at hx
      cases haj : as[j]? with
      | none => rw [haj] at hx; cases hx
      | some aj =>
      rw [haj] at hx
      cases hx
      obtain ⟨row, hrow, kaj⟩ := prd_at ha3 haj
      have kaj5 := s5 _ _ kaj
      have hj := (List.getElem?_eq_some_iff.mp haj).1
      have lb := Paired.length hb5
      rw [ext_len, List.length_take, rowsTo_len] at lb
      have lb2 : bs.length ≤ 600 * 20 := by rw [lb]; exact Nat.mul_le_mul (Nat.le_trans (Nat.min_le_right _ _) pw) k20
      refine ⟨_, rfl, .inl ⟨rfl, _, SqL.of hf5⟩, _, rfl, k, rfl, by omega, by omega, fun D hD => ?_⟩
      refine lc_range (lo := 0) (n := k) (fun m H6 => ∃ cs : List Addr, H6 D = some (.lst (cs.map V.ref)) ∧ RowsAt H6 cs ((List.range m).map fun x => row ++ [x]) ∧ Same H5 H6) ⟨[], upd_same, .nil, same_new hD⟩ ?_ ?_
      · rintro m H6 hm ⟨cs, g1, g2, g3⟩
        have lc := Paired.length g2
        rw [List.length_map, List.length_range] at lc
        refine ⟨rfl, _, rfl, _, rfl, (by show 1 ≤ sizeLine; decide), fun t ht => ?_⟩
        have st := same_new (o := .tup [V.int (0 + (m : Int))]) ht
        have hD6 : H5 D = none := hD
        refine catA (st _ _ (g3 _ _ kaj5)) upd_same (by rw [List.length_map, (rowsTo_mem (List.mem_of_getElem? hrow)).1, List.length_singleton]; omega) fun b H7 s7 kb nb => ?_
        have kD := s7 _ _ (st _ _ g1)
        have tk := upd_tup (o := .lst (cs.map V.ref ++ [V.ref b])) kD
        refine ⟨_, kD, ?_, cs ++ [b], ?_, ?_, same_add ((g3.trans st).trans s7) hD6⟩
        · rw [List.length_map, lc]
          exact Nat.lt_of_le_of_lt (show _ ≤ 1000000 by omega) (by decide)
        · rw [upd_same, List.map_append (l₂ := [b])]
          rfl
        · rw [List.range_succ, List.map_append (f := fun x => row ++ [x])]
          refine prd_app (((RowsAt.keep g2 fun b xs e => st _ _ e).keep fun b xs e => s7 _ _ e).keep tk) (.cons ?_ .nil)
          have e : row.map nI ++ [V.int (0 + (m : Int))] = (row ++ [m]).map nI := by rw [List.map_append, Int.zero_add]; rfl
          rw [← e]
          exact tk _ _ kb
      · rintro H6 ⟨cs, g1, g2, g3⟩
        have lc := Paired.length g2
        rw [List.length_map, List.length_range] at lc
        have kf6 := g3 _ _ hf5
        have tk := upd_tup (o := .lst (bs.map V.ref ++ cs.map V.ref)) kf6
        refine ⟨f0, D, _, _, rfl, rfl, kf6, g1, ?_, bs ++ cs, _, rfl, ?_, ?_, ?_⟩
        · rw [List.length_map, List.length_map]
          exact Nat.le_of_lt (Nat.lt_of_le_of_lt (show _ ≤ 1000000 by omega) (by decide))
        · rw [upd_same, List.map_append]
        · rw [flat_take _ hrow]
          exact prd_app ((hb5.keep fun b xs e => g3 _ _ e).keep tk) (RowsAt.keep g2 tk)
        · intro b o e
          rw [upd_ne (ne_of_none e hf0)]
          exact g3 _ _ (s5 _ _ e)
    · rintro σ H5 ⟨bs, y6, rfl, hf5, hb5, s5⟩
      rw [List.length_map, la, ← rowsTo_len k i, List.take_length] at hb5
      exact ⟨_, rfl, f0, bs, _, _, _, rfl, hf5, hb5, s3.trans s5, s3.free hf0⟩
  rintro σ H3 ⟨r, as, y4, y5, y6, rfl, hr3, ha3, s3, nr⟩
  have la : as.length = k ^ n := by rw [Paired.length ha3, rowsTo_len]
  have lsz : L.cps.size = L.cps.toList.length := (Array.length_toList).symm
  have l26 : L.cps.toList.length ≤ 26 := by rw [← lsz]; exact hL.2.1
  refine ⟨(by show 0 ≤ sizeLine; decide), fun f0 hf0 => ?_⟩
  have s4 := same_new (o := .lst []) hf0
  have kf0 := upd_same (H := H3) (a := f0) (o := .lst [])
  generalize upd H3 f0 (.lst []) = H4 at *
  refine ⟨_, rfl, L, rfl, for_it walk_str (fun j σ H' => ∃ (bs : List Addr) (y8 : Option V), σ = [some (.str L), some (nI n), some (nI k), some (.ref r), y4, y5, y6, some (.ref f0), y8, none] ∧ H' f0 = some (.lst (bs.map V.ref)) ∧ KeysAt H' bs ((L.cps.toList.take j).flatMap fun c => (rowsTo n k).map fun r => (c, r)) ∧ Same H3 H' ∧ bs.length ≤ 600 * j) ⟨[], _, rfl, kf0, .nil, s4, Nat.zero_le _⟩ (fun _ _ _ _ _ => trivial) ?_ ?_⟩
  · rintro j x σ H5 H5' hj ⟨bs, y8, rfl, hf5, hb5, s5, lb5⟩ ⟨rfl, c, hc, rfl⟩
    have hc2 : L.cps.toList[j]? = some c := by rw [Array.getElem?_toList]; exact hc
    refine ⟨_, rfl, .inl ⟨rfl, _, SqL.of hf5⟩, _, rfl, r, rfl, ⟨_, SqL.of (s5 _ _ hr3)⟩, fun D hD => ?_⟩
    refine lc_list (xs := as.map V.ref) (fun m H6 => ∃ cs : List Addr, H6 D = some (.lst (cs.map V.ref)) ∧ KeysAt H6 cs (((rowsTo n k).take m).map fun r => (c, r)) ∧ Same H5' H6) ⟨[], upd_same, .nil, same_new hD⟩ (fun m H6 _ ⟨_, _, _, s⟩ => SqL.of (s _ _ (s5 _ _ hr3))) ?_ ?_
    · rintro m z H6 hz ⟨cs, g1, g2, g3⟩
      rw [List.getElem?_map] at hz
      cases ham : as[m]? with
      | none => rw [ham] at hz; cases hz
      | some am =>
      rw [ham] at hz
      cases hz
      obtain ⟨row, hrow, kam⟩ := prd_at ha3 ham
      have lc := Paired.length g2
      rw [List.length_map, List.length_take, rowsTo_len] at lc
      refine ⟨rfl, _, rfl, _, rfl, (by show 2 ≤ sizeLine; decide), fun b hb => ?_⟩
      have sb := same_new (o := .tup [.str ⟨#[c]⟩, V.ref am]) hb
      have kb := upd_same (H := H6) (a := b) (o := .tup [.str ⟨#[c]⟩, V.ref am])
      have kD := sb _ _ g1
      have tk := upd_tup (o := .lst (cs.map V.ref ++ [V.ref b])) kD
      refine ⟨_, kD, ?_, cs ++ [b], by rw [upd_same, List.map_append (l₂ := [b])]; rfl, ?_, same_add (g3.trans sb) hD⟩
      · rw [List.length_map]
        exact Nat.lt_of_le_of_lt (show _ ≤ 1000000 by omega) (by decide)
      · rw [take_succ_of hrow, List.map_append (f := fun r => (c, r))]
        exact prd_app ((KeysAt.keep g2 fun b xs e => sb _ _ e).keep tk) (.cons ⟨am, tk _ _ kb, tk _ _ (sb _ _ ((s5.trans g3) _ _ kam))⟩ .nil)
    · rintro H6 ⟨cs, g1, g2, g3⟩
      rw [List.length_map, la, ← rowsTo_len k n, List.take_length] at g2
      have lc := Paired.length g2
      rw [List.length_map, rowsTo_len] at lc
      have kf6 := g3 _ _ hf5
      have tk := upd_tup (o := .lst (bs.map V.ref ++ cs.map V.ref)) kf6
      have j26 : j < 26 := by omega
      refine ⟨f0, D, _, _, rfl, rfl, kf6, g1, ?_, bs ++ cs, _, rfl, by rw [upd_same, List.map_append], ?_, ?_, by rw [List.length_append]; omega⟩
      · rw [List.length_map, List.length_map]
        exact Nat.le_of_lt (Nat.lt_of_le_of_lt (show _ ≤ 1000000 by omega) (by decide))
      · rw [flat_take _ hc2]
        exact prd_app ((hb5.keep fun b xs e => g3 _ _ e).keep tk) (KeysAt.keep g2 tk)
      · intro b o e
        rw [upd_ne (ne_of_none e hf0)]
        exact g3 _ _ (s5 _ _ e)
  · rintro σ H5 ⟨bs, y8, rfl, hf5, hb5, s5, _⟩
    rw [lsz, List.take_length] at hb5
    exact ⟨_, rfl, q f0 bs H5 (s3.trans s5) (s3.free hf0) hf5 hb5⟩
end

section
variable {X : Cx}
def rListN (P : Program) (w : World) : List V → Hp → VK → Prop := fun vs H Q => ∃ (d : Addr) (xs : List NRow), vs = [.ref d] ∧ H d = some (DictN P w d xs) ∧ ∀ q, H q = none → Q (.ref q) (upd H q (.lst (xs.map fun x => V.ref x.2.1)))
theorem call_listN (hc : X.calm = true) : CallR X (.type "list") (rListN X.prog X.w) := by
  intro pins s σ H vs ws Q I r h
  obtain ⟨d, xs, rfl, hd, q⟩ := h
  obtain ⟨u, rfl, rx⟩ := vals1 r
  cases rx
  obtain ⟨⟨h1, h2, us, h3, o, es, ep, e1, e2, e3, e4, e5⟩, _, _⟩ := I.hok _ _ hd
  have hl : us.length = es.size := by
    have := congrArg List.length e4
    rw [List.length_map, Array.length_toList] at this
    exact this.symm
  have ln : xs.length = us.length := Paired.length h3
  refine PySem.W.kdl_call (kdl_raw h1 e2 e3) (I.ok.hd hc) e1 (by omega) fun h' tk acc' c' hkeep hS hacc => ?_
  refine ⟨.ref s.heap.objs.size, _, I.laid hkeep (Nat.le_refl _) (show ObjOk X.prog X.w _ _ _ (.lst (xs.map fun x => V.ref x.2.1)) from ⟨?_, acc'.toList, c', ?_, ?_⟩), rfl, q _ (I.hok.fresh (Nat.le_refl _))⟩
  · rw [List.length_map]; exact h2
  · have el : acc'.toList.length = acc'.size := by simp
    refine vals_of_at (by rw [List.length_map, el, hacc.1, ← hl, ln]) fun j x w h1 h2 => ?_
    obtain ⟨en, hen, hw⟩ := hacc.2 j w (by rw [← Array.getElem?_toList]; exact h2)
    rw [← Array.getElem?_toList, e4, List.getElem?_map] at hen
    rw [List.getElem?_map] at h1
    cases hx : xs[j]? with
    | none => rw [hx] at h1; cases h1
    | some row =>
      rw [hx] at h1
      cases h1
      obtain ⟨u, hu, k1, k2, k3⟩ := prd_at h3 hx
      rw [hu] at hen
      cases hen
      rw [hw]
      show Value.ref u.2.1 = Value.ref row.2.1
      rw [← k2]
  · rw [Array.toArray_toList]; exact hS
theorem storedAll_new {ps : List (NestedKey × Addr × Value)} (nd : (ps.map (·.1)).Nodup) : storedAllH [] ps = ps := by
  have : ∀ (n : Nat), n ≤ ps.length → storedAllH [] (ps.take n) = ps.take n := by
    intro n
    induction n with
    | zero => intro _; rfl
    | succ n ih =>
      intro hn
      have hp : ps[n]? = some ps[n] := List.getElem?_eq_getElem hn
      rw [storedAllH_take_succ [] ps n _ hp, ih (by omega), List.take_add_one, hp]
      have none : atKey (ps.take n) ps[n].1 = none := by
        cases e : atKey (ps.take n) ps[n].1 with
        | none => rfl
        | some v =>
          exfalso
          have hm : ∃ x ∈ ps.take n, x.1 = ps[n].1 := by
            unfold atKey at e
            cases f : (ps.take n).find? fun x => decide (x.1 = ps[n].1) with
            | none => rw [f] at e; cases e
            | some x => exact ⟨x, List.mem_of_find?_eq_some f, by simpa using List.find?_some f⟩
          obtain ⟨x, hx, ex⟩ := hm
          obtain ⟨j, hj⟩ := List.getElem?_of_mem hx
          have hjn : j < n := by
            have := (List.getElem?_eq_some_iff.mp hj).1
            rw [List.length_take] at this
            omega
          rw [List.getElem?_take_of_lt hjn] at hj
          have g1 : (ps.map (·.1))[j]? = some ps[n].1 := by rw [List.getElem?_map, hj]; exact congrArg some ex
          have g2 : (ps.map (·.1))[n]? = some ps[n].1 := by rw [List.getElem?_map, hp]; rfl
          have := (List.getElem?_inj (List.getElem?_eq_some_iff.mp g1).1 nd).mp (g1.trans g2.symm)
          omega
      unfold storedH
      rw [none]
      rfl
  have := this ps.length (Nat.le_refl _)
  rwa [List.take_length] at this
def rDictP (P : Program) (w : World) : List V → Hp → VK → Prop := fun vs H Q => ∃ (l : Addr) (bs : List Addr) (ps : List NRow), vs = [.ref l] ∧ H l = some (.lst (bs.map V.ref)) ∧ Paired (fun (b : Addr) (p : NRow) => H b = some (.tup [.ref p.2.1, p.2.2])) bs ps ∧ RowsN H ps ∧ (ps.map (·.1)).Nodup ∧ ps.length ≤ sizeLine ∧
  ∀ d, H d = none → Q (.ref d) (upd H d (DictN P w d ps))
theorem call_dictP (hc : X.calm = true) (hu : X.A.units + 12 < cLine) : CallR X (.type "dict") (rDictP X.prog X.w) := by
  intro pins s σ H vs ws Q I r h
  obtain ⟨l, bs, ps, rfl, hl, hp, hr, nd, hz, q⟩ := h
  obtain ⟨u, rfl, rx⟩ := vals1 r
  cases rx
  obtain ⟨its, ri, ⟨o, m, g1, g2, g3, g4⟩, _⟩ := I.list (SqL.of hl)
  have pick : ∀ (bs : List Addr) (ps : List NRow), Paired (fun (b : Addr) (p : NRow) => H b = some (.tup [.ref p.2.1, p.2.2])) bs ps → ∃ us : List (NestedKey × Addr × Value), RowsP ps us ∧ Paired (fun (b : Addr) (u : NestedKey × Addr × Value) => s.heap.IsTuple b #[.ref u.2.1, u.2.2]) bs us := by
    intro bs ps p
    induction p with
    | nil => exact ⟨[], .nil, .nil⟩
    | @cons b x bs ps e t ih =>
      obtain ⟨us, a1, a2⟩ := ih
      obtain ⟨vs2, r1, k1, _⟩ := I.tuple (SqT.of e)
      cases r1 with
      | cons c1 c2 =>
      cases c2 with
      | cons c3 c4 =>
      cases c4
      cases c1
      exact ⟨(x.1, x.2.1, _) :: us, .cons ⟨rfl, rfl, c3⟩ a1, .cons k1 a2⟩
  obtain ⟨us, a1, a2⟩ := pick bs ps hp
  have lb : bs.length = us.length := Paired.length a2
  have lp : ps.length = us.length := Paired.length a1
  have li := ri.length
  rw [List.length_map] at li
  have keys : ps.map (·.1) = us.map (·.1) := by
    have : ∀ (ps : List NRow) (us : List (NestedKey × Addr × Value)), RowsP ps us → ps.map (·.1) = us.map (·.1) := by
      intro ps us p
      induction p with
      | nil => rfl
      | cons r t ih => rw [List.map_cons, List.map_cons, r.1, ih]
    exact this _ _ a1
  have nds : ((us.map (·.1))).Nodup := by rw [← keys]; exact nd
  have isk : ∀ x ∈ us, (nestedKind X.prog X.w).is s.heap x.1 x.2.1 := by
    have : ∀ (xs : List NRow) (us : List (NestedKey × Addr × Value)), RowsP xs us → RowsN H xs → ∀ u ∈ us, (nestedKind X.prog X.w).is s.heap u.1 u.2.1 := by
      intro xs us p
      induction p with
      | nil => intro _ u hu; cases hu
      | cons r t ih =>
        intro hk u hu
        rcases List.mem_cons.mp hu with rfl | hu
        · obtain ⟨n1, n2⟩ := hk _ List.mem_cons_self
          refine ⟨?_, ?_⟩
          · rw [← r.1, ← r.2.1]
            exact NK.is I n1 rfl
          · rw [← r.1]
            exact n2
        · exact ih (fun x hx => hk x (List.mem_cons_of_mem _ hx)) u hu
    exact this _ _ a1 hr
  have lo : s.heap.objs.size ≠ sysModules := Ne.symm (Nat.ne_of_lt I.big)
  refine call_dict_pairsH (knd := nestedKind X.prog X.w) (ps := us) (PairArg.list l its.toArray (fun j => bs.getD j 0) (us.map fun u => (Value.ref u.2.1, u.2.2))) (I.ok.hd hc) (show X.A.units + 1 + 1 + 8 < cLine by omega) ?_ ?_ (fun h' hk x hx => ?_) (by rw [List.length_map, ← lp]; exact hz) fun h' tk hd' hk => ?_
  · refine ⟨⟨o, m, g1, g2, g3, g4⟩, ?_, fun j k v hj => ?_⟩
    · rw [List.size_toArray, List.length_map]; omega
    · rw [List.getElem?_map] at hj
      cases hu : us[j]? with
      | none => rw [hu] at hj; cases hj
      | some u =>
        rw [hu] at hj
        cases hj
        have hjb : j < bs.length := by rw [lb]; exact (List.getElem?_eq_some_iff.mp hu).1
        have hb : bs[j]? = some bs[j] := List.getElem?_eq_getElem hjb
        have ed : bs.getD j 0 = bs[j] := by rw [List.getD_eq_getElem?_getD, hb]; rfl
        obtain ⟨u2, hu2, k1⟩ := prd_at a2 hb
        have e2 := Option.some.inj (hu2.symm.trans hu)
        subst e2
        dsimp only
        rw [ed]
        refine ⟨?_, .inl k1⟩
        obtain ⟨u3, hu3, r3⟩ := ri.get (show (bs.map V.ref)[j]? = some (V.ref bs[j]) by rw [List.getElem?_map, hb]; rfl)
        cases r3
        rw [List.getElem?_toArray]
        exact hu3
  · refine ⟨by rw [List.length_map], fun i key v hi => ?_⟩
    have hi : (us.map fun u => (Value.ref u.2.1, u.2.2))[i]? = some (key, v) := hi
    rw [List.getElem?_map] at hi
    cases hu : us[i]? with
    | none => rw [hu] at hi; cases hi
    | some u =>
      rw [hu] at hi
      cases hi
      exact ⟨u.1, u.2.1, rfl, rfl⟩
  · exact nestedKind_stays.stays (fun b o vs m e q => hk b o (Nat.ne_of_lt (Heap.lt_size e)) (fun z => nomatch z) e) (isk x hx)
  · rw [storedAll_new nds] at hd'
    obtain ⟨ob, es, ep, e1, e2, e3, e4, _, e5⟩ := hd'
    exact ⟨.ref s.heap.objs.size, _, I.laid (t' := tk) (fun b o e => hk b o (fun z => nomatch z) e) (Nat.le_refl _) (dictN_ok (beq_eq_false_iff_ne.mpr lo) hz a1 ⟨ob, es, ep, e1, e2, e3, e4, e5⟩), rfl, q _ (I.hok.fresh (Nat.le_refl _))⟩
end

def everyV {α : Type} (k a : Nat) (xs : List α) : List α := (List.range (if a < xs.length then (xs.length - a - 1) / k + 1 else 0)).filterMap fun m => xs[a + m * k]?
section
open HT
variable {prog : Program} {w : World} {A : Around} {E : Value → Shared → Prop} {s : Shared}
theorem applied_step {sl : Addr} {vl vs : Value} {a k n : Nat} {Q : Int × Int × Nat → Shared → Prop} (hs : s.heap.IsSliceOf sl vl .none vs) (pl : IsPart vl (some (a : Int))) (ps : IsPart vs (some (k : Int))) (hk : 1 ≤ k) (ha : a ≤ n)
    (h : Q (((a : Nat) : Int), ((k : Nat) : Int), if a < n then (n - a - 1) / k + 1 else 0) s) : wpAny (model prog w) A (Builtin.Slice.sliceApplied (.ref sl) (pure (n : Int))) Q E s := by
  obtain ⟨os, hos, hcs, hds⟩ := id hs
  unfold Builtin.Slice.sliceApplied Builtin.Slice.sliceFields
  refine wpAny_bind (wpAny_bind (wpAny_field hos hds (x := vl) rfl (wpAny_bind (wpAny_field hos hds (x := .none) rfl (wpAny_bind (wpAny_field hos hds (x := vs) rfl (wpAny_pure ?_)))))))
  refine wpAny_bind (slicePart_ ps ?_)
  show wpAny _ _ (if ((k : Int) == 0) = true then _ else _) _ _ s
  rw [if_neg (by simp; omega)]
  refine wpAny_bind (slicePart_ pl (wpAny_bind (slicePart_none (wpAny_bind (wpAny_pure ?_)))))
  have e1 : Builtin.Slice.sliceAdjust (some (a : Int)) none (k : Int) (n : Int) = ((a : Int), (n : Int)) := by
    have h1 : ¬ ((k : Int) < 0) := by omega
    unfold Builtin.Slice.sliceAdjust
    simp only [h1, if_false]
    refine Prod.ext ?_ rfl
    show (if (a : Int) < 0 then max ((a : Int) + (n : Int)) 0 else min (a : Int) (n : Int)) = (a : Int)
    rw [if_neg (by omega)]
    omega
  show wpAny _ _ (match Builtin.Slice.sliceAdjust (some (a : Int)) none (k : Int) (n : Int) with | (lo, hi) => pure (lo, (k : Int), Builtin.Slice.slicePlaces lo hi (k : Int))) _ _ s
  rw [e1]
  show wpAny _ _ (pure (((a : Nat) : Int), ((k : Nat) : Int), Builtin.Slice.slicePlaces (a : Int) (n : Int) (k : Int))) _ _ s
  have e2 : Builtin.Slice.slicePlaces (a : Int) (n : Int) (k : Int) = if a < n then (n - a - 1) / k + 1 else 0 := by
    unfold Builtin.Slice.slicePlaces
    rw [if_pos (show (k : Int) > 0 by omega)]
    by_cases hl : a < n
    · rw [if_pos (by omega), if_pos hl]
      have e3 : ((n : Int) - (a : Int) - 1) = ((n - a - 1 : Nat) : Int) := by omega
      rw [e3, ← Int.natCast_ediv, ← Int.natCast_succ, Int.toNat_natCast]
    · rw [if_neg (by omega), if_neg hl]
      rfl
  rw [e2]
  exact wpAny_pure h
theorem getItem_tuple_step {t sl : Addr} {items : Array Value} {vl vs : Value} {a k : Nat} {Q : Value → Shared → Prop} (ht : IsTup s.heap t items) (hs : s.heap.IsSliceOf sl vl .none vs) (pl : IsPart vl (some (a : Int))) (ps : IsPart vs (some (k : Int))) (hk : 1 ≤ k) (ha : a ≤ items.size)
    (h1 : a = 0 ∧ k = 1 → Q (.ref t) s) (h2 : ¬ (a = 0 ∧ k = 1) → Q (.ref s.heap.objs.size) { s with heap := s.heap.push { cls := .type "tuple", data := .seq (everyV k a items.toList).toArray } })
    (hsz : items.size ≤ sizeLine) : wpAny (model prog w) A (getItem (.ref t) (.ref sl)) Q E s := by
  obtain ⟨os, hos, hcs, hds⟩ := id hs
  have hTs : s.TypeIs (.ref sl) "slice" := ⟨os, hos, hcs⟩
  have few : (everyV k a items.toList).length ≤ items.size := by
    unfold everyV
    refine Nat.le_trans (List.length_filterMap_le _ _) ?_
    rw [List.length_range, Array.length_toList]
    split
    · have : (items.size - a - 1) / k ≤ items.size - a - 1 := Nat.div_le_self _ _
      omega
    · omega
  have htake : sizeOk (.seq (everyV k a items.toList).toArray) := by
    show (everyV k a items.toList).toArray.size ≤ sizeLine
    rw [List.size_toArray]
    omega
  unfold getItem
  try with_reducible refine wpAny_holding ?_
  first | refine wpAny_bind (wpAny_pure ?_) | skip
  refine wpAny_bind (wpAny_sequenceKey ht.typeIs (by decide) ?_)
  refine wpAny_bind (wpAny_callSpecial?_slot (name := Str.ofString "__getitem__") ht.typeIs PyProof.Rows.slot_tuple_getitem
    (wpAny_call_entry PyProof.Rows.slot_tuple_getitem ht.typeIs entry_tuple_getitem ?_ (args_tuple_getitem _ _)))
  show wpAny _ _ (Builtin.Tuple.tupleItemsOf (.ref t) >>= _) _ _ s
  refine wpAny_bind (tupleItemsOf_ ht ?_)
  refine wpAny_bind (wpAny_typeOf hTs ?_)
  rw [if_pos (by decide)]
  refine wpAny_bind (applied_step hs pl ps hk ha ?_)
  show wpAny _ _ (if (((a : Nat) : Int) == 0 && ((k : Nat) : Int) == 1 && (if a < items.size then (items.size - a - 1) / k + 1 else 0) == items.size) = true then _ else _) _ _ s
  by_cases whole : a = 0 ∧ k = 1
  · obtain ⟨rfl, rfl⟩ := whole
    have hyes : ((((0 : Nat) : Nat) : Int) == 0 && ((1 : Nat) : Int) == 1 && (if 0 < items.size then (items.size - 0 - 1) / 1 + 1 else 0) == items.size) = true := by
      have : (if 0 < items.size then (items.size - 0 - 1) / 1 + 1 else 0) = items.size := by
        split
        · rw [Nat.div_one]; omega
        · omega
      rw [this]
      simp
    rw [if_pos hyes]
    refine wpAny_bind ?_
    show wpAny _ _ (typeOf (.ref t) >>= fun T => pure (T == .type "tuple")) _ _ s
    refine wpAny_bind (wpAny_typeOf ht.typeIs (wpAny_pure ?_))
    first
      | rw [if_pos (by decide)]
      | simp only [beq_self_eq_true, if_true]
    first
      | exact wpAny_bind (wpAny_rule (wpAny_pure ⟨_, rfl, wpAny_pure (h1 ⟨rfl, rfl⟩)⟩))
      | exact wpAny_bind (wpAny_rule (wpAny_bind (wpAny_pure (wpAny_pure ⟨_, rfl, wpAny_pure (h1 ⟨rfl, rfl⟩)⟩))))
  · have hno : ¬ ((((a : Nat) : Int) == 0 && ((k : Nat) : Int) == 1 && (if a < items.size then (items.size - a - 1) / k + 1 else 0) == items.size) = true) := by
      intro q
      rw [Bool.and_eq_true, Bool.and_eq_true] at q
      have q1 : ((a : Nat) : Int) = 0 := eq_of_beq q.1.1
      have q2 : ((k : Nat) : Int) = 1 := eq_of_beq q.1.2
      exact whole ⟨by omega, by omega⟩
    rw [if_neg hno]
    have ep : ((List.range (if a < items.size then (items.size - a - 1) / k + 1 else 0)).filterMap fun (m : Nat) => items[((a : Int) + (m : Int) * (k : Int)).toNat]?).toArray = (everyV k a items.toList).toArray := by
      unfold everyV
      rw [Array.length_toList]
      have : (fun (m : Nat) => items[((a : Int) + (m : Int) * (k : Int)).toNat]?) = fun m => items.toList[a + m * k]? := by
        funext m
        have : ((a : Int) + (m : Int) * (k : Int)).toNat = a + m * k := by
          rw [← Int.natCast_mul, ← Int.natCast_add, Int.toNat_natCast]
        rw [this, Array.getElem?_toList]
      rw [this]
    rw [ep]
    have h := h2 whole
    first
      | exact wpAny_bind (m := Builtin.Tuple.tupleExact _) (wpAny_newObj_type (wpAny_pure ⟨_, rfl, wpAny_pure h⟩) htake)
      | exact wpAny_bind (m := Builtin.Tuple.tupleExact _) (wpAny_newObj_type (wpAny_bind (wpAny_pure (wpAny_pure ⟨_, rfl, wpAny_pure h⟩))) htake)
      | exact wpAny_bind (wpAny_bind (m := Builtin.Tuple.tupleExact _) (wpAny_newObj_type (wpAny_pure (wpAny_pure ⟨_, rfl, wpAny_pure h⟩)) htake))
      | exact wpAny_bind (wpAny_bind (m := Builtin.Tuple.tupleExact _) (wpAny_newObj_type (wpAny_pure ⟨_, rfl, wpAny_pure h⟩) htake))
end
theorem vals_every {xs : List V} {us : List Value} (r : Vals xs us) (k a : Nat) : Vals (everyV k a xs) (everyV k a us) := by
  unfold everyV
  rw [r.length]
  generalize List.range (if a < us.length then (us.length - a - 1) / k + 1 else 0) = l
  induction l with
  | nil => exact .nil
  | cons m t ih =>
    rw [List.filterMap_cons, List.filterMap_cons]
    cases hx : xs[a + m * k]? with
    | none =>
      have : us[a + m * k]? = none := List.getElem?_eq_none (by rw [← r.length]; exact List.getElem?_eq_none_iff.mp hx)
      rw [this]
      exact ih
    | some x =>
      obtain ⟨u, hu, ru⟩ := r.get hx
      rw [hu]
      exact .cons ru ih
section
variable {X : Cx} {e f g : PySem.Expr} {te tf tg : TE} {p3 pos : Pos}
def tStepT (K : PySem.W.Frag) (te tf tg : TE) : TE := fun σ H Q => te σ H fun x H1 => tPart tf σ H1 fun o H2 => tPart tg σ H2 fun o2 H3 => ∃ (p : Addr) (xs : List V) (a k : Nat), x = .ref p ∧ o = some (a : Int) ∧ o2 = some (k : Int) ∧ SqT K H3 p xs ∧ 1 ≤ k ∧ a ≤ xs.length ∧
  (a = 0 ∧ k = 1 → Q (.ref p) H3) ∧ (¬ (a = 0 ∧ k = 1) → ∀ q, H3 q = none → Q (.ref q) (upd H3 q (.tup (everyV k a xs))))
theorem pe_stepT (he : PE X e te) (hf : PE X f tf) (hg : PE X g tg) : PE X (.Subscript e (.Slice (some f) none (some g) p3) pos) (tStepT X.K te tf tg) := by
  refine ⟨fun pins s σ H Q I h => ?_⟩
  refine Subscript_ (thn (he.run pins s σ H _ I h) fun v s1 ⟨x, H1, I1, r1, q1⟩ => ?_)
  refine wpAny_Slice (thn ((po_some hf).run pins s1 σ H1 _ I1 q1) fun vl s2 ⟨o1, H2, I2, pl, q2⟩ => ?_)
  refine thn (po_none.run pins s2 σ H2 (fun o H3 => o = none ∧ H3 = H2) I2 ⟨rfl, rfl⟩) fun vu s3 ⟨u, H3, I3, pu, eu, e3⟩ => ?_
  subst eu e3
  refine thn ((po_some hg).run pins s3 σ H3 _ I3 q2) fun vs s4 ⟨o2, H4, I4, ps, p, xs, a, k, ex, e1, e2, hx, hk, ha, c1, c2⟩ => ?_
  subst ex e1 e2
  cases r1
  cases pu
  have I5 : Inv X pins σ H4 { s4 with heap := s4.heap.push { cls := .type "slice", data := .fields #[vl, .none, vs] } } := I4.kept (t' := s4.toks) fun b ob q => Heap.get?_push_of_some _ q
  obtain ⟨its, r, ht, hz⟩ := I5.tuple hx
  have hlen := r.length
  show wpAny (model X.prog X.w) X.A (subscriptTail e (.Slice (some f) none (some g) p3) (.ref p) (.ref s4.heap.objs.size)) (EP X pins σ Q) X.xe { s4 with heap := s4.heap.push { cls := .type "slice", data := .fields #[vl, .none, vs] } }
  refine tail_any (ops := [.ref p, .ref s4.heap.objs.size]) ht.typeIs (PyProof.Rows.slot_tuple_getitem.lookup) ?_ (by with_unfolding_all rfl)
  refine getItem_tuple_step ht (Heap.IsSliceOf.new _ vl .none vs) pl ps hk (by rw [List.size_toArray, ← hlen]; exact ha) (fun c => ⟨.ref p, H4, I5, rfl, c1 c⟩) (fun c => ?_) (by rw [List.size_toArray]; omega)
  have rr := vals_every r k a
  have few : (everyV k a xs).length ≤ xs.length := by
    unfold everyV
    refine Nat.le_trans (List.length_filterMap_le _ _) ?_
    rw [List.length_range]
    split
    · have : (xs.length - a - 1) / k ≤ xs.length - a - 1 := Nat.div_le_self _ _
      omega
    · omega
  refine ⟨.ref _, _, I5.laid (t' := s4.toks) (o := .tup (everyV k a xs)) (fun b ob q => Heap.get?_push_of_some _ q) (Nat.le_refl _) (show ObjOk X.prog X.w _ _ _ (.tup (everyV k a xs)) from ⟨Nat.le_trans few hz, everyV k a its, rr, IsTup.new _ _⟩), rfl, c2 c _ (I5.hok.fresh (Nat.le_refl _))⟩
def tStepL (K : PySem.W.Frag) (te tg : TE) : TE := fun σ H Q => te σ H fun x H1 => tPart tg σ H1 fun o H2 => ∃ (p : Addr) (xs : List V) (back : Bool), x = .ref p ∧ o = some (if back then -1 else 1) ∧ SqL K H2 p xs ∧ ∀ q, H2 q = none → Q (.ref q) (upd H2 q (.lst (if back then xs.reverse else xs)))
theorem pick_one (items : Array Value) : slicePick items none none (some 1) = items.toList.toArray := by
  unfold slicePick
  show ((sliceRange 0 (items.size : Int) 1).filterMap (items[·]?)).toArray = _
  have e : sliceRange 0 (items.size : Int) 1 = List.range items.size := by
    unfold sliceRange
    have h1 : (if (1 : Int) > 0 then (if (0 : Int) < (items.size : Int) then ((items.size : Int) - 0 + 1 - 1) / 1 else 0) else (if (0 : Int) > (items.size : Int) then (0 - (items.size : Int) - 1 - 1) / (-1) else 0)) = (items.size : Int) := by
      rw [if_pos (by decide)]
      split
      · rw [Int.ediv_one]; omega
      · omega
    dsimp only
    rw [h1, Int.toNat_natCast]
    have : (fun (k : Nat) => ((0 : Int) + 1 * (k : Int)).toNat) = id := by
      funext k
      show ((0 : Int) + 1 * (k : Int)).toNat = k
      omega
    rw [this, List.map_id]
  rw [e, PySem.W.krv_all]
theorem pe_stepL (he : PE X e te) (hg : PE X g tg) : PE X (.Subscript e (.Slice none none (some g) p3) pos) (tStepL X.K te tg) := by
  refine ⟨fun pins s σ H Q I h => ?_⟩
  refine Subscript_ (thn (he.run pins s σ H _ I h) fun v s1 ⟨x, H1, I1, r1, q1⟩ => ?_)
  refine wpAny_Slice (thn (po_none.run pins s1 σ H1 (fun o H2 => o = none ∧ H2 = H1) I1 ⟨rfl, rfl⟩) fun vl s2 ⟨l, H2, I2, pl, el, e2⟩ => ?_)
  subst el e2
  refine thn (po_none.run pins s2 σ H2 (fun o H3 => o = none ∧ H3 = H2) I2 ⟨rfl, rfl⟩) fun vu s3 ⟨u, H3, I3, pu, eu, e3⟩ => ?_
  subst eu e3
  refine thn ((po_some hg).run pins s3 σ H3 _ I3 q1) fun vs s4 ⟨o, H4, I4, ps, p, xs, back, ex, eo, hx, q⟩ => ?_
  subst ex eo
  cases r1
  have I5 : Inv X pins σ H4 { s4 with heap := s4.heap.push { cls := .type "slice", data := .fields #[vl, vu, vs] } } := I4.kept (t' := s4.toks) fun b ob q => Heap.get?_push_of_some _ q
  obtain ⟨its, r, ht, hz⟩ := I5.list hx
  have hlen := r.length
  show wpAny (model X.prog X.w) X.A (subscriptTail e (.Slice none none (some g) p3) (.ref p) (.ref s4.heap.objs.size)) (EP X pins σ Q) X.xe { s4 with heap := s4.heap.push { cls := .type "slice", data := .fields #[vl, vu, vs] } }
  refine tail_any (ops := [.ref p, .ref s4.heap.objs.size]) ht.isList.typeIs (PySem.slot_list_getitem.lookup) ?_ (by with_unfolding_all rfl)
  refine wpAny_getItem_list_slice ht.isList (Heap.IsSliceOf.new _ vl vu vs) pl pu ps (by cases back <;> decide) ?_ (by rw [List.size_toArray]; omega)
  cases back with
  | true =>
    rw [if_pos rfl] at q ⊢
    rw [PySem.W.krv_pick]
    refine ⟨.ref _, _, I5.laid (t' := s4.toks) (o := .lst xs.reverse) (fun b ob q => Heap.get?_push_of_some _ q) (Nat.le_refl _) ?_, rfl, q _ (I5.hok.fresh (Nat.le_refl _))⟩
    exact ⟨by rw [List.length_reverse]; exact hz, _, 0, r.reverse, Heap.get?_push_size _ rfl⟩
  | false =>
    rw [if_neg (by decide)] at q ⊢
    rw [pick_one]
    refine ⟨.ref _, _, I5.laid (t' := s4.toks) (o := .lst xs) (fun b ob q => Heap.get?_push_of_some _ q) (Nat.le_refl _) ?_, rfl, q _ (I5.hok.fresh (Nat.le_refl _))⟩
    exact ⟨hz, _, 0, r, Heap.get?_push_size _ rfl⟩
end
theorem everyV_map {α β : Type} (f : α → β) (k a : Nat) (xs : List α) : everyV k a (xs.map f) = (everyV k a xs).map f := by
  unfold everyV
  rw [List.length_map]
  generalize List.range (if a < xs.length then (xs.length - a - 1) / k + 1 else 0) = l
  induction l with
  | nil => rfl
  | cons m t ih =>
    rw [List.filterMap_cons, List.filterMap_cons, List.getElem?_map]
    cases xs[a + m * k]? with
    | none => exact ih
    | some x => rw [Option.map_some, List.map_cons, ih]

theorem perm_nodup {α : Type} [DecidableEq α] : ∀ {xs ys : List α}, xs.Nodup → ys.Nodup → (∀ a, a ∈ xs ↔ a ∈ ys) → xs.Perm ys
  | [], ys, _, _, h => by
    cases ys with
    | nil => exact .nil
    | cons y r => exact absurd ((h y).mpr List.mem_cons_self) (by simp)
  | x :: r, ys, n1, n2, h => by
    have hx : x ∈ ys := (h x).mp List.mem_cons_self
    rw [List.nodup_cons] at n1
    have p := List.perm_cons_erase hx
    have n3 : (ys.erase x).Nodup := n2.erase x
    refine (List.Perm.cons x (perm_nodup n1.2 n3 fun a => ?_)).trans p.symm
    rw [n2.mem_erase_iff]
    constructor
    · intro ha
      exact ⟨fun e => n1.1 (by rw [← e]; exact ha), (h a).mp (List.mem_cons_of_mem _ ha)⟩
    · rintro ⟨ne, ha⟩
      exact (List.mem_cons.mp ((h a).mpr ha)).resolve_left ne
theorem prd_perm {α β : Type} {F : α → β → Prop} {as cs : List α} (p : as.Perm cs) : ∀ {bs : List β}, Paired F as bs → ∃ ds, bs.Perm ds ∧ Paired F cs ds := by
  induction p with
  | nil => intro bs h; cases h; exact ⟨[], .nil, .nil⟩
  | cons x _ ih =>
    intro bs h
    cases h with
    | cons r t =>
    obtain ⟨ds, h1, h2⟩ := ih t
    exact ⟨_ :: ds, h1.cons _, .cons r h2⟩
  | swap x y l =>
    intro bs h
    cases h with
    | cons r t =>
    cases t with
    | cons r2 t =>
    exact ⟨_ :: _ :: _, .swap _ _ _, .cons r2 (.cons r t)⟩
  | trans _ _ ih1 ih2 =>
    intro bs h
    obtain ⟨d1, p1, h1⟩ := ih1 h
    obtain ⟨d2, p2, h2⟩ := ih2 h1
    exact ⟨d2, p1.trans p2, h2⟩
def RowsB (n : Nat) (xs : List NRow) (keys : List (Nat × List Nat)) : Prop := Paired (fun (x : NRow) (key : Nat × List Nat) => x.1 = keyN key.1 key.2 ∧ ∃ v : Nat, v < n ∧ x.2.2 = nI v) xs keys
theorem rows_fun {n : Nat} : ∀ {xs : List NRow} {keys : List (Nat × List Nat)}, RowsB n xs keys → keys.Nodup → ∃ fs : Nat → List Nat → Nat, RowsJ xs keys fs ∧ ∀ key ∈ keys, fs key.1 key.2 < n
  | _, _, .nil, _ => ⟨fun _ _ => 0, .nil, fun _ h => by cases h⟩
  | x :: xs, (c, row) :: keys, .cons ⟨e1, v, hv, e2⟩ t, nd => by
    rw [List.nodup_cons] at nd
    obtain ⟨fs, h1, h2⟩ := rows_fun t nd.2
    have same : ∀ {xs : List NRow} {ks : List (Nat × List Nat)}, RowsJ xs ks fs → (∀ k ∈ ks, k ∈ keys) → RowsJ xs ks (fun c' r' => if (c', r') = (c, row) then v else fs c' r') := by
      intro xs ks h
      induction h with
      | nil => intro _; exact .nil
      | @cons x1 k1 _ _ r _ ih =>
        intro hk
        refine .cons ⟨r.1, ?_⟩ (ih fun k h => hk k (List.mem_cons_of_mem _ h))
        have ne : ¬ ((k1.1, k1.2) = (c, row)) := fun e => nd.1 (by rw [← e]; exact hk k1 List.mem_cons_self)
        show x1.2.2 = nI (if (k1.1, k1.2) = (c, row) then v else fs k1.1 k1.2)
        rw [if_neg ne]
        exact r.2
    refine ⟨fun c' r' => if (c', r') = (c, row) then v else fs c' r', .cons ⟨e1, ?_⟩ (same h1 fun _ h => h), fun key hk => ?_⟩
    · show x.2.2 = nI (if (c, row) = (c, row) then v else fs c row)
      rw [if_pos rfl]
      exact e2
    · show (if (key.1, key.2) = (c, row) then v else fs key.1 key.2) < n
      split
      · exact hv
      · rename_i ne
        exact h2 key ((List.mem_cons.mp hk).resolve_left ne)
theorem atN_isb {n : Nat} {c : Nat} {row : List Nat} : ∀ {xs : List NRow} {keys : List (Nat × List Nat)}, RowsB n xs keys → (c, row) ∈ keys → ∃ v : Nat, v < n ∧ atN xs (keyN c row) = some (nI v)
  | _, _, .nil, h => by cases h
  | x :: xs, (c', row') :: keys, .cons r t, h => by
    obtain ⟨e1, v, hv, e2⟩ := r
    by_cases e : (c', row') = (c, row)
    · cases e
      exact ⟨v, hv, by simp [atN, e1, e2]⟩
    · have hm : (c, row) ∈ keys := (List.mem_cons.mp h).resolve_left fun z => e z.symm
      have ne : ¬ x.1 = keyN c row := fun z => e (by
        obtain ⟨a, b⟩ := keyN_inj (e1.symm.trans z)
        dsimp only at a b
        rw [a, b])
      have : atN (x :: xs) (keyN c row) = atN xs (keyN c row) := by simp [atN, List.find?_cons, ne]
      rw [this]
      exact atN_isb t hm
theorem storedN_old {n : Nat} {c v : Nat} {row : List Nat} {b : Addr} (hv : v < n) {xs : List NRow} {keys : List (Nat × List Nat)} (h : RowsB n xs keys) (hm : (c, row) ∈ keys) : RowsB n (storedN xs (keyN c row) b (nI v)) keys ∧ (storedN xs (keyN c row) b (nI v)).map (fun x => x.2.1) = xs.map fun x => x.2.1 := by
  obtain ⟨v0, _, e0⟩ := atN_isb h hm
  unfold storedN
  rw [e0, Option.isSome_some, if_pos rfl]
  constructor
  · have : ∀ {xs : List NRow} {ks : List (Nat × List Nat)}, RowsB n xs ks → RowsB n (xs.map fun x => if x.1 = keyN c row then (x.1, x.2.1, nI v) else x) ks := by
      intro xs ks h
      induction h with
      | nil => exact .nil
      | @cons x1 k1 _ _ r _ ih =>
        refine .cons ?_ ih
        dsimp only
        split
        · exact ⟨r.1, v, hv, rfl⟩
        · exact r
    exact this h
  · rw [List.map_map]
    refine List.map_congr_left fun x _ => ?_
    show (if x.1 = keyN c row then (x.1, x.2.1, nI v) else x).2.1 = x.2.1
    split <;> rfl
theorem keys_len {n : Nat} {xs : List NRow} {keys : List (Nat × List Nat)} (h : RowsB n xs keys) : xs.length = keys.length := Paired.length h
def keysC (L : Str) (n k : Nat) : List (Nat × List Nat) := (rowsTo n k).flatMap fun r => L.cps.toList.map fun c => (c, r)
theorem keysC_mem {L : Str} {n k c : Nat} {r : List Nat} : (c, r) ∈ keysC L n k ↔ (c, r) ∈ keysOf L n k := by
  simp only [keysC, keysOf, List.mem_flatMap, List.mem_map, Prod.mk.injEq]
  constructor
  · rintro ⟨r0, h1, c0, h2, rfl, rfl⟩
    exact ⟨c0, h2, r0, h1, rfl, rfl⟩
  · rintro ⟨c0, h2, r0, h1, rfl, rfl⟩
    exact ⟨r0, h1, c0, h2, rfl, rfl⟩
theorem nodup_flat {α β : Type} {f : α → List β} {g : β → α} (hg : ∀ a b, b ∈ f a → g b = a) (hf : ∀ a, (f a).Nodup) : ∀ {l : List α}, l.Nodup → (l.flatMap f).Nodup
  | [], _ => by simp
  | a :: r, nd => by
    rw [List.nodup_cons] at nd
    rw [List.flatMap_cons, List.nodup_append]
    refine ⟨hf a, nodup_flat hg hf nd.2, fun x h1 y h2 e => ?_⟩
    subst e
    obtain ⟨a2, m2, h3⟩ := List.mem_flatMap.mp h2
    have := (hg a x h1).symm.trans (hg a2 x h3)
    exact nd.1 (by rw [this]; exact m2)
theorem nodup_map {α β : Type} {f : α → β} (hf : ∀ a b, f a = f b → a = b) : ∀ {l : List α}, l.Nodup → (l.map f).Nodup
  | [], _ => by simp
  | a :: r, nd => by
    rw [List.nodup_cons] at nd
    rw [List.map_cons, List.nodup_cons]
    refine ⟨fun h => ?_, nodup_map hf nd.2⟩
    obtain ⟨b, hb, e⟩ := List.mem_map.mp h
    exact nd.1 (by rw [← hf b a e]; exact hb)
theorem keysC_nd {L : Str} (hL : Rises L) (n k : Nat) : (keysC L n k).Nodup :=
  nodup_flat (g := fun p => p.2) (fun a b h => by obtain ⟨c, _, rfl⟩ := List.mem_map.mp h; rfl) (fun a => nodup_map (fun x y e => by cases e; rfl) (hL.imp fun h => Nat.ne_of_lt h)) (rowsTo_nd k n)
theorem keysC_perm {L : Str} (hL : Rises L) (n k : Nat) : (keysC L n k).Perm (keysOf L n k) := perm_nodup (keysC_nd hL n k) (keysOf_nd hL n k) fun (_, _) => keysC_mem
theorem atN_self {row : NRow} : ∀ {xs : List NRow}, (xs.map (·.1)).Nodup → row ∈ xs → atN xs row.1 = some row.2.2
  | [], _, h => by cases h
  | x :: r, nd, h => by
    rw [List.map_cons, List.nodup_cons] at nd
    rcases List.mem_cons.mp h with e | h
    · rw [e]
      simp [atN]
    · have ne : ¬ x.1 = row.1 := fun e => nd.1 (List.mem_map.mpr ⟨row, h, e.symm⟩)
      have : atN (x :: r) row.1 = atN r row.1 := by simp [atN, List.find?_cons, ne]
      rw [this]
      exact atN_self nd.2 h
theorem rowsB_nd {n : Nat} : ∀ {xs : List NRow} {keys : List (Nat × List Nat)}, RowsB n xs keys → keys.Nodup → (xs.map (·.1)).Nodup
  | _, _, .nil, _ => by simp
  | x :: xs, key :: keys, .cons ⟨e, _⟩ t, nd => by
    rw [List.nodup_cons] at nd
    rw [List.map_cons, List.nodup_cons]
    refine ⟨fun h => ?_, rowsB_nd t nd.2⟩
    obtain ⟨y, hy, e1⟩ := List.mem_map.mp h
    obtain ⟨k2, hk2, e2, _⟩ := prd_mem t hy
    have e3 := e2.symm.trans (e1.trans e)
    obtain ⟨a, b⟩ := keyN_inj e3
    exact nd.1 (by rw [show key = k2 from Prod.ext a.symm b.symm]; exact hk2)

def revS (z : Str) : Str := ⟨z.cps.toList.reverse.toArray⟩
def tRevS (te : TE) : TE := fun σ H Q => te σ H fun x H1 => ∃ z : Str, x = .str z ∧ z.length ≤ sizeLine ∧ Q (.str (revS z)) H1
theorem pe_revS {X : Cx} {e : PySem.Expr} {te : TE} {k : Nat} {p1 p2 p3 pos : Pos} (he : PE X e te) : PE X (.Subscript e (.Slice none none (some (.UnaryOp .USub (.Constant (.int 1) k p1) p2)) p3) pos) (tRevS te) := by
  refine ⟨fun pins s σ H Q I h => ?_⟩
  refine Subscript_ (thn (he.run pins s σ H _ I h) fun v s1 ⟨x, H1, I1, r1, z, ex, hz, q⟩ => ?_)
  subst ex
  obtain ⟨t, rfl⟩ := r1
  have step : PO X (some (.UnaryOp .USub (.Constant (.int 1) k p1) p2)) (tPart (tUn (rU fun i => .int (-i)) (tC (.int 1)))) := po_some (pe_un un_neg pe_int)
  refine wpAny_Slice (thn (po_none.run pins s1 σ H1 (fun o H2 => o = none ∧ H2 = H1) I1 ⟨rfl, rfl⟩) fun v1 s2 ⟨o1, H2, I2, g1, f1, f2⟩ => ?_)
  subst f1 f2
  refine thn (po_none.run pins s2 σ H2 (fun o H3 => o = none ∧ H3 = H2) I2 ⟨rfl, rfl⟩) fun v2 s3 ⟨o2, H3, I3, g2, f3, f4⟩ => ?_
  subst f3 f4
  refine thn (step.run pins s3 σ H3 (fun o H4 => o = some (-1) ∧ H4 = H3) I3 ⟨1, rfl, -1, rfl, rfl, rfl⟩) fun v3 s4 ⟨o3, H4, I4, g3, f5, f6⟩ => ?_
  subst f5 f6
  obtain ⟨l, rfl, el⟩ := IsPart.raw g1
  obtain ⟨u, rfl, eu⟩ := IsPart.raw g2
  obtain ⟨st, rfl, es⟩ := IsPart.raw g3
  have I5 : Inv X pins σ H4 { s4 with heap := s4.heap.push { cls := .type "slice", data := .fields #[partValue l, partValue u, partValue st] } } := I4.kept (t' := s4.toks) fun b ob q => Heap.get?_push_of_some _ q
  show wpAny (model X.prog X.w) X.A (subscriptTail e (.Slice none none (some (.UnaryOp .USub (.Constant (.int 1) k p1) p2)) p3) (.str z t) (.ref s4.heap.objs.size)) (EP X pins σ Q) X.xe { s4 with heap := s4.heap.push { cls := .type "slice", data := .fields #[partValue l, partValue u, partValue st] } }
  refine tail_any (ops := [.str z t, .ref s4.heap.objs.size]) (typeIs_str _ _ _) PySem.F.slot_str_getitem.lookup ?_ (by with_unfolding_all rfl)
  refine wpAny_getItem_str_slice (l := l) (u := u) (st := st) ⟨_, Heap.get?_push_size _ rfl, rfl, rfl⟩ (by rw [es]; rfl) ?_
  have ep : slicePicked z l u st = (List.range z.length).reverse := by
    unfold slicePicked
    rw [el, eu, es]
    show Builtin.Str.strSliceIndices none none (-1) z.length = _
    rw [PyProof.Rows.picked_rev, PySem.W.krv_range]
  have em : sliceMade z t l u st = .str (revS z) := by
    unfold sliceMade
    rw [es, ep, if_neg (by simp), List.filterMap_reverse]
    have e : (List.range z.length).filterMap (z.cps[·]?) = z.cps.toList := PySem.W.krv_all z.cps
    rw [e]
    rfl
  rw [em]
  have hl : (revS z).length ≤ sizeLine := by
    show (z.cps.toList.reverse.toArray).size ≤ sizeLine
    rw [List.size_toArray, List.length_reverse, Array.length_toList]
    exact hz
  exact ⟨hl, .str _, H4, I5.tok _, ⟨_, rfl⟩, q⟩

def rSumT (K : PySem.W.Frag) : List V → Hp → VK → Prop := fun vs H Q => ∃ (a : Addr) (ns : List Int), vs = [V.ref a] ∧ SqT K H a (ns.map V.int) ∧ Q (.int ns.sum) H
theorem cr_sumT {X : Cx} (hc : X.calm = true) : CallR X (.builtin "sum") (rSumT X.K) := by
  intro pins s σ H vs us Q I r h
  obtain ⟨a, ns, rfl, hs, q⟩ := h
  obtain ⟨its, rv, ht, _⟩ := I.tuple hs
  rw [Vals.ref1 r]
  obtain ⟨xs, e⟩ := rv.ints.allInts.items
  have hn : numsOf (intItems xs).toList = ns := by rw [← e]; exact rv.ints.numsOf
  rw [nums_intItems] at hn
  rw [e] at ht
  have hlt : a < s.heap.objs.size := ht.lt
  refine call_sum_walkG (wpAny_pyIter_tuple ht ?_)
  refine ⟨s.heap.objs.size, _, _, _, _, _, numAt xs, rfl, Walks.tuple (A := X.A.in1) (I.ok.hd hc) _ a (Nat.ne_of_lt hlt) (intItems xs), ⟨⟨_, Heap.get?_push_size _ rfl, rfl, rfl⟩, (let ⟨o, e, r⟩ := ht; ⟨o, Heap.get?_push_of_some _ e, r⟩)⟩, fun b hb => ?_, (fun _ _ => intItems_at), fun h' tk t' hk => ?_⟩
  · show b < (s.heap.push _).objs.size
    rw [Heap.size_push]
    rcases List.mem_cons.mp hb with rfl | hb
    · exact Nat.lt_succ_self _
    · rcases List.mem_cons.mp hb with rfl | hb
      · exact Nat.lt_succ_of_lt hlt
      · cases hb
  · refine ⟨.int _, H, I.kept (t' := tk) fun b o e => hk b o (fun z => ?_) (Heap.get?_push_of_some _ e), ?_, q⟩
    · rw [List.mem_singleton.mp z] at e
      exact absurd (Heap.lt_size e) (Nat.lt_irrefl _)
    · refine ⟨t', ?_⟩
      have : (intItems xs).size = xs.size := by simp [intItems]
      rw [this, preSum_eq, List.take_of_length_le (by simp), hn]


def sp__law_power : Sp := fun vs H Q _ => ∃ (b n : Nat), vs = [nI b, nI n] ∧ b ≤ 20 ∧ n ≤ 6 ∧ Q (nI (b ^ n)) H
section
variable {P : Program} {w : World} {K : PySem.W.Frag} {mg : Str → Option Value} {base : Heap}
theorem ok__law_power (T : Txt K mg) : FnOk P w K mg base CX0 1 T.f__law_power T.d__law_power ["base", "many"] sp__law_power := by
  refine T.F__law_power.ok sc__law_power (fun vs H Q E h => ?_) (fun cdv A outer s H vs Q E hr h => ?_)
  · obtain ⟨b, n, rfl, _⟩ := h
    rfl
  obtain ⟨b, n, rfl, b20, n6, q⟩ := h
  refine ⟨_, (pss_cons (ps_set (i := 2) sc__law_power.nd rfl (Or.inl rfl) pe_int) (pss_cons (ps_for PassesOwn.never rfl (pi_range1 (by rfl) T.z_range (pa_cons (pv 1) pa_nil)) (pg_name (i := 3) sc__law_power.nd rfl (Or.inl rfl)) (pss_one (ps_set (i := 2) sc__law_power.nd rfl (Or.inl rfl) (pe_op op_mul (pv 2) (pv 0))))) (pss_one (ps_ret (pv 2))))), ?_⟩
  refine ⟨_, rfl, n, rfl, by omega, by omega, for_range (lo := 0) (n := n) (fun i σ H' => ∃ (z : Int) (y3 : Option V), z = ((b ^ i : Nat) : Int) ∧ σ = [some (nI b), some (nI n), some (.int z), y3] ∧ H' = H) ⟨1, _, rfl, rfl, rfl⟩ ?_ ?_⟩
  · rintro i σ H' hi ⟨_, y3, rfl, rfl, rfl⟩
    refine ⟨_, rfl, _, rfl, _, _, rfl, rfl, .inr ⟨by omega, by omega⟩, _, _, ?_, rfl, rfl⟩
    rw [Nat.pow_succ]
    push_cast
    rfl
  · rintro σ H' ⟨_, y3, rfl, rfl, rfl⟩
    exact ⟨_, rfl, q⟩
def IxL (L : Str) : Prop := L.cps.toList.all (fun c => !(Builtin.Str.occurrences L (ch c) 0 L.length 1).isEmpty) = true
theorem IxL.find {L : Str} (h : IxL L) {c : Nat} (hc : c ∈ L.cps.toList) : ∃ i rest, Builtin.Str.occurrences L (ch c) 0 L.length 1 = i :: rest := by
  have := List.all_eq_true.mp h c hc
  cases e : Builtin.Str.occurrences L (ch c) 0 L.length 1 with
  | nil => rw [e] at this; cases this
  | cons i rest => exact ⟨i, rest, rfl⟩
def sp__law_sizes : Sp := fun vs H Q _ => ∃ (p : Addr) (m : Nat), vs = [.ref p] ∧ Pool H p m ∧ m + 100 < 1000000 ∧ ∀ r L n few turn H', Fr p H H' → Pool H' p (m + 20) → H' r = some (.lst [.str L, nI n, nI few, nI turn]) → Lets L → Rises L → IxL L → 1 ≤ n → n ≤ 6 → few ≤ 4 → 1 ≤ turn → turn ≤ 4 → L.length * (few + turn) ^ n ≤ 600 → Q (.ref r) H'
theorem ok__law_sizes (T : Txt K mg) : FnOk P w K mg base CX0 2 T.f__law_sizes T.d__law_sizes ["pool"] sp__law_sizes := by
  have G__law_take : FnOk P w K mg base CX0 1 T.f__law_take T.d__law_take ["pool", "many"] sp__law_take := ok__law_take T
  have G__law_power : FnOk P w K mg base CX0 1 T.f__law_power T.d__law_power ["base", "many"] sp__law_power := ok__law_power T
  refine T.F__law_sizes.ok sc__law_sizes (fun vs H Q E h => ?_) (fun cdv A outer s H vs Q E hr h => ?_)
  · obtain ⟨p, m, rfl, _⟩ := h
    rfl
  obtain ⟨p, m, rfl, hp, hm, q⟩ := h
  refine ⟨_, (pss_cons (ps_set (i := 1) sc__law_sizes.nd rfl (Or.inl rfl) (pe_ix ix_list (pe_lst (pa_cons pe_str (pa_cons pe_str (pa_cons pe_str (pa_cons pe_str (pa_cons pe_str (pa_cons pe_str (pa_cons pe_str pa_nil)))))))) (pe_call G__law_take (hr.mono (by omega)) (by rfl) T.m__law_take T.F__law_take.kp T.b__law_take .nil pass0 (pa_cons (pv 0) (pa_cons pe_int pa_nil))) (fun _ _ => rfl))) (pss_cons (ps_set (i := 2) sc__law_sizes.nd rfl (Or.inl rfl) (pe_op op_add pe_int (pe_ix ix_list (pe_lst (pa_cons (pe_call G__law_take (hr.mono (by omega)) (by rfl) T.m__law_take T.F__law_take.kp T.b__law_take .nil pass0 (pa_cons (pv 0) (pa_cons pe_int pa_nil))) (pa_cons (pe_call G__law_take (hr.mono (by omega)) (by rfl) T.m__law_take T.F__law_take.kp T.b__law_take .nil pass0 (pa_cons (pv 0) (pa_cons pe_int pa_nil))) pa_nil))) (pe_call G__law_take (hr.mono (by omega)) (by rfl) T.m__law_take T.F__law_take.kp T.b__law_take .nil pass0 (pa_cons (pv 0) (pa_cons pe_int pa_nil))) (fun _ _ => rfl)))) (pss_cons (ps_set (i := 3) sc__law_sizes.nd rfl (Or.inl rfl) (pe_call G__law_take (hr.mono (by omega)) (by rfl) T.m__law_take T.F__law_take.kp T.b__law_take .nil pass0 (pa_cons (pv 0) (pa_cons pe_int pa_nil)))) (pss_cons (ps_set (i := 4) sc__law_sizes.nd rfl (Or.inl rfl) (pe_op op_add pe_int (pe_call G__law_take (hr.mono (by omega)) (by rfl) T.m__law_take T.F__law_take.kp T.b__law_take .nil pass0 (pa_cons (pv 0) (pa_cons pe_int pa_nil))))) (pss_cons (ps_while PassesOwn.never (pt_cmpR op_gt (pe_op op_mul (pe_callB call_len_str (by rfl) T.z_len PySem.boot_len (pa_cons (pv 1) pa_nil)) (pe_call G__law_power (hr.mono (by omega)) (by rfl) T.m__law_power T.F__law_power.kp T.b__law_power .nil pass0 (pa_cons (pe_op op_add (pv 3) (pv 4)) (pa_cons (pv 2) pa_nil)))) pe_int (nomark _)) (pss_one (ps_if (PW.pt (pw_and (pt_cmpR op_gt (pv 4) pe_int (nomark _)) (pw_and1 (pt_cmpR op_eq (pe_call G__law_take (hr.mono (by omega)) (by rfl) T.m__law_take T.F__law_take.kp T.b__law_take .nil pass0 (pa_cons (pv 0) (pa_cons pe_int pa_nil))) pe_int (nomark _))))) (pss_one (ps_set (i := 4) sc__law_sizes.nd rfl (Or.inl rfl) (pe_op op_sub (pv 4) pe_int))) (pss_one (ps_if (pt_cmpR op_gt (pv 3) pe_int (nomark _)) (pss_one (ps_set (i := 3) sc__law_sizes.nd rfl (Or.inl rfl) (pe_op op_sub (pv 3) pe_int))) (pss_one (ps_if (pt_cmpR op_gt (pv 4) pe_int (nomark _)) (pss_one (ps_set (i := 4) sc__law_sizes.nd rfl (Or.inl rfl) (pe_op op_sub (pv 4) pe_int))) (pss_one (ps_set (i := 1) sc__law_sizes.nd rfl (Or.inl rfl) (pe_slice sl_str (pv 1) po_none (po_some (pe_un un_neg pe_int)))))))))))) (pss_one (ps_ret (pe_lst (pa_cons (pv 1) (pa_cons (pv 2) (pa_cons (pv 3) (pa_cons (pv 4) pa_nil)))))))))))), ?_⟩
  refine ⟨(by show 7 ≤ sizeLine; decide), fun l hl => ?_⟩
  refine ⟨_, rfl, p, 7, m, rfl, hp.new hl, by omega, by decide, by decide, fun r H2 r0 r1 c2 p2 => ?_⟩
  have hl2 := c2.at upd_same (hp.ne' hl)
  have f2 : Fr p H H2 := ((Fr.refl p H).new hl).trans (Fr.chg c2)
  obtain ⟨L, hat, a1, a2, a3⟩ : ∃ L : Str, atI [V.str (Str.ofString "a"), V.str (Str.ofString "ab"), V.str (Str.ofString "xyz"), V.str (Str.ofString "abcd"), V.str (Str.ofString "kpqrz"), V.str (Str.ofString "abcdefghi"), V.str (Str.ofString "abcdefghijklmnopqrstuvwxyz")] r = some (V.str L) ∧ Lets L ∧ Rises L ∧ IxL L := by
    obtain rfl | rfl | rfl | rfl | rfl | rfl | rfl : r = 0 ∨ r = 1 ∨ r = 2 ∨ r = 3 ∨ r = 4 ∨ r = 5 ∨ r = 6 := by omega
    · exact ⟨_, at_of (j := 0) rfl rfl, by unfold Lets; decide +kernel, by unfold Rises; decide +kernel, by unfold IxL; decide +kernel⟩
    · exact ⟨_, at_of (j := 1) rfl rfl, by unfold Lets; decide +kernel, by unfold Rises; decide +kernel, by unfold IxL; decide +kernel⟩
    · exact ⟨_, at_of (j := 2) rfl rfl, by unfold Lets; decide +kernel, by unfold Rises; decide +kernel, by unfold IxL; decide +kernel⟩
    · exact ⟨_, at_of (j := 3) rfl rfl, by unfold Lets; decide +kernel, by unfold Rises; decide +kernel, by unfold IxL; decide +kernel⟩
    · exact ⟨_, at_of (j := 4) rfl rfl, by unfold Lets; decide +kernel, by unfold Rises; decide +kernel, by unfold IxL; decide +kernel⟩
    · exact ⟨_, at_of (j := 5) rfl rfl, by unfold Lets; decide +kernel, by unfold Rises; decide +kernel, by unfold IxL; decide +kernel⟩
    · exact ⟨_, at_of (j := 6) rfl rfl, by unfold Lets; decide +kernel, by unfold Rises; decide +kernel, by unfold IxL; decide +kernel⟩
  refine ⟨l, _, r, _, rfl, rfl, SqL.of hl2, hat, ?_⟩
  clear hl2 hat c2 r0 r1 hl
  refine ⟨_, rfl, p, 3, _, rfl, p2, by omega, by decide, by decide, fun x H3 x0 x1 c3 p3 => ⟨_, rfl, p, 6, _, rfl, p3, by omega, by decide, by decide, fun y H4 y0 y1 c4 p4 => ⟨(by show 2 ≤ sizeLine; decide), fun l2 hl2 => ?_⟩⟩⟩
  refine ⟨_, rfl, p, 2, _, rfl, p4.new hl2, by omega, by decide, by decide, fun z H5 z0 z1 c5 p5 => ?_⟩
  have hl5 := c5.at upd_same (p4.ne' hl2)
  have f5 : Fr p H2 H5 := (((Fr.chg c3).trans (Fr.chg c4)).trans ((Fr.refl p H4).new hl2)).trans (Fr.chg c5)
  obtain ⟨n, hat, n1, n6⟩ : ∃ n : Nat, (∃ u : Int, atI [V.int x, V.int y] z = some (V.int u) ∧ 1 + u = (n : Int)) ∧ 1 ≤ n ∧ n ≤ 6 := by
    obtain rfl | rfl : z = 0 ∨ z = 1 := by omega
    · exact ⟨(1 + x).toNat, ⟨x, at_of (j := 0) rfl rfl, by omega⟩, by omega, by omega⟩
    · exact ⟨(1 + y).toNat, ⟨y, at_of (j := 1) rfl rfl, by omega⟩, by omega, by omega⟩
  obtain ⟨u, hat, hu⟩ := hat
  refine ⟨l2, _, z, _, rfl, rfl, SqL.of hl5, hat, _, _, rfl, rfl, ?_⟩
  show gName 2 (.int (1 + u)) _ _ _
  rw [hu]
  clear hl5 hat c3 c4 c5 x0 x1 y0 y1 z0 z1 hl2 hu p2 p3 p4
  refine ⟨_, rfl, p, 5, _, rfl, p5, by omega, by decide, by decide, fun x H6 x0 x1 c6 p6 => ?_⟩
  obtain ⟨few, rfl⟩ : ∃ few : Nat, x = (few : Int) := ⟨x.toNat, by omega⟩
  refine ⟨_, rfl, p, 4, _, rfl, p6, by omega, by decide, by decide, fun y H7 y0 y1 c7 p7 => ⟨_, _, rfl, rfl, ?_⟩⟩
  obtain ⟨turn, hturn⟩ : ∃ turn : Nat, 1 + y = (turn : Int) := ⟨(1 + y).toNat, by omega⟩
  show gName 4 (.int (1 + y)) _ _ _
  rw [hturn]
  have f7 : Fr p H H7 := (f2.trans f5).trans ((Fr.chg c6).trans (Fr.chg c7))
  have l26 := a1.2.1
  have l1 := a1.1
  refine ⟨fun k σ H' => ∃ (a b : Int) (few turn o : Nat), a = (few : Int) ∧ b = (turn : Int) ∧ σ = [some (.ref p), some (.str L), some (nI n), some (.int a), some (.int b)] ∧ few ≤ 4 ∧ 1 ≤ turn ∧ turn ≤ 4 ∧ k = few + turn ∧ Pool H' p o ∧ o + few + turn ≤ m + 20 ∧ Fr p H H', ⟨_, _, _, few, turn, _, rfl, rfl, rfl, by omega, by omega, by omega, rfl, p7, by omega, f7⟩, ?_⟩
  rintro k σ H8 ⟨_, _, few, turn, o, rfl, rfl, rfl, f4, t1, t4, hk, p8, ho, f8⟩
  have ev : (few : Int) + (turn : Int) = ((few + turn : Nat) : Int) := by push_cast; rfl
  refine ⟨_, rfl, _, rfl, Nat.le_trans l26 (by decide), _, rfl, _, rfl, _, _, rfl, rfl, _, rfl, few + turn, n, congrArg (fun z => [V.int z, nI n]) ev, by omega, n6, _, _, rfl, rfl, .inl ⟨by omega, by omega⟩, _, _, rfl, rfl, _, rfl, ?_⟩
  have em : (L.length : Int) * (((few + turn) ^ n : Nat) : Int) = ((L.length * (few + turn) ^ n : Nat) : Int) := by push_cast; rfl
  by_cases big : 600 < L.length * (few + turn) ^ n
  · refine dT (by rw [em]; omega) ⟨fun σ2 H2 => ∃ m', m' < k ∧ ∃ (a b : Int) (few turn o : Nat), a = (few : Int) ∧ b = (turn : Int) ∧ σ2 = [some (.ref p), some (.str L), some (nI n), some (.int a), some (.int b)] ∧ few ≤ 4 ∧ 1 ≤ turn ∧ turn ≤ 4 ∧ m' = few + turn ∧ Pool H2 p o ∧ o + few + turn ≤ m + 20 ∧ Fr p H H2, fun σ2 H2 h => h, ?_⟩
    refine ⟨_, rfl, _, _, rfl, rfl, _, rfl, ?_⟩
    by_cases h1 : 1 < turn
    · refine dT (by omega) ⟨_, rfl, p, 2, o, rfl, p8, by omega, by decide, by decide, fun r H9 r0 r1 c9 p9 => ⟨rfl, _, rfl, ?_⟩⟩
      have f9 := f8.trans (Fr.chg c9)
      by_cases hr : r = 0
      · refine eqT (congrArg V.int hr) ⟨_, rfl, _, _, rfl, rfl, ?_⟩
        exact ⟨few + (turn - 1), by omega, _, _, few, turn - 1, _, rfl, by omega, rfl, f4, by omega, by omega, rfl, p9, by omega, f9⟩
      refine eqF (fun e => hr (V.int.inj e)) ?_
      refine ⟨_, rfl, _, _, rfl, rfl, _, rfl, ?_⟩
      by_cases h2 : 0 < few
      · refine dT (by omega) ⟨_, rfl, _, _, rfl, rfl, ?_⟩
        exact ⟨few - 1 + turn, by omega, _, _, few - 1, turn, _, by omega, rfl, rfl, by omega, t1, t4, rfl, p9, by omega, f9⟩
      refine dF (by omega) ⟨_, rfl, _, _, rfl, rfl, _, rfl, ?_⟩
      by_cases h3 : 1 < turn
      · refine dT (by omega) ⟨_, rfl, _, _, rfl, rfl, ?_⟩
        exact ⟨few + (turn - 1), by omega, _, _, few, turn - 1, _, rfl, by omega, rfl, f4, by omega, by omega, rfl, p9, by omega, f9⟩
      exfalso
      have e1 : few = 0 := by omega
      have e2 : turn = 1 := by omega
      rw [e1, e2, Nat.zero_add, Nat.one_pow] at big
      omega
    · refine dF (by omega) ?_
      refine ⟨_, rfl, _, _, rfl, rfl, _, rfl, ?_⟩
      by_cases h2 : 0 < few
      · refine dT (by omega) ⟨_, rfl, _, _, rfl, rfl, ?_⟩
        exact ⟨few - 1 + turn, by omega, _, _, few - 1, turn, _, by omega, rfl, rfl, by omega, t1, t4, rfl, p8, by omega, f8⟩
      refine dF (by omega) ⟨_, rfl, _, _, rfl, rfl, _, rfl, ?_⟩
      by_cases h3 : 1 < turn
      · refine dT (by omega) ⟨_, rfl, _, _, rfl, rfl, ?_⟩
        exact ⟨few + (turn - 1), by omega, _, _, few, turn - 1, _, rfl, by omega, rfl, f4, by omega, by omega, rfl, p8, by omega, f8⟩
      exfalso
      have e1 : few = 0 := by omega
      have e2 : turn = 1 := by omega
      rw [e1, e2, Nat.zero_add, Nat.one_pow] at big
      omega
  · refine dF (by rw [em]; omega) ⟨_, rfl, _, rfl, _, rfl, _, rfl, (by show 4 ≤ sizeLine; decide), fun r hr => ?_⟩
    have nr : r ≠ p := p8.ne' hr
    exact q r L n few turn _ (f8.trans ((Fr.refl p H8).new hr)) ((p8.new hr).mono (by omega)) upd_same a1 a2 a3 n1 n6 f4 t1 t4 (by omega)
end

theorem pick_every (items : Array Value) {lo : Option Int} {a k : Nat} (hl : (lo = none ∧ a = 0) ∨ lo = some (a : Int)) (hk : 1 ≤ k) (ha : a ≤ items.size) : slicePick items lo none (some (k : Int)) = (everyV k a items.toList).toArray := by
  have hb : sliceBounds lo none (some (k : Int)) items.size = ((a : Int), (items.size : Int), (k : Int)) := by
    rcases hl with ⟨rfl, rfl⟩ | rfl
    · unfold sliceBounds
      have h1 : (k : Int) > 0 := by omega
      simp [h1]
      exact ⟨fun h => by omega, by omega⟩
    · unfold sliceBounds
      have h1 : (k : Int) > 0 := by omega
      simp [h1]
      omega
  unfold slicePick everyV
  rw [hb, Array.length_toList]
  dsimp only
  have e : sliceRange (a : Int) (items.size : Int) (k : Int) = (List.range (if a < items.size then (items.size - a - 1) / k + 1 else 0)).map fun m => a + m * k := by
    unfold sliceRange
    have h1 : (k : Int) > 0 := by omega
    have h2 : (if (k : Int) > 0 then (if (a : Int) < (items.size : Int) then ((items.size : Int) - (a : Int) + (k : Int) - 1) / (k : Int) else 0) else (if (a : Int) > (items.size : Int) then ((a : Int) - (items.size : Int) - (k : Int) - 1) / (-(k : Int)) else 0)) = ((if a < items.size then (items.size - a - 1) / k + 1 else 0 : Nat) : Int) := by
      rw [if_pos h1]
      by_cases h : a < items.size
      · rw [if_pos (by omega), if_pos h]
        have e3 : (items.size : Int) - (a : Int) + (k : Int) - 1 = ((items.size - a - 1 : Nat) : Int) + 1 * (k : Int) := by omega
        rw [e3, Int.add_mul_ediv_right _ _ (by omega)]
        push_cast
        rfl
      · rw [if_neg (by omega), if_neg h]
        rfl
    dsimp only
    rw [h2, Int.toNat_natCast]
    refine List.map_congr_left fun m _ => ?_
    show ((a : Int) + (k : Int) * (m : Int)).toNat = a + m * k
    rw [← Int.natCast_mul, ← Int.natCast_add, Int.toNat_natCast, Nat.mul_comm]
  rw [e, List.filterMap_map]
  refine congrArg List.toArray ?_
  congr 1
  funext m
  show items[a + m * k]? = items.toList[a + m * k]?
  rw [Array.getElem?_toList]
def tStepE (K : PySem.W.Frag) (te : TE) (tl : TO) (tg : TE) : TE := fun σ H Q => te σ H fun x H1 => tl σ H1 fun lo H2 => tPart tg σ H2 fun o H3 => ∃ (p : Addr) (xs : List V) (a k : Nat), x = .ref p ∧ ((lo = none ∧ a = 0) ∨ lo = some (a : Int)) ∧ o = some (k : Int) ∧ SqL K H3 p xs ∧ 1 ≤ k ∧ a ≤ xs.length ∧ ∀ q, H3 q = none → Q (.ref q) (upd H3 q (.lst (everyV k a xs)))
theorem pe_stepE {X : Cx} {e g : PySem.Expr} {lo : Option PySem.Expr} {te tg : TE} {tl : TO} {p3 pos : Pos} (he : PE X e te) (hl : PO X lo tl) (hg : PE X g tg) : PE X (.Subscript e (.Slice lo none (some g) p3) pos) (tStepE X.K te tl tg) := by
  constructor
  intro pins s σ H Q I h
  refine Subscript_ (thn (he.run pins s σ H _ I h) fun v s1 ⟨x, H1, I1, ra, q1⟩ => ?_)
  refine wpAny_Slice (thn (hl.run pins s1 σ H1 _ I1 q1) fun vl s2 ⟨l, H2, I2, pl, q2⟩ => ?_)
  refine thn (po_none.run pins s2 σ H2 (fun y H3 => y = none ∧ H3 = H2) I2 ⟨rfl, rfl⟩) fun vu s3 ⟨u, H3, I3, pu, eu, e3⟩ => ?_
  subst eu e3
  refine thn ((po_some hg).run pins s3 σ H3 _ I3 q2) fun vs s4 ⟨o, H4, I4, ps, p, xs, a, k, ex, el, eo, hx, hk, ha, q⟩ => ?_
  subst ex eo
  cases ra
  have J : Inv X pins σ H4 { s4 with heap := s4.heap.push { cls := .type "slice", data := .fields #[vl, vu, vs] } } := I4.kept (t' := s4.toks) fun b ob q => Heap.get?_push_of_some _ q
  obtain ⟨its, r, ht, hz⟩ := J.list hx
  have hlen := r.length
  show wpAny (model X.prog X.w) X.A (subscriptTail e (.Slice lo none (some g) p3) (.ref p) (.ref s4.heap.objs.size)) (EP X pins σ Q) X.xe { s4 with heap := s4.heap.push { cls := .type "slice", data := .fields #[vl, vu, vs] } }
  refine tail_any (ops := [.ref p, .ref s4.heap.objs.size]) ht.isList.typeIs (PySem.slot_list_getitem.lookup) ?_ (by with_unfolding_all rfl)
  refine wpAny_getItem_list_slice ht.isList (Heap.IsSliceOf.new _ vl vu vs) pl pu ps (by simp; omega) ?_ (by rw [List.size_toArray]; omega)
  rw [pick_every _ el hk (by rw [List.size_toArray, ← hlen]; exact ha)]
  have few : (everyV k a xs).length ≤ xs.length := by
    unfold everyV
    refine Nat.le_trans (List.length_filterMap_le _ _) ?_
    rw [List.length_range]
    split
    · have : (xs.length - a - 1) / k ≤ xs.length - a - 1 := Nat.div_le_self _ _
      omega
    · omega
  exact ⟨.ref _, _, J.laid (t' := s4.toks) (o := .lst (everyV k a xs)) (fun b ob q => Heap.get?_push_of_some _ q) (Nat.le_refl _) ⟨Nat.le_trans few hz, _, 0, vals_every r k a, Heap.get?_push_size _ rfl⟩, rfl, q _ (J.hok.fresh (Nat.le_refl _))⟩
theorem everyV_get {α : Type} {k a : Nat} (hk : 1 ≤ k) (xs : List α) (m : Nat) : (everyV k a xs)[m]? = xs[a + m * k]? := by
  unfold everyV
  have full : ∀ n, (∀ m, m < n → a + m * k < xs.length) → (List.range n).filterMap (fun m => xs[a + m * k]?) = (List.range n).filterMap (fun m => xs[a + m * k]?) ∧ ((List.range n).filterMap (fun m => xs[a + m * k]?)).length = n ∧ ∀ m, m < n → ((List.range n).filterMap (fun m => xs[a + m * k]?))[m]? = xs[a + m * k]? := by
    intro n
    induction n with
    | zero => intro _; exact ⟨rfl, rfl, fun m h => absurd h (Nat.not_lt_zero _)⟩
    | succ n ih =>
      intro h
      obtain ⟨_, h2, h3⟩ := ih fun m hm => h m (by omega)
      have hn := h n (Nat.lt_succ_self _)
      have hx : xs[a + n * k]? = some xs[a + n * k] := List.getElem?_eq_getElem hn
      refine ⟨rfl, ?_, fun m hm => ?_⟩
      · rw [List.range_succ, List.filterMap_append, List.length_append, h2, List.filterMap_cons, hx]
        rfl
      · rw [List.range_succ, List.filterMap_append]
        by_cases e : m < n
        · rw [List.getElem?_append_left (by rw [h2]; exact e)]
          exact h3 m e
        · have e2 : m = n := by omega
          subst e2
          rw [List.getElem?_append_right (by rw [h2]; exact Nat.le_refl _), h2, Nat.sub_self, List.filterMap_cons, hx]
          rfl
  by_cases ha : a < xs.length
  · rw [if_pos ha]
    have bound : ∀ m, m < (xs.length - a - 1) / k + 1 → a + m * k < xs.length := fun m hm => by
      have h1 : m ≤ (xs.length - a - 1) / k := by omega
      have h2 : m * k ≤ xs.length - a - 1 := (Nat.le_div_iff_mul_le (by omega)).mp h1
      omega
    obtain ⟨_, h2, h3⟩ := full _ bound
    by_cases hm : m < (xs.length - a - 1) / k + 1
    · exact h3 m hm
    · rw [List.getElem?_eq_none (by rw [h2]; omega)]
      have : (xs.length - a - 1) / k < m := by omega
      have h4 : xs.length - a - 1 < m * k := (Nat.div_lt_iff_lt_mul (by omega)).mp this
      rw [List.getElem?_eq_none (by omega)]
  · rw [if_neg ha]
    rw [List.getElem?_eq_none (by simp), List.getElem?_eq_none (by omega)]
theorem every2_cons {α : Type} (x y : α) (r : List α) : everyV 2 0 (x :: y :: r) = x :: everyV 2 0 r ∧ everyV 2 1 (x :: y :: r) = y :: everyV 2 1 r := by
  constructor
  · refine List.ext_getElem? fun m => ?_
    rw [everyV_get (by decide)]
    cases m with
    | zero => rfl
    | succ m =>
      rw [List.getElem?_cons_succ, everyV_get (by decide), show 0 + (m + 1) * 2 = (0 + m * 2) + 1 + 1 by omega, List.getElem?_cons_succ, List.getElem?_cons_succ]
  · refine List.ext_getElem? fun m => ?_
    rw [everyV_get (by decide)]
    cases m with
    | zero => rfl
    | succ m =>
      rw [List.getElem?_cons_succ, everyV_get (by decide), show 1 + (m + 1) * 2 = (1 + m * 2) + 1 + 1 by omega, List.getElem?_cons_succ, List.getElem?_cons_succ]
theorem every2_perm {α : Type} : ∀ xs : List α, xs.Perm (everyV 2 0 xs ++ everyV 2 1 xs)
  | [] => .nil
  | [x] => by
    have e : everyV 2 0 [x] ++ everyV 2 1 [x] = [x] := by simp [everyV]
    rw [e]
  | x :: y :: r => by
    obtain ⟨e1, e2⟩ := every2_cons x y r
    rw [e1, e2]
    exact ((every2_perm r).cons y |>.trans (List.perm_middle.symm)).cons x


theorem roomP {k : Nat} {A : Around} (r : Room k A) : A.units + 12 < cLine := by have := r.un; omega
def sp__law_in_order (P : Program) (w : World) : Sp := fun vs H Q _ => ∃ (p d : Addr) (m : Nat) (xs : List NRow), vs = [.ref p, .ref d] ∧ Pool H p m ∧ m + 10 < 1000000 ∧ H d = some (DictN P w d xs) ∧ RowsN H xs ∧ (xs.map (·.1)).Nodup ∧ 1 ≤ xs.length ∧ xs.length ≤ 600 ∧ ∀ d2 zs H', Fr p H H' → Pool H' p (m + 2) → H d2 = none → H' d2 = some (DictN P w d2 zs) → RowsN H' zs → xs.Perm zs → Q (.ref d2) H'
section
variable {P : Program} {w : World} {K : PySem.W.Frag} {mg : Str → Option Value} {base : Heap}
theorem ok__law_in_order (T : Txt K mg) : FnOk P w K mg base CX0 2 T.f__law_in_order T.d__law_in_order ["pool", "table"] (sp__law_in_order P w) := by
  have G__law_take : FnOk P w K mg base CX0 1 T.f__law_take T.d__law_take ["pool", "many"] sp__law_take := ok__law_take T
  refine T.F__law_in_order.ok sc__law_in_order (fun vs H Q E h => ?_) (fun cdv A outer s H vs Q E hr h => ?_)
  · obtain ⟨p, d, m, xs, rfl, _⟩ := h
    rfl
  obtain ⟨p, d, m, xs, rfl, hp, hm, hd, hrn, xnd, x1, x600, q⟩ := h
  refine ⟨_, (pss_cons (ps_set (i := 2) sc__law_in_order.nd rfl (Or.inl rfl) (pe_callTy (call_listN rfl) (by rfl) T.z_list (by decide +kernel) (pa_cons (pv 1) pa_nil))) (pss_cons (ps_set (i := 3) sc__law_in_order.nd rfl (Or.inl rfl) (pe_call G__law_take (hr.mono (by omega)) (by rfl) T.m__law_take T.F__law_take.kp T.b__law_take .nil pass0 (pa_cons (pv 0) (pa_cons (pe_callB call_len_seq (by rfl) T.z_len PySem.boot_len (pa_cons (pv 2) pa_nil)) pa_nil)))) (pss_cons (ps_set (i := 2) sc__law_in_order.nd rfl (Or.inl rfl) (pe_op op_cat (pe_slice sl_list (pv 2) (po_some (pv 3)) po_none) (pe_slice sl_list (pv 2) po_none (po_some (pv 3))))) (pss_cons (ps_set (i := 2) sc__law_in_order.nd rfl (Or.inl rfl) (pe_ix ix_list (pe_lst (pa_cons (pv 2) (pa_cons (pe_revL (pv 2)) (pa_cons (pe_op op_cat (pe_stepE (pv 2) po_none pe_int) (pe_stepE (pv 2) (po_some pe_int) pe_int)) (pa_cons (pe_op op_cat (pe_stepE (pv 2) (po_some pe_int) pe_int) (pe_revL (pe_stepE (pv 2) po_none pe_int))) pa_nil))))) (pe_call G__law_take (hr.mono (by omega)) (by rfl) T.m__law_take T.F__law_take.kp T.b__law_take .nil pass0 (pa_cons (pv 0) (pa_cons pe_int pa_nil))) (fun _ _ => rfl))) (pss_one (ps_ret (pe_callTy (call_dictP rfl (roomP hr)) (by rfl) T.z_dict (by decide +kernel) (pa_cons (pe_lc (own := [("key", 4)]) (g := gName 4) (te := tTup (tCons (tVar 4) (tCons (tDGetN P w (tVar 1) (tVar 4)) tNil))) (tt := tYes) rfl sc__law_in_order.nd (pi_list (pv 2)) (blkOk_by (own := [("key", 4)]) (N := ["pool", "table", "keys", "at", "key"]) (sc := (defScope s__law_in_order)) (by decide +kernel)) (fun _ _ _ _ _ => (pg_name (i := 4) sc__law_in_order.nd rfl (Or.inl rfl))) (fun _ _ _ _ _ => pts_nil) (fun _ _ _ _ _ => (pe_tup (pa_cons (pv 4) (pa_cons (pe_dgetN (roomN hr) (pv 1) (pv 4) (fun _ _ => rfl)) pa_nil))))) pa_nil)))))))), ?_⟩
  refine ⟨_, rfl, d, xs, rfl, hd, fun ql hql => ?_⟩
  have sq := same_new hql (o := .lst (xs.map fun x => V.ref x.2.1))
  have kq := upd_same (H := H) (a := ql) (o := .lst (xs.map fun x => V.ref x.2.1))
  have nqp : ql ≠ p := hp.ne' hql
  have p1 := hp.keep sq
  generalize upd H ql (.lst (xs.map fun x => V.ref x.2.1)) = H1 at *
  have lq : (xs.map fun x => V.ref x.2.1).length = xs.length := List.length_map _
  refine ⟨_, rfl, _, rfl, ql, _, rfl, .inl (SqL.of kq), p, _, m, rfl, p1, by omega, by rw [lq]; omega, by rw [lq]; omega, fun r H2 r0 r1 c2 p2 => ?_⟩
  rw [lq] at r1
  obtain ⟨at0, rfl⟩ : ∃ a : Nat, r = (a : Int) := ⟨r.toNat, by omega⟩
  have kq2 := c2.at kq nqp
  have la0 : at0 ≤ (xs.map fun x => V.ref x.2.1).length := by rw [lq]; omega
  refine ⟨_, rfl, _, rfl, _, rfl, ql, _, rfl, SqL.of kq2, fun c1 hc1 => ?_⟩
  rw [cut_lo la0]
  have s1 := same_new hc1 (o := .lst ((xs.map fun x => V.ref x.2.1).drop at0))
  have k1 := upd_same (H := H2) (a := c1) (o := .lst ((xs.map fun x => V.ref x.2.1).drop at0))
  generalize upd H2 c1 (.lst ((xs.map fun x => V.ref x.2.1).drop at0)) = H3 at *
  refine ⟨_, rfl, _, rfl, _, rfl, ql, _, rfl, SqL.of (s1 _ _ kq2), fun c2' hc2 => ?_⟩
  rw [cut_hi la0]
  have s2 := same_new hc2 (o := .lst ((xs.map fun x => V.ref x.2.1).take at0))
  have k2 := upd_same (H := H3) (a := c2') (o := .lst ((xs.map fun x => V.ref x.2.1).take at0))
  generalize upd H3 c2' (.lst ((xs.map fun x => V.ref x.2.1).take at0)) = H4 at *
  refine ⟨c1, c2', _, _, rfl, rfl, s2 _ _ k1, k2, ?_, fun c3 hc3 => ?_⟩
  · rw [List.length_drop, List.length_take, lq]
    exact Nat.le_of_lt (Nat.lt_of_le_of_lt (show _ ≤ 1000000 by omega) (by decide))
  rw [← List.map_drop, ← List.map_take, ← List.map_append]
  have s3 := same_new hc3 (o := .lst ((xs.drop at0 ++ xs.take at0).map fun x => V.ref x.2.1))
  have k3 := upd_same (H := H4) (a := c3) (o := .lst ((xs.drop at0 ++ xs.take at0).map fun x => V.ref x.2.1))
  generalize upd H4 c3 (.lst ((xs.drop at0 ++ xs.take at0).map fun x => V.ref x.2.1)) = H5 at *
  have rot : xs.Perm (xs.drop at0 ++ xs.take at0) := by
    have := List.perm_append_comm (l₁ := xs.take at0) (l₂ := xs.drop at0)
    rwa [List.take_append_drop] at this
  have S5 := (s1.trans s2).trans s3
  generalize (xs.drop at0 ++ xs.take at0) = ys at *
  have ly : ys.length = xs.length := rot.length_eq.symm
  have lyr : (ys.map fun x => V.ref x.2.1).length = xs.length := by rw [List.length_map, ly]
  have evl := (every2_perm (ys.map fun x => V.ref x.2.1)).length_eq
  rw [List.length_append, lyr] at evl
  have p5 := p2.keep S5
  refine ⟨_, rfl, _, rfl, c3, _, rfl, SqL.of k3, fun e1 he1 => ?_⟩
  have t1 := same_new he1 (o := .lst (ys.map fun x => V.ref x.2.1).reverse)
  have w1 := upd_same (H := H5) (a := e1) (o := .lst (ys.map fun x => V.ref x.2.1).reverse)
  generalize upd H5 e1 (.lst (ys.map fun x => V.ref x.2.1).reverse) = H6 at *
  refine ⟨_, rfl, _, rfl, c3, _, 0, 2, rfl, .inl ⟨rfl, rfl⟩, rfl, SqL.of (t1 _ _ k3), by decide, Nat.zero_le _, fun e2 he2 => ?_⟩
  have t2 := same_new he2 (o := .lst (everyV 2 0 (ys.map fun x => V.ref x.2.1)))
  have w2 := upd_same (H := H6) (a := e2) (o := .lst (everyV 2 0 (ys.map fun x => V.ref x.2.1)))
  generalize upd H6 e2 (.lst (everyV 2 0 (ys.map fun x => V.ref x.2.1))) = H7 at *
  refine ⟨_, rfl, _, rfl, _, rfl, c3, _, 1, 2, rfl, .inr rfl, rfl, SqL.of (t2 _ _ (t1 _ _ k3)), by decide, by omega, fun e3 he3 => ?_⟩
  have t3 := same_new he3 (o := .lst (everyV 2 1 (ys.map fun x => V.ref x.2.1)))
  have w3 := upd_same (H := H7) (a := e3) (o := .lst (everyV 2 1 (ys.map fun x => V.ref x.2.1)))
  generalize upd H7 e3 (.lst (everyV 2 1 (ys.map fun x => V.ref x.2.1))) = H8 at *
  refine ⟨e2, e3, _, _, rfl, rfl, t3 _ _ w2, w3, ?_, fun e4 he4 => ?_⟩
  · exact Nat.le_of_lt (Nat.lt_of_le_of_lt (show _ ≤ 1000000 by omega) (by decide))
  have t4 := same_new he4 (o := .lst (everyV 2 0 (ys.map fun x => V.ref x.2.1) ++ everyV 2 1 (ys.map fun x => V.ref x.2.1)))
  have w4 := upd_same (H := H8) (a := e4) (o := .lst (everyV 2 0 (ys.map fun x => V.ref x.2.1) ++ everyV 2 1 (ys.map fun x => V.ref x.2.1)))
  generalize upd H8 e4 (.lst (everyV 2 0 (ys.map fun x => V.ref x.2.1) ++ everyV 2 1 (ys.map fun x => V.ref x.2.1))) = H9 at *
  have k39 := t4 _ _ (t3 _ _ (t2 _ _ (t1 _ _ k3)))
  refine ⟨_, rfl, _, rfl, _, rfl, c3, _, 1, 2, rfl, .inr rfl, rfl, SqL.of k39, by decide, by omega, fun e5 he5 => ?_⟩
  have t5 := same_new he5 (o := .lst (everyV 2 1 (ys.map fun x => V.ref x.2.1)))
  have w5 := upd_same (H := H9) (a := e5) (o := .lst (everyV 2 1 (ys.map fun x => V.ref x.2.1)))
  generalize upd H9 e5 (.lst (everyV 2 1 (ys.map fun x => V.ref x.2.1))) = H10 at *
  refine ⟨_, rfl, _, rfl, c3, _, 0, 2, rfl, .inl ⟨rfl, rfl⟩, rfl, SqL.of (t5 _ _ k39), by decide, Nat.zero_le _, fun e6 he6 => ?_⟩
  have t6 := same_new he6 (o := .lst (everyV 2 0 (ys.map fun x => V.ref x.2.1)))
  have w6 := upd_same (H := H10) (a := e6) (o := .lst (everyV 2 0 (ys.map fun x => V.ref x.2.1)))
  generalize upd H10 e6 (.lst (everyV 2 0 (ys.map fun x => V.ref x.2.1))) = H11 at *
  refine ⟨e6, _, rfl, SqL.of w6, fun e7 he7 => ?_⟩
  have t7 := same_new he7 (o := .lst (everyV 2 0 (ys.map fun x => V.ref x.2.1)).reverse)
  have w7 := upd_same (H := H11) (a := e7) (o := .lst (everyV 2 0 (ys.map fun x => V.ref x.2.1)).reverse)
  generalize upd H11 e7 (.lst (everyV 2 0 (ys.map fun x => V.ref x.2.1)).reverse) = H12 at *
  refine ⟨e5, e7, _, _, rfl, rfl, t7 _ _ (t6 _ _ w5), w7, ?_, fun e8 he8 => ?_⟩
  · rw [List.length_reverse]
    exact Nat.le_of_lt (Nat.lt_of_le_of_lt (show _ ≤ 1000000 by omega) (by decide))
  have t8 := same_new he8 (o := .lst (everyV 2 1 (ys.map fun x => V.ref x.2.1) ++ (everyV 2 0 (ys.map fun x => V.ref x.2.1)).reverse))
  have w8 := upd_same (H := H12) (a := e8) (o := .lst (everyV 2 1 (ys.map fun x => V.ref x.2.1) ++ (everyV 2 0 (ys.map fun x => V.ref x.2.1)).reverse))
  generalize upd H12 e8 (.lst (everyV 2 1 (ys.map fun x => V.ref x.2.1) ++ (everyV 2 0 (ys.map fun x => V.ref x.2.1)).reverse)) = H13 at *
  refine ⟨(by show 4 ≤ sizeLine; decide), fun l hl => ?_⟩
  have t9 := same_new hl (o := .lst [V.ref c3, V.ref e1, V.ref e4, V.ref e8])
  have w9 := upd_same (H := H13) (a := l) (o := .lst [V.ref c3, V.ref e1, V.ref e4, V.ref e8])
  generalize upd H13 l (.lst [V.ref c3, V.ref e1, V.ref e4, V.ref e8]) = H14 at *
  have S14 : Same H5 H14 := ((((((((t1.trans t2).trans t3).trans t4).trans t5).trans t6).trans t7).trans t8).trans t9)
  have p14 := p5.keep S14
  refine ⟨_, rfl, p, 4, _, rfl, p14, by omega, by decide, by decide, fun r H15 r0 r1 c15 p15 => ?_⟩
  have n3 : c3 ≠ p := (p2.keep (s1.trans s2)).ne' hc3
  have n1 : e1 ≠ p := p5.ne' he1
  have n4 : e4 ≠ p := (p5.keep ((t1.trans t2).trans t3)).ne' he4
  have n8 : e8 ≠ p := (p5.keep ((((((t1.trans t2).trans t3).trans t4).trans t5).trans t6).trans t7)).ne' he8
  have nl : l ≠ p := (p5.keep (((((((t1.trans t2).trans t3).trans t4).trans t5).trans t6).trans t7).trans t8)).ne' hl
  have v1 := c15.at (t9 _ _ (t8 _ _ (t7 _ _ (t6 _ _ (t5 _ _ (t4 _ _ (t3 _ _ (t2 _ _ w1)))))))) n1
  have v3 := c15.at (S14 _ _ k3) n3
  have v4 := c15.at (t9 _ _ (t8 _ _ (t7 _ _ (t6 _ _ (t5 _ _ w4))))) n4
  have v8 := c15.at (t9 _ _ w8) n8
  have vl := c15.at w9 nl
  obtain ⟨b, zs, hat, kb, pz⟩ : ∃ (b : Addr) (zs : List NRow), atI [V.ref c3, V.ref e1, V.ref e4, V.ref e8] r = some (V.ref b) ∧ H15 b = some (.lst (zs.map fun x => V.ref x.2.1)) ∧ ys.Perm zs := by
    obtain rfl | rfl | rfl | rfl : r = 0 ∨ r = 1 ∨ r = 2 ∨ r = 3 := by omega
    · exact ⟨c3, ys, at_of (j := 0) rfl rfl, v3, List.Perm.refl _⟩
    · exact ⟨e1, ys.reverse, at_of (j := 1) rfl rfl, by rw [v1, List.map_reverse], (List.reverse_perm _).symm⟩
    · exact ⟨e4, everyV 2 0 ys ++ everyV 2 1 ys, at_of (j := 2) rfl rfl, by rw [v4, everyV_map, everyV_map, List.map_append], every2_perm ys⟩
    · refine ⟨e8, everyV 2 1 ys ++ (everyV 2 0 ys).reverse, at_of (j := 3) rfl rfl, by rw [v8, everyV_map, everyV_map, List.map_append, List.map_reverse], ?_⟩
      exact (every2_perm ys).trans (List.perm_append_comm.trans ((List.Perm.refl _).append (List.reverse_perm _).symm))
  refine ⟨l, _, r, _, rfl, rfl, SqL.of vl, hat, ?_⟩
  have pz := rot.trans pz
  have F15 : Fr p H H15 := ((Fr.same sq).trans (Fr.chg c2)).trans ((Fr.same (S5.trans S14)).trans (Fr.chg c15))
  have ndp : d ≠ p := fun e => by
    obtain ⟨x1, x2, x3, ep, _⟩ := hp
    rw [e, ep] at hd
    unfold DictN at hd
    cases hd
  have ntp : ∀ (q : Addr) (us : List V), H q = some (.tup us) → q ≠ p := fun q us e z => by
    obtain ⟨x1, x2, x3, ep, _⟩ := hp
    rw [z, ep] at e
    cases e
  have hd15 := F15 _ _ ndp hd
  have hrn15 := hrn.keep fun b ys e => F15 _ _ (ntp _ _ e) e
  have lzs : zs.length = xs.length := pz.length_eq.symm
  clear v1 v3 v4 v8 vl n1 n3 n4 n8 nl w1 w2 w3 w4 w5 w6 w7 w8 w9 t1 t2 t3 t4 t5 t6 t7 t8 t9 hat S14 p14 k39 k3 S5 s1 s2 s3 c2 c15
  refine ⟨_, rfl, b, rfl, ⟨_, SqL.of kb⟩, fun D2 hD2 => ?_⟩
  refine lc_list (xs := zs.map fun x => V.ref x.2.1) (fun i H' => ∃ bs : List Addr, H' D2 = some (.lst (bs.map V.ref)) ∧ Paired (fun (b : Addr) (r : NRow) => H' b = some (.tup [.ref r.2.1, r.2.2])) bs (zs.take i) ∧ Same H15 H') ⟨[], upd_same, .nil, same_new hD2⟩ (fun i H' _ ⟨_, _, _, s⟩ => SqL.of (s _ _ kb)) ?_ ?_
  · rintro i x H20 hx ⟨bs, g1, g2, g3⟩
    rw [List.getElem?_map] at hx
    cases hz : zs[i]? with
    | none => rw [hz] at hx; cases hx
    | some row =>
    rw [hz] at hx
    cases hx
    have hm := pz.mem_iff.mpr (List.mem_of_getElem? hz)
    obtain ⟨hn1, hn2⟩ := hrn15 row hm
    have lb := Paired.length g2
    rw [List.length_take] at lb
    refine ⟨rfl, _, rfl, _, rfl, _, rfl, d, row.2.1, xs, row.1, row.2.2, rfl, rfl, g3 _ _ hd15, hrn15.keep (fun b ys e => g3 b _ e), NK.keep (fun b ys e => g3 b _ e) hn1, hn2, atN_self xnd hm, (by show 2 ≤ sizeLine; decide), fun t ht => ?_⟩
    have st := same_new ht (o := .tup [.ref row.2.1, row.2.2])
    have kt := upd_same (H := H20) (a := t) (o := .tup [.ref row.2.1, row.2.2])
    have kD := st _ _ g1
    have tk := upd_tup (o := .lst (bs.map V.ref ++ [V.ref t])) kD
    refine ⟨_, kD, ?_, bs ++ [t], by rw [upd_same, List.map_append]; rfl, ?_, same_add (g3.trans st) hD2⟩
    · rw [List.length_map]
      exact Nat.lt_of_le_of_lt (show _ ≤ 1000000 by omega) (by decide)
    · rw [take_succ_of hz]
      exact prd_app (Paired.mapP g2 fun _ _ e => tk _ _ (st _ _ e)) (.cons (tk _ _ kt) .nil)
  rintro H20 ⟨bs, g1, g2, g3⟩
  rw [List.length_map, List.take_length] at g2
  have znd : (zs.map (·.1)).Nodup := (pz.map _).nodup_iff.mp xnd
  refine ⟨D2, bs, zs, rfl, g1, g2, (fun r hr => (hrn15.keep fun b ys e => g3 b _ e) r (pz.mem_iff.mpr hr)), znd, Nat.le_of_lt (Nat.lt_of_le_of_lt (show _ ≤ 1000000 by omega) (by decide)), fun d2 hd2 => ?_⟩
  have s21 := same_new hd2 (o := DictN P w d2 zs)
  have kd2 := upd_same (H := H20) (a := d2) (o := DictN P w d2 zs)
  have p20 := p15.keep g3
  exact q d2 zs _ (F15.trans (Fr.same (g3.trans s21))) ((p20.keep s21).mono (by omega)) ((F15.trans (Fr.same g3)).free p20.some hd2) kd2 (fun r hr => (hrn15.keep fun b ys e => (g3.trans s21) b _ e) r (pz.mem_iff.mpr hr)) pz
end

def JAtO (P : Program) (w : World) (ok : Addr → Prop) (H : Hp) (v : V) (J : JD) : Prop := ∃ (j d g : Addr) (xs : List NRow) (keys : List (Nat × List Nat)), v = .ref j ∧ H j = some (.tup [.str J.L, nI J.n, nI J.few, nI J.turn, .ref d, .ref g]) ∧ H d = some (DictN P w d xs) ∧ RowsN H xs ∧ RowsJ xs keys J.fs ∧ keys.Perm J.keys ∧ H g = some (.lst (J.good.map nI)) ∧ ok g
section
variable {P : Program} {w : World} {ok ok' : Addr → Prop} {H H' : Hp} {v : V} {J : JD}
theorem JAtO.at (x : JAtO P w ok H v J) : JAt P w H v J := by
  obtain ⟨j, d, g, xs, keys, rfl, h1, h2, h3, h4, h5, h6, _⟩ := x
  exact ⟨j, d, g, xs, keys, rfl, h1, h2, h3, h4, h5, h6⟩
theorem JAtO.weak (x : JAtO P w ok H v J) (h : ∀ b, ok b → ok' b) : JAtO P w ok' H v J := by
  obtain ⟨j, d, g, xs, keys, rfl, h1, h2, h3, h4, h5, h6, h7⟩ := x
  exact ⟨j, d, g, xs, keys, rfl, h1, h2, h3, h4, h5, h6, h _ h7⟩
theorem JAtO.extN (x : JAtO P w ok H v J) (f : LamX.ExtN H H') : JAtO P w ok H' v J := by
  obtain ⟨j, d, g, xs, keys, rfl, h1, h2, h3, h4, h5, h6, h7⟩ := x
  exact ⟨j, d, g, xs, keys, rfl, f _ _ h1 (fun _ z => by cases z), f _ _ h2 not_tbl, h3.keep fun b ys e => f _ _ e (fun _ z => by cases z), h4, h5, f _ _ h6 (fun _ z => by cases z), h7⟩
theorem JAtO.same (x : JAtO P w ok H v J) (f : Same H H') : JAtO P w ok H' v J := x.extN (.of f)
theorem JAtO.fr {p : Addr} {ys : List V} (x : JAtO P w ok H v J) (ho : ∀ b, ok b → b ≠ p) (hp : H p = some (.lst ys)) (f : Fr p H H') : JAtO P w ok H' v J := by
  obtain ⟨j, d, g, xs, keys, rfl, h1, h2, h3, h4, h5, h6, h7⟩ := x
  exact ⟨j, d, g, xs, keys, rfl, f _ _ (fun e => by rw [e, hp] at h1; cases h1) h1, f _ _ (fun e => by rw [e, hp] at h2; unfold DictN at h2; cases h2) h2, h3.keep fun b zs e => f _ _ (fun z => by rw [z, hp] at e; cases e) e, h4, h5, f _ _ (ho _ h7) h6, h7⟩
theorem JAt.o (x : JAt P w H v J) : JAtO P w (fun _ => True) H v J := by
  obtain ⟨j, d, g, xs, keys, rfl, h1, h2, h3, h4, h5, h6⟩ := x
  exact ⟨j, d, g, xs, keys, rfl, h1, h2, h3, h4, h5, h6, trivial⟩
end


def sp__law_judge (P : Program) (w : World) : Sp := fun vs H Q _ => ∃ (p : Addr) (m : Nat), vs = [.ref p] ∧ Pool H p m ∧ m + 2000 < 1000000 ∧ ∀ v (J : JD) H', Fr p H H' → Pool H' p (m + 2000) → J.ok → Rises J.L → J.good.Pairwise (· < ·) → JAtO P w (fun b => b ≠ p) H' v J → Q v H'
section
variable {P : Program} {w : World} {K : PySem.W.Frag} {mg : Str → Option Value} {base : Heap}
theorem ok__law_judge (T : Txt K mg) : FnOk P w K mg base CX0 3 T.f__law_judge T.d__law_judge ["pool"] (sp__law_judge P w) := by
  have G__law_take : FnOk P w K mg base CX0 1 T.f__law_take T.d__law_take ["pool", "many"] sp__law_take := ok__law_take T
  have G__law_sizes : FnOk P w K mg base CX0 2 T.f__law_sizes T.d__law_sizes ["pool"] sp__law_sizes := ok__law_sizes T
  have G__law_tuples : FnOk P w K mg base CX0 1 T.f__law_tuples T.d__law_tuples ["letters", "states", "classes"] sp__law_tuples := ok__law_tuples T
  have G__law_in_order : FnOk P w K mg base CX0 2 T.f__law_in_order T.d__law_in_order ["pool", "table"] (sp__law_in_order P w) := ok__law_in_order T
  refine T.F__law_judge.ok sc__law_judge (fun vs H Q E h => ?_) (fun cdv A outer s H vs Q E hr h => ?_)
  · obtain ⟨p, m, rfl, _⟩ := h
    rfl
  obtain ⟨p, m, rfl, hp, hm, q⟩ := h
  refine ⟨_, (pss_cons (ps_asg (pe_call G__law_sizes (hr.mono (by omega)) (by rfl) T.m__law_sizes T.F__law_sizes.kp T.b__law_sizes .nil pass0 (pa_cons (pv 0) pa_nil)) (pg_unl rfl (pgs_cons (pg_name (i := 1) sc__law_judge.nd rfl (Or.inl rfl)) (pgs_cons (pg_name (i := 2) sc__law_judge.nd rfl (Or.inl rfl)) (pgs_cons (pg_name (i := 3) sc__law_judge.nd rfl (Or.inl rfl)) (pgs_cons (pg_name (i := 4) sc__law_judge.nd rfl (Or.inl rfl)) pgs_nil)))))) (pss_cons (ps_set (i := 5) sc__law_judge.nd rfl (Or.inl rfl) pe_dnewN) (pss_cons (ps_set (i := 6) sc__law_judge.nd rfl (Or.inl rfl) (pe_call G__law_take (hr.mono (by omega)) (by rfl) T.m__law_take T.F__law_take.kp T.b__law_take .nil pass0 (pa_cons (pv 0) (pa_cons pe_int pa_nil)))) (pss_cons (ps_for PassesOwn.never rfl (pi_list (pe_call G__law_tuples (hr.mono (by omega)) (by rfl) T.m__law_tuples T.F__law_tuples.kp T.b__law_tuples .nil pass0 (pa_cons (pv 1) (pa_cons (pv 2) (pa_cons (pe_op op_add (pv 3) (pv 4)) pa_nil))))) (pg_name (i := 7) sc__law_judge.nd rfl (Or.inl rfl)) (pss_cons (ps_set (i := 8) sc__law_judge.nd rfl (Or.inl rfl) (pe_call G__law_take (hr.mono (by omega)) (by rfl) T.m__law_take T.F__law_take.kp T.b__law_take .nil pass0 (pa_cons (pv 0) (pa_cons (pv 2) pa_nil)))) (C8.pss_cut (ps_if (pt_cmpR op_eq (pv 6) pe_int (nomark _)) (pss_one (ps_set (i := 8) sc__law_judge.nd rfl (Or.inl rfl) (pe_op op_mod (pe_op op_add (pe_callB (cr_sumT rfl) (by rfl) T.z_sum (by decide +kernel) (pa_cons (pe_ix ix_tup (pv 7) pe_int (fun _ _ => rfl)) pa_nil)) (pe_bm PySem.F.plainAttrs_str PySem.F.slot_str_index PySem.F.type_str_index mt_sindex (pv 1) (pa_cons (pe_ix ix_tup (pv 7) pe_int (fun _ _ => rfl)) pa_nil))) (pv 2)))) pss_nil) (pss_one (ps_dputN (roomN hr) (pv 5) (pv 7) (pv 8) rfl))))) (pss_cons (ps_setLc (i := 9) (own := [("state", 10)]) (g := gName 10) rfl sc__law_judge.nd rfl rfl (sw_true rfl rfl rfl (by decide +kernel)) (pi_range1 (by rfl) T.z_range (pa_cons (pv 2) pa_nil)) (blkOk_by (own := [("state", 10)]) (N := ["pool", "letters", "states", "few", "turn", "table", "way", "key", "number", "good", "state"]) (sc := (defScope s__law_judge)) (by decide +kernel)) (fun _ _ _ _ _ => (pg_name (i := 10) sc__law_judge.nd rfl (Or.inl rfl))) (fun _ _ _ _ _ => pts_one (pt_cmpR op_eq (pe_call G__law_take (hr.mono (by omega)) (by rfl) T.m__law_take T.F__law_take.kp T.b__law_take .nil pass0 (pa_cons (pv 0) (pa_cons pe_int pa_nil))) pe_int (nomark _))) (fun _ _ _ _ _ => (pv 10))) (pss_one (ps_ret (pe_tup (pa_cons (pv 1) (pa_cons (pv 2) (pa_cons (pv 3) (pa_cons (pv 4) (pa_cons (pe_call G__law_in_order (hr.mono (by omega)) (by rfl) T.m__law_in_order T.F__law_in_order.kp T.b__law_in_order .nil pass0 (pa_cons (pv 0) (pa_cons (pv 5) pa_nil))) (pa_cons (pv 9) pa_nil)))))))))))))), ?_⟩
  refine ⟨_, rfl, p, m, rfl, hp, by omega, fun r L n few turn H1 f1 p1 hr1 a1 a2 a3 n1 n6 f4 t1 t4 hz => ⟨r, _, rfl, SqL.of hr1, rfl, _, _, rfl, _, _, rfl, _, _, rfl, _, _, rfl, rfl, ?_⟩⟩
  refine fun dl hdl => ?_
  have s0 := same_new hdl (o := DictN P w dl [])
  have kd0 := upd_same (H := H1) (a := dl) (o := DictN P w dl [])
  have ndl : dl ≠ p := p1.ne' hdl
  have hdl0 : H dl = none := f1.free p1.some hdl
  have p1' := p1.keep s0
  have F1 : Fr p H (upd H1 dl (DictN P w dl [])) := f1.trans (Fr.same s0)
  refine ⟨_, rfl, p, 3, _, rfl, p1', by omega, by decide, by decide, fun way H3 w0 w1 c3 p3 => ?_⟩
  have c3 : Chg p (upd H1 dl (DictN P w dl [])) H3 := c3
  generalize upd H1 dl (DictN P w dl []) = H2 at *
  have kd3 := c3.at kd0 ndl
  have F3 := F1.trans (Fr.chg c3)
  have ev : (few : Int) + (turn : Int) = ((few + turn : Nat) : Int) := by push_cast; rfl
  refine ⟨_, rfl, _, rfl, _, rfl, _, rfl, _, _, rfl, rfl, L, n, few + turn, congrArg (fun z => [V.str L, nI n, V.int z]) ev, a1, n6, by omega, by omega, hz, fun rr bs H4 s4 hrr0 hrr hk => ?_⟩
  have nrd : rr ≠ dl := fun e => by rw [e, kd3] at hrr0; cases hrr0
  have nrp : rr ≠ p := p3.ne' hrr0
  have p4 := p3.keep s4
  have F4 := F3.trans (Fr.same s4)
  have kd4 := s4 _ _ kd3
  have knd := keysOf_nd a2 n (few + turn)
  have lbs := Paired.length hk
  have lk : (keysOf L n (few + turn)).length ≤ 600 := by rw [keysOf_len]; exact hz
  have l1 := a1.1
  have llp : 1 ≤ (keysOf L n (few + turn)).length := by
    rw [keysOf_len]
    exact Nat.mul_pos l1 (Nat.pow_pos (by omega))
  clear s4 kd3 F3 p3 c3 kd0 s0 p1' F1 f1 p1 hr1 hp hdl
  refine ⟨rr, rfl, ⟨_, SqL.of hrr⟩, for_list (xs := bs.map V.ref) (fun i σ H' => ∃ (xs : List NRow) (y7 y8 : Option V), σ = [some (.ref p), some (.str L), some (nI n), some (nI few), some (nI turn), some (.ref dl), some (.int way), y7, y8, none, none] ∧ H' dl = some (DictN P w dl xs) ∧ RowsN H' xs ∧ RowsB n xs ((keysOf L n (few + turn)).take i) ∧ Pool H' p (m + 21 + i) ∧ ∀ b o, b ≠ p → b ≠ dl → H4 b = some o → H' b = some o) ⟨[], _, _, rfl, kd4, (fun x h => by cases h), .nil, p4, fun b o _ _ e => e⟩ (fun i σ H' _ ⟨_, _, _, _, _, _, _, _, f⟩ => SqL.of (f _ _ nrp nrd hrr)) ?_ ?_⟩
  · rintro i x σ H5 hx ⟨xs, y7, y8, rfl, g1, g2, g3, g4, g5⟩
    rw [List.getElem?_map] at hx
    cases hb : bs[i]? with
    | none => rw [hb] at hx; cases hx
    | some b =>
    rw [hb] at hx
    cases hx
    have hi := (List.getElem?_eq_some_iff.mp hb).1
    obtain ⟨⟨c, row⟩, hkey, a, kb, ka⟩ := prd_at hk hb
    have hmm := List.mem_of_getElem? hkey
    obtain ⟨hc, hlen, hkk⟩ := keysOf_mem hmm
    have nt : ∀ (q : Addr) (ys : List V), H4 q = some (.tup ys) → q ≠ p ∧ q ≠ dl := fun q ys e => by
      refine ⟨fun z => ?_, fun z => ?_⟩
      · obtain ⟨_, _, _, ep, _⟩ := p4
        rw [z, ep] at e
        cases e
      · rw [z, kd4] at e
        unfold DictN at e
        cases e
    have kb5 := g5 _ _ (nt _ _ kb).1 (nt _ _ kb).2 kb
    have ka5 := g5 _ _ (nt _ _ ka).1 (nt _ _ ka).2 ka
    refine ⟨_, rfl, _, rfl, p, _, _, rfl, g4, by omega, by omega, by omega, fun y H6 y0 y1 c6 p6 => ?_⟩
    obtain ⟨v, rfl, hv⟩ : ∃ v : Nat, y = (v : Int) ∧ v < n := ⟨y.toNat, by omega, by omega⟩
    have kd6 := c6.at g1 ndl
    have nt5 : ∀ (q : Addr) (ys : List V), H5 q = some (.tup ys) → q ≠ p := fun q ys e z => by
      obtain ⟨_, _, _, ep, _⟩ := g4
      rw [z, ep] at e
      cases e
    have kb6 := c6.at kb5 (nt _ _ kb).1
    have ka6 := c6.at ka5 (nt _ _ ka).1
    have krn6 := g2.keep fun b ys e => c6.at e (nt5 _ _ e)
    have G6 : ∀ b o, b ≠ p → b ≠ dl → H4 b = some o → H6 b = some o := fun b o n1 n2 e => c6.at (g5 b o n1 n2 e) n1
    refine ⟨fun σ' H' => H' = H6 ∧ ∃ u : Nat, u < n ∧ σ' = [some (.ref p), some (.str L), some (nI n), some (nI few), some (nI turn), some (.ref dl), some (.int way), some (.ref b), some (nI u), none, none], ?_, ?_⟩
    · refine ⟨_, rfl, rfl, _, rfl, ite2 (fun _ => ?_) (fun _ => ⟨rfl, v, hv, rfl⟩)⟩
      obtain ⟨ix, rest, hix⟩ := a3.find hc
      have hsum : SqT K H6 a ((row.map fun x : Nat => (x : Int)).map V.int) := by rw [← nI_map]; exact SqT.of ka6
      refine ⟨_, rfl, b, _, 1, _, rfl, rfl, SqT.of kb6, atI_nat (j := 1) rfl, a, _, rfl, hsum, ?_⟩
      refine ⟨_, rfl, rfl, _, rfl, b, _, 0, _, rfl, rfl, SqT.of kb6, atI_nat (j := 0) rfl, L, ch c, ix, rest, rfl, rfl, hix, _, _, rfl, rfl, _, rfl, _, _, rfl, rfl, by omega, ?_⟩
      have z0 : 0 ≤ ((row.map fun x : Nat => (x : Int)).sum + (ix : Int)) % (n : Int) := Int.emod_nonneg _ (by omega)
      have z1 : ((row.map fun x : Nat => (x : Int)).sum + (ix : Int)) % (n : Int) < (n : Int) := Int.emod_lt_of_pos _ (by omega)
      obtain ⟨u, hu, hun⟩ : ∃ u : Nat, ((row.map fun x : Nat => (x : Int)).sum + (ix : Int)) % (n : Int) = (u : Int) ∧ u < n := ⟨(((row.map fun x : Nat => (x : Int)).sum + (ix : Int)) % (n : Int)).toNat, by omega, by omega⟩
      exact ⟨rfl, u, hun, congrArg (fun z => [some (V.ref p), some (.str L), some (nI n), some (nI few), some (nI turn), some (.ref dl), some (.int way), some (.ref b), some (V.int z), none, none]) hu⟩
    rintro σ' H7 ⟨rfl, u, hu, rfl⟩
    have lx : xs.length ≤ 600 := by
      rw [Paired.length g3]
      exact Nat.le_trans (List.length_take_le' _ _) lk
    have fresh : ∀ x ∈ xs, x.1 ≠ keyN c row := fun x hx e => by
      obtain ⟨key, hm2, e1, _⟩ := prd_mem g3 hx
      rw [e1] at e
      obtain ⟨e2, e3⟩ := keyN_inj e
      exact ahead_ne knd hkey key hm2 (Prod.ext e2 e3)
    refine ⟨_, rfl, _, rfl, _, rfl, dl, b, xs, keyN c row, rfl, rfl, kd6, krn6, nk_key kb6 ka6, keyN_depth c row, Nat.lt_of_le_of_lt (show _ ≤ 1000000 by omega) (by decide), ?_⟩
    have tk := fun b2 ys e => upd_tupN (o := DictN P w dl (storedN xs (keyN c row) b (nI u))) kd6 b2 ys e
    show ∃ (xs1 : List NRow) (y7 y8 : Option V), _ ∧ (upd H7 dl (DictN P w dl (storedN xs (keyN c row) b (nI u)))) dl = some (DictN P w dl xs1) ∧ _
    rw [storedN_new fresh] at tk ⊢
    refine ⟨_, _, _, rfl, upd_same, ?_, ?_, (p6.upd ndl), fun b o n1 n2 e => by rw [upd_ne n2]; exact G6 b o n1 n2 e⟩
    · intro x hx
      rcases List.mem_append.mp hx with hx | hx
      · exact (krn6.keep tk) x hx
      · rw [List.mem_singleton.mp hx]
        exact ⟨nk_key (tk _ _ kb6) (tk _ _ ka6), keyN_depth c row⟩
    · rw [take_succ_of hkey]
      exact prd_app g3 (.cons ⟨rfl, u, hu, rfl⟩ .nil)
  rintro σ H5 ⟨xs, y7, y8, rfl, g1, g2, g3, g4, g5⟩
  rw [List.length_map, lbs, List.take_length] at g3
  rw [List.length_map, lbs] at g4
  have F5 : Fr p H H5 := fun b o nb e => g5 b o nb (fun z => by rw [z, hdl0] at e; cases e) (F4 b o nb e)
  have lx := Paired.length g3
  have xnd := rowsB_nd g3 knd
  clear g5 F4 hk hrr hrr0 kd4 p4 nrd nrp
  refine ⟨_, rfl, n, rfl, by omega, by omega, fun D3 hD3 => ?_⟩
  have nD3 : D3 ≠ p := g4.ne' hD3
  have nD3l : D3 ≠ dl := fun e => by rw [e, g1] at hD3; cases hD3
  refine lc_range (lo := 0) (n := n) (fun i H' => ∃ gs : List Nat, H' D3 = some (.lst (gs.map nI)) ∧ gs.Pairwise (· < ·) ∧ (∀ g ∈ gs, g < i) ∧ gs.length ≤ i ∧ Fr p H5 H' ∧ Pool H' p (m + 700 + i)) ⟨[], upd_same, .nil, (fun _ h => by cases h), Nat.le_refl _, (Fr.refl p _).new hD3, (g4.keep (same_new hD3)).mono (by omega)⟩ ?_ ?_
  · rintro i H22 hi ⟨gs, k1, k2, k3, k4, k5, k6⟩
    refine ⟨rfl, _, rfl, p, 2, _, rfl, k6, by omega, by decide, by decide, fun y H23 y0 y1 c23 p23 => ⟨rfl, _, rfl, ite2 (fun hh => ?_) (fun hh => ?_)⟩⟩
    · have e0 : V.int (0 + (i : Int)) = nI i := by rw [Int.zero_add]
      refine ⟨_, rfl, _, c23.at k1 nD3, ?_, gs ++ [i], ?_, ?_, ?_, by rw [List.length_append]; simp; omega, (k5.trans (Fr.chg c23)).new hD3, (p23.upd nD3).mono (by omega)⟩
      · rw [List.length_map]
        exact Nat.lt_of_le_of_lt (show _ ≤ 1000000 by omega) (by decide)
      · rw [upd_same, e0, List.map_append]
        rfl
      · rw [List.pairwise_append]
        refine ⟨k2, List.pairwise_singleton _ _, fun a ha b hb => ?_⟩
        rw [List.mem_singleton.mp hb]
        exact k3 a ha
      · intro g hg
        rcases List.mem_append.mp hg with hg | hg
        · have := k3 g hg; omega
        · rw [List.mem_singleton.mp hg]; omega
    · exact ⟨gs, c23.at k1 nD3, k2, fun g hg => by have := k3 g hg; omega, by omega, k5.trans (Fr.chg c23), p23.mono (by omega)⟩
  rintro H22 ⟨gs, k1, k2, k3, k4, k5, k6⟩
  have ntp : ∀ (q : Addr) (ys : List V), H5 q = some (.tup ys) → q ≠ p := fun q ys e z => by
    obtain ⟨_, _, _, ep, _⟩ := g4
    rw [z, ep] at e
    cases e
  have kd22 := k5 _ _ ndl g1
  have krn22 := g2.keep fun b ys e => k5 _ _ (ntp _ _ e) e
  refine ⟨_, rfl, _, rfl, _, rfl, _, rfl, _, rfl, _, rfl, p, dl, _, xs, rfl, k6, by omega, kd22, krn22, xnd, by omega, by omega, fun d2 zs H23 f23 p23 hd20 hd2 rn2 pz => ⟨_, rfl, (by show 6 ≤ sizeLine; decide), fun j hj => ?_⟩⟩
  have sj := same_new hj (o := .tup [.str L, nI n, nI few, nI turn, .ref d2, .ref D3])
  have kj := upd_same (H := H23) (a := j) (o := .tup [.str L, nI n, nI few, nI turn, .ref d2, .ref D3])
  obtain ⟨ds, pd, rb⟩ := prd_perm pz g3
  have dnd : ds.Nodup := pd.nodup_iff.mp knd
  obtain ⟨fs, rj, hlt⟩ := rows_fun rb dnd
  refine q (.ref j) ⟨L, n, few, turn, fs, gs⟩ (upd H23 j (.tup [.str L, nI n, nI few, nI turn, .ref d2, .ref D3])) (((F5.trans k5).trans f23).trans (Fr.same sj)) ((p23.keep sj).mono (by omega)) ⟨a1, n1, n6, f4, t1, t4, hz, fun key hk => hlt key (pd.mem_iff.mp hk), by show gs.length ≤ 6; omega, k3⟩ a2 k2 ?_
  exact ⟨j, d2, D3, zs, ds, rfl, kj, sj _ _ hd2, rn2.keep fun b ys e => sj b _ e, rj, pd.symm, sj _ _ (f23 _ _ nD3 k1), nD3⟩
end


theorem count_perm {a b : List Nat} (p : a.Perm b) (n : Nat) : cnts n a = cnts n b := by
  unfold cnts
  exact List.map_congr_left fun s _ => p.count_eq s
mutual
theorem Sh.st {fs : Nat → List Nat → Nat} {n : Nat} : ∀ {t u : Tr}, Sh t u → St fs n t = St fs n u
  | _, _, .node (ks := ks) (us := us) (ls := ls) p h => by
    have e := Shs.st (fs := fs) (n := n) h
    have q : (Sts fs n ks).Perm (Sts fs n us) := by rw [Sts_map, Sts_map]; exact p.map _
    simp only [St]
    rw [count_perm q, e]
theorem Shs.st {fs : Nat → List Nat → Nat} {n : Nat} : ∀ {ts us : List Tr}, Shs ts us → Sts fs n ts = Sts fs n us
  | _, _, .nil => rfl
  | _, _, .cons a b => by simp only [Sts, Sh.st a, Shs.st b]
end
theorem posts_flat : ∀ ks : List Tr, posts ks = ks.flatMap Tr.post
  | [] => rfl
  | t :: r => by rw [posts, List.flatMap_cons, posts_flat r]
mutual
theorem Sh.post_perm {fs : Nat → List Nat → Nat} {n : Nat} : ∀ {t u : Tr}, Sh t u → (t.post.map (St fs n)).Perm (u.post.map (St fs n))
  | _, _, .node (c := c) (ks := ks) (us := us) (ls := ls) p h => by
    have e := Shs.post_perm (fs := fs) (n := n) h
    have s : St fs n (.node c ks) = St fs n (.node c ls) := Sh.st (.node p h)
    simp only [Tr.post, List.map_append, List.map_cons, List.map_nil]
    rw [s]
    refine List.Perm.append_right _ (List.Perm.trans ?_ e)
    rw [posts_flat, posts_flat]
    exact (p.flatMap_right _).map _
theorem Shs.post_perm {fs : Nat → List Nat → Nat} {n : Nat} : ∀ {ts us : List Tr}, Shs ts us → ((posts ts).map (St fs n)).Perm ((posts us).map (St fs n))
  | _, _, .nil => .refl _
  | _, _, .cons a b => by
    simp only [posts, List.map_append]
    exact (Sh.post_perm a).append (Shs.post_perm b)
end
theorem Shs.perm {xs ls : List Tr} (p : xs.Perm ls) : ∀ {ts : List Tr}, Shs ts xs → ∃ us, ts.Perm us ∧ Shs us ls := by
  induction p with
  | nil => intro ts h; exact ⟨ts, .refl _, h⟩
  | cons x _ ih =>
    intro ts h
    cases h with
    | cons a b =>
      obtain ⟨us, p1, h1⟩ := ih b
      exact ⟨_ :: us, p1.cons _, .cons a h1⟩
  | swap x y l =>
    intro ts h
    cases h with
    | cons a b =>
      cases b with
      | cons c d => exact ⟨_, .swap _ _ _, .cons c (.cons a d)⟩
  | trans _ _ ih1 ih2 =>
    intro ts h
    obtain ⟨us, p1, h1⟩ := ih1 h
    obtain ⟨ws, p2, h2⟩ := ih2 h1
    exact ⟨ws, p1.trans p2, h2⟩
mutual
theorem Sh.toTold : ∀ t : Tr, Sh t t.told
  | .node c ks => by
    obtain ⟨us, h1, h2⟩ := Shs.perm (List.mergeSort_perm (tolds ks) leW).symm (Shs.toTold ks)
    simp only [Tr.told]
    exact .node h1 h2
theorem Shs.toTold : ∀ ts : List Tr, Shs ts (tolds ts)
  | [] => .nil
  | t :: r => .cons (Sh.toTold t) (Shs.toTold r)
end

theorem extN_new {H H2 : Hp} {p : Addr} {o : HO} (a : LamX.ExtN H H2) (hp : H p = none) : LamX.ExtN H (upd H2 p o) := fun c u e n => by
  rw [upd_ne (ne_of_none e hp)]
  exact a c u e n
theorem lst_ext {H H' : Hp} {a : Addr} {xs : List V} (f : LamX.ExtN H H') (h : H a = some (.lst xs)) : H' a = some (.lst xs) := f _ _ h fun _ z => by cases z
theorem tup_ext {H H' : Hp} {a : Addr} {xs : List V} (f : LamX.ExtN H H') (h : H a = some (.tup xs)) : H' a = some (.tup xs) := f _ _ h fun _ z => by cases z
theorem tabsN_lst {TT : List NdefX.NTab} {H : Hp} {p : Addr} {xs : List V} {o : HO} (h : NdefX.TabsN TT H) (hp : H p = some (.lst xs)) : NdefX.TabsN TT (upd H p o) := tabsN_fr1 h hp fun b u n e => by rw [upd_ne n]; exact e
theorem posts_take {ks : List Tr} {i : Nat} {t : Tr} (h : ks[i]? = some t) : posts (ks.take (i + 1)) = posts (ks.take i) ++ t.post := by
  rw [take_succ_of h, posts_append]
  simp only [posts, List.append_nil]
theorem Sts_take {fs : Nat → List Nat → Nat} {n : Nat} {ks : List Tr} {i : Nat} {t : Tr} (h : ks[i]? = some t) : Sts fs n (ks.take (i + 1)) = Sts fs n (ks.take i) ++ [St fs n t] := by
  rw [take_succ_of h, Sts_map, Sts_map, List.map_append]
  rfl
theorem posts_take_len (ks : List Tr) (i : Nat) : (posts (ks.take i)).length ≤ sizes ks := by
  rw [posts_len]
  have := congrArg sizes (List.take_append_drop i ks)
  rw [sizes_append] at this
  omega
def sp__law_by_children (P : Program) (w : World) (TT : List NdefX.NTab) : Sp := fun vs H Q _ => ∃ (v u : V) (J : JD) (t : Tr), vs = [v, u] ∧ JAt P w H v J ∧ J.ok ∧ TrAt (fun _ => True) H u t ∧ t.size ≤ 100000 ∧ t.lets (fun c => c ∈ J.L.cps.toList) ∧ NdefX.TabsN TT H ∧
  ∀ H', LamX.ExtN H H' → NdefX.TabsN TT H' → Q (.bl true) H'
section
variable {P : Program} {w : World} {K : PySem.W.Frag} {mg : Str → Option Value} {base : Heap}
theorem ok__law_by_children (T : Txt K mg) (B : Tbs T base) {TT : List NdefX.NTab} (hTT : TTp T TT) : FnOk P w K mg base CX0 16 T.f__law_by_children T.d__law_by_children ["judge", "tree"] (sp__law_by_children P w TT) := by
  have G_part_states : FnOk P w K mg base CX0 15 T.f_part_states T.d_part_states ["judge", "tree"] (sp_part_states P w TT) := ok_part_states T B hTT
  have G_class_of : FnOk P w K mg base CX0 1 T.f_class_of T.d_class_of ["number", "few", "turn"] sp_class_of := ok_class_of T
  refine T.F__law_by_children.ok sc__law_by_children (fun vs H Q E h => ?_) (fun cdv A outer s H vs Q E hr h => ?_)
  · obtain ⟨v, u, J, t, rfl, _⟩ := h
    rfl
  obtain ⟨v, u, J, t, rfl, hJ, hok, ht, hz, hL, hT, q⟩ := h
  refine ⟨_, (pss_cons (ps_asg (pv 0) (pg_tup rfl (pgs_cons (pg_name (i := 2) sc__law_by_children.nd rfl (Or.inl rfl)) (pgs_cons (pg_name (i := 3) sc__law_by_children.nd rfl (Or.inl rfl)) (pgs_cons (pg_name (i := 4) sc__law_by_children.nd rfl (Or.inr rfl)) (pgs_cons (pg_name (i := 5) sc__law_by_children.nd rfl (Or.inr rfl)) (pgs_cons (pg_name (i := 6) sc__law_by_children.nd rfl (Or.inl rfl)) (pgs_cons (pg_name (i := 7) sc__law_by_children.nd rfl (Or.inl rfl)) pgs_nil)))))))) (pss_cons (ps_set (i := 8) sc__law_by_children.nd rfl (Or.inl rfl) (pe_lst pa_nil)) (pss_cons (ps_set (i := 9) sc__law_by_children.nd rfl (Or.inl rfl) (pe_op op_rep (pe_lst (pa_cons pe_int pa_nil)) (pv 3))) (pss_cons (ps_for PassesOwn.never rfl (pi_list (pe_ix ix_tup (pv 1) pe_int (fun _ _ => rfl))) (pg_name (i := 10) sc__law_by_children.nd rfl (Or.inl rfl)) (pss_cons (ps_set (i := 8) sc__law_by_children.nd rfl (Or.inl rfl) (pe_op op_cat (pv 8) (pe_call G_part_states (hr.mono (by omega)) (by rfl) T.m_part_states T.F_part_states.kp T.b_part_states .nil pass0 (pa_cons (pv 0) (pa_cons (pv 10) pa_nil))))) (pss_one (ps_asg (pe_op op_add (pe_ix ix_list (pv 9) (pe_ix ix_list (pv 8) (pe_un un_neg pe_int) (fun _ _ => rfl)) (fun _ _ => rfl)) pe_int) (pg_sub (pv 9) (pe_ix ix_list (pv 8) (pe_un un_neg pe_int) (fun _ _ => rfl)) set_list))))) (pss_cons (ps_set (i := 11) sc__law_by_children.nd rfl (Or.inl rfl) (pe_callTy call_tuple_of (by rfl) T.z_tuple (by decide +kernel) (pa_cons (pe_lc (own := [("number", 12)]) (g := gName 12) (te := tCall sp_class_of [] E0 (tCons (tVar 12) (tCons (tVar 4) (tCons (tVar 5) tNil)))) (tt := tYes) rfl sc__law_by_children.nd (pi_list (pv 9)) (blkOk_by (own := [("number", 12)]) (N := ["judge", "tree", "letters", "states", "few", "turn", "table", "good", "due", "numbers", "child", "classes", "number"]) (sc := (defScope s__law_by_children)) (by decide +kernel)) (fun _ _ _ _ _ => (pg_name (i := 12) sc__law_by_children.nd rfl (Or.inl rfl))) (fun _ _ _ _ _ => pts_nil) (fun _ _ _ _ _ => (pe_call G_class_of (hr.mono (by omega)) (by rfl) T.m_class_of T.F_class_of.kp T.b_class_of .nil pass0 (pa_cons (pv 12) (pa_cons (pv 4) (pa_cons (pv 5) pa_nil)))))) pa_nil))) (pss_one (ps_ret (pe_cmpR (op_eqD hr.units) (pe_call G_part_states (hr.mono (by omega)) (by rfl) T.m_part_states T.F_part_states.kp T.b_part_states .nil pass0 (pa_cons (pv 0) (pa_cons (pv 1) pa_nil))) (pe_op op_cat (pv 8) (pe_lst (pa_cons (pe_dgetN (roomN hr) (pv 6) (pe_tup (pa_cons (pe_ix ix_tup (pv 1) pe_int (fun _ _ => rfl)) (pa_cons (pv 11) pa_nil))) (fun _ _ => rfl)) pa_nil))) (nomark _))))))))), ?_⟩
  have hJ0 := hJ
  obtain ⟨j, d, g, xs, keys, rfl, hj, hd, hrn, hrj, hper, hg⟩ := hJ0
  have ht0 := ht
  obtain ⟨c, ks⟩ := t
  cases ht0 with
  | node h1 h2 _k1 _k2 c1 c2 hks =>
  rename_i a l ws
  have hL2 := hL
  simp only [Tr.lets] at hL2
  simp only [Tr.size] at hz
  have n6 := hok.n6
  have lks := hks.len
  have lsz := len_sizes ks
  refine ⟨_, rfl, _, _, rfl, SqT.of hj, rfl, _, _, rfl, _, _, rfl, _, _, rfl, _, _, rfl, _, _, rfl, _, _, rfl, rfl, ?_⟩
  refine ⟨(by show 0 ≤ sizeLine; decide), fun e0 he0 => ?_⟩
  have s0 := same_new he0 (o := .lst [])
  have ke0 := upd_same (H := H) (a := e0) (o := .lst [])
  generalize upd H e0 (.lst []) = H1 at *
  refine ⟨(by show 1 ≤ sizeLine; decide), fun z0 hz0 => ?_⟩
  have s1 := same_new hz0 (o := .lst [V.int 0])
  have kz0 := upd_same (H := H1) (a := z0) (o := .lst [V.int 0])
  generalize upd H1 z0 (.lst [V.int 0]) = H2 at *
  refine ⟨_, rfl, z0, (J.n : Int), [V.int 0], rfl, rfl, kz0, by omega, by omega, ?_, fun nb hnb => ?_⟩
  · rw [Int.toNat_natCast]
    exact Nat.le_trans (show 1 * J.n ≤ 1000000 by omega) (by decide)
  have e1 : (List.replicate ((J.n : Int)).toNat [V.int 0]).flatten = (cnts J.n []).map nI := by
    rw [Int.toNat_natCast, cnts_nil]
    simp
  rw [e1]
  have s2 := same_new hnb (o := .lst ((cnts J.n []).map nI))
  have knb := upd_same (H := H2) (a := nb) (o := .lst ((cnts J.n []).map nI))
  generalize upd H2 nb (.lst ((cnts J.n []).map nI)) = H3 at *
  have S3 := (s0.trans s1).trans s2
  have nb0 : H nb = none := s0.free (s1.free hnb)
  refine ⟨_, rfl, a, _, 1, _, rfl, rfl, SqT.of (S3 _ _ h1), atI_nat (j := 1) rfl, l, rfl, ⟨_, SqL.of (S3 _ _ h2)⟩, for_list (xs := ws) (fun i σ H' => ∃ (due : Addr) (y10 : Option V), σ = [some (.ref j), some (.ref a), some (.str J.L), some (nI J.n), some (nI J.few), some (nI J.turn), some (.ref d), some (.ref g), some (.ref due), some (.ref nb), y10, none, none] ∧ H' due = some (.lst (((posts (ks.take i)).map (St J.sf J.n)).map nI)) ∧ H' nb = some (.lst ((cnts J.n (Sts J.sf J.n (ks.take i))).map nI)) ∧ LamX.ExtN H H' ∧ NdefX.TabsN TT H') ⟨e0, none, rfl, s2 _ _ (s1 _ _ ke0), knb, .of S3, hT.ext S3⟩ (fun i σ H' _ ⟨_, _, _, _, _, f, _⟩ => SqL.of (lst_ext f h2)) ?_ ?_⟩
  · rintro i x σ H4 hx ⟨due, y10, rfl, kdue, knb4, f4, T4⟩
    obtain ⟨t1, ht1, hx1⟩ := hks.getV hx
    have tm := List.mem_of_getElem? ht1
    have sz1 := sizes_mem tm
    have lt1 := letss_mem hL2.2 tm
    refine ⟨_, rfl, _, rfl, _, rfl, _, x, J, t1, rfl, hJ.extN f4, hok, (hx1.weak fun _ _ => trivial).extN1 f4, by omega, lt1, T4, fun r H5 f5 T5 hr0 hr5 => ?_⟩
    have kdue5 := lst_ext f5 kdue
    have knb5 := lst_ext f5 knb4
    refine ⟨due, r, _, _, rfl, rfl, kdue5, hr5, ?_, fun d2 hd2 => ?_⟩
    · have := posts_take_len ks i
      have p1 := post_len t1
      simp only [List.length_map]
      exact Nat.le_trans (show _ ≤ 1000000 by omega) (by decide)
    have s6 := same_new hd2 (o := .lst (((posts (ks.take i)).map (St J.sf J.n)).map nI ++ ((t1.post.map (St J.sf J.n)).map nI)))
    have k6 := upd_same (H := H5) (a := d2) (o := .lst (((posts (ks.take i)).map (St J.sf J.n)).map nI ++ ((t1.post.map (St J.sf J.n)).map nI)))
    have nd2 : d2 ≠ nb := fun e => by rw [e, knb5] at hd2; cases hd2
    have knb6 := s6 _ _ knb5
    generalize upd H5 d2 (.lst (((posts (ks.take i)).map (St J.sf J.n)).map nI ++ ((t1.post.map (St J.sf J.n)).map nI))) = H6 at *
    rw [← List.map_append, ← List.map_append, ← posts_take ht1] at k6
    have klast := k6
    obtain ⟨lp, hlp⟩ := post_last t1
    rw [posts_take ht1, hlp, ← List.append_assoc, List.map_append (l₂ := [t1]), List.map_append (l₂ := [t1].map _)] at klast
    have sl : St J.sf J.n t1 < J.n := St_ltJ hok t1 lt1
    have hcn : atI ((cnts J.n (Sts J.sf J.n (ks.take i))).map nI) (St J.sf J.n t1 : Nat) = some (nI ((Sts J.sf J.n (ks.take i)).count (St J.sf J.n t1))) := by
      refine atI_nat ?_
      rw [List.getElem?_map, cnts_at _ sl]
      rfl
    refine ⟨_, rfl, _, rfl, 1, rfl, d2, _, -1, _, rfl, rfl, SqL.of klast, atI_last _ _, nb, _, _, _, rfl, rfl, SqL.of knb6, hcn, _, 1, rfl, rfl, ?_⟩
    refine ⟨_, rfl, _, rfl, 1, rfl, d2, _, -1, _, rfl, rfl, SqL.of klast, atI_last _ _, nb, _, _, St J.sf J.n t1, rfl, rfl, knb6, ixN_nat (by rw [List.length_map, cnts_len]; exact sl), ?_⟩
    have ez : V.int (((Sts J.sf J.n (ks.take i)).count (St J.sf J.n t1) : Nat) + 1 : Int) = nI ((Sts J.sf J.n (ks.take i)).count (St J.sf J.n t1) + 1) := by
      show V.int _ = V.int _
      congr 1
    have eset : ((cnts J.n (Sts J.sf J.n (ks.take i))).map nI).set (St J.sf J.n t1) (V.int (((Sts J.sf J.n (ks.take i)).count (St J.sf J.n t1) : Nat) + 1 : Int)) = (cnts J.n (Sts J.sf J.n (ks.take (i + 1)))).map nI := by
      rw [ez, set_nI, cnts_set _ sl, Sts_take ht1]
    refine ⟨d2, _, rfl, by rw [upd_ne nd2]; exact k6, by rw [upd_same]; exact congrArg (fun z => some (HO.lst z)) eset, extN_new ((f4.trans f5).trans (.of s6)) nb0, tabsN_lst (T5.ext s6) knb6⟩
  · rintro σ H4 ⟨due, y10, rfl, kdue, knb4, f4, T4⟩
    rw [lks, List.take_length] at kdue knb4
    have lrow : (cnts J.n (Sts J.sf J.n ks)).length = J.n := cnts_len _ _
    generalize hrow : cnts J.n (Sts J.sf J.n ks) = row at *
    refine ⟨_, rfl, nb, rfl, ⟨_, SqL.of knb4⟩, fun D hD => ?_⟩
    refine lc_list (xs := row.map nI) (fun i H2 => H2 D = some (.lst (((row.take i).map (clsN J.few J.turn)).map nI)) ∧ Same H4 H2) ⟨upd_same, same_new hD⟩ (fun i H2 _ ⟨_, s⟩ => SqL.of (s _ _ knb4)) ?_ ?_
    · rintro i x H5 hx ⟨g1, g2⟩
      rw [List.getElem?_map] at hx
      cases hz : row[i]? with
      | none => rw [hz] at hx; cases hx
      | some z =>
      rw [hz] at hx
      cases hx
      refine ⟨rfl, _, rfl, _, rfl, _, rfl, z, J.few, J.turn, rfl, hok.t1, _, g1, ?_, ?_, same_add g2 hD⟩
      · rw [List.length_map, List.length_map, List.length_take]
        exact Nat.lt_of_le_of_lt (show _ ≤ 1000000 by omega) (by decide)
      · rw [upd_same, take_succ_of hz, List.map_append, List.map_append]
        rfl
    rintro H5 ⟨g1, g2⟩
    rw [List.length_map, List.take_length] at g1
    refine ⟨D, _, rfl, .inl ⟨SqL.of g1, fun tq htq => ?_⟩⟩
    have s3 := same_new htq (o := .tup ((row.map (clsN J.few J.turn)).map nI))
    have k3 := upd_same (H := H5) (a := tq) (o := .tup ((row.map (clsN J.few J.turn)).map nI))
    generalize upd H5 tq (.tup ((row.map (clsN J.few J.turn)).map nI)) = H6 at *
    have S6 := g2.trans s3
    have f6 := f4.trans (.of S6)
    have T6 := T4.ext S6
    refine ⟨_, rfl, _, rfl, _, _, J, .node c ks, rfl, hJ.extN f6, hok, ht.extN1 f6, by simp only [Tr.size]; omega, hL, T6, fun r H7 f7 T7 hr0 hr7 => ?_⟩
    have lpost : (Tr.node c ks).post.length = (Tr.node c ks).size := post_len _
    simp only [Tr.size] at lpost
    have kt7 := tup_ext f7 k3
    have hJ7 := hJ.extN (f6.trans f7)
    have kdue7 := lst_ext f7 ((S6 _ _ kdue))
    have ft7 := f6.trans f7
    have key := hok.key (c := c) hL2.1 lrow
    refine ⟨_, rfl, _, rfl, _, rfl, a, _, 0, _, rfl, rfl, SqT.of (tup_ext ft7 h1), atI_nat (j := 0) rfl, _, rfl, (by show 2 ≤ sizeLine; decide), fun b2 hb2 => ?_⟩
    have s8 := same_new hb2 (o := .tup [.str (ch c), .ref tq])
    have k8 := upd_same (H := H7) (a := b2) (o := .tup [.str (ch c), .ref tq])
    generalize upd H7 b2 (.tup [.str (ch c), .ref tq]) = H8 at *
    have ft8 := ft7.trans (.of s8)
    refine ⟨d, b2, xs, keyN c (row.map (clsN J.few J.turn)), _, rfl, rfl, ft8 _ _ hd not_tbl, hrn.keep fun b ys e => ft8 _ _ e (fun _ z => by cases z), nk_key k8 (s8 _ _ kt7), keyN_depth _ _, atN_rows hrj (hper.mem_iff.mpr key), (by show 1 ≤ sizeLine; decide), fun e9 he9 => ?_⟩
    have s9 := same_new he9 (o := .lst [nI (J.fs c (row.map (clsN J.few J.turn)))])
    have k9 := upd_same (H := H8) (a := e9) (o := .lst [nI (J.fs c (row.map (clsN J.few J.turn)))])
    generalize hH9 : upd H8 e9 (.lst [nI (J.fs c (row.map (clsN J.few J.turn)))]) = H9 at *
    have kdue9 := s9 _ _ (s8 _ _ kdue7)
    have kr9 := s9 _ _ (s8 _ _ hr7)
    refine ⟨due, e9, _, _, rfl, rfl, kdue9, k9, ?_, fun d3 hd3 => ?_⟩
    · simp only [List.length_map, posts_len, List.length_singleton]
      exact Nat.le_trans (show _ ≤ 1000000 by omega) (by decide)
    have el : ((posts ks).map (St J.sf J.n)).map nI ++ [nI (J.fs c (row.map (clsN J.few J.turn)))] = ((Tr.node c ks).post.map (St J.sf J.n)).map nI := by
      simp only [Tr.post, List.map_append, List.map_cons, List.map_nil, St]
      rw [hrow]
      rfl
    rw [el]
    have sd := same_new hd3 (o := .lst (((Tr.node c ks).post.map (St J.sf J.n)).map nI))
    have kd3 := upd_same (H := H9) (a := d3) (o := .lst (((Tr.node c ks).post.map (St J.sf J.n)).map nI))
    have kr10 := sd _ _ kr9
    have TD := ((T7.ext s8).ext s9).ext sd
    have FD := ft8.trans (.of (s9.trans sd))
    generalize upd H9 d3 (.lst (((Tr.node c ks).post.map (St J.sf J.n)).map nI)) = HD at *
    rw [nI_map] at kd3 kr10
    refine ⟨_, _, dp_intsL (SqL.of kr10), dp_intsL (SqL.of kd3), shaped_ints _, shaped_ints _, ?_⟩
    rw [eqv_self (shaped_ints _)]
    exact q HD FD TD
end


theorem cls_more {few turn x e : Nat} (h : few ≤ x) (t : 1 ≤ turn) : clsN few turn (turn * e + x) = clsN few turn x := by
  obtain ⟨r, rfl⟩ : ∃ r, x = few + r := ⟨x - few, by omega⟩
  have low : ∀ y, few ≤ y → clsN few turn y = few + (y - few) % turn := fun y hy => by
    unfold clsN
    split
    · rw [Nat.mod_eq_of_lt (by omega)]
      omega
    · rfl
  rw [low _ (by omega), low _ h]
  have e1 : turn * e + (few + r) - few = r + turn * e := by omega
  rw [e1, Nat.add_mul_mod_self_left, Nat.add_sub_cancel_left]
theorem cnts_more {n few turn d e s : Nat} {xs : List Nat} (h : few ≤ xs.count s) (t : 1 ≤ turn) (hd : d = turn * e) : (cnts n (List.replicate d s ++ xs)).map (clsN few turn) = (cnts n xs).map (clsN few turn) := by
  unfold cnts
  rw [List.map_map, List.map_map]
  refine List.map_congr_left fun i _ => ?_
  show clsN few turn ((List.replicate d s ++ xs).count i) = clsN few turn (xs.count i)
  rw [List.count_append, List.count_replicate]
  by_cases z : s = i
  · subst z
    rw [if_pos (by simp), hd]
    exact cls_more h t
  · rw [if_neg (by simpa using z), Nat.zero_add]
theorem St_more {J : JD} (t1 : 1 ≤ J.turn) {c : Nat} {t : Tr} {ys : List Tr} {d e : Nat} (h : J.few ≤ (Sts J.sf J.n ys).count (St J.sf J.n t)) (hd : d = J.turn * e) : St J.sf J.n (.node c (List.replicate d t ++ ys)) = St J.sf J.n (.node c ys) := by
  simp only [St]
  have e1 : Sts J.sf J.n (List.replicate d t ++ ys) = List.replicate d (St J.sf J.n t) ++ Sts J.sf J.n ys := by
    rw [Sts_map, Sts_map, List.map_append, List.map_replicate]
  rw [e1]
  show J.fs c _ = J.fs c _
  rw [cnts_more h t1 hd]
theorem dats_len : ∀ ts : List Tr, (dats ts).length = ts.length
  | [] => rfl
  | t :: r => by simp only [dats, List.length_cons, dats_len r]
theorem TrsAt.rep {ok : Addr → Prop} {H : Hp} {v : V} {t : Tr} (x : TrAt ok H v t) : ∀ n, TrsAt ok H (List.replicate n v) (List.replicate n t)
  | 0 => .nil
  | n + 1 => .cons x (TrsAt.rep x n)
theorem sizes_rep (t : Tr) : ∀ n, sizes (List.replicate n t) = n * t.size
  | 0 => by simp [sizes]
  | n + 1 => by rw [List.replicate_succ, sizes, sizes_rep t n, Nat.succ_mul, Nat.add_comm]
theorem letss_rep {p : Nat → Prop} {t : Tr} (h : t.lets p) : ∀ n, letss p (List.replicate n t)
  | 0 => trivial
  | n + 1 => ⟨h, letss_rep h n⟩
theorem eqB {x y : V} {i : Decidable (x = y)} {Q : VK} {H : Hp} (h : x = y) (k : Q (.bl true) H) : Q (.bl (@decide (x = y) i)) H := by
  rw [decide_eq_true h]
  exact k
theorem Pool.ext {H H' : Hp} {p : Addr} {n : Nat} (h : Pool H p n) (f : LamX.ExtN H H') : Pool H' p n := by
  obtain ⟨x, y, s, a, b, c⟩ := h
  exact ⟨x, y, s, f _ _ a (fun _ z => by cases z), b, c⟩
theorem Pool.isLst {H : Hp} {p : Addr} {n : Nat} (h : Pool H p n) : ∃ xs : List V, H p = Option.some (HO.lst xs) := by
  obtain ⟨x, f, s, e, _⟩ := h
  exact ⟨_, e⟩
theorem Pool.tabs {TT : List NdefX.NTab} {H H' : Hp} {p : Addr} {n : Nat} (h : Pool H p n) (t : NdefX.TabsN TT H) (f : Fr p H H') : NdefX.TabsN TT H' := by
  obtain ⟨zs, e⟩ := h.isLst
  exact tabsN_fr1 t e f
theorem Pool.jato {P : Program} {w : World} {H H' : Hp} {p : Addr} {n : Nat} {v : V} {J : JD} (h : Pool H p n) (x : JAtO P w (fun b => b ≠ p) H v J) (f : Fr p H H') : JAtO P w (fun b => b ≠ p) H' v J := by
  obtain ⟨zs, e⟩ := h.isLst
  exact x.fr (fun _ h => h) e f
def FrN (p : Addr) (H H' : Hp) : Prop := ∀ b o, b ≠ p → H b = some o → (∀ ps, o ≠ .tbl ps) → H' b = some o
theorem FrN.fr {p : Addr} {H H' : Hp} (f : Fr p H H') : FrN p H H' := fun b o n e _ => f b o n e
theorem FrN.same {p : Addr} {H H' : Hp} (s : Same H H') : FrN p H H' := fun b o _ e _ => s b o e
theorem FrN.ext {p : Addr} {H H' : Hp} (f : LamX.ExtN H H') : FrN p H H' := fun b o _ e t => f b o e t
theorem FrN.trans {p : Addr} {H H1 H2 : Hp} (f : FrN p H H1) (g : FrN p H1 H2) : FrN p H H2 := fun b o n e t => g b o n (f b o n e t) t
theorem FrN.seq {K : PySem.W.Frag} {p a : Addr} {H H' : Hp} {xs : List V} (c : FrN p H H') (hp : H p = none) (h : SqL K H a xs) : SqL K H' a xs := by
  rcases h with (h | ⟨o, h⟩) | h
  · exact .inl (.inl (c _ _ (ne_of_none h hp) h fun _ e => by cases e))
  · exact .inl (.inr ⟨o, c _ _ (ne_of_none h hp) h fun _ e => by cases e⟩)
  · exact .inr h

def sp__law_turned_round (P : Program) (w : World) (TT : List NdefX.NTab) : Sp := fun vs H Q _ => ∃ (p : Addr) (m : Nat) (v u : V) (J : JD) (t : Tr), vs = [.ref p, v, u] ∧ Pool H p m ∧ m + 10 < 1000000 ∧ JAtO P w (fun b => b ≠ p) H v J ∧ J.ok ∧ TrAt (fun b => b ≠ p) H u t ∧ t.size ≤ 1000 ∧ t.depth ≤ 32 ∧ t.lets (fun c => c ∈ J.L.cps.toList) ∧ NdefX.TabsN TT H ∧
  ∀ H', FrN p H H' → Pool H' p (m + 3) → NdefX.TabsN TT H' → Q (.bl true) H'
section
variable {P : Program} {w : World} {K : PySem.W.Frag} {mg : Str → Option Value} {base : Heap}
theorem ok__law_turned_round (T : Txt K mg) (B : Tbs T base) {TT : List NdefX.NTab} (hTT : TTp T TT) : FnOk P w K mg base CX0 17 T.f__law_turned_round T.d__law_turned_round ["pool", "judge", "tree"] (sp__law_turned_round P w TT) := by
  have G_state_of : FnOk P w K mg base CX0 16 T.f_state_of T.d_state_of ["judge", "tree"] (sp_state_of P w TT) := ok_state_of T B hTT
  have G__law_take : FnOk P w K mg base CX0 1 T.f__law_take T.d__law_take ["pool", "many"] sp__law_take := ok__law_take T
  refine T.F__law_turned_round.ok sc__law_turned_round (fun vs H Q E h => ?_) (fun cdv A outer s H vs Q E hr h => ?_)
  · obtain ⟨p, m, v, u, J, t, rfl, _⟩ := h
    rfl
  obtain ⟨p, m, v, u, J, t, rfl, hp, hm, hJ, hok, ht, hz, hdp, hL, hT, q⟩ := h
  refine ⟨_, (pss_cons (ps_asg (pv 1) (pg_tup rfl (pgs_cons (pg_name (i := 3) sc__law_turned_round.nd rfl (Or.inl rfl)) (pgs_cons (pg_name (i := 4) sc__law_turned_round.nd rfl (Or.inl rfl)) (pgs_cons (pg_name (i := 5) sc__law_turned_round.nd rfl (Or.inl rfl)) (pgs_cons (pg_name (i := 6) sc__law_turned_round.nd rfl (Or.inl rfl)) (pgs_cons (pg_name (i := 7) sc__law_turned_round.nd rfl (Or.inl rfl)) (pgs_cons (pg_name (i := 8) sc__law_turned_round.nd rfl (Or.inl rfl)) pgs_nil)))))))) (pss_cons (ps_if (pt_cmpR (op_eqD hr.units) (pe_ix ix_tup (pv 2) pe_int (fun _ _ => rfl)) (pe_lst pa_nil) (nomark _)) (pss_one (ps_ret pe_bl)) pss_nil) (pss_cons (ps_set (i := 9) sc__law_turned_round.nd rfl (Or.inl rfl) (pe_ix ix_list (pe_ix ix_tup (pv 2) pe_int (fun _ _ => rfl)) (pe_call G__law_take (hr.mono (by omega)) (by rfl) T.m__law_take T.F__law_take.kp T.b__law_take .nil pass0 (pa_cons (pv 0) (pa_cons (pe_callB call_len_seq (by rfl) T.z_len PySem.boot_len (pa_cons (pe_ix ix_tup (pv 2) pe_int (fun _ _ => rfl)) pa_nil)) pa_nil))) (fun _ _ => rfl))) (pss_cons (ps_set (i := 10) sc__law_turned_round.nd rfl (Or.inl rfl) (pe_op op_add (pv 5) (pe_call G__law_take (hr.mono (by omega)) (by rfl) T.m__law_take T.F__law_take.kp T.b__law_take .nil pass0 (pa_cons (pv 0) (pa_cons pe_int pa_nil))))) (pss_cons (ps_set (i := 11) sc__law_turned_round.nd rfl (Or.inl rfl) (pe_op op_add (pv 10) (pe_op op_mul (pv 6) (pe_op op_add pe_int (pe_call G__law_take (hr.mono (by omega)) (by rfl) T.m__law_take T.F__law_take.kp T.b__law_take .nil pass0 (pa_cons (pv 0) (pa_cons pe_int pa_nil))))))) (pss_cons (ps_set (i := 12) sc__law_turned_round.nd rfl (Or.inl rfl) (pe_tup (pa_cons (pe_ix ix_tup (pv 2) pe_int (fun _ _ => rfl)) (pa_cons (pe_op op_cat (pe_ix ix_tup (pv 2) pe_int (fun _ _ => rfl)) (pe_op op_rep (pe_lst (pa_cons (pv 9) pa_nil)) (pv 10))) pa_nil)))) (pss_cons (ps_set (i := 13) sc__law_turned_round.nd rfl (Or.inl rfl) (pe_tup (pa_cons (pe_ix ix_tup (pv 2) pe_int (fun _ _ => rfl)) (pa_cons (pe_op op_cat (pe_op op_rep (pe_lst (pa_cons (pv 9) pa_nil)) (pe_op op_sub (pv 11) (pv 10))) (pe_ix ix_tup (pv 12) pe_int (fun _ _ => rfl))) pa_nil)))) (pss_one (ps_ret (pe_cmpR op_eq (pe_call G_state_of (hr.mono (by omega)) (by rfl) T.m_state_of T.F_state_of.kp T.b_state_of .nil pass0 (pa_cons (pv 1) (pa_cons (pv 12) pa_nil))) (pe_call G_state_of (hr.mono (by omega)) (by rfl) T.m_state_of T.F_state_of.kp T.b_state_of .nil pass0 (pa_cons (pv 1) (pa_cons (pv 13) pa_nil))) (nomark _))))))))))), ?_⟩
  have hJ0 := hJ
  obtain ⟨j, d, g, xs, keys, rfl, hj, hd, hrn, hrj, hper, hg, hgp⟩ := hJ0
  obtain ⟨c, ks⟩ := t
  have ht0 := ht
  cases ht0 with
  | node h1 h2 k1 k2 c1 c2 hks =>
  rename_i a l ws
  have hL2 := hL
  simp only [Tr.lets] at hL2
  simp only [Tr.size] at hz
  simp only [Tr.depth] at hdp
  have lks := hks.len
  have lsz := len_sizes ks
  have t4 := hok.t4
  have t1 := hok.t1
  have f4 := hok.f4
  refine ⟨_, rfl, _, _, rfl, SqT.of hj, rfl, _, _, rfl, _, _, rfl, _, _, rfl, _, _, rfl, _, _, rfl, _, _, rfl, rfl, ?_⟩
  refine ⟨_, rfl, a, _, 1, _, rfl, rfl, SqT.of h1, atI_nat (j := 1) rfl, (by show 0 ≤ sizeLine; decide), fun e he => ?_⟩
  have se := same_new he (o := .lst [])
  have ke := upd_same (H := H) (a := e) (o := .lst [])
  generalize upd H e (.lst []) = H1 at *
  have hks1 := hks.same se
  have h11 := se _ _ h1
  have h21 := se _ _ h2
  refine ⟨_, _, .lst (SqL.of h21) (TrsAt.dp ks _ hks1), dp_nil ke, shaped_trs hks1 (by omega), shaped_nil, _, rfl, ?_⟩
  rw [eqv_nil, dats_len]
  have p1 := hp.keep se
  by_cases hk0 : ks.length = 0
  · rw [decide_eq_true hk0]
    exact iteT (q H1 (.same se) (p1.mono (by omega)) (hT.ext se))
  rw [decide_eq_false hk0]
  refine iteF ?_
  refine ⟨_, rfl, a, _, 1, _, rfl, rfl, SqT.of h11, atI_nat (j := 1) rfl, _, rfl, _, rfl, a, _, 1, _, rfl, rfl, SqT.of h11, atI_nat (j := 1) rfl, l, _, rfl, .inl (SqL.of h21), p, _, m, rfl, p1, by omega, by omega, by omega, fun r H2 r0 r1 ch2 p2 => ?_⟩
  have h12 := ch2.at h11 k1
  have h22 := ch2.at h21 k2
  have hks2 := hks1.keep (fun b o n e => ch2.at e n)
  obtain ⟨rn, rfl⟩ : ∃ rn : Nat, r = (rn : Int) := ⟨r.toNat, by omega⟩
  have hrl : rn < ks.length := by omega
  obtain ⟨cv, hcv, hct⟩ := hks2.get (List.getElem?_eq_getElem hrl)
  have tm : ks[rn] ∈ ks := List.getElem_mem hrl
  have sz1 := sizes_mem tm
  have dp1 := depths_mem tm
  have lt1 := letss_mem hL2.2 tm
  generalize ks[rn] = t0 at *
  refine ⟨l, _, rn, cv, rfl, rfl, SqL.of h22, atI_nat hcv, ?_⟩
  refine ⟨_, rfl, _, rfl, p, 3, _, rfl, p2, by omega, by decide, by decide, fun x H3 x0 x1 ch3 p3 => ⟨_, _, rfl, rfl, ?_⟩⟩
  obtain ⟨many, hmany, mf, m6⟩ : ∃ many : Nat, (J.few : Int) + x = (many : Int) ∧ J.few ≤ many ∧ many ≤ 6 := ⟨((J.few : Int) + x).toNat, by omega, by omega, by omega⟩
  show gName 10 (.int ((J.few : Int) + x)) _ _ _
  rw [hmany]
  refine ⟨_, rfl, _, rfl, _, rfl, p, 3, _, rfl, p3, by omega, by decide, by decide, fun y H4 y0 y1 ch4 p4 => ⟨_, _, rfl, rfl, _, _, rfl, rfl, .inl ⟨by omega, by omega⟩, _, _, rfl, rfl, ?_⟩⟩
  obtain ⟨ev, hev, e3⟩ : ∃ ev : Nat, 1 + y = (ev : Int) ∧ ev ≤ 3 := ⟨(1 + y).toNat, by omega, by omega⟩
  show gName 11 (.int ((many : Int) + (J.turn : Int) * (1 + y))) _ _ _
  rw [hev]
  have em : (many : Int) + (J.turn : Int) * (ev : Int) = ((many + J.turn * ev : Nat) : Int) := by push_cast; rfl
  rw [em]
  have m12 : J.turn * ev ≤ 12 := Nat.mul_le_mul t4 e3
  have F24 : Fr p H1 H4 := ((Fr.chg ch2).trans (Fr.chg ch3)).trans (Fr.chg ch4)
  have h14 := F24 _ _ k1 h11
  have h24 := F24 _ _ k2 h21
  have hks4 := hks1.keep (fun b o n e => F24 b o n e)
  have hct4 := hct.keep (fun b o n e => ch4.at (ch3.at e n) n)
  have T4 := p1.tabs (hT.ext se) F24
  have J4 := p1.jato (hJ.same se) F24
  have FF4 : Fr p H H4 := (Fr.same se).trans F24
  clear hks1 h11 h21 p1 h12 h22 hks2 p2 p3 ch2 ch3 ch4 F24 se ke hct hks h1 h2 hJ hp hj hd hrn hrj hg hT
  refine ⟨_, rfl, a, _, 0, _, rfl, rfl, SqT.of h14, atI_nat (j := 0) rfl, _, rfl, a, _, 1, _, rfl, rfl, SqT.of h14, atI_nat (j := 1) rfl, _, rfl, (by show 1 ≤ sizeLine; decide), fun l1 hl1 => ⟨_, rfl, l1, (many : Int), [cv], rfl, rfl, upd_same, by omega, by omega, ?_, fun lr hlr => ?_⟩⟩
  · rw [Int.toNat_natCast]
    exact Nat.le_trans (show 1 * many ≤ 1000000 by omega) (by decide)
  have er : (List.replicate ((many : Int)).toNat [cv]).flatten = List.replicate many cv := by
    rw [Int.toNat_natCast]
    simp
  rw [er]
  have s5 := (same_new hl1 (o := .lst [cv])).trans (same_new hlr (o := .lst (List.replicate many cv)))
  have k5 := upd_same (H := upd H4 l1 (.lst [cv])) (a := lr) (o := .lst (List.replicate many cv))
  generalize upd (upd H4 l1 (.lst [cv])) lr (.lst (List.replicate many cv)) = H5 at *
  refine ⟨l, lr, _, _, rfl, rfl, s5 _ _ h24, k5, ?_, fun lc hlc => ⟨(by show 2 ≤ sizeLine; decide), fun a1 ha1 => ?_⟩⟩
  · rw [List.length_replicate]
    exact Nat.le_trans (show _ ≤ 1000000 by omega) (by decide)
  have s6 := same_new hlc (o := .lst (ws ++ List.replicate many cv))
  have k6 := upd_same (H := H5) (a := lc) (o := .lst (ws ++ List.replicate many cv))
  generalize upd H5 lc (.lst (ws ++ List.replicate many cv)) = H6 at *
  have s7 := same_new ha1 (o := .tup [.str (ch c), .ref lc])
  have k7 := upd_same (H := H6) (a := a1) (o := .tup [.str (ch c), .ref lc])
  generalize upd H6 a1 (.tup [.str (ch c), .ref lc]) = H7 at *
  have S7 := (s5.trans s6).trans s7
  have one : TrAt (fun _ => True) H7 (.ref a1) (.node c (ks ++ List.replicate many t0)) := .node k7 (s7 _ _ k6) trivial trivial c1 c2 (((hks4.same S7).append (TrsAt.rep (hct4.same S7) many)).weak fun _ _ => trivial)
  have h17 := S7 _ _ h14
  have emm : ((many + J.turn * ev : Nat) : Int) - (many : Int) = ((J.turn * ev : Nat) : Int) := by push_cast; omega
  refine ⟨_, rfl, a, _, 0, _, rfl, rfl, SqT.of h17, atI_nat (j := 0) rfl, _, rfl, (by show 1 ≤ sizeLine; decide), fun l2 hl2 => ⟨_, rfl, _, rfl, _, _, rfl, rfl, l2, ((J.turn * ev : Nat) : Int), [cv], rfl, congrArg V.int emm, upd_same, by omega, by omega, ?_, fun lr2 hlr2 => ?_⟩⟩
  · rw [Int.toNat_natCast]
    exact Nat.le_trans (show 1 * (J.turn * ev) ≤ 1000000 by omega) (by decide)
  have er2 : (List.replicate ((J.turn * ev : Nat) : Int).toNat [cv]).flatten = List.replicate (J.turn * ev) cv := by
    rw [Int.toNat_natCast]
    simp
  rw [er2]
  have s8 := (same_new hl2 (o := .lst [cv])).trans (same_new hlr2 (o := .lst (List.replicate (J.turn * ev) cv)))
  have k8 := upd_same (H := upd H7 l2 (.lst [cv])) (a := lr2) (o := .lst (List.replicate (J.turn * ev) cv))
  generalize upd (upd H7 l2 (.lst [cv])) lr2 (.lst (List.replicate (J.turn * ev) cv)) = H8 at *
  refine ⟨_, rfl, a1, _, 1, _, rfl, rfl, SqT.of (s8 _ _ k7), atI_nat (j := 1) rfl, lr2, lc, _, _, rfl, rfl, k8, s8 _ _ (s7 _ _ k6), ?_, fun lc2 hlc2 => ⟨(by show 2 ≤ sizeLine; decide), fun a2 ha2 => ?_⟩⟩
  · rw [List.length_append, List.length_replicate, List.length_replicate]
    exact Nat.le_trans (show _ ≤ 1000000 by omega) (by decide)
  have s9 := same_new hlc2 (o := .lst (List.replicate (J.turn * ev) cv ++ (ws ++ List.replicate many cv)))
  have k9 := upd_same (H := H8) (a := lc2) (o := .lst (List.replicate (J.turn * ev) cv ++ (ws ++ List.replicate many cv)))
  generalize upd H8 lc2 (.lst (List.replicate (J.turn * ev) cv ++ (ws ++ List.replicate many cv))) = H9 at *
  have s10 := same_new ha2 (o := .tup [.str (ch c), .ref lc2])
  have k10 := upd_same (H := H9) (a := a2) (o := .tup [.str (ch c), .ref lc2])
  generalize upd H9 a2 (.tup [.str (ch c), .ref lc2]) = H10 at *
  have S10 := (s8.trans s9).trans s10
  have SS := S7.trans S10
  have other : TrAt (fun _ => True) H10 (.ref a2) (.node c (List.replicate (J.turn * ev) t0 ++ (ks ++ List.replicate many t0))) := .node k10 (s10 _ _ k9) trivial trivial c1 c2 (((TrsAt.rep (hct4.same SS) _).append ((hks4.same SS).append (TrsAt.rep (hct4.same SS) many))).weak fun _ _ => trivial)
  have z1 := sizes_rep t0 many
  have z2 := sizes_rep t0 (J.turn * ev)
  have b1 : many * t0.size ≤ 6 * 1000 := Nat.mul_le_mul m6 (by omega)
  have b2 : J.turn * ev * t0.size ≤ 12 * 1000 := Nat.mul_le_mul m12 (by omega)
  have L1 : letss (fun c => c ∈ J.L.cps.toList) (ks ++ List.replicate many t0) := (letss_append _ _ _).mpr ⟨hL2.2, letss_rep lt1 _⟩
  have st : St J.sf J.n (.node c (ks ++ List.replicate many t0)) = St J.sf J.n (.node c (List.replicate (J.turn * ev) t0 ++ (ks ++ List.replicate many t0))) := by
    refine (St_more t1 ?_ rfl).symm
    rw [Sts_map, List.map_append, List.count_append, List.map_replicate, List.count_replicate, if_pos (by simp)]
    omega
  refine ⟨_, rfl, _, rfl, _, _, J, _, rfl, (J4.same SS).at, hok, one.same S10, by simp only [Tr.size, sizes_append]; omega, ⟨hL2.1, L1⟩, T4.ext SS, fun H11 e11 T11 => ?_⟩
  refine ⟨_, rfl, _, rfl, _, _, J, _, rfl, ((J4.same SS).extN e11).at, hok, other.extN1 e11, by simp only [Tr.size, sizes_append]; omega, ⟨hL2.1, (letss_append _ _ _).mpr ⟨letss_rep lt1 _, L1⟩⟩, T11, fun H12 e12 T12 => ?_⟩
  refine ⟨rfl, eqB (congrArg nI st) (q H12 ?_ ?_ T12)⟩
  · exact ((FrN.fr FF4).trans (.same SS)).trans (.ext (e11.trans e12))
  · exact (((p4.keep SS).ext e11).ext e12).mono (by omega)
end


theorem sizes_sum : ∀ ks : List Tr, sizes ks = (ks.map Tr.size).sum
  | [] => rfl
  | t :: r => by rw [sizes, List.map_cons, List.sum_cons, sizes_sum r]
theorem sum_cast (l : List Nat) : (l.map fun x : Nat => (x : Int)).sum = ((l.sum : Nat) : Int) := by
  induction l with
  | nil => rfl
  | cons a t ih =>
    rw [List.map_cons, List.sum_cons, List.sum_cons, ih]
    push_cast
    rfl
def sp__law_parts (d : Nat) : Sp := fun vs H Q _ => ∃ (v : V) (t : Tr), vs = [v] ∧ TrAt (fun _ => True) H v t ∧ t.depth ≤ d ∧ t.size ≤ 1000000 ∧ ∀ H', Same H H' → Q (nI t.size) H'
section
variable {P : Program} {w : World} {K : PySem.W.Frag} {mg : Str → Option Value} {base : Heap}
theorem ok__law_parts (T : Txt K mg) : ∀ d : Nat, FnOk P w K mg base CX0 d T.f__law_parts T.d__law_parts ["tree"] (sp__law_parts d)
  | 0 => none_of fun vs H Q E ⟨v, t, _, _, h, _⟩ => by have := depth_pos t; omega
  | d + 1 => by
    have G__law_parts : FnOk P w K mg base CX0 d T.f__law_parts T.d__law_parts ["tree"] (sp__law_parts d) := ok__law_parts T d
    refine T.F__law_parts.ok sc__law_parts (fun vs H Q E h => ?_) (fun cdv A outer s H vs Q E hr h => ?_)
    · obtain ⟨v, t, rfl, _⟩ := h
      rfl
    obtain ⟨v, t, rfl, ht, hd, hz, q⟩ := h
    refine ⟨_, (pss_one (ps_ret (pe_op op_add pe_int (pe_callB (cr_sum rfl) (by rfl) T.z_sum (by decide +kernel) (pa_cons (pe_lc (own := [("child", 1)]) (g := gName 1) (te := tCall (sp__law_parts d) [] E0 (tCons (tVar 1) tNil)) (tt := tYes) rfl sc__law_parts.nd (pi_list (pe_ix ix_tup (pv 0) pe_int (fun _ _ => rfl))) (blkOk_by (own := [("child", 1)]) (N := ["tree", "child"]) (sc := (defScope s__law_parts)) (by decide +kernel)) (fun _ _ _ _ _ => (pg_name (i := 1) sc__law_parts.nd rfl (Or.inl rfl))) (fun _ _ _ _ _ => pts_nil) (fun _ _ _ _ _ => (pe_call G__law_parts (hr.mono (by omega)) (by rfl) T.m__law_parts T.F__law_parts.kp T.b__law_parts .nil pass0 (pa_cons (pv 1) pa_nil)))) pa_nil))))), ?_⟩
    obtain ⟨c, ks⟩ := t
    simp only [Tr.depth] at hd
    simp only [Tr.size] at hz
    have lz := len_sizes ks
    cases ht with
    | node h1 h2 k1 k2 c1 c2 r =>
      rename_i a l xs
      have lr := r.len
      refine ⟨_, rfl, a, _, 1, _, rfl, rfl, SqT.of h1, atI_nat (j := 1) rfl, l, rfl, ⟨_, SqL.of h2⟩, fun D hD => ?_⟩
      refine lc_list (xs := xs) (fun i H2 => H2 D = some (.lst (((ks.take i).map Tr.size).map nI)) ∧ Same H H2) ⟨upd_same, same_new hD⟩ (fun i H2 _ h => SqL.of (h.2 _ _ h2)) ?_ ?_
      · rintro i x H2 hx ⟨g1, g2⟩
        obtain ⟨t1, ht1, hx2⟩ := r.getV hx
        have dt := depths_mem (List.mem_of_getElem? ht1)
        have st := sizes_mem (List.mem_of_getElem? ht1)
        refine ⟨rfl, _, rfl, x, t1, rfl, hx2.same g2 |>.weak (fun _ _ => trivial), by omega, by omega, fun H3 s3 => ⟨_, s3 _ _ g1, ?_, ?_, same_add (g2.trans s3) hD⟩⟩
        · rw [List.length_map, List.length_map, List.length_take]
          exact Nat.lt_of_le_of_lt (show _ ≤ 1000000 by omega) (by decide)
        · rw [upd_same, take_succ_of ht1, List.map_append, List.map_append]
          rfl
      · rintro H2 ⟨g1, g2⟩
        rw [lr, List.take_length, nI_map] at g1
        refine ⟨D, _, rfl, .inl (.inl g1), _, _, rfl, rfl, ?_⟩
        have e : (1 : Int) + ((ks.map Tr.size).map fun n : Nat => (n : Int)).sum = (((Tr.node c ks).size : Nat) : Int) := by
          rw [sum_cast, Tr.size, sizes_sum]
          push_cast
          rfl
        show Q (V.int _) _
        rw [e]
        exact q _ g2
theorem kids_flat_len : ∀ ks : List Tr, (ks.flatMap Tr.kids).length ≤ sizes ks
  | [] => Nat.le_refl _
  | .node c js :: r => by
    have := kids_flat_len r
    have := len_sizes js
    simp only [List.flatMap_cons, List.length_append, Tr.kids, sizes, Tr.size]
    omega
theorem TrsAt.extNs {ok : Addr → Prop} {H H' : Hp} {vs : List V} {ts : List Tr} (x : TrsAt ok H vs ts) (f : LamX.ExtN H H') : TrsAt ok H' vs ts :=
  ((TrsAt.kind1 ts vs x).keep fun b o h e => f b o e fun ps e2 => h.2 ps (by rw [e, e2])).weak fun b h => h.1
theorem TrsAt.takes {ok : Addr → Prop} {H : Hp} : ∀ {vs : List V} {ts : List Tr}, TrsAt ok H vs ts → ∀ n, TrsAt ok H (vs.take n) (ts.take n)
  | _, _, .nil, n => by simp only [List.take_nil]; exact .nil
  | _, _, .cons a b, 0 => .nil
  | _, _, .cons a b, n + 1 => .cons a (TrsAt.takes b n)
theorem TrsAt.drops {ok : Addr → Prop} {H : Hp} : ∀ {vs : List V} {ts : List Tr}, TrsAt ok H vs ts → ∀ n, TrsAt ok H (vs.drop n) (ts.drop n)
  | _, _, .nil, n => by simp only [List.drop_nil]; exact .nil
  | _, _, .cons a b, 0 => .cons a b
  | _, _, .cons a b, n + 1 => TrsAt.drops b n
theorem atI_cast {xs : List V} {k : Nat} {v : V} (h : xs[k]? = some v) : atI xs (k : Int) = some v := atI_nat h
def sp__law_exchanged (P : Program) (w : World) (TT : List NdefX.NTab) : Sp := fun vs H Q _ => ∃ (p : Addr) (m : Nat) (v u : V) (J : JD) (t : Tr), vs = [.ref p, v, u] ∧ Pool H p m ∧ m + 10 < 1000000 ∧ JAtO P w (fun b => b ≠ p) H v J ∧ J.ok ∧ TrAt (fun b => b ≠ p) H u t ∧ t.size ≤ 60 ∧ t.depth ≤ 31 ∧ t.lets (fun c => c ∈ J.L.cps.toList) ∧ NdefX.TabsN TT H ∧
  ∀ H', FrN p H H' → Pool H' p (m + 3) → NdefX.TabsN TT H' → Q (.bl true) H'
theorem ok__law_exchanged (T : Txt K mg) (B : Tbs T base) {TT : List NdefX.NTab} (hTT : TTp T TT) : FnOk P w K mg base CX0 33 T.f__law_exchanged T.d__law_exchanged ["pool", "judge", "tree"] (sp__law_exchanged P w TT) := by
  have G_state_of : FnOk P w K mg base CX0 16 T.f_state_of T.d_state_of ["judge", "tree"] (sp_state_of P w TT) := ok_state_of T B hTT
  have G__law_take : FnOk P w K mg base CX0 1 T.f__law_take T.d__law_take ["pool", "many"] sp__law_take := ok__law_take T
  have G__law_parts : FnOk P w K mg base CX0 32 T.f__law_parts T.d__law_parts ["tree"] (sp__law_parts 32) := ok__law_parts T 32
  refine T.F__law_exchanged.ok sc__law_exchanged (fun vs H Q E h => ?_) (fun cdv A outer s H vs Q E hr h => ?_)
  · obtain ⟨p, m, v, u, J, t, rfl, _⟩ := h
    rfl
  obtain ⟨p, m, v, u, J, t, rfl, hp, hm, hJ, hok, ht, hz, hdp, hL, hT, q⟩ := h
  refine ⟨_, (pss_cons (ps_set (i := 3) sc__law_exchanged.nd rfl (Or.inl rfl) (pe_callTy call_list_of (by rfl) T.z_list (by decide +kernel) (pa_cons (pe_ix ix_tup (pv 2) pe_int (fun _ _ => rfl)) pa_nil))) (pss_cons (ps_for PassesOwn.never rfl (pi_list (pe_ix ix_tup (pv 2) pe_int (fun _ _ => rfl))) (pg_name (i := 4) sc__law_exchanged.nd rfl (Or.inl rfl)) (pss_one (ps_set (i := 3) sc__law_exchanged.nd rfl (Or.inl rfl) (pe_op op_cat (pv 3) (pe_ix ix_tup (pv 4) pe_int (fun _ _ => rfl)))))) (pss_cons (ps_if (pt_cmpR (op_eqD hr.units) (pv 3) (pe_lst pa_nil) (nomark _)) (pss_one (ps_ret pe_bl)) pss_nil) (pss_cons (ps_set (i := 5) sc__law_exchanged.nd rfl (Or.inr rfl) (pe_call G__law_take (hr.mono (by omega)) (by rfl) T.m__law_take T.F__law_take.kp T.b__law_take .nil pass0 (pa_cons (pv 0) (pa_cons (pe_callB call_len_seq (by rfl) T.z_len PySem.boot_len (pa_cons (pe_ix ix_tup (pv 2) pe_int (fun _ _ => rfl)) pa_nil)) pa_nil)))) (pss_cons (ps_setLc (i := 6) (own := [("part", 4)]) (g := gName 4) (te := tVar 4) (tt := tTest (tOp rEq (tCall (sp_state_of P w TT) [] E0 (tCons (tVar 1) (tCons (tVar 4) tNil))) (tCall (sp_state_of P w TT) [] E0 (tCons (tVar 1) (tCons (tOp (rIxL K) (tOp (rIxT K) (tVar 2) (tC (.int 1))) (tVar 5)) tNil))))) rfl sc__law_exchanged.nd rfl rfl (sw_true rfl rfl rfl (by decide +kernel)) (pi_list (pv 3)) (blkOk_by (own := [("part", 4)]) (N := ["pool", "judge", "tree", "parts", "part", "at", "like", "other"]) (sc := (defScope s__law_exchanged)) (by decide +kernel)) (fun _ _ _ _ _ => (pg_name (i := 4) sc__law_exchanged.nd rfl (Or.inl rfl))) (fun _ _ _ _ _ => pts_one (pt_cmpR op_eq (pe_call G_state_of (hr.mono (by omega)) (by rfl) T.m_state_of T.F_state_of.kp T.b_state_of .nil pass0 (pa_cons (pv 1) (pa_cons (pv 4) pa_nil))) (pe_call G_state_of (hr.mono (by omega)) (by rfl) T.m_state_of T.F_state_of.kp T.b_state_of .nil pass0 (pa_cons (pv 1) (pa_cons (pe_ix ix_list (pe_ix ix_tup (pv 2) pe_int (fun _ _ => rfl)) (pv 5) (fun _ _ => rfl)) pa_nil))) (nomark _))) (fun _ _ _ _ _ => (pv 4))) (pss_cons (ps_set (i := 4) sc__law_exchanged.nd rfl (Or.inl rfl) (pe_ix ix_list (pv 6) (pe_call G__law_take (hr.mono (by omega)) (by rfl) T.m__law_take T.F__law_take.kp T.b__law_take .nil pass0 (pa_cons (pv 0) (pa_cons (pe_callB call_len_seq (by rfl) T.z_len PySem.boot_len (pa_cons (pv 6) pa_nil)) pa_nil))) (fun _ _ => rfl))) (pss_cons (ps_set (i := 7) sc__law_exchanged.nd rfl (Or.inl rfl) (pe_tup (pa_cons (pe_ix ix_tup (pv 2) pe_int (fun _ _ => rfl)) (pa_cons (pe_op op_cat (pe_op op_cat (pe_slice sl_list (pe_ix ix_tup (pv 2) pe_int (fun _ _ => rfl)) po_none (po_some (pv 5))) (pe_lst (pa_cons (pv 4) pa_nil))) (pe_slice sl_list (pe_ix ix_tup (pv 2) pe_int (fun _ _ => rfl)) (po_some (pe_op op_add (pv 5) pe_int)) po_none)) pa_nil)))) (pss_one (ps_ret (pe_or (pe_cmpR op_gt (pe_call G__law_parts (hr.mono (by omega)) (by rfl) T.m__law_parts T.F__law_parts.kp T.b__law_parts .nil pass0 (pa_cons (pv 7) pa_nil)) pe_int (nomark _)) (pe_one (pe_cmpR op_eq (pe_call G_state_of (hr.mono (by omega)) (by rfl) T.m_state_of T.F_state_of.kp T.b_state_of .nil pass0 (pa_cons (pv 1) (pa_cons (pv 7) pa_nil))) (pe_call G_state_of (hr.mono (by omega)) (by rfl) T.m_state_of T.F_state_of.kp T.b_state_of .nil pass0 (pa_cons (pv 1) (pa_cons (pv 2) pa_nil))) (nomark _))))))))))))), ?_⟩
  obtain ⟨c, ks⟩ := t
  have ht0 := ht
  cases ht0 with
  | node h1 h2 k1 k2 c1 c2 hks =>
  rename_i a l ws
  have hL2 := hL
  simp only [Tr.lets] at hL2
  have hz2 := hz
  simp only [Tr.size] at hz2
  have hdp2 := hdp
  simp only [Tr.depth] at hdp2
  have lks := hks.len
  have lsz := len_sizes ks
  have lfl := kids_flat_len ks
  refine ⟨_, rfl, a, _, 1, _, rfl, rfl, SqT.of h1, atI_nat (j := 1) rfl, l, ws, rfl, .inl (SqL.of h2), fun p0 hp0 => ?_⟩
  have s0 := same_new hp0 (o := .lst ws)
  have kp0 := upd_same (H := H) (a := p0) (o := .lst ws)
  generalize upd H p0 (.lst ws) = H0 at *
  refine ⟨_, rfl, a, _, 1, _, rfl, rfl, SqT.of (s0 _ _ h1), atI_nat (j := 1) rfl, l, rfl, ⟨_, SqL.of (s0 _ _ h2)⟩, for_list (xs := ws) (fun i σ H' => ∃ (pl : Addr) (vs : List V) (y4 : Option V), σ = [some (.ref p), some v, some (.ref a), some (.ref pl), y4, none, none, none] ∧ H' pl = some (.lst vs) ∧ TrsAt (fun b => b ≠ p) H' vs (ks ++ (ks.take i).flatMap Tr.kids) ∧ Same H H') ⟨p0, ws, none, rfl, kp0, by simpa using hks.same s0, s0⟩ (fun i σ H' _ ⟨_, _, _, _, _, _, s⟩ => SqL.of (s _ _ h2)) ?_ ?_⟩
  · rintro i x σ H1 hx ⟨pl, vs, y4, rfl, g1, g2, g3⟩
    obtain ⟨t1, ht1, hx1⟩ := hks.getV hx
    have hx2 := hx1.same g3
    obtain ⟨c', js⟩ := t1
    cases hx2 with
    | node e1 e2 o1 o2 d1 d2 hjs =>
    rename_i ax lx jvs
    have l1 := g2.len
    have l2 := hjs.len
    have l3 := len_sizes js
    have sm := sizes_mem (List.mem_of_getElem? ht1)
    simp only [Tr.size] at sm
    have lf := kids_flat_len (ks.take i)
    have lt := posts_take_len ks i
    rw [posts_len] at lt
    refine ⟨_, rfl, _, rfl, _, _, 1, _, rfl, rfl, SqT.of e1, atI_nat (j := 1) rfl, pl, _, _, _, rfl, rfl, g1, e2, ?_, fun q1 hq1 => ?_⟩
    · rw [List.length_append] at l1
      exact Nat.le_trans (show _ ≤ 1000000 by omega) (by decide)
    have s1 := same_new hq1 (o := .lst (vs ++ jvs))
    refine ⟨q1, _, _, rfl, upd_same, ?_, g3.trans s1⟩
    rw [take_succ_of ht1, List.flatMap_append, ← List.append_assoc]
    simp only [List.flatMap_cons, List.flatMap_nil, List.append_nil, Tr.kids]
    exact (g2.same s1).append (hjs.same s1)
  rintro σ H1 ⟨pl, vs, y4, rfl, g1, g2, g3⟩
  rw [lks, List.take_length] at g2
  have hin : ∀ t1 ∈ ks ++ ks.flatMap Tr.kids, t1.lets (fun c => c ∈ J.L.cps.toList) ∧ t1.size ≤ 60 ∧ t1.depth ≤ 30 := by
    intro t1 h
    rcases List.mem_append.mp h with h | h
    · have a := sizes_mem h
      have b := depths_mem h
      exact ⟨letss_mem hL2.2 h, by omega, by omega⟩
    · obtain ⟨⟨c', js⟩, h3, h4⟩ := List.mem_flatMap.mp h
      have a := sizes_mem h3
      have b := depths_mem h3
      have a2 := sizes_mem (ts := js) h4
      have b2 := depths_mem (ts := js) h4
      have l2 := letss_mem hL2.2 h3
      simp only [Tr.size] at a
      simp only [Tr.depth] at b
      simp only [Tr.lets] at l2
      exact ⟨letss_mem l2.2 h4, by omega, by omega⟩
  have lvs := g2.len
  have lps : (ks ++ ks.flatMap Tr.kids).length ≤ 120 := by rw [List.length_append]; omega
  have hat : ∀ k, k < ks.length → (ks ++ ks.flatMap Tr.kids)[k]? = ks[k]? := fun k hk => List.getElem?_append_left hk
  have hks0 : (ks ++ ks.flatMap Tr.kids).length ≠ 0 → 1 ≤ ks.length := fun h => by
    cases ks with
    | nil => exact absurd rfl h
    | cons _ _ => simp
  have hdps : depths (ks ++ ks.flatMap Tr.kids) ≤ 31 := by
    have : ∀ ts : List Tr, (∀ t ∈ ts, t.depth ≤ 30) → depths ts ≤ 31 := by
      intro ts
      induction ts with
      | nil => intro _; simp [depths]
      | cons t r ih =>
        intro h
        have a := h t List.mem_cons_self
        have b := ih fun x hx => h x (List.mem_cons_of_mem _ hx)
        simp only [depths]
        omega
    exact this _ fun t ht => (hin t ht).2.2
  generalize hPS : ks ++ ks.flatMap Tr.kids = PS at *
  refine ⟨_, rfl, (by show 0 ≤ sizeLine; decide), fun e he => ?_⟩
  have se := same_new he (o := .lst [])
  have ke := upd_same (H := H1) (a := e) (o := .lst [])
  generalize upd H1 e (.lst []) = H2 at *
  have G2 := g2.same se
  have S2 := g3.trans se
  have kpl := se _ _ g1
  refine ⟨_, _, .lst (SqL.of kpl) (TrsAt.dp PS _ G2), dp_nil ke, shaped_trs G2 hdps, shaped_nil, _, rfl, ?_⟩
  rw [eqv_nil, dats_len]
  by_cases hk0 : PS.length = 0
  · rw [decide_eq_true hk0]
    exact iteT (q H2 (.same S2) ((hp.keep S2).mono (by omega)) (hT.ext S2))
  rw [decide_eq_false hk0]
  refine iteF ?_
  have hk1 := hks0 hk0
  have p2 := hp.keep S2
  refine ⟨_, rfl, _, rfl, a, _, 1, _, rfl, rfl, SqT.of (S2 _ _ h1), atI_nat (j := 1) rfl, l, _, rfl, .inl (SqL.of (S2 _ _ h2)), p, _, m, rfl, p2, by omega, by omega, by omega, fun r H3 r0 r1 ch3 p3 => ?_⟩
  obtain ⟨rn, rfl⟩ : ∃ rn : Nat, r = (rn : Int) := ⟨r.toNat, by omega⟩
  have hrl : rn < ks.length := by omega
  have F3 : Fr p H H3 := (Fr.same S2).trans (Fr.chg ch3)
  have npl : pl ≠ p := by
    obtain ⟨_, _, _, ep, _⟩ := id p2
    intro z
    rw [z, ep] at kpl
    cases kpl
    cases G2 with
    | cons x _ => cases x
  have h13 := F3 _ _ k1 h1
  have h23 := F3 _ _ k2 h2
  have G3 := G2.keep (fun b o n e => ch3.at e n)
  have kpl3 := ch3.at kpl npl
  have hks3 := hks.keep (fun b o n e => F3 b o n e)
  have T3 := hp.tabs hT F3
  have J3 := hp.jato hJ F3
  obtain ⟨cv, hcv, hct⟩ := hks3.get (List.getElem?_eq_getElem hrl)
  have tm : ks[rn] ∈ ks := List.getElem_mem hrl
  have hi0 := hin _ (by rw [← hPS]; exact List.mem_append_left _ tm)
  have hgt : PS[rn]? = some ks[rn] := by rw [hat _ hrl, List.getElem?_eq_getElem hrl]
  generalize ht0 : ks[rn] = t0 at *
  clear se ke G2 S2 kpl p2 ch3 g1 g2 g3 s0 kp0
  refine ⟨_, rfl, pl, rfl, ⟨_, SqL.of kpl3⟩, fun D hD => ?_⟩
  have off : ∀ b o, H3 b = some o → b ≠ D := fun b o e z => by rw [z, hD] at e; cases e
  refine lc_list (xs := vs) (fun i H' => ∃ (ls : List V) (us : List Tr), H' D = some (.lst ls) ∧ TrsAt (fun b => b ≠ p ∧ b ≠ D) H' ls us ∧ (∀ x ∈ us, x ∈ PS ∧ St J.sf J.n x = St J.sf J.n t0) ∧ us.length ≤ i ∧ (rn < i → 1 ≤ us.length) ∧ LamX.ExtN H3 H' ∧ NdefX.TabsN TT H') ⟨[], [], upd_same, .nil, (fun _ h => by cases h), Nat.le_refl _, fun h => absurd h (Nat.not_lt_zero _), .of (same_new hD), T3.ext (same_new hD)⟩ (fun i H' _ ⟨_, _, _, _, _, _, _, f, _⟩ => SqL.of (lst_ext f kpl3)) ?_ ?_
  · rintro i x H4 hx ⟨ls, us, kD, hus, hmem, hlen, hone, f4, T4⟩
    obtain ⟨t1, ht1, hx1⟩ := G3.getV hx
    have hi1 := hin _ (List.mem_of_getElem? ht1)
    have hxo := (hx1.off hD)
    refine ⟨rfl, _, rfl, _, rfl, _, _, J, t1, rfl, (J3.extN f4).at, hok, (hx1.weak fun _ _ => trivial).extN1 f4, by omega, hi1.1, T4, fun H5 e5 T5 => ?_⟩
    have f5 := f4.trans e5
    refine ⟨_, rfl, _, rfl, a, _, 1, _, rfl, rfl, SqT.of (tup_ext f5 h13), atI_nat (j := 1) rfl, _, rfl, l, _, rn, cv, rfl, rfl, SqL.of (lst_ext f5 h23), atI_cast hcv, _, _, J, t0, rfl, (J3.extN f5).at, hok, (hct.weak fun _ _ => trivial).extN1 f5, by omega, hi0.1, T5, fun H6 e6 T6 => ⟨rfl, _, rfl, ite2 (fun hh => ?_) (fun hh => ?_)⟩⟩
    · have f6 := f5.trans e6
      have kD6 := lst_ext e6 (lst_ext e5 kD)
      have hst := of_decide_eq_true hh
      have lus := hus.len
      refine ⟨_, rfl, _, kD6, ?_, ls ++ [x], us ++ [t1], upd_same, ?_, ?_, by rw [List.length_append, List.length_singleton]; omega, fun _ => by rw [List.length_append, List.length_singleton]; omega, extN_new f6 hD, tabsN_lst T6 kD6⟩
      · have := (List.getElem?_eq_some_iff.mp hx).1
        exact Nat.lt_of_le_of_lt (show _ ≤ 1000000 by omega) (by decide)
      · exact (((hus.extNs (e5.trans e6)).append (.cons (hxo.extN1 f6) .nil)).keep (upd_keep fun b h => h.2))
      · intro y hy
        rcases List.mem_append.mp hy with hy | hy
        · exact hmem y hy
        · rw [List.mem_singleton.mp hy]
          exact ⟨List.mem_of_getElem? ht1, by have := V.int.inj hst; omega⟩
    · have f6 := f5.trans e6
      have hst := of_decide_eq_false (by simpa using hh)
      refine ⟨ls, us, lst_ext e6 (lst_ext e5 kD), hus.extNs (e5.trans e6), hmem, by omega, fun hlt => ?_, f6, T6⟩
      rcases Nat.lt_or_eq_of_le (Nat.le_of_lt_succ hlt) with h | h
      · exact hone h
      · subst h
        rw [hgt] at ht1
        cases ht1
        exact absurd rfl hst
  rintro H4 ⟨ls, us, kD, hus, hmem, hlen, hone, f4, T4⟩
  have hus1 := hone (by
    have := (List.getElem?_eq_some_iff.mp hgt).1
    omega)
  have lus := hus.len
  have p4 := p3.ext f4
  have nDp : D ≠ p := fun e => by
    obtain ⟨_, _, _, ep, _⟩ := p3
    rw [← e, hD] at ep
    cases ep
  refine ⟨_, rfl, _, rfl, _, rfl, D, _, rfl, .inl (SqL.of kD), p, _, _, rfl, p4, by omega, by omega, by omega, fun r2 H5 z0 z1 ch5 p5 => ?_⟩
  obtain ⟨rn2, rfl⟩ : ∃ rn : Nat, r2 = (rn : Int) := ⟨r2.toNat, by omega⟩
  have hrl2 : rn2 < us.length := by omega
  have hus5 := hus.keep (fun b o n e => ch5.at e n.1)
  obtain ⟨xv, hxv, hxt⟩ := hus5.get (List.getElem?_eq_getElem hrl2)
  obtain ⟨hm1, hm2⟩ := hmem _ (List.getElem_mem hrl2)
  have hi2 := hin _ hm1
  generalize us[rn2] = t2 at *
  refine ⟨D, _, rn2, xv, rfl, rfl, SqL.of (ch5.at kD nDp), atI_cast hxv, ?_⟩
  have h15 := ch5.at (tup_ext f4 h13) k1
  have h25 := ch5.at (lst_ext f4 h23) k2
  have hks5 := (hks3.extNs f4).keep (fun b o n e => ch5.at e n)
  have T5 := p4.tabs T4 (Fr.chg ch5)
  have J5 := p4.jato (J3.extN f4) (Fr.chg ch5)
  have FF5 : FrN p H H5 := ((FrN.fr F3).trans (.ext f4)).trans (.fr (Fr.chg ch5))
  have tree5 : TrAt (fun _ => True) H5 (.ref a) (.node c ks) := .node h15 h25 trivial trivial c1 c2 (hks5.weak fun _ _ => trivial)
  clear hus5 hus kD hmem hone lus hlen hus1 f4 T4 p4 ch5 hct hcv hks3 h13 h23 G3 kpl3 T3 J3 p3 F3 off hD
  have lw : rn ≤ ws.length := by omega
  refine ⟨_, rfl, a, _, 0, _, rfl, rfl, SqT.of h15, atI_nat (j := 0) rfl, _, rfl, a, _, 1, _, rfl, rfl, SqT.of h15, atI_nat (j := 1) rfl, _, rfl, _, rfl, l, _, rfl, SqL.of h25, fun q1 hq1 => ?_⟩
  rw [cut_hi lw]
  have s6 := same_new hq1 (o := .lst (ws.take rn))
  have k6 := upd_same (H := H5) (a := q1) (o := .lst (ws.take rn))
  generalize upd H5 q1 (.lst (ws.take rn)) = H6 at *
  refine ⟨_, rfl, (by show 1 ≤ sizeLine; decide), fun q2 hq2 => ?_⟩
  have s7 := same_new hq2 (o := .lst [xv])
  have k7 := upd_same (H := H6) (a := q2) (o := .lst [xv])
  generalize upd H6 q2 (.lst [xv]) = H7 at *
  refine ⟨q1, q2, _, _, rfl, rfl, s7 _ _ k6, k7, ?_, fun q3 hq3 => ?_⟩
  · rw [List.length_take, List.length_singleton]
    exact Nat.le_trans (show _ ≤ 1000000 by omega) (by decide)
  have s8 := same_new hq3 (o := .lst (ws.take rn ++ [xv]))
  have k8 := upd_same (H := H7) (a := q3) (o := .lst (ws.take rn ++ [xv]))
  generalize upd H7 q3 (.lst (ws.take rn ++ [xv])) = H8 at *
  have S8 := (s6.trans s7).trans s8
  refine ⟨_, rfl, a, _, 1, _, rfl, rfl, SqT.of (S8 _ _ h15), atI_nat (j := 1) rfl, _, rfl, _, _, rfl, rfl, _, rfl, l, _, rfl, SqL.of (S8 _ _ h25), fun q4 hq4 => ?_⟩
  have eat : (rn : Int) + 1 = ((rn + 1 : Nat) : Int) := by push_cast; rfl
  rw [eat, cut_lo (show rn + 1 ≤ ws.length by omega)]
  have s9 := same_new hq4 (o := .lst (ws.drop (rn + 1)))
  have k9 := upd_same (H := H8) (a := q4) (o := .lst (ws.drop (rn + 1)))
  generalize upd H8 q4 (.lst (ws.drop (rn + 1))) = H9 at *
  refine ⟨q3, q4, _, _, rfl, rfl, s9 _ _ k8, k9, ?_, fun q5 hq5 => ⟨(by show 2 ≤ sizeLine; decide), fun a2 ha2 => ?_⟩⟩
  · rw [List.length_append, List.length_take, List.length_singleton, List.length_drop]
    exact Nat.le_trans (show _ ≤ 1000000 by omega) (by decide)
  have s10 := same_new hq5 (o := .lst (ws.take rn ++ [xv] ++ ws.drop (rn + 1)))
  have k10 := upd_same (H := H9) (a := q5) (o := .lst (ws.take rn ++ [xv] ++ ws.drop (rn + 1)))
  generalize upd H9 q5 (.lst (ws.take rn ++ [xv] ++ ws.drop (rn + 1))) = H10 at *
  have s11 := same_new ha2 (o := .tup [.str (ch c), .ref q5])
  have k11 := upd_same (H := H10) (a := a2) (o := .tup [.str (ch c), .ref q5])
  generalize upd H10 a2 (.tup [.str (ch c), .ref q5]) = H11 at *
  have S11 := ((S8.trans s9).trans s10).trans s11
  have eks : ks = ks.take rn ++ [t0] ++ ks.drop (rn + 1) := by
    have e1 := List.take_append_drop rn ks
    rw [List.drop_eq_getElem_cons hrl, ht0] at e1
    rw [List.append_assoc]
    exact e1.symm
  have hxt11 : TrAt (fun _ => True) H11 xv t2 := (hxt.weak fun _ _ => trivial).same S11
  have other : TrAt (fun _ => True) H11 (.ref a2) (.node c (ks.take rn ++ [t2] ++ ks.drop (rn + 1))) := .node k11 (s11 _ _ k10) trivial trivial c1 c2 ((((hks5.same S11).weak (fun _ _ => trivial)).takes rn |>.append (.cons hxt11 .nil)).append (((hks5.same S11).weak (fun _ _ => trivial)).drops (rn + 1)))
  have tk1 := congrArg sizes eks
  have tk2 := congrArg depths eks
  simp only [sizes_append, depths_append, sizes, depths] at tk1 tk2
  have lets2 : letss (fun c => c ∈ J.L.cps.toList) (ks.take rn ++ [t2] ++ ks.drop (rn + 1)) := by
    have h := hL2.2
    rw [eks] at h
    rw [letss_append, letss_append] at h ⊢
    exact ⟨⟨h.1.1, hi2.1, trivial⟩, h.2⟩
  have st : St J.sf J.n (.node c (ks.take rn ++ [t2] ++ ks.drop (rn + 1))) = St J.sf J.n (.node c ks) := by
    have e : Sts J.sf J.n ks = Sts J.sf J.n (ks.take rn ++ [t2] ++ ks.drop (rn + 1)) := by
      rw [congrArg (Sts J.sf J.n) eks]
      simp only [Sts_map, List.map_append, List.map_cons, List.map_nil, hm2]
    simp only [St]
    rw [e]
  refine ⟨_, rfl, _, _, rfl, other, by simp only [Tr.depth, depths_append, depths]; omega, by simp only [Tr.size, sizes_append, sizes]; omega, fun H12 s12 => ⟨_, _, rfl, rfl, _, rfl, ?_⟩⟩
  have SS := S11.trans s12
  by_cases hbig : 60 < (Tr.node c (ks.take rn ++ [t2] ++ ks.drop (rn + 1))).size
  · exact dT (by omega) (q H12 (FF5.trans (.same SS)) ((p5.keep SS).mono (by omega)) (T5.ext SS))
  refine dF (by omega) ?_
  refine ⟨_, rfl, _, rfl, _, _, J, _, rfl, (J5.same SS).at, hok, other.same s12, by simp only [Tr.size, sizes_append, sizes]; omega, ⟨hL2.1, lets2⟩, T5.ext SS, fun H13 e13 T13 => ?_⟩
  refine ⟨_, rfl, _, rfl, _, _, J, _, rfl, ((J5.same SS).extN e13).at, hok, (tree5.same SS).extN1 e13, by simp only [Tr.size]; omega, hL, T13, fun H14 e14 T14 => ?_⟩
  refine ⟨rfl, eqB (congrArg nI st) (q H14 ?_ ?_ T14)⟩
  · exact (FF5.trans (.same SS)).trans (.ext (e13.trans e14))
  · exact (((p5.keep SS).ext e13).ext e14).mono (by omega)
end


def hstep (acc : List (Tr × Nat)) (t : Tr) : List (Tr × Nat) :=
  match acc.getLast? with
  | some (u, n) => if u.wr = t.wr then acc.dropLast ++ [(u, n + 1)] else acc ++ [(t, 1)]
  | none => [(t, 1)]
def rle (ts : List Tr) : List (Tr × Nat) := ts.foldl hstep []
theorem rle_snoc (ts : List Tr) (t : Tr) : rle (ts ++ [t]) = hstep (rle ts) t := by
  unfold rle
  rw [List.foldl_append]
  rfl
def expand (acc : List (Tr × Nat)) : List Tr := (acc.map fun e => List.replicate e.2 e.1).flatten
theorem expand_append (a b : List (Tr × Nat)) : expand (a ++ b) = expand a ++ expand b := by simp [expand]
theorem hstep_expand {acc : List (Tr × Nat)} {t : Tr} (ha : ∀ e ∈ acc, e.1.lets Ltr) (ht : t.lets Ltr) : expand (hstep acc t) = expand acc ++ [t] := by
  unfold hstep
  cases h : acc.getLast? with
  | none =>
    have : acc = [] := List.getLast?_eq_none_iff.mp h
    subst this
    rfl
  | some e =>
    obtain ⟨u, n⟩ := e
    have hne : acc ≠ [] := fun e => by rw [e] at h; cases h
    have hl : acc.getLast hne = (u, n) := by
      rw [List.getLast?_eq_some_getLast hne] at h
      exact Option.some.inj h
    have hsp : acc = acc.dropLast ++ [(u, n)] := by rw [← hl]; exact (List.dropLast_concat_getLast hne).symm
    dsimp only
    by_cases hw : u.wr = t.wr
    · rw [if_pos hw]
      have hu := ha (u, n) (by rw [hsp]; simp)
      have : u = t := wr_eq hu ht hw
      subst this
      conv => rhs; rw [hsp]
      rw [expand_append, expand_append]
      simp [expand, List.replicate_succ']
    · rw [if_neg hw, expand_append]
      simp [expand]
theorem hstep_lets {acc : List (Tr × Nat)} {t : Tr} (ha : ∀ e ∈ acc, e.1.lets Ltr ∧ 1 ≤ e.2) (ht : t.lets Ltr) : ∀ e ∈ hstep acc t, e.1.lets Ltr ∧ 1 ≤ e.2 := by
  unfold hstep
  intro e he
  cases h : acc.getLast? with
  | none =>
    rw [h] at he
    simp only [List.mem_singleton] at he
    subst he
    exact ⟨ht, Nat.le_refl 1⟩
  | some x =>
    obtain ⟨u, n⟩ := x
    rw [h] at he
    dsimp only at he
    by_cases hw : u.wr = t.wr
    · rw [if_pos hw] at he
      rcases List.mem_append.mp he with he | he
      · exact ha e ((List.dropLast_sublist _).subset he)
      · simp only [List.mem_singleton] at he
        subst he
        exact ⟨(ha (u, n) (List.mem_of_getLast? h)).1, Nat.le_add_left 1 n⟩
    · rw [if_neg hw] at he
      rcases List.mem_append.mp he with he | he
      · exact ha e he
      · simp only [List.mem_singleton] at he
        subst he
        exact ⟨ht, Nat.le_refl 1⟩
theorem rle_go : ∀ (ts : List Tr) (acc : List (Tr × Nat)), (∀ e ∈ acc, e.1.lets Ltr ∧ 1 ≤ e.2) → letss Ltr ts → expand (ts.foldl hstep acc) = expand acc ++ ts ∧ ∀ e ∈ ts.foldl hstep acc, e.1.lets Ltr ∧ 1 ≤ e.2
  | [], acc, h, _ => ⟨by simp, h⟩
  | t :: r, acc, h, hl => by
    simp only [letss] at hl
    obtain ⟨h1, h2⟩ := rle_go r (hstep acc t) (hstep_lets h hl.1) hl.2
    rw [List.foldl_cons]
    refine ⟨?_, h2⟩
    rw [h1, hstep_expand (fun e he => (h e he).1) hl.1, List.append_assoc]
    rfl
theorem rle_all (ts : List Tr) (h : letss Ltr ts) : expand (rle ts) = ts ∧ ∀ e ∈ rle ts, e.1.lets Ltr ∧ 1 ≤ e.2 := by
  obtain ⟨h1, h2⟩ := rle_go ts [] (fun e h => by cases h) h
  exact ⟨by rw [show rle ts = ts.foldl hstep [] from rfl, h1]; rfl, h2⟩
structure HE where
  v : V
  t : Tr
  n : Nat
  as : List Addr
def HeAt (ok : Addr → Prop) (H : Hp) (e : HE) : Prop := ∃ p x, e.v = .ref p ∧ H p = some (.tup [x, .int e.n]) ∧ ok p ∧ TrO ok H x e.t e.as
def HeIn (H : Hp) (e : V × Tr × Nat) : Prop := ∃ p x, e.1 = .ref p ∧ H p = some (.tup [x, .int e.2.2]) ∧ TrAt (fun _ => True) H x e.2.1
section
variable {P : Program} {w : World} {K : PySem.W.Frag} {mg : Str → Option Value} {base : Heap}
theorem TabS.frO {H H' : Hp} {P P2 : Addr} {q : Str} {ps : Array Value} (h : LamX.TabS H P2 q) (n : P2 ≠ P) (hP : H P = some (.tbl ps)) (f : Fr P H H') : LamX.TabS H' P2 q := by
  obtain ⟨ps2, h1, h2, h3⟩ := h
  refine ⟨ps2, f _ _ n h1, h2, fun pos cv hc => ?_⟩
  obtain ⟨c, e, h4⟩ := h3 pos cv hc
  exact ⟨c, e, f _ _ (fun e => by rw [e, hP] at h4; cases h4) h4⟩
theorem TrAt.frT' {ok : Addr → Prop} {P : Addr} {H H' : Hp} {v : V} {t : Tr} {ps : Array Value} (x : TrAt ok H v t) (hP : H P = some (.tbl ps)) (f : Fr P H H') : TrAt ok H' v t :=
  ((TrAt.kind t v x).keep fun b o h e => f b o (fun e2 => h.2 ps (by rw [e2]; exact hP)) e).weak fun b h => h.1
theorem Fr.upd0 {p q : Addr} {H H' : Hp} {o : HO} (f : Fr p H H') (h : H q = none) : Fr p H (upd H' q o) := fun b u n e => by
  rw [upd_ne (ne_of_none e h)]
  exact f b u n e
def Fr2 (p r : Addr) (H H' : Hp) : Prop := ∀ b o, b ≠ p → b ≠ r → H b = some o → H' b = some o
def sp_heap_of (P1 : Addr) (q1 : Str) (P2 : Addr) (q2 : Str) : Sp := fun vs H Q _ => ∃ (v : V) (t : Tr), vs = [v] ∧ TrAt (fun _ => True) H v t ∧ t.size ≤ 1000000 ∧ LamX.TabS H P1 q1 ∧ LamX.TabS H P2 q2 ∧
  ∀ r (es : List HE) H', Fr2 P1 P2 H H' → LamX.TabS H' P1 q1 → LamX.TabS H' P2 q2 → H r = none → H' r = some (.lst (es.map (·.v))) → (∀ e ∈ es, HeAt (fun b => H b = none ∧ b ≠ r) H' e) → (es.map (·.as)).flatten.Nodup → es.map (fun e => (e.t, e.n)) = rle ((tolds t.kids).mergeSort leW) → Q (.ref r) H'
theorem ok_heap_of (T : Txt K mg) (B : Tbs T base) : FnOk P w K mg base CX0 9 T.f_heap_of T.d_heap_of ["tree"] (sp_heap_of T.P__joined q__joined T.P_heap_of q_heap_of) := by
  have G__written_and_told : FnOk P w K mg base CX0 8 T.f__written_and_told T.d__written_and_told ["tree"] (sp__written_and_told T.P__joined q__joined) := ok__written_and_told T B
  have G_check_tree : FnOk P w K mg base CX0 4 T.f_check_tree T.d_check_tree ["thing"] sp_check_tree := ok_check_tree T
  refine okC T.F_heap_of T.h_heap_of sc_heap_of (fun vs H Q E h => ?_) (fun A outer s H vs Q E hr h => ?_)
  · obtain ⟨v, t, rfl, _⟩ := h
    rfl
  obtain ⟨v, t, rfl, ht, hz, hT1, hT2, q⟩ := h
  refine ⟨_, (pss_cons (ps_expr (pe_call G_check_tree (hr.mono (by omega)) (by rfl) T.m_check_tree T.F_check_tree.kp T.b_check_tree .nil pass0 (pa_cons (pv 0) pa_nil))) (pss_cons (ps_set (i := 1) sc_heap_of.nd rfl (Or.inl rfl) (pe_callBK (cr_sortRow hr) (by rfl) T.z_sorted (by decide +kernel) (pa_cons (pe_lc (own := [("child", 2)]) (g := gName 2) (tt := tYes) rfl sc_heap_of.nd (pi_list (pe_ix ix_tup (pv 0) pe_int (fun _ _ => rfl))) (blkOk_by (own := [("child", 2)]) (N := ["tree", "rows", "child", "heap", "last", "written"]) (sc := (defScope s_heap_of)) (by decide +kernel)) (fun _ _ _ _ _ => (pg_name (i := 2) sc_heap_of.nd rfl (Or.inl rfl))) (fun _ _ _ _ _ => pts_nil) (fun _ _ _ _ _ => (pe_call G__written_and_told (hr.mono (by omega)) (by rfl) T.m__written_and_told T.F__written_and_told.kp T.b__written_and_told .nil pass0 (pa_cons (pv 2) pa_nil)))) pa_nil) (pk_cons (pe_lamRow B.tb_heap_of rfl (by rfl) (rowL_mk (x := "row") (by decide +kernel) rfl rfl rfl rfl (fun _ _ _ _ _ _ _ _ _ _ _ _ _ => rfl))) pk_nil))) (pss_cons (ps_set (i := 3) sc_heap_of.nd rfl (Or.inl rfl) (pe_lst pa_nil)) (pss_cons (ps_set (i := 4) sc_heap_of.nd rfl (Or.inl rfl) pe_non) (pss_cons (ps_for PassesOwn.never rfl (pi_list (pv 1)) (pg_tup rfl (pgs_cons (pg_name (i := 5) sc_heap_of.nd rfl (Or.inl rfl)) (pgs_cons (pg_name (i := 2) sc_heap_of.nd rfl (Or.inl rfl)) pgs_nil))) (pss_cons (ps_if (pt_cmpR op_eq (pv 5) (pv 4) (nomark _)) (pss_one (ps_asg (pe_tup (pa_cons (pe_ix ix_tup (pe_ix ix_list (pv 3) (pe_un un_neg pe_int) (fun _ _ => rfl)) pe_int (fun _ _ => rfl)) (pa_cons (pe_op op_add (pe_ix ix_tup (pe_ix ix_list (pv 3) (pe_un un_neg pe_int) (fun _ _ => rfl)) pe_int (fun _ _ => rfl)) pe_int) pa_nil))) (pg_sub (pv 3) (pe_un un_neg pe_int) set_list))) (pss_one (ps_expr (pe_bm PySem.F.plainAttrs_list PySem.F.slot_list_append PySem.F.type_list_append mt_append (pv 3) (pa_cons (pe_tup (pa_cons (pv 2) (pa_cons pe_int pa_nil))) pa_nil))))) (pss_one (ps_set (i := 4) sc_heap_of.nd rfl (Or.inl rfl) (pv 5))))) (pss_one (ps_ret (pv 3)))))))), ?_⟩
  obtain ⟨c, ks⟩ := t
  simp only [Tr.size] at hz
  have lz := len_sizes ks
  obtain ⟨pa0, hA0, _, _⟩ := id hT1
  obtain ⟨pb0, hB0, _, _⟩ := id hT2
  generalize hP1 : T.P__joined = P1 at *
  generalize hP2 : T.P_heap_of = P2 at *
  have nPP : P2 ≠ P1 := fun e => T.n__joined_heap_of (by rw [hP1, hP2, e])
  refine ⟨_, rfl, v, _, rfl, ht, by simp only [Tr.size]; omega, fun H1 s1 => ?_⟩
  have hA1 := s1 _ _ hA0
  have hB1 := s1 _ _ hB0
  cases ht with
  | node h1 h2 k1 k2 c1 c2 rr =>
  rename_i a l xs
  have lr := rr.len
  refine ⟨_, rfl, _, _, 1, _, rfl, rfl, SqT.of (s1 _ _ h1), atI_nat (j := 1) rfl, _, rfl, ⟨_, SqL.of (s1 _ _ h2)⟩, fun D hD => ?_⟩
  have hl1 := s1 _ _ h2
  have nlP : l ≠ P1 := fun e => by rw [e, hA0] at h2; cases h2
  refine lc_list (xs := xs) (fun i H2 => ∃ bs : List (V × Tr × List Addr), H2 D = some (.lst (bs.map (·.1))) ∧ (∀ b ∈ bs, RowO1 (fun b => H1 b = none ∧ b ≠ D) H2 b) ∧ (lsts bs).Nodup ∧ bs.map (·.2.1) = tolds (ks.take i) ∧ Fr P1 H1 H2 ∧ LamX.TabS H2 P1 q__joined ∧ LamX.TabS H2 P2 q_heap_of)
    ⟨[], upd_same, (fun _ h => by cases h), List.nodup_nil, rfl, Fr.same (same_new hD), (hT1.ext s1).ext (same_new hD), (hT2.ext s1).ext (same_new hD)⟩ (fun i H2 _ ⟨_, _, _, _, _, f, _⟩ => SqL.of (f _ _ nlP hl1)) ?_ ?_
  · rintro i x H2 hx ⟨bs, g1, g2, g3, g4, g5, g6, g7⟩
    obtain ⟨t1, ht1, hx2⟩ := rr.getV hx
    have st := sizes_mem (List.mem_of_getElem? ht1)
    have la := congrArg List.length g4
    rw [List.length_map, tolds_len, List.length_take] at la
    obtain ⟨pa2, hA2, _, _⟩ := id g6
    refine ⟨rfl, _, rfl, x, t1, rfl, (hx2.same s1).frT' hA1 g5, by omega, g6, fun v' as H3 f3 T3 nd row => ?_⟩
    have nDP : D ≠ P1 := fun e => by rw [e, hA2] at g1; cases g1
    have g1' := f3 _ _ nDP g1
    have lst3 : ∀ b ∈ as, H2 b = none := fun b hb => by
      obtain ⟨p, x, _, _, _, e⟩ := row
      exact (TrO.lst _ _ _ e b hb).1
    refine ⟨_, g1', ?_, bs ++ [(v', t1.told, as)], by rw [upd_same, List.map_append]; rfl, ?_, ?_, ?_, ?_, ?_, ?_⟩
    · rw [List.length_map]
      exact Nat.lt_of_le_of_lt (show bs.length ≤ 1000000 by omega) (by decide)
    · intro b hb
      rcases List.mem_append.mp hb with hb | hb
      · exact (g2 b hb).imp (fun _ h => h) fun b o h e => by rw [upd_ne h.2]; exact f3 _ _ (fun e2 => by rw [e2, hA1] at h; cases h.1) e
      · simp only [List.mem_singleton] at hb
        subst hb
        exact row.imp (fun b h => ⟨g5.free (by rw [hA2]; simp) h, fun e => by rw [e, g1] at h; cases h⟩) fun b o h e => by rw [upd_ne (fun e => by rw [e, g1] at h; cases h)]; exact e
    · have e2 : lsts (bs ++ [(v', t1.told, as)]) = lsts bs ++ as := by simp [lsts]
      rw [e2]
      refine nodup_snoc g3 nd fun b hb h => ?_
      obtain ⟨as2, ha, hl2⟩ := List.mem_flatten.mp hb
      obtain ⟨b2, hb2, rfl⟩ := List.mem_map.mp ha
      obtain ⟨p2, x2, _, _, _, e4⟩ := g2 b2 hb2
      obtain ⟨_, xs2, e5⟩ := TrO.lst _ _ _ e4 b hl2
      rw [lst3 b h] at e5
      cases e5
    · rw [take_succ_of ht1, List.map_append, g4, tolds_map, tolds_map, List.map_append]
      rfl
    · exact (g5.trans f3).upd0 hD
    · exact TabS.fr T3 g1' fun b o n e => by rw [upd_ne n]; exact e
    · exact TabS.fr (TabS.frO g7 nPP hA2 f3) g1' fun b o n e => by rw [upd_ne n]; exact e
  rintro H2 ⟨bs, g1, g2, g3, g4, g5, g6, g7⟩
  rw [lr, List.take_length] at g4
  have hblen : bs.length = ks.length := by
    have la := congrArg List.length g4
    rw [List.length_map, tolds_len] at la
    exact la
  obtain ⟨pa2, hA2, _, _⟩ := id g6
  obtain ⟨pb2, hB2, _, _⟩ := id g7
  refine ⟨g7, fun f cc H3 f3 hT3 hF hC => ?_⟩
  have hD3 := f3 D _ (fun e => by rw [e, hB2] at g1; cases g1) g1
  have okB : ∀ b, (H1 b = none ∧ b ≠ D) → b ≠ P2 := fun b h e => by rw [e, hB1] at h; cases h.1
  have hb3 : ∀ b ∈ bs, RowO1 (fun b => H1 b = none ∧ b ≠ D) H3 b := fun b h => (g2 b h).imp (fun _ h => h) fun b o h e => f3 b o (okB b h) e
  refine ⟨D, f, cc, _, bs.map fun b => (b.1, ws b.2.1), rfl, rfl, hF, hC, ?_, ?_, ?_, fun rs hrs => ?_⟩
  · rw [hD3, List.map_map]
    rfl
  · intro b hb4
    obtain ⟨b2, hb5, rfl⟩ := List.mem_map.mp hb4
    obtain ⟨p2, x2, e1, e2, _⟩ := hb3 b2 hb5
    exact ⟨p2, _, e1, e2⟩
  · rw [List.length_map]
    exact Nat.le_trans (show _ ≤ 1000000 by omega) (by decide)
  rw [leB_str]
  generalize hcs : bs.mergeSort leB = cs
  have hperm : cs.Perm bs := by rw [← hcs]; exact List.mergeSort_perm _ _
  have hctr : cs.map (·.2.1) = (tolds ks).mergeSort leW := by rw [← hcs, leB_tr, g4]
  have hcn : (lsts cs).Nodup := ((hperm.map _).flatten.nodup_iff).mpr g3
  have hD4 : ∀ b o, H3 b = some o → (upd H3 rs (.lst (cs.map (·.1)))) b = some o := fun b o h => by rw [upd_ne (ne_of_none h hrs)]; exact h
  have hcb : ∀ b ∈ cs, RowO1 (fun b => H1 b = none ∧ b ≠ D) (upd H3 rs (.lst (cs.map (·.1)))) b := fun b h => (hb3 b (hperm.mem_iff.mp h)).same hD4
  have f14 : ∀ b o, b ≠ P1 → b ≠ P2 → H1 b = some o → (upd H3 rs (.lst (cs.map (·.1)))) b = some o := fun b o n1 n2 e => hD4 _ _ (f3 _ _ n2 (g5 _ _ n1 e))
  have T14 : LamX.TabS (upd H3 rs (.lst (cs.map (·.1)))) P1 q__joined := (TabS.frO g6 nPP.symm hB2 f3).ext hD4
  have T24 : LamX.TabS (upd H3 rs (.lst (cs.map (·.1)))) P2 q_heap_of := LamX.TabS.ext hT3 hD4
  have hr4 : (upd H3 rs (.lst (cs.map (·.1)))) rs = some (.lst (cs.map (·.1))) := upd_same
  generalize hH4 : upd H3 rs (.lst (cs.map (·.1))) = H4 at *
  refine ⟨(by show 0 ≤ sizeLine; decide), fun hp hhp => ?_⟩
  obtain ⟨pa4, hA4, _, _⟩ := id T14
  obtain ⟨pb4, hB4, _, _⟩ := id T24
  have nhA : hp ≠ P1 := fun e => by rw [e, hA4] at hhp; cases hhp
  have nhB : hp ≠ P2 := fun e => by rw [e, hB4] at hhp; cases hhp
  have hhp1 : H1 hp = none := by
    cases e : H1 hp with
    | none => rfl
    | some o => rw [f14 _ _ nhA nhB e] at hhp; cases hhp
  have hhp0 : H hp = none := s1.free hhp1
  have nrh : rs ≠ hp := ne_of_none hr4 hhp
  have k45 : ∀ b o, H4 b = some o → (upd H4 hp (.lst [])) b = some o := fun b o h => by rw [upd_ne (ne_of_none h hhp)]; exact h
  refine ⟨_, rfl, rs, rfl, ⟨_, SqL.of (k45 _ _ hr4)⟩, for_list (xs := cs.map (·.1)) (fun i σ H5 => ∃ (y2 y5 : Option V) (es : List HE) (lv : V), σ = [some (.ref a), some (.ref rs), y2, some (.ref hp), some lv, y5] ∧ H5 hp = some (.lst (es.map (·.v))) ∧ (∀ e ∈ es, HeAt (fun b => H b = none ∧ b ≠ hp) H5 e) ∧
      (es.map (·.as)).flatten.Nodup ∧ es.map (fun e => (e.t, e.n)) = rle ((cs.map (·.2.1)).take i) ∧ (es = [] ∧ lv = .non ∨ ∃ es0 e, es = es0 ++ [e] ∧ lv = .str (ws e.t)) ∧ (∀ x ∈ (es.map (·.as)).flatten, x ∈ lsts (cs.take i)) ∧ es.length ≤ i ∧ (∀ b o, b ≠ hp → H4 b = some o → H5 b = some o))
    ⟨none, none, [], .non, rfl, upd_same, (fun _ h => by cases h), List.nodup_nil, rfl, .inl ⟨rfl, rfl⟩, (fun _ h => by cases h), Nat.le_refl _, fun b o _ h => k45 b o h⟩ (fun i σ H5 _ ⟨_, _, _, _, _, _, _, _, _, _, _, _, k⟩ => SqL.of (k _ _ nrh hr4)) ?_ ?_⟩
  · rintro i x σ H5 hx ⟨y2, y5, es, lv, rfl, e1, e2, e3, e4, e5, e6, e7, k5⟩
    rw [List.getElem?_map] at hx
    cases hc : cs[i]? with
    | none => rw [hc] at hx; cases hx
    | some b =>
    rw [hc] at hx
    cases hx
    have hmem := List.mem_of_getElem? hc
    have hilt : i < ks.length := by
      have := (List.getElem?_eq_some_iff.mp hc).1
      rw [hperm.length_eq] at this
      omega
    have hrow : RowO1 (fun b => H b = none ∧ b ≠ hp) H5 b := by
      obtain ⟨p, x, q1, q2, q3, q4⟩ := hcb b hmem
      have np : ∀ b o, H4 b = some o → b ≠ hp := fun b o h => ne_of_none h hhp
      exact ⟨p, x, q1, k5 _ _ (np _ _ q2) q2, ⟨s1.free q3.1, np _ _ q2⟩, TrO.imp (fun b ⟨h, o, e⟩ => ⟨s1.free h.1, np _ _ e⟩) (fun b o ⟨_, o2, e2⟩ e => k5 _ _ (np _ _ e2) e) _ _ _ (TrO.there _ _ _ q4)⟩
    obtain ⟨bv, bt, bas⟩ := b
    obtain ⟨p, x, rfl, q2, q3, q4⟩ := hrow
    dsimp only at q2 q4
    have hbnd : bas.Nodup := by
      have := (List.pairwise_flatten.mp hcn).1 bas (List.mem_map.mpr ⟨_, hmem, rfl⟩)
      exact this
    have hsub1 : ∀ z ∈ lsts (cs.take i), z ∈ lsts (cs.take (i + 1)) := fun z hz => by
      rw [take_succ_of hc]
      simp only [lsts, List.map_append, List.flatten_append]
      exact List.mem_append_left _ hz
    have hdis : ∀ z ∈ bas, z ∉ lsts (cs.take i) := by
      intro z h1 h2
      have ecs : cs = cs.take i ++ (V.ref p, bt, bas) :: cs.drop (i + 1) := by
        obtain ⟨hlt, e⟩ := List.getElem?_eq_some_iff.mp hc
        rw [← e, ← List.drop_eq_getElem_cons hlt, List.take_append_drop]
      rw [ecs] at hcn
      have e2 : lsts (cs.take i ++ (V.ref p, bt, bas) :: cs.drop (i + 1)) = lsts (cs.take i) ++ (bas ++ lsts (cs.drop (i + 1))) := by simp [lsts]
      rw [e2, List.nodup_append] at hcn
      exact hcn.2.2 z h2 z (List.mem_append_left _ h1) rfl
    have hrle : rle ((cs.map (·.2.1)).take (i + 1)) = hstep (rle ((cs.map (·.2.1)).take i)) bt := by
      rw [take_succ_of (x := bt) (by rw [List.getElem?_map, hc]; rfl), rle_snoc]
    refine ⟨_, _, rfl, SqT.of q2, rfl, _, _, rfl, _, _, rfl, rfl, ?_⟩
    have addNew : ∀ tp, H5 tp = none → (es = [] ∨ ∃ es0 e, es = es0 ++ [e] ∧ ¬ e.t.wr = bt.wr) →
        ∃ (y2' y5' : Option V) (es' : List HE) (lv' : V), [some (.ref a), some (.ref rs), some x, some (.ref hp), some (.str (ws bt)), some (.str (ws bt))] = [some (.ref a), some (.ref rs), y2', some (.ref hp), some lv', y5'] ∧
          (upd (upd H5 tp (.tup [x, .int 1])) hp (.lst (es.map (·.v) ++ [.ref tp]))) hp = some (.lst (es'.map (·.v))) ∧ (∀ e ∈ es', HeAt (fun b => H b = none ∧ b ≠ hp) (upd (upd H5 tp (.tup [x, .int 1])) hp (.lst (es.map (·.v) ++ [.ref tp]))) e) ∧
          (es'.map (·.as)).flatten.Nodup ∧ es'.map (fun e => (e.t, e.n)) = rle ((cs.map (·.2.1)).take (i + 1)) ∧ (es' = [] ∧ lv' = .non ∨ ∃ es0 e, es' = es0 ++ [e] ∧ lv' = .str (ws e.t)) ∧ (∀ x ∈ (es'.map (·.as)).flatten, x ∈ lsts (cs.take (i + 1))) ∧ es'.length ≤ i + 1 ∧
          (∀ b o, b ≠ hp → H4 b = some o → (upd (upd H5 tp (.tup [x, .int 1])) hp (.lst (es.map (·.v) ++ [.ref tp]))) b = some o) := by
      intro tp htp hcase
      have ntp : tp ≠ hp := fun e => by rw [e, e1] at htp; cases htp
      have kk : ∀ b o, b ≠ hp → H5 b = some o → (upd (upd H5 tp (.tup [x, .int 1])) hp (.lst (es.map (·.v) ++ [.ref tp]))) b = some o := fun b o n e => by rw [upd_ne n, upd_ne (ne_of_none e htp)]; exact e
      have tp0 : H tp = none := by
        cases e : H tp with
        | none => rfl
        | some o =>
          have n1 : tp ≠ P1 := fun e2 => by rw [e2, k5 _ _ nhA.symm hA4] at htp; cases htp
          have n2 : tp ≠ P2 := fun e2 => by rw [e2, k5 _ _ nhB.symm hB4] at htp; cases htp
          rw [k5 _ _ ntp (f14 _ _ n1 n2 (s1 _ _ e))] at htp
          cases htp
      refine ⟨_, _, es ++ [⟨.ref tp, bt, 1, bas⟩], _, rfl, by rw [upd_same, List.map_append]; rfl, ?_, ?_, ?_, .inr ⟨es, _, rfl, rfl⟩, ?_, ?_, fun b o n e => kk b o n (k5 b o n e)⟩
      · intro e he
        rcases List.mem_append.mp he with he | he
        · obtain ⟨p2, x2, r1, r2, r3, r4⟩ := e2 e he
          exact ⟨p2, x2, r1, kk _ _ r3.2 r2, r3, r4.keep fun b o h e => kk b o h.2 e⟩
        · simp only [List.mem_singleton] at he
          subst he
          exact ⟨tp, x, rfl, by rw [upd_ne ntp]; exact upd_same, ⟨tp0, ntp⟩, q4.keep fun b o h e => kk b o h.2 e⟩
      · have e8 : ((es ++ [(⟨.ref tp, bt, 1, bas⟩ : HE)]).map (·.as)).flatten = (es.map (·.as)).flatten ++ bas := by simp
        rw [e8]
        exact nodup_snoc e3 hbnd fun z h1 h2 => hdis z h2 (e6 z h1)
      · rw [hrle, ← e4, List.map_append]
        unfold hstep
        rcases hcase with rfl | ⟨es0, e, rfl, hne⟩
        · rfl
        · simp only [List.map_append, List.map_cons, List.map_nil, List.getLast?_append, List.getLast?_singleton, Option.or_some, Option.some_or]
          rw [if_neg hne]
      · intro z hz
        have e8 : ((es ++ [(⟨.ref tp, bt, 1, bas⟩ : HE)]).map (·.as)).flatten = (es.map (·.as)).flatten ++ bas := by simp
        rw [e8] at hz
        rw [take_succ_of hc]
        simp only [lsts, List.map_append, List.flatten_append, List.map_cons, List.map_nil, List.flatten_cons, List.flatten_nil, List.append_nil]
        rcases List.mem_append.mp hz with hz | hz
        · exact List.mem_append_left _ (e6 z hz)
        · exact List.mem_append_right _ hz
      · rw [List.length_append, List.length_singleton]
        omega
    have hlt : es.length < sizeLine := Nat.lt_of_le_of_lt (show _ ≤ 1000000 by omega) (by decide)
    rcases e5 with ⟨rfl, rfl⟩ | ⟨es0, e, rfl, rfl⟩
    · refine ⟨_, rfl, _, rfl, rfl, _, rfl, ?_⟩
      rw [decide_eq_false (by simp)]
      refine iteF ?_
      refine ⟨_, rfl, .inl ⟨rfl, _, SqL.of e1⟩, _, rfl, (by show 2 ≤ sizeLine; decide), fun tp htp => ⟨hp, _, .ref tp, rfl, rfl, by rw [upd_ne (ne_of_none e1 htp)]; exact e1, by rw [List.length_map]; exact hlt, ?_⟩⟩
      exact ⟨_, rfl, addNew tp htp (.inl rfl)⟩
    · refine ⟨_, rfl, _, rfl, rfl, _, rfl, ?_⟩
      by_cases hw : e.t.wr = bt.wr
      · rw [decide_eq_true (show V.str (ws bt) = V.str (ws e.t) by simp only [ws, hw])]
        refine iteT ?_
        obtain ⟨pe, xe, ev, r2, r3, r4⟩ := e2 e (by simp)
        have hn1 : ∀ n : Nat, ixN (n + 1) (-1) = some n := fun n => by
          unfold ixN
          simp
          omega
        have elen : ((es0 ++ [e]).map (·.v)).length = es0.length + 1 := by simp
        have hat : atI ((es0 ++ [e]).map (·.v)) (-1) = some (V.ref pe) := by
          unfold atI
          rw [elen, hn1, List.map_append]
          simp [ev]
        refine ⟨_, rfl, 1, rfl, hp, _, -1, _, rfl, rfl, SqL.of e1, hat, pe, _, 0, _, rfl, rfl, SqT.of r2, atI_nat (j := 0) rfl, ?_⟩
        refine ⟨_, rfl, 1, rfl, hp, _, -1, _, rfl, rfl, SqL.of e1, hat, pe, _, 1, _, rfl, rfl, SqT.of r2, atI_nat (j := 1) rfl, _, 1, rfl, rfl, (by show 2 ≤ sizeLine; decide), fun tp htp => ?_⟩
        have ntp : tp ≠ hp := fun e => by rw [e, e1] at htp; cases htp
        refine ⟨_, rfl, 1, rfl, hp, _, -1, es0.length, rfl, rfl, by rw [upd_ne ntp.symm]; exact e1, by rw [elen]; exact hn1 _, ?_⟩
        have hset : ((es0 ++ [e]).map (·.v)).set es0.length (V.ref tp) = es0.map (·.v) ++ [V.ref tp] := by
          rw [List.map_append, List.set_append_right _ _ (by rw [List.length_map]; exact Nat.le_refl _), List.length_map, Nat.sub_self]
          rfl
        rw [hset]
        have kk : ∀ b o, b ≠ hp → H5 b = some o → (upd (upd H5 tp (.tup [xe, .int (e.n + 1)])) hp (.lst (es0.map (·.v) ++ [.ref tp]))) b = some o := fun b o n e => by rw [upd_ne n, upd_ne (ne_of_none e htp)]; exact e
        have tp0 : H tp = none := by
          cases e : H tp with
          | none => rfl
          | some o =>
            have n1 : tp ≠ P1 := fun e2 => by rw [e2, k5 _ _ nhA.symm hA4] at htp; cases htp
            have n2 : tp ≠ P2 := fun e2 => by rw [e2, k5 _ _ nhB.symm hB4] at htp; cases htp
            rw [k5 _ _ ntp (f14 _ _ n1 n2 (s1 _ _ e))] at htp
            cases htp
        have easeq : ((es0 ++ [(⟨.ref tp, e.t, e.n + 1, e.as⟩ : HE)]).map (·.as)).flatten = ((es0 ++ [e]).map (·.as)).flatten := by simp
        refine ⟨_, rfl, _, _, es0 ++ [⟨.ref tp, e.t, e.n + 1, e.as⟩], _, rfl, by rw [upd_same, List.map_append]; rfl, ?_, ?_, ?_, .inr ⟨es0, _, rfl, by simp only [ws, hw]⟩, ?_, ?_, fun b o n e => kk b o n (k5 b o n e)⟩
        · intro e' he
          rcases List.mem_append.mp he with he | he
          · obtain ⟨p2, x2, r1', r2', r3', r4'⟩ := e2 e' (List.mem_append_left _ he)
            exact ⟨p2, x2, r1', kk _ _ r3'.2 r2', r3', r4'.keep fun b o h e => kk b o h.2 e⟩
          · simp only [List.mem_singleton] at he
            subst he
            refine ⟨tp, xe, rfl, ?_, ⟨tp0, ntp⟩, r4.keep fun b o h e => kk b o h.2 e⟩
            rw [upd_ne ntp, upd_same]
            rfl
        · rw [easeq]
          exact e3
        · rw [hrle, ← e4, List.map_append, List.map_append]
          unfold hstep
          simp only [List.map_append, List.map_cons, List.map_nil, List.getLast?_append, List.getLast?_singleton, Option.or_some, Option.some_or]
          rw [if_pos hw, List.dropLast_concat]
        · intro z hz
          rw [easeq] at hz
          exact hsub1 z (e6 z hz)
        · rw [List.length_append, List.length_singleton] at e7 ⊢
          omega
      · rw [decide_eq_false (show ¬ V.str (ws bt) = V.str (ws e.t) from fun h => hw (by simp only [ws, V.str.injEq, Str.mk.injEq] at h; simpa using h.symm))]
        refine iteF ?_
        refine ⟨_, rfl, .inl ⟨rfl, _, SqL.of e1⟩, _, rfl, (by show 2 ≤ sizeLine; decide), fun tp htp => ⟨hp, _, .ref tp, rfl, rfl, by rw [upd_ne (ne_of_none e1 htp)]; exact e1, by rw [List.length_map]; exact hlt, ?_⟩⟩
        exact ⟨_, rfl, addNew tp htp (.inr ⟨es0, e, rfl, hw⟩)⟩
  · rintro σ H5 ⟨y2, y5, es, lv, rfl, e1, e2, e3, e4, e5, e6, e7, k5⟩
    refine ⟨_, rfl, q hp es H5 (fun b o n1 n2 e => ?_) (T14.ext fun b o e => k5 b o (ne_of_none e hhp) e) (T24.ext fun b o e => k5 b o (ne_of_none e hhp) e) hhp0 e1 e2 e3 ?_⟩
    · exact k5 b o (ne_of_none (s1 _ _ e) hhp1) (f14 b o n1 n2 (s1 _ _ e))
    · rw [e4, List.length_map, List.take_of_length_le (by rw [List.length_map]; exact Nat.le_refl _), hctr]
      rfl
end


def sp__is_heap_row : Sp := fun vs H Q _ => ∃ e : V × Tr × Nat, vs = [e.1] ∧ HeIn H e ∧ 1 ≤ e.2.2 ∧ e.2.1.size ≤ 1000000 ∧ ∀ H', Same H H' → Q (.bl true) H'
section
variable {P : Program} {w : World} {K : PySem.W.Frag} {mg : Str → Option Value} {base : Heap}
theorem ok__is_heap_row (T : Txt K mg) : FnOk P w K mg base CX0 4 T.f__is_heap_row T.d__is_heap_row ["thing"] sp__is_heap_row := by
  have G_is_tree : FnOk P w K mg base CX0 3 T.f_is_tree T.d_is_tree ["thing"] sp_is_tree := ok_is_tree T
  have G_is_whole : FnOk P w K mg base CX0 1 T.f_is_whole T.d_is_whole ["thing"] sp_is_whole := ok_is_whole T
  refine T.F__is_heap_row.ok sc__is_heap_row (fun vs H Q E h => ?_) (fun cdv A outer s H vs Q E hr h => ?_)
  · obtain ⟨e, rfl, _⟩ := h
    rfl
  obtain ⟨e, rfl, he, h1, hz, q⟩ := h
  refine ⟨_, (pss_cons (ps_if (PW.pt (pw_or (pt_not (pt_val (pe_callB call_isi (by rfl) T.z_isinstance (by decide +kernel) (pa_cons (pv 0) (pa_cons (pe_bltn (v := .ty "tuple") (by rfl) T.z_tuple (by decide +kernel) rfl) pa_nil))))) (pw_or1 (pt_cmpR op_ne (pe_callB call_len_seq (by rfl) T.z_len PySem.boot_len (pa_cons (pv 0) pa_nil)) pe_int (nomark _))))) (pss_one (ps_ret pe_bl)) pss_nil) (pss_one (ps_ret (pe_and (pe_call G_is_tree (hr.mono (by omega)) (by rfl) T.m_is_tree T.F_is_tree.kp T.b_is_tree .nil pass0 (pa_cons (pe_ix ix_tup (pv 0) pe_int (fun _ _ => rfl)) pa_nil)) (pe_and (pe_call G_is_whole (hr.mono (by omega)) (by rfl) T.m_is_whole T.F_is_whole.kp T.b_is_whole .nil pass0 (pa_cons (pe_ix ix_tup (pv 0) pe_int (fun _ _ => rfl)) pa_nil)) (pe_one (pe_cmpR op_ge (pe_ix ix_tup (pv 0) pe_int (fun _ _ => rfl)) pe_int (nomark _)))))))), ?_⟩
  obtain ⟨v, t, n⟩ := e
  obtain ⟨p, x, rfl, g1, g2⟩ := he
  dsimp only at h1 hz g1 g2
  refine ⟨_, rfl, _, _, _, _, true, rfl, .ty "tuple", .base (.tup g1), kit_ty (by decide +kernel), _, rfl, iteF ?_⟩
  refine ⟨_, rfl, _, _, rfl, .inr (SqT.of g1), rfl, _, rfl, iteF ?_⟩
  refine ⟨_, rfl, _, _, 0, _, rfl, rfl, SqT.of g1, atI_nat (j := 0) rfl, x, t, rfl, g2, hz, fun H' s' => ⟨_, rfl, iteT ?_⟩⟩
  have g1' := s' _ _ g1
  refine ⟨_, rfl, _, _, 1, _, rfl, rfl, SqT.of g1', atI_nat (j := 1) rfl, _, rfl, _, rfl, iteT ?_⟩
  refine ⟨_, rfl, _, _, 1, _, rfl, rfl, SqT.of g1', atI_nat (j := 1) rfl, _, 1, rfl, rfl, ?_⟩
  have e : decide ((1 : Int) ≤ (n : Int)) = true := decide_eq_true (by omega)
  show Q (.bl (decide ((1 : Int) ≤ (n : Int)))) H'
  rw [e]
  exact q _ s'
theorem lc_rng {lo : Int} {n : Nat} {Bd : V → Hp → (Hp → Prop) → Prop} {Qd : Hp → Prop} {H0 : Hp} (Pv : Nat → Hp → Prop) (h0 : Pv 0 H0)
    (hs : ∀ (i : Nat) H, i < n → Pv i H → Bd (.int (lo + i)) H (Pv (i + 1))) (hd : ∀ H, Pv n H → Qd H) :
    ∃ W : Nat → Nat → Hp → Prop, (∃ m, W 0 m H0) ∧ ∀ i m H, W i m H → ((Itr lo n).stop i H ∧ Qd H) ∨ ((Itr lo n).go i H ∧ ∃ Nx : Hp → Prop, (∀ H', Nx H' → ∃ m', m' < m ∧ W (i + 1) m' H') ∧ ∀ x H', (Itr lo n).yld i H x H' → Bd x H' Nx) := by
  refine ⟨fun i m H => m = n - i ∧ i ≤ n ∧ Pv i H, ⟨n, by simp, Nat.zero_le _, h0⟩, ?_⟩
  rintro i m H ⟨rfl, hi, p⟩
  by_cases hlt : i < n
  · refine .inr ⟨hlt, Pv (i + 1), fun H' p' => ⟨n - (i + 1), by omega, rfl, hlt, p'⟩, fun x H' y => ?_⟩
    obtain ⟨rfl, rfl⟩ := y
    exact hs i _ hlt p
  · have e : i = n := by omega
    subst e
    exact .inl ⟨Nat.le_refl _, hd H p⟩
theorem expand_take {es : List (Tr × Nat)} {i : Nat} {e : Tr × Nat} (h : es[i]? = some e) : expand (es.take (i + 1)) = expand (es.take i) ++ List.replicate e.2 e.1 := by
  rw [take_succ_of h, expand_append]
  simp [expand]
theorem sizes_take (l : List (Tr × Nat)) (i : Nat) : sizes (expand (l.take i)) ≤ sizes (expand l) := by
  have := congrArg sizes (congrArg expand (List.take_append_drop i l))
  rw [expand_append, sizes_append] at this
  omega
def sp_from_heap (P1 : Addr) (q1 : Str) : Sp := fun vs H Q _ => ∃ (c : Nat) (h : Addr) (es : List (V × Tr × Nat)), vs = [.str (ch c), .ref h] ∧ 97 ≤ c ∧ c ≤ 122 ∧ H h = some (.lst (es.map (·.1))) ∧ (∀ e ∈ es, HeIn H e ∧ 1 ≤ e.2.2) ∧ sizes (expand (es.map (·.2))) ≤ 100000 ∧ es.length ≤ 100000 ∧ LamX.TabS H P1 q1 ∧
  ∀ x as H', Fr P1 H H' → LamX.TabS H' P1 q1 → as.Nodup → TrO (fun b => H b = none) H' x (Tr.node c (expand (es.map (·.2)))).told as → Q x H'
theorem ok_from_heap (T : Txt K mg) (B : Tbs T base) : FnOk P w K mg base CX0 10 T.f_from_heap T.d_from_heap ["letter", "heap"] (sp_from_heap T.P__joined q__joined) := by
  have G_is_letter : FnOk P w K mg base CX0 1 T.f_is_letter T.d_is_letter ["thing"] sp_is_letter := ok_is_letter T
  have G__is_heap_row : FnOk P w K mg base CX0 4 T.f__is_heap_row T.d__is_heap_row ["thing"] sp__is_heap_row := ok__is_heap_row T
  have G_told_form : FnOk P w K mg base CX0 9 T.f_told_form T.d_told_form ["tree"] (sp_told_form T.P__joined q__joined) := ok_told_form T B
  refine T.F_from_heap.ok sc_from_heap (fun vs H Q E h => ?_) (fun cdv A outer s H vs Q E hr h => ?_)
  · obtain ⟨c, h, es, rfl, _⟩ := h
    rfl
  obtain ⟨c, h, es, rfl, c1, c2, hh, he, hz, hl, hT, q⟩ := h
  refine ⟨_, (pss_cons (ps_if (pt_not (pt_val (pe_call G_is_letter (hr.mono (by omega)) (by rfl) T.m_is_letter T.F_is_letter.kp T.b_is_letter .nil pass0 (pa_cons (pv 0) pa_nil)))) (pss_one ps_never) pss_nil) (pss_cons (ps_if (PW.pt (pw_or (pt_not (pt_val (pe_callB call_isi (by rfl) T.z_isinstance (by decide +kernel) (pa_cons (pv 1) (pa_cons (pe_bltn (v := .ty "list") (by rfl) T.z_list (by decide +kernel) rfl) pa_nil))))) (pw_or1 (pt_not (pt_val (pe_callB (cr_all rfl) (by rfl) T.z_all (by decide +kernel) (pa_cons (pe_lc (own := [("row", 2)]) (g := gName 2) (tt := tYes) rfl sc_from_heap.nd (pi_list (pv 1)) (blkOk_by (own := [("row", 2)]) (N := ["letter", "heap", "row", "child", "many", "_"]) (sc := (defScope s_from_heap)) (by decide +kernel)) (fun _ _ _ _ _ => (pg_name (i := 2) sc_from_heap.nd rfl (Or.inl rfl))) (fun _ _ _ _ _ => pts_nil) (fun _ _ _ _ _ => (pe_call G__is_heap_row (hr.mono (by omega)) (by rfl) T.m__is_heap_row T.F__is_heap_row.kp T.b__is_heap_row .nil pass0 (pa_cons (pv 2) pa_nil)))) pa_nil))))))) (pss_one ps_never) pss_nil) (pss_one (ps_ret (pe_call G_told_form (hr.mono (by omega)) (by rfl) T.m_told_form T.F_told_form.kp T.b_told_form .nil pass0 (pa_cons (pe_tup (pa_cons (pv 0) (pa_cons (pe_lc2 (own := [("child", 3), ("many", 4), ("_", 5)]) (vs1 := [5]) (g := gTup K 2 (gCons (gName 3) (gCons (gName 4) gNil))) (g1 := gName 5) (tt := tYes) (tt1 := tYes) rfl sc_from_heap.nd (pi_list (pv 1)) (blkOk_by (own := [("child", 3), ("many", 4), ("_", 5)]) (N := ["letter", "heap", "row", "child", "many", "_"]) (sc := (defScope s_from_heap)) (by decide +kernel)) (by decide) (fun _ _ _ _ _ => (pg_tup rfl (pgs_cons (pg_name (i := 3) sc_from_heap.nd rfl (Or.inl rfl)) (pgs_cons (pg_name (i := 4) sc_from_heap.nd rfl (Or.inl rfl)) pgs_nil)))) (fun _ _ _ _ _ => pts_nil) (fun _ _ _ _ _ => (pi_range1 (by rfl) T.z_range (pa_cons (pv 4) pa_nil))) (fun _ _ _ _ _ => (pg_name (i := 5) sc_from_heap.nd rfl (Or.inl rfl))) (fun _ _ _ _ _ => pts_nil) (fun _ _ _ _ _ => (pv 3))) pa_nil))) pa_nil)))))), ?_⟩
  refine ⟨_, rfl, c, rfl, c1, c2, _, rfl, iteF ?_⟩
  refine ⟨_, rfl, _, _, _, _, true, rfl, .ty "list", .base (.lst hh), kit_ty (by decide +kernel), _, rfl, iteF ?_⟩
  have hszt : ∀ e ∈ es, e.2.1.size ≤ 100000 := by
    intro e hm
    have hin : e.2.1 ∈ expand (es.map (·.2)) := by
      simp only [expand, List.mem_flatten, List.mem_map]
      refine ⟨List.replicate e.2.2 e.2.1, ⟨e.2, ⟨e, hm, rfl⟩, rfl⟩, ?_⟩
      rw [List.mem_replicate]
      exact ⟨by have := (he e hm).2; omega, rfl⟩
    have := sizes_mem hin
    omega
  refine ⟨_, rfl, h, rfl, ⟨_, SqL.of hh⟩, fun D hD => ?_⟩
  refine lc_list (xs := es.map (·.1)) (fun i H2 => H2 D = some (.lst ((List.replicate (min i es.length) true).map V.bl)) ∧ Same H H2) ⟨by simp [upd_same], same_new hD⟩ (fun i H2 _ ⟨_, s⟩ => SqL.of (s _ _ hh)) ?_ ?_
  · rintro i x H2 hx ⟨g1, g2⟩
    rw [List.getElem?_map] at hx
    cases hc : es[i]? with
    | none => rw [hc] at hx; cases hx
    | some e =>
    rw [hc] at hx
    cases hx
    have hm := List.mem_of_getElem? hc
    have hil := (List.getElem?_eq_some_iff.mp hc).1
    obtain ⟨⟨p, x, r1, r2, r3⟩, hn⟩ := he e hm
    refine ⟨rfl, _, rfl, e, rfl, ⟨p, x, r1, g2 _ _ r2, r3.same g2⟩, hn, by have := hszt e hm; omega, fun H3 s3 => ⟨_, s3 _ _ g1, ?_, ?_, same_add (g2.trans s3) hD⟩⟩
    · rw [List.length_map, List.length_replicate]
      exact Nat.lt_of_le_of_lt (show _ ≤ 1000000 by omega) (by decide)
    · rw [upd_same, Nat.min_eq_left (by omega), Nat.min_eq_left (by omega), List.replicate_succ', List.map_append]
      rfl
  rintro H2 ⟨g1, g2⟩
  refine ⟨D, _, rfl, SqL.of g1, _, rfl, ?_⟩
  have eall : (List.replicate (min (es.map (·.1)).length es.length) true).all id = true := by
    rw [List.all_eq_true]
    intro b hb
    rw [List.mem_replicate] at hb
    exact hb.2
  rw [eall]
  refine iteF ?_
  have hT2 := hT.ext g2
  have hh2 := g2 _ _ hh
  refine ⟨_, rfl, _, rfl, h, rfl, ⟨_, SqL.of hh2⟩, fun D2 hD2 => ?_⟩
  have hD20 := g2.free hD2
  refine lc_outer (xs := es.map (·.1)) (fun i H3 => ∃ acc, H3 D2 = some (.lst acc) ∧ TrsAt (fun b => b ≠ D2) H3 acc (expand ((es.map (·.2)).take i)) ∧ Same H2 H3) ⟨[], upd_same, .nil, same_new hD2⟩ (fun i H3 _ ⟨_, _, _, s⟩ => SqL.of (s _ _ hh2)) ?_ ?_
  · rintro i x H3 hx ⟨acc, q1, q2, q3⟩
    rw [List.getElem?_map] at hx
    cases hc : es[i]? with
    | none => rw [hc] at hx; cases hx
    | some e =>
    rw [hc] at hx
    cases hx
    have hm := List.mem_of_getElem? hc
    obtain ⟨v, t, n⟩ := e
    obtain ⟨⟨p, x, r1, r2, r3⟩, hn⟩ := he _ hm
    dsimp only at r1 r2 r3 hn
    subst r1
    have s03 := g2.trans q3
    have hbig : (expand ((es.map (·.2)).take i)).length + n ≤ 100000 := by
      have a1 := len_sizes (expand ((es.map (·.2)).take (i + 1)))
      have a2 := sizes_take (es.map (·.2)) (i + 1)
      have a3 := congrArg List.length (expand_take (es := es.map (·.2)) (i := i) (e := (t, n)) (by rw [List.getElem?_map, hc]; rfl))
      rw [List.length_append, List.length_replicate] at a3
      omega
    refine ⟨_, _, rfl, SqT.of (s03 _ _ r2), rfl, _, _, rfl, _, _, rfl, rfl, rfl, _, rfl, (n : Int), rfl, ?_, ?_, ?_⟩
    · omega
    · omega
    refine lc_rng (lo := 0) (n := ((n : Int)).toNat) (fun j H4 => ∃ acc, H4 D2 = some (.lst acc) ∧ TrsAt (fun b => b ≠ D2) H4 acc (expand ((es.map (·.2)).take i) ++ List.replicate j t) ∧ Same H2 H4) ⟨acc, q1, by simpa using q2, q3⟩ ?_ ?_
    · rintro j H4 hj ⟨acc4, u1, u2, u3⟩
      have hla := u2.len
      refine ⟨rfl, _, rfl, acc4, u1, ?_, acc4 ++ [x], upd_same, ?_, same_add u3 hD2⟩
      · rw [List.length_append, List.length_replicate] at hla
        exact Nat.lt_of_le_of_lt (show _ ≤ 1000000 by omega) (by decide)
      · rw [List.replicate_succ', ← List.append_assoc]
        have rx := ((r3.off hD20).same (g2.trans u3)).weak (ok' := fun b => b ≠ D2) fun b h => h.2
        exact (u2.append (.cons rx .nil)).keep (upd_keep fun b h => h)
    · rintro H4 ⟨acc4, u1, u2, u3⟩
      refine ⟨acc4, u1, ?_, u3⟩
      rw [expand_take (e := (t, n)) (by rw [List.getElem?_map, hc]; rfl)]
      rw [Int.toNat_natCast] at u2
      exact u2
  · rintro H3 ⟨acc, q1, q2, q3⟩
    rw [List.length_map, List.take_of_length_le (by rw [List.length_map]; exact Nat.le_refl _)] at q2
    refine ⟨(by show 2 ≤ sizeLine; decide), fun a ha => ?_⟩
    have na : ∀ b o, H3 b = some o → (upd H3 a (.tup [.str (ch c), .ref D2])) b = some o := fun b o e => by rw [upd_ne (ne_of_none e ha)]; exact e
    have hT3 := (hT2.ext q3).ext na
    refine ⟨_, _, rfl, .node (ok := fun _ => True) upd_same (na _ _ q1) trivial trivial c1 c2 ((q2.same na).weak fun _ _ => trivial), by simp only [Tr.size]; omega, hT3, fun x as H' f T' nd O => q x as H' (((Fr.same (g2.trans q3)).trans (Fr.same na)).trans f) T' nd (O.weak fun b h => ?_)⟩
    cases e : H b with
    | none => rfl
    | some o => rw [na _ _ (q3 _ _ (g2 _ _ e))] at h; cases h
end

theorem seqN {K : PySem.W.Frag} {H H' : Hp} {a : Addr} {xs : List V} (f : LamX.ExtN H H') (h : SqL K H a xs) : SqL K H' a xs := by
  rcases h with (h | ⟨o, h⟩) | h
  · exact .inl (.inl (f _ _ h fun _ z => by cases z))
  · exact .inl (.inr ⟨o, f _ _ h fun _ z => by cases z⟩)
  · exact .inr h
theorem tabs_only : ∀ {TT : List NdefX.NTab}, (TT.map (·.1)).Nodup → ∀ (q : Addr) (f : Nat → Nat → Str), (q, f) ∈ TT → ∀ z ∈ TT, z.1 = q → z.2 = f
  | [], _, _, _, h, _, _, _ => by cases h
  | x :: r, nd, q, f, h, z, hz, e => by
    rw [List.map_cons, List.nodup_cons] at nd
    rcases List.mem_cons.mp h with h | h <;> rcases List.mem_cons.mp hz with k | k
    · rw [k, ← h]
    · exact absurd (List.mem_map.mpr ⟨z, k, by rw [e, ← h]⟩) nd.1
    · exact absurd (List.mem_map.mpr ⟨(q, f), h, by rw [← e, k]⟩) nd.1
    · exact tabs_only nd.2 q f h z k e


def spLaw (K : PySem.W.Frag) : Sp := fun vs H Q _ => ∃ (a : Addr) (ns : List Int), vs = [.ref a] ∧ SqL K H a (ns.map V.int) ∧ ns.length ≤ 63 ∧ ∀ H', Q (.bl true) H'

def turnG (J : JD) : List Nat := (List.range J.n).filter fun x => !decide (x ∈ J.good)
def turnJ (J : JD) : JD := { J with good := turnG J }
theorem turnJ_ok {J : JD} (h : J.ok) : (turnJ J).ok where
  L := h.L
  n1 := h.n1
  n6 := h.n6
  f4 := h.f4
  t1 := h.t1
  t4 := h.t4
  h600 := h.h600
  lt := h.lt
  g6 := by
    have := List.length_filter_le (fun x => !decide (x ∈ J.good)) (List.range J.n)
    rw [List.length_range] at this
    exact Nat.le_trans this h.n6
  gn g hg := List.mem_range.mp (List.mem_filter.mp hg).1
theorem turn_in {J : JD} {s : Nat} (h : s < J.n) : decide (s ∈ turnG J) = !decide (s ∈ J.good) := by
  rw [Bool.eq_iff_iff]
  simp only [turnG, decide_eq_true_eq, List.mem_filter, List.mem_range, h, true_and]
theorem Chg.same {p : Addr} {H H' : Hp} (c : Chg p H H') (h : H p = none) : Same H H' := fun b o e => c.at e (ne_of_none e h)
theorem tabsN_fr2 {TT : List NdefX.NTab} {H H' : Hp} {P1 P2 : Addr} {q1 q2 : Str} (h : NdefX.TabsN TT H) (m1 : (P1, fun _ _ => q1) ∈ TT) (u1 : ∀ z ∈ TT, z.1 = P1 → z.2 = fun _ _ => q1) (m2 : (P2, fun _ _ => q2) ∈ TT) (u2 : ∀ z ∈ TT, z.1 = P2 → z.2 = fun _ _ => q2) (f : Fr2 P1 P2 H H') (t1 : LamX.TabS H' P1 q1) (t2 : LamX.TabS H' P2 q2) : NdefX.TabsN TT H' ∧ LamX.ExtN H H' := by
  obtain ⟨ps1, g1, _⟩ := h _ m1
  obtain ⟨ps2, g2, _⟩ := h _ m2
  refine ⟨fun z hz => ?_, fun b o e n => f b o (fun e2 => by rw [e2, g1] at e; cases e; exact n _ rfl) (fun e2 => by rw [e2, g2] at e; cases e; exact n _ rfl) e⟩
  by_cases e : z.1 = P1
  · rw [u1 z hz e, e]
    exact NdefX.TabN.of t1
  by_cases e' : z.1 = P2
  · rw [u2 z hz e', e']
    exact NdefX.TabN.of t2
  obtain ⟨ps, h1, h2, h3⟩ := h z hz
  refine ⟨ps, f _ _ e e' h1, h2, fun pos cv hc => ?_⟩
  obtain ⟨c, e1, h4⟩ := h3 pos cv hc
  exact ⟨c, e1, f _ _ (fun e2 => by rw [e2, g1] at h4; unfold LamX.CodeO at h4; cases h4) (fun e2 => by rw [e2, g2] at h4; unfold LamX.CodeO at h4; cases h4) h4⟩
theorem len_expand : ∀ es : List (Tr × Nat), (∀ e ∈ es, 1 ≤ e.2) → es.length ≤ (expand es).length
  | [], _ => Nat.le_refl _
  | e :: r, h => by
    have ih := len_expand r fun x hx => h x (List.mem_cons_of_mem _ hx)
    have h1 := h e List.mem_cons_self
    have e1 : expand (e :: r) = List.replicate e.2 e.1 ++ expand r := by simp [expand]
    rw [e1, List.length_append, List.length_replicate, List.length_cons]
    omega
theorem HeAt.isIn {ok : Addr → Prop} {H : Hp} {e : HE} (x : HeAt ok H e) : HeIn H (e.v, e.t, e.n) := by
  obtain ⟨p, y, e1, e2, _, e3⟩ := x
  exact ⟨p, y, e1, e2, (TrO.at _ _ _ e3).weak fun _ _ => trivial⟩
theorem TrAt.inv {ok : Addr → Prop} {H : Hp} {v : V} : ∀ {t : Tr}, TrAt ok H v t → ∃ (a l : Addr) (ws : List V), v = .ref a ∧ H a = some (.tup [.str (ch t.top), .ref l]) ∧ H l = some (.lst ws) ∧ ok a ∧ ok l ∧ 97 ≤ t.top ∧ t.top ≤ 122 ∧ TrsAt ok H ws t.kids
  | .node c ks, x => by
    cases x with
    | node h1 h2 k1 k2 c1 c2 r => exact ⟨_, _, _, rfl, h1, h2, k1, k2, c1, c2, r⟩
theorem tr_eta : ∀ t : Tr, t = .node t.top t.kids
  | .node _ _ => rfl
theorem JAtO.frn {P : Program} {w : World} {ok : Addr → Prop} {H H' : Hp} {v : V} {J : JD} {p : Addr} {ys : List V} (x : JAtO P w ok H v J) (ho : ∀ b, ok b → b ≠ p) (hp : H p = some (.lst ys)) (f : FrN p H H') : JAtO P w ok H' v J := by
  obtain ⟨j, d, g, xs, keys, rfl, h1, h2, h3, h4, h5, h6, h7⟩ := x
  exact ⟨j, d, g, xs, keys, rfl, f _ _ (fun e => by rw [e, hp] at h1; cases h1) h1 (fun _ z => by cases z), f _ _ (fun e => by rw [e, hp] at h2; unfold DictN at h2; cases h2) h2 not_tbl, h3.keep fun b zs e => f _ _ (fun z => by rw [z, hp] at e; cases e) e (fun _ z => by cases z), h4, h5, f _ _ (ho _ h7) h6 (fun _ z => by cases z), h7⟩
theorem TrAt.frn {p : Addr} {H H' : Hp} {v : V} {t : Tr} (x : TrAt (fun b => b ≠ p) H v t) (f : FrN p H H') : TrAt (fun b => b ≠ p) H' v t :=
  ((TrAt.kind1 t v x).keep fun b o h e => f b o h.1 e fun ps e2 => h.2 ps (by rw [e, e2])).weak fun b h => h.1
theorem sort_one {a b : List Int} (p : a.Perm b) (ha : a.Pairwise (· ≤ ·)) (hb : b.Pairwise (· ≤ ·)) : a = b :=
  List.Perm.eq_of_pairwise (le := fun x y => x ≤ y) (fun _ _ _ _ h g => Int.le_antisymm h g) ha hb p
section
variable {P : Program} {w : World} {K : PySem.W.Frag} {mg : Str → Option Value} {base : Heap}
theorem ok_law (T : Txt K mg) (B : Tbs T base) : FnOk P w K mg base CX0 42 T.f_law T.d_law ["script"] (spLawT K [T.P__joined, T.P_heap_of, T.P_states_upward, T.P_part_states]) := by
  generalize hTTe : ([(T.P__joined, fun _ _ => q__joined), (T.P_heap_of, fun _ _ => q_heap_of), (T.P_states_upward, fun _ _ => q_states_upward), (T.P_part_states, fun _ _ => q_part_states)] : List NdefX.NTab) = TT
  have nd : (TT.map (·.1)).Nodup := by
    subst hTTe
    simp only [List.map_cons, List.map_nil, List.nodup_cons, List.mem_cons, List.not_mem_nil, or_false, not_false_eq_true, List.nodup_nil, and_true, not_or]
    exact ⟨⟨T.n__joined_heap_of, T.n__joined_states_upward, T.n__joined_part_states⟩, ⟨T.n_heap_of_states_upward, T.n_heap_of_part_states⟩, T.n_states_upward_part_states⟩
  have only := tabs_only nd
  have i1 : (T.P_states_upward, fun _ _ => q_states_upward) ∈ TT := by
    subst hTTe
    simp only [List.mem_cons, true_or, or_true]
  have i2 : (T.P_part_states, fun _ _ => q_part_states) ∈ TT := by
    subst hTTe
    simp only [List.mem_cons, true_or, or_true]
  have i3 : (T.P__joined, fun _ _ => q__joined) ∈ TT := by
    subst hTTe
    simp only [List.mem_cons, true_or, or_true]
  have i4 : (T.P_heap_of, fun _ _ => q_heap_of) ∈ TT := by
    subst hTTe
    simp only [List.mem_cons, true_or, or_true]
  have hTp : TTp T TT := ⟨i1, only _ _ i1, i2, only _ _ i2⟩
  have G__law_pool : FnOk P w K mg base CX0 1 T.f__law_pool T.d__law_pool ["script", "k"] (sp__law_pool K) := ok__law_pool T
  have G__law_take : FnOk P w K mg base CX0 1 T.f__law_take T.d__law_take ["pool", "many"] sp__law_take := ok__law_take T
  have G__law_judge : FnOk P w K mg base CX0 3 T.f__law_judge T.d__law_judge ["pool"] (sp__law_judge P w) := ok__law_judge T
  have G__law_tree : FnOk P w K mg base CX0 40 T.f__law_tree T.d__law_tree ["pool", "most", "letters"] sp__law_tree := ok__law_tree T
  have G__law_grown : FnOk P w K mg base CX0 3 T.f__law_grown T.d__law_grown ["pool", "most", "letters"] sp__law_grown := ok__law_grown T
  have G__law_shuffled : FnOk P w K mg base CX0 33 T.f__law_shuffled T.d__law_shuffled ["pool", "tree"] (sp__law_shuffled 31) := ok__law_shuffled T 31
  have G_is_judge : FnOk P w K mg base CX0 5 T.f_is_judge T.d_is_judge ["thing"] (sp_is_judge P w) := ok_is_judge T
  have G_part_states : FnOk P w K mg base CX0 15 T.f_part_states T.d_part_states ["judge", "tree"] (sp_part_states P w TT) := ok_part_states T B hTp
  have G_state_of : FnOk P w K mg base CX0 16 T.f_state_of T.d_state_of ["judge", "tree"] (sp_state_of P w TT) := ok_state_of T B hTp
  have G_lets_by : FnOk P w K mg base CX0 17 T.f_lets_by T.d_lets_by ["judge", "tree"] (sp_lets_by P w TT) := ok_lets_by T B hTp
  have G_told_form : FnOk P w K mg base CX0 9 T.f_told_form T.d_told_form ["tree"] (sp_told_form T.P__joined q__joined) := ok_told_form T B
  have G_heap_of : FnOk P w K mg base CX0 9 T.f_heap_of T.d_heap_of ["tree"] (sp_heap_of T.P__joined q__joined T.P_heap_of q_heap_of) := ok_heap_of T B
  have G_from_heap : FnOk P w K mg base CX0 10 T.f_from_heap T.d_from_heap ["letter", "heap"] (sp_from_heap T.P__joined q__joined) := ok_from_heap T B
  have G__law_by_children : FnOk P w K mg base CX0 16 T.f__law_by_children T.d__law_by_children ["judge", "tree"] (sp__law_by_children P w TT) := ok__law_by_children T B hTp
  have G__law_turned_round : FnOk P w K mg base CX0 17 T.f__law_turned_round T.d__law_turned_round ["pool", "judge", "tree"] (sp__law_turned_round P w TT) := ok__law_turned_round T B hTp
  have G__law_exchanged : FnOk P w K mg base CX0 33 T.f__law_exchanged T.d__law_exchanged ["pool", "judge", "tree"] (sp__law_exchanged P w TT) := ok__law_exchanged T B hTp
  refine T.F_law.ok sc_law (fun vs H Q E h => ?_) (fun cdv A outer s H vs Q E hr h => ?_)
  · obtain ⟨a, ns, rfl, _⟩ := h
    rfl
  obtain ⟨a, ns, rfl, hS, h63, hPs, qq⟩ := h
  have T0 : NdefX.TabsN TT H := by
    subst hTTe
    intro z hz
    simp only [List.mem_cons, List.not_mem_nil, or_false] at hz
    rcases hz with rfl | rfl | rfl | rfl <;> exact NdefX.TabN.nil (hPs _ (by simp))
  have u3 := only _ _ i3
  have u4 := only _ _ i4
  generalize hP1 : T.P__joined = P1 at *
  generalize hP2 : T.P_heap_of = P2 at *
  clear only nd hTTe hPs
  refine ⟨_, (pss_cons (ps_for PassesOwn.never rfl (pi_range1 (by rfl) T.z_range (pa_cons (pe_callB (call_max2 rfl) (by rfl) T.z_max (by decide +kernel) (pa_cons pe_int (pa_cons (pe_callB (call_min2 rfl) (by rfl) T.z_min (by decide +kernel) (pa_cons pe_int (pa_cons (pe_callB call_len_seq (by rfl) T.z_len PySem.boot_len (pa_cons (pv 0) pa_nil)) pa_nil))) pa_nil))) pa_nil)) (pg_name (i := 1) sc_law.nd rfl (Or.inl rfl)) (pss_cons (ps_set (i := 2) sc_law.nd rfl (Or.inr rfl) (pe_call G__law_pool (hr.mono (by omega)) (by rfl) T.m__law_pool T.F__law_pool.kp T.b__law_pool .nil pass0 (pa_cons (pv 0) (pa_cons (pv 1) pa_nil)))) (pss_cons (ps_set (i := 3) sc_law.nd rfl (Or.inr rfl) (pe_call G__law_judge (hr.mono (by omega)) (by rfl) T.m__law_judge T.F__law_judge.kp T.b__law_judge .nil pass0 (pa_cons (pv 2) pa_nil))) (pss_cons (ps_set (i := 4) sc_law.nd rfl (Or.inl rfl) (pe_call G__law_tree (hr.mono (by omega)) (by rfl) T.m__law_tree T.F__law_tree.kp T.b__law_tree .nil pass0 (pa_cons (pv 2) (pa_cons pe_int (pa_cons (pe_ix ix_tup (pv 3) pe_int (fun _ _ => rfl)) pa_nil))))) (pss_cons (ps_set (i := 5) sc_law.nd rfl (Or.inl rfl) (pe_call G__law_shuffled (hr.mono (by omega)) (by rfl) T.m__law_shuffled T.F__law_shuffled.kp T.b__law_shuffled .nil pass0 (pa_cons (pv 2) (pa_cons (pv 4) pa_nil)))) (pss_cons (ps_set (i := 6) sc_law.nd rfl (Or.inl rfl) (pe_call G_part_states (hr.mono (by omega)) (by rfl) T.m_part_states T.F_part_states.kp T.b_part_states .nil pass0 (pa_cons (pv 3) (pa_cons (pv 4) pa_nil)))) (pss_cons (ps_if (PW.pt (pw_or (pt_not (pt_val (pe_call G_is_judge (hr.mono (by omega)) (by rfl) T.m_is_judge T.F_is_judge.kp T.b_is_judge .nil pass0 (pa_cons (pv 3) pa_nil)))) (pw_or1 (pt_cmpR op_ne (pe_ix ix_list (pv 6) (pe_un un_neg pe_int) (fun _ _ => rfl)) (pe_call G_state_of (hr.mono (by omega)) (by rfl) T.m_state_of T.F_state_of.kp T.b_state_of .nil pass0 (pa_cons (pv 3) (pa_cons (pv 4) pa_nil))) (nomark _))))) (pss_one (ps_ret pe_bl)) pss_nil) (pss_cons (ps_if (pt_cmpR op_ne (pe_call G_lets_by (hr.mono (by omega)) (by rfl) T.m_lets_by T.F_lets_by.kp T.b_lets_by .nil pass0 (pa_cons (pv 3) (pa_cons (pv 4) pa_nil))) (pe_cmpR op_in_seq (pe_ix ix_list (pv 6) (pe_un un_neg pe_int) (fun _ _ => rfl)) (pe_ix ix_tup (pv 3) pe_int (fun _ _ => rfl)) (by rfl)) (nomark _)) (pss_one (ps_ret pe_bl)) pss_nil) (pss_cons (ps_for PassesOwn.never rfl (pi_list (pe_lst (pa_cons (pv 5) (pa_cons (pe_call G_told_form (hr.mono (by omega)) (by rfl) T.m_told_form T.F_told_form.kp T.b_told_form .nil pass0 (pa_cons (pv 4) pa_nil)) (pa_cons (pe_call G_from_heap (hr.mono (by omega)) (by rfl) T.m_from_heap T.F_from_heap.kp T.b_from_heap .nil pass0 (pa_cons (pe_ix ix_tup (pv 4) pe_int (fun _ _ => rfl)) (pa_cons (pe_call G_heap_of (hr.mono (by omega)) (by rfl) T.m_heap_of T.F_heap_of.kp T.b_heap_of .nil pass0 (pa_cons (pv 4) pa_nil)) pa_nil))) pa_nil))))) (pg_name (i := 7) sc_law.nd rfl (Or.inl rfl)) (pss_one (ps_if (PW.pt (pw_or (pt_cmpR op_ne (pe_call G_state_of (hr.mono (by omega)) (by rfl) T.m_state_of T.F_state_of.kp T.b_state_of .nil pass0 (pa_cons (pv 3) (pa_cons (pv 7) pa_nil))) (pe_ix ix_list (pv 6) (pe_un un_neg pe_int) (fun _ _ => rfl)) (nomark _)) (pw_or1 (pt_cmpR (op_neD hr.units) (pe_callB cr_sortedI (by rfl) T.z_sorted (by decide +kernel) (pa_cons (pe_call G_part_states (hr.mono (by omega)) (by rfl) T.m_part_states T.F_part_states.kp T.b_part_states .nil pass0 (pa_cons (pv 3) (pa_cons (pv 7) pa_nil))) pa_nil)) (pe_callB cr_sortedI (by rfl) T.z_sorted (by decide +kernel) (pa_cons (pv 6) pa_nil)) (nomark _))))) (pss_one (ps_ret pe_bl)) pss_nil))) (pss_cons (ps_set (i := 8) sc_law.nd rfl (Or.inl rfl) (pe_op op_catT (pe_slice sl_tup (pv 3) po_none (po_some pe_int)) (pe_tup (pa_cons (pe_lc (own := [("state", 10)]) (g := gName 10) (te := tVar 10) (tt := tTest (tOp (rIn K true) (tVar 10) (tOp (rIxT K) (tVar 3) (tC (.int 5))))) rfl sc_law.nd (pi_range1 (by rfl) T.z_range (pa_cons (pe_ix ix_tup (pv 3) pe_int (fun _ _ => rfl)) pa_nil)) (blkOk_by (own := [("state", 10)]) (N := ["script", "k", "pool", "judge", "tree", "other", "found", "one", "turned", "small", "state", "turn"]) (sc := (defScope s_law)) (by decide +kernel)) (fun _ _ _ _ _ => (pg_name (i := 10) sc_law.nd rfl (Or.inl rfl))) (fun _ _ _ _ _ => pts_one (pt_cmpR op_notIn_seq (pv 10) (pe_ix ix_tup (pv 3) pe_int (fun _ _ => rfl)) (by rfl))) (fun _ _ _ _ _ => (pv 10))) pa_nil)))) (pss_cons (ps_if (PW.pt (pw_or (pt_cmpR op_eq (pe_call G_lets_by (hr.mono (by omega)) (by rfl) T.m_lets_by T.F_lets_by.kp T.b_lets_by .nil pass0 (pa_cons (pv 8) (pa_cons (pv 4) pa_nil))) (pe_call G_lets_by (hr.mono (by omega)) (by rfl) T.m_lets_by T.F_lets_by.kp T.b_lets_by .nil pass0 (pa_cons (pv 3) (pa_cons (pv 4) pa_nil))) (nomark _)) (pw_or1 (pt_not (pt_val (pe_call G__law_by_children (hr.mono (by omega)) (by rfl) T.m__law_by_children T.F__law_by_children.kp T.b__law_by_children .nil pass0 (pa_cons (pv 3) (pa_cons (pv 4) pa_nil)))))))) (pss_one (ps_ret pe_bl)) pss_nil) (pss_cons (ps_set (i := 9) sc_law.nd rfl (Or.inl rfl) (pe_tup (pa_cons (pe_ix ix_tup (pv 4) pe_int (fun _ _ => rfl)) (pa_cons (pe_lc (own := [("turn", 11)]) (g := gName 11) (te := tCall sp__law_grown [] E0 (tCons (tVar 2) (tCons (tC (.int 2)) (tCons (tOp (rIxT K) (tVar 3) (tC (.int 0))) tNil)))) (tt := tYes) rfl sc_law.nd (pi_range1 (by rfl) T.z_range (pa_cons (pe_call G__law_take (hr.mono (by omega)) (by rfl) T.m__law_take T.F__law_take.kp T.b__law_take .nil pass0 (pa_cons (pv 2) (pa_cons pe_int pa_nil))) pa_nil)) (blkOk_by (own := [("turn", 11)]) (N := ["script", "k", "pool", "judge", "tree", "other", "found", "one", "turned", "small", "state", "turn"]) (sc := (defScope s_law)) (by decide +kernel)) (fun _ _ _ _ _ => (pg_name (i := 11) sc_law.nd rfl (Or.inl rfl))) (fun _ _ _ _ _ => pts_nil) (fun _ _ _ _ _ => (pe_call G__law_grown (hr.mono (by omega)) (by rfl) T.m__law_grown T.F__law_grown.kp T.b__law_grown .nil pass0 (pa_cons (pv 2) (pa_cons pe_int (pa_cons (pe_ix ix_tup (pv 3) pe_int (fun _ _ => rfl)) pa_nil)))))) pa_nil)))) (pss_one (ps_if (PW.pt (pw_or (pt_not (pt_val (pe_call G__law_turned_round (hr.mono (by omega)) (by rfl) T.m__law_turned_round T.F__law_turned_round.kp T.b__law_turned_round .nil pass0 (pa_cons (pv 2) (pa_cons (pv 3) (pa_cons (pv 9) pa_nil)))))) (pw_or1 (pt_not (pt_val (pe_call G__law_exchanged (hr.mono (by omega)) (by rfl) T.m__law_exchanged T.F__law_exchanged.kp T.b__law_exchanged .nil pass0 (pa_cons (pv 2) (pa_cons (pv 3) (pa_cons (pv 4) pa_nil))))))))) (pss_one (ps_ret pe_bl)) pss_nil)))))))))))))) (pss_one (ps_ret pe_bl))), ?_⟩
  obtain ⟨jn, hj, hj0, hj1⟩ : ∃ j : Int, (if (if ((ns.map V.int).length : Int) < 8 then ((ns.map V.int).length : Int) else 8) > 1 then (if ((ns.map V.int).length : Int) < 8 then ((ns.map V.int).length : Int) else 8) else 1) = j ∧ 0 ≤ j ∧ j ≤ 12 := ⟨_, rfl, by split <;> split <;> omega, by split <;> split <;> omega⟩
  refine ⟨_, rfl, a, _, rfl, .inl hS, _, _, rfl, _, _, rfl, jn, congrArg (fun z => [V.int z]) hj, by omega, by omega, for_range (lo := 0) (n := jn.toNat) (fun i σ H' => (∃ y1 y2 y3 y4 y5 y6 y7 y8 y9, σ = [some (.ref a), y1, y2, y3, y4, y5, y6, y7, y8, y9, none, none]) ∧ SqL K H' a (ns.map V.int) ∧ NdefX.TabsN TT H') ⟨⟨_, _, _, _, _, _, _, _, _, rfl⟩, hS, T0⟩ ?_ ?_⟩
  · rintro i σ H0 hi ⟨⟨y1, y2, y3, y4, y5, y6, y7, y8, y9, rfl⟩, hS0, T0⟩
    refine ⟨_, rfl, _, rfl, a, ns, _, rfl, hS0, h63, by omega, by omega, fun p H1 hp ch1 p1 => ?_⟩
    have s1 := ch1.same hp
    have T1 := T0.ext s1
    refine ⟨_, rfl, p, _, rfl, p1, by decide, fun jv J H2 f2 p2 hok hri hgp hJ2 => ?_⟩
    have T2 := p1.tabs T1 f2
    have FA2 : FrN p H0 H2 := (FrN.same s1).trans (.fr f2)
    have jv0 := hJ2
    obtain ⟨j, d, g, xs, keys, rfl, hj2, _⟩ := jv0
    refine ⟨_, rfl, _, rfl, j, _, 0, _, rfl, rfl, SqT.of hj2, atI_nat (j := 0) rfl, p, _, 55, J.L, rfl, p2, by decide, by decide, by decide, hok.L, fun tv t H3 hz hdp hL f3 ht3 p3 => ?_⟩
    have T3 := p2.tabs T2 f3
    have ht3p : TrAt (fun b => b ≠ p) H3 tv t := ht3.weak fun b h e => p2.some (e ▸ h)
    refine ⟨_, rfl, _, rfl, p, _, tv, t, rfl, p3, by omega, ht3p.weak fun _ _ => trivial, hdp, by omega, fun ov u H4 hsh f4 hu4 p4 => ?_⟩
    have T4 := p3.tabs T3 f4
    have J4 := p2.jato hJ2 (f3.trans f4)
    have ht4 := ht3p.keep fun b o n e => f4 b o n e
    have hu4p : TrAt (fun b => b ≠ p) H4 ov u := hu4.weak fun b h e => p3.some (e ▸ h)
    have FA4 := FA2.trans (.fr (f3.trans f4))
    have P4 : Pool H4 p 60000 := p4.mono (by omega)
    clear hu4 ht3p ht3 T3 hj2 hJ2 FA2 T2 T1 s1 p1 p2 p3 p4 f2 f3 f4 ch1
    refine ⟨_, rfl, _, rfl, _, _, J, t, rfl, J4.at, hok, ht4.weak fun _ _ => trivial, by omega, hL, T4, fun r H5 e5 T5 hn5 hr5 => ?_⟩
    have J5 := J4.extN e5
    have ht5 : TrAt (fun _ => True) H5 tv t := (ht4.extN1 e5).weak fun _ _ => trivial
    obtain ⟨lp, hlp⟩ := post_last t
    have hfd : (t.post.map (St J.sf J.n)).map nI = (lp.map (St J.sf J.n)).map nI ++ [nI (St J.sf J.n t)] := by
      rw [hlp, List.map_append, List.map_append]
      rfl
    have hrl : H5 r = some (.lst ((lp.map (St J.sf J.n)).map nI ++ [nI (St J.sf J.n t)])) := by rw [hr5, hfd]
    have JJ5 := J5
    obtain ⟨j5, d5, g5, xs5, keys5, ej, hj5, hd5, hrn5, hrj5, hper5, hg5, hgp5⟩ := JJ5
    cases ej
    refine ⟨_, rfl, j, d5, g5, J.L, J.n, J.few, J.turn, xs5, keys5, J.fs, J.good, rfl, hj5, hd5, hrn5, hrj5, hper5, hok.L, hri, hok.n1, hok.n6, hok.f4, hok.t1, hok.t4, hok.h600, hok.lt, hg5, hgp, by have := hok.g6; omega, hok.gn, fun H6 s6 => ⟨_, rfl, iteF ?_⟩⟩
    have T6 := T5.ext s6
    refine ⟨_, rfl, 1, rfl, r, _, -1, _, rfl, rfl, SqL.of (s6 _ _ hrl), atI_last _ _, _, rfl, _, rfl, _, _, J, t, rfl, (J5.same s6).at, hok, ht5.same s6, by omega, hL, T6, fun H7 e7 T7 => ⟨rfl, _, rfl, neS rfl ?_⟩⟩
    have E7 : LamX.ExtN H5 H7 := (LamX.ExtN.of s6).trans e7
    refine ⟨_, rfl, _, rfl, _, _, J, t, rfl, (J5.extN E7).at, hok, ht5.extN1 E7, by omega, hL, T7, fun H8 e8 T8 => ?_⟩
    have E8 := E7.trans e8
    refine ⟨_, rfl, 1, rfl, r, _, -1, _, rfl, rfl, SqL.of (lst_ext E8 hrl), atI_last _ _, _, rfl, j, _, 5, _, rfl, rfl, SqT.of (tup_ext E8 hj5), atI_nat (j := 5) rfl, g5, _, rfl, .inl (SqL.of (lst_ext E8 hg5)), rfl, flat_nI _, rfl, _, rfl, neS (by rw [if_neg (by decide), inV_nI]) ?_⟩
    have J8 := J5.extN E8
    have ht8 := ht5.extN1 E8
    have hu8 : TrAt (fun _ => True) H8 ov u := ((hu4p.extN1 e5).extN1 E8).weak fun _ _ => trivial
    have hLt : t.lets Ltr := TrAt.ltr _ _ ht8
    have hsz : sizes t.kids + 1 = t.size := by
      have := congrArg Tr.size (tr_eta t)
      rw [Tr.size] at this
      omega
    have hTold : t.told = .node t.top ((tolds t.kids).mergeSort leW) := by
      have := congrArg Tr.told (tr_eta t)
      rwa [Tr.told] at this
    have hltk : letss Ltr t.kids := by
      have := hLt
      rw [tr_eta t] at this
      exact this.2
    have hkids : letss Ltr ((tolds t.kids).mergeSort leW) := letss_perm (List.mergeSort_perm _ _).symm (tolds_lets _ hltk)
    have told8 : t.told.size = t.size := told_size t
    obtain ⟨ta, tl, tws, rfl, ha8, hl8, _, _, c1, c2, hk8⟩ := ht8.inv
    refine ⟨_, rfl, _, rfl, _, t, rfl, ht8, by omega, NdefX.TabN.to (T8 _ i3), fun x as9 H9 f9 tb9 nd9 O9 => ?_⟩
    have T9 := tabsN_frP T8 i3 u3 f9 tb9
    have E9 := extN_of_frP T8 i3 f9
    refine ⟨_, rfl, ta, _, 0, _, rfl, rfl, SqT.of (tup_ext E9 ha8), atI_nat (j := 0) rfl, _, rfl, _, t, rfl, ht8.extN1 E9, by omega, NdefX.TabN.to (T9 _ i3), NdefX.TabN.to (T9 _ i4), fun hr es H10 f10 tb10 tc10 hr0 hrv hes hnd heq => ?_⟩
    obtain ⟨T10, E10⟩ := tabsN_fr2 T9 i3 u3 i4 u4 f10 tb10 tc10
    obtain ⟨hexp, hone⟩ := rle_all _ hkids
    rw [← heq] at hexp hone
    have em : (es.map fun e => (e.v, e.t, e.n)).map (·.2) = es.map fun e => (e.t, e.n) := by rw [List.map_map]; rfl
    have szx : sizes (expand (es.map fun e => (e.t, e.n))) ≤ 55 := by
      rw [hexp, sizes_perm (List.mergeSort_perm _ _), tolds_sizes]
      omega
    have lex := len_expand _ fun e he => (hone e he).2
    have lsx := len_sizes (expand (es.map fun e => (e.t, e.n)))
    rw [List.length_map] at lex
    refine ⟨t.top, hr, es.map (fun e => (e.v, e.t, e.n)), rfl, c1, c2, by rw [hrv, List.map_map]; rfl, ?_, by rw [em]; omega, by rw [List.length_map]; omega, NdefX.TabN.to (T10 _ i3), fun y as11 H11 f11 tb11 nd11 O11 => ?_⟩
    · intro e he
      obtain ⟨e0, h0, rfl⟩ := List.mem_map.mp he
      exact ⟨(hes e0 h0).isIn, (hone (e0.t, e0.n) (List.mem_map.mpr ⟨e0, h0, rfl⟩)).2⟩
    have T11 := tabsN_frP T10 i3 u3 f11 tb11
    have E11 := extN_of_frP T10 i3 f11
    rw [em, hexp, ← hTold, told_told t hLt] at O11
    refine ⟨(by show 3 ≤ sizeLine; decide), fun li hli => ?_⟩
    have s12 := same_new hli (o := .lst [ov, x, y])
    have k12 := upd_same (H := H11) (a := li) (o := .lst [ov, x, y])
    generalize upd H11 li (.lst [ov, x, y]) = H12 at *
    have T12 := T11.ext s12
    have X8 : LamX.ExtN H8 H12 := ((E9.trans E10).trans E11).trans (.of s12)
    have X5 := E8.trans X8
    have J12 := J5.extN X5
    have three : ∀ (i : Nat) z, ([ov, x, y] : List V)[i]? = some z → ∃ t1, TrAt (fun _ => True) H12 z t1 ∧ Sh t t1 := by
      intro i z hz
      match i, hz with
      | 0, hz => cases hz; exact ⟨u, hu8.extN1 X8, hsh⟩
      | 1, hz => cases hz; exact ⟨t.told, ((((TrO.at _ _ _ O9).weak fun _ _ => trivial).extN1 (E10.trans E11)).extN1 (.of s12)), Sh.toTold t⟩
      | 2, hz => cases hz; exact ⟨t.told, (((TrO.at _ _ _ O11).weak fun _ _ => trivial).extN1 (.of s12)), Sh.toTold t⟩
    refine ⟨li, rfl, ⟨_, SqL.of k12⟩, for_list (xs := [ov, x, y]) (fun i3 σ H' => (∃ z7, σ = [some (.ref a), some (.int (0 + i)), some (.ref p), some (.ref j), some (.ref ta), some ov, some (.ref r), z7, y8, y9, none, none]) ∧ LamX.ExtN H12 H' ∧ NdefX.TabsN TT H') ⟨⟨_, rfl⟩, .refl _, T12⟩ (fun i3 σ H' _ h => SqL.of (lst_ext h.2.1 k12)) ?_ ?_⟩
    · rintro i3 z σ H13 hz ⟨⟨z7, rfl⟩, e13, T13⟩
      obtain ⟨t1, ht1, hsh1⟩ := three i3 z hz
      have st1 := Sh.st (fs := J.sf) (n := J.n) hsh1
      have sz1 := hsh1.size
      have l1 := hsh1.lets hL
      refine ⟨_, rfl, _, rfl, _, _, J, t1, rfl, (J12.extN e13).at, hok, ht1.extN1 e13, by omega, l1, T13, fun H14 e14 T14 => ?_⟩
      have e14' := e13.trans e14
      refine ⟨_, rfl, 1, rfl, r, _, -1, _, rfl, rfl, SqL.of (lst_ext (X5.trans e14') hrl), atI_last _ _, rfl, _, rfl, neS (congrArg nI st1.symm) ?_⟩
      refine ⟨_, rfl, _, rfl, _, _, J, t1, rfl, (J12.extN e14').at, hok, ht1.extN1 e14', by omega, l1, T14, fun r2 H15 e15 T15 hn15 hr15 => ?_⟩
      rw [nI_map] at hr15
      refine ⟨r2, _, rfl, SqL.of hr15, fun ns1 q1 pm1 so1 hq1 => ?_⟩
      have s16 := same_new hq1 (o := .lst (ns1.map V.int))
      have k16 := upd_same (H := H15) (a := q1) (o := .lst (ns1.map V.int))
      generalize upd H15 q1 (.lst (ns1.map V.int)) = H16 at *
      have hr5' : H5 r = some (.lst (((t.post.map (St J.sf J.n)).map fun x : Nat => (x : Int)).map V.int)) := by rw [← nI_map]; exact hr5
      refine ⟨_, rfl, r, _, rfl, SqL.of (s16 _ _ (lst_ext ((X5.trans e14').trans e15) hr5')), fun ns2 q2 pm2 so2 hq2 => ?_⟩
      have s17 := same_new hq2 (o := .lst (ns2.map V.int))
      have k17 := upd_same (H := H16) (a := q2) (o := .lst (ns2.map V.int))
      generalize upd H16 q2 (.lst (ns2.map V.int)) = H17 at *
      have pp : ns1 = ns2 := sort_one (pm1.trans ((((hsh1.post_perm (fs := J.sf) (n := J.n)).map fun x : Nat => (x : Int)).symm).trans pm2.symm)) so1 so2
      subst pp
      refine ⟨_, _, dp_intsL (SqL.of (s17 _ _ k16)), dp_intsL (SqL.of k17), shaped_ints _, shaped_ints _, _, rfl, ?_⟩
      rw [eqv_self (shaped_ints _)]
      exact iteF ⟨⟨_, rfl⟩, (e14'.trans e15).trans (.of (s16.trans s17)), (T15.ext s16).ext s17⟩
    rintro σ H13 ⟨⟨z7, rfl⟩, e13, T13⟩
    have E13 := X5.trans e13
    have n1 := hok.n1
    have n6 := hok.n6
    have hj13 := tup_ext E13 hj5
    have hg13 := lst_ext E13 hg5
    refine ⟨_, rfl, _, rfl, j, _, rfl, SqT.of hj13, (by show ¬ (_ ∧ (5 : Nat) = 6); omega), fun tz htz => ?_⟩
    have s14 := same_new htz (o := .tup [.str J.L, nI J.n, nI J.few, nI J.turn, .ref d5])
    have k14 := upd_same (H := H13) (a := tz) (o := .tup [.str J.L, nI J.n, nI J.few, nI J.turn, .ref d5])
    show tTup _ _ (upd H13 tz (.tup [.str J.L, nI J.n, nI J.few, nI J.turn, .ref d5])) _
    generalize upd H13 tz (.tup [.str J.L, nI J.n, nI J.few, nI J.turn, .ref d5]) = H14 at *
    have hj14 := s14 _ _ hj13
    have hg14 := s14 _ _ hg13
    refine ⟨_, rfl, j, _, 1, _, rfl, rfl, SqT.of hj14, atI_nat (j := 1) rfl, J.n, rfl, by omega, by omega, fun D hD => ?_⟩
    refine lc_range (lo := 0) (n := J.n) (fun i H5 => H5 D = some (.lst (((List.range i).filter fun x => !decide (x ∈ J.good)).map nI)) ∧ Same H14 H5) ⟨upd_same, same_new hD⟩ ?_ ?_
    · rintro i2 H5 hi2 ⟨g1, g2⟩
      refine ⟨rfl, _, rfl, _, rfl, j, _, 5, _, rfl, rfl, SqT.of (g2 _ _ hj14), atI_nat (j := 5) rfl, g5, _, rfl, .inl (SqL.of (g2 _ _ hg14)), rfl, flat_nI _, ?_⟩
      have e0 : V.int (0 + (i2 : Int)) = nI i2 := by rw [Int.zero_add]
      rw [e0, if_pos rfl, inV_nI, List.range_succ, List.filter_append, List.filter_cons]
      have ln : ((List.range i2).filter fun x => !decide (x ∈ J.good)).length ≤ 100 := Nat.le_trans (List.length_filter_le _ _) (by rw [List.length_range]; omega)
      refine ⟨_, rfl, ite2 (fun hh => ?_) (fun hh => ?_)⟩
      · refine ⟨_, rfl, _, g1, ?_, ?_, same_add g2 hD⟩
        · rw [List.length_map]
          exact Nat.lt_of_le_of_lt (show _ ≤ 1000000 by omega) (by decide)
        · rw [upd_same, if_pos hh, List.map_append]
          rfl
      · rw [if_neg hh]
        refine ⟨?_, g2⟩
        show _ = some (HO.lst ((_ ++ []).map nI))
        rw [List.append_nil]
        exact g1
    rintro H15 ⟨kD, s15⟩
    have kD : H15 D = some (.lst ((turnG J).map nI)) := kD
    refine ⟨(by show 1 ≤ sizeLine; decide), fun tq htq => ?_⟩
    have s16 := same_new htq (o := .tup [.ref D])
    have k16 := upd_same (H := H15) (a := tq) (o := .tup [.ref D])
    refine ⟨tz, tq, [.str J.L, nI J.n, nI J.few, nI J.turn, .ref d5], _, rfl, rfl, SqT.of (s16 _ _ (s15 _ _ k14)), SqT.of k16, by simp, (by show 6 ≤ sizeLine; decide), fun h => absurd h (by simp), fun _ t6 ht6 => ?_⟩
    have s17 := same_new ht6 (o := .tup [.str J.L, nI J.n, nI J.few, nI J.turn, .ref d5, .ref D])
    have k17 := upd_same (H := upd H15 tq (.tup [.ref D])) (a := t6) (o := .tup [.str J.L, nI J.n, nI J.few, nI J.turn, .ref d5, .ref D])
    have S17 := ((s14.trans s15).trans s16).trans s17
    have kD17 := s17 _ _ (s16 _ _ kD)
    have JT17 : JAt P w (upd (upd H15 tq (.tup [.ref D])) t6 (.tup [.str J.L, nI J.n, nI J.few, nI J.turn, .ref d5, .ref D])) (.ref t6) (turnJ J) := by
      have J17 := (J5.extN E13).same S17
      obtain ⟨j', d', g', xs', keys', ej', a1, a2, a3, a4, a5, a6, _⟩ := J17
      cases ej'
      have := (S17 _ _ hj13).symm.trans a1
      cases this
      exact ⟨t6, d5, D, xs', keys', rfl, k17, a2, a3, a4, a5, kD17⟩
    have T17 := T13.ext S17
    have J17 := (J5.extN E13).same S17
    have ht17 := (ht5.extN1 E13).same S17
    have E17 := E13.trans (.of S17)
    refine ⟨_, rfl, _, rfl, _, _, turnJ J, t, rfl, JT17, turnJ_ok hok, ht17, by omega, hL, T17, fun H18 e18 T18 => ?_⟩
    have e18 : LamX.ExtN (upd (upd H15 tq (.tup [.ref D])) t6 (.tup [.str J.L, nI J.n, nI J.few, nI J.turn, .ref d5, .ref D])) H18 := e18
    generalize upd (upd H15 tq (.tup [.ref D])) t6 (.tup [.str J.L, nI J.n, nI J.few, nI J.turn, .ref d5, .ref D]) = H17 at *
    have E18 := E17.trans e18
    refine ⟨_, rfl, _, rfl, _, _, J, t, rfl, (J5.extN E18).at, hok, ht5.extN1 E18, by omega, hL, T18, fun H19 e19 T19 => ⟨rfl, _, rfl, ?_⟩⟩
    have E19 := E18.trans e19
    have hst : St J.sf J.n t < J.n := St_ltJ hok t hL
    have hne : (V.bl (decide (St (turnJ J).sf (turnJ J).n t ∈ (turnJ J).good)) : V) ≠ V.bl (decide (St J.sf J.n t ∈ J.good)) := by
      intro e
      have e2 := V.bl.inj e
      have e3 : decide (St J.sf J.n t ∈ turnG J) = decide (St J.sf J.n t ∈ J.good) := e2
      rw [turn_in hst] at e3
      cases h : decide (St J.sf J.n t ∈ J.good) <;> rw [h] at e3 <;> cases e3
    refine eqF hne ?_
    refine ⟨_, rfl, _, rfl, _, _, J, t, rfl, (J5.extN E19).at, hok, ht5.extN1 E19, by omega, hL, T19, fun H20 e20 T20 => ⟨_, rfl, iteF ?_⟩⟩
    have E20 := E19.trans e20
    clear hne JT17 J17 ht17 E17 E18 E19 S17 kD17 s14 s15 s16 s17 k14 k16 k17 kD hD e18 e19 e20 T13 T17 T18 T19 e13 J12 T12 X5 X8 three k12 s12 T11 T10 T9 O9 O11
    have FA20 : FrN p H0 H20 := FA4.trans (.ext (e5.trans E20))
    have P20 : Pool H20 p 60000 := (P4.ext e5).ext E20
    have J20 := J5.extN E20
    have tree20 := (ht4.extN1 e5).extN1 E20
    have hj20 := tup_ext E20 hj5
    obtain ⟨ta', tl', tws', ea, kta20, _⟩ := tree20.inv
    cases ea
    refine ⟨_, rfl, ta, _, 0, _, rfl, rfl, SqT.of kta20, atI_nat (j := 0) rfl, _, rfl, p, 5, _, rfl, P20, by decide, by decide, by decide, fun rv H21 r0 r1 ch21 P21 => ?_⟩
    obtain ⟨rn, rfl⟩ : ∃ rn : Nat, rv = (rn : Int) := ⟨rv.toNat, by omega⟩
    have F21 : Fr p H20 H21 := Fr.chg ch21
    have T21 := P20.tabs T20 F21
    have J21 := P20.jato J20 F21
    have tree21 := tree20.keep fun b o n e => F21 b o n e
    have FA21 : FrN p H0 H21 := FA20.trans (.fr F21)
    obtain ⟨j', d', g', xs', keys', ej', hj21, _⟩ := id J21
    cases ej'
    refine ⟨(rn : Int), rfl, by omega, by omega, fun D hD => ?_⟩
    have nDp : D ≠ p := P21.ne' hD
    refine lc_range (lo := 0) (n := rn) (fun i H' => ∃ (vs : List V) (ts : List Tr), H' D = some (.lst vs) ∧ TrsAt (fun b => b ≠ p ∧ b ≠ D) H' vs ts ∧ ts.length ≤ i ∧ sizes ts ≤ 2 * i ∧ depths ts ≤ 30 ∧ letss (fun c => c ∈ J.L.cps.toList) ts ∧ Fr p H21 H' ∧ Pool H' p (70000 + 20000 * i)) ⟨[], [], upd_same, .nil, Nat.le_refl _, Nat.le_refl _, by simp [depths], trivial, (Fr.refl p _).new hD, (P21.keep (same_new hD)).mono (by omega)⟩ ?_ ?_
    · rintro i2 H22 hi2 ⟨vs, ts, g1, g2, g3, g4, g5, g6, g7, g8⟩
      refine ⟨rfl, _, rfl, _, rfl, j, _, 0, _, rfl, rfl, SqT.of (g7 _ _ (fun e => by rw [e] at hj21; obtain ⟨_, _, _, ep, _⟩ := P21; rw [ep] at hj21; cases hj21) hj21), atI_nat (j := 0) rfl, p, _, 2, J.L, rfl, g8, by omega, by decide, by decide, hok.L, fun rv t1 H23 hz1 hd1 hl1 f23 ht1 P23 => ?_⟩
      have kD23 := f23 _ _ nDp g1
      have lvs := g2.len
      have g2' : TrsAt (fun b => b ≠ p ∧ b ≠ D) H23 vs ts := g2.keep fun b o n e => f23 b o n.1 e
      have ht1' : TrAt (fun b => b ≠ p ∧ b ≠ D) H23 rv t1 := ht1.weak fun b h => ⟨fun e => g8.some (e ▸ h), fun e => by rw [e, g1] at h; cases h⟩
      refine ⟨_, kD23, ?_, vs ++ [rv], ts ++ [t1], upd_same, ?_, by rw [List.length_append, List.length_singleton]; omega, ?_, ?_, (letss_append _ _ _).mpr ⟨g6, hl1, trivial⟩, ?_, ?_⟩
      · exact Nat.lt_of_le_of_lt (show _ ≤ 1000000 by omega) (by decide)
      · exact (g2'.append (.cons ht1' .nil)).keep (upd_keep fun b h => h.2)
      · rw [sizes_append]
        simp only [sizes]
        omega
      · rw [depths_append]
        simp only [depths]
        omega
      · exact (g7.trans f23).new hD
      · exact (P23.upd nDp).mono (by omega)
    rintro H22 ⟨vs, ts, g1, g2, g3, g4, g5, g6, g7, g8⟩
    refine ⟨(by show 2 ≤ sizeLine; decide), fun sv hsv => ?_⟩
    have s23 := same_new hsv (o := .tup [.str (ch t.top), .ref D])
    have k23 := upd_same (H := H22) (a := sv) (o := .tup [.str (ch t.top), .ref D])
    have nsv : sv ≠ p := g8.ne' hsv
    have small : TrAt (fun b => b ≠ p) (upd H22 sv (.tup [.str (ch t.top), .ref D])) (.ref sv) (.node t.top ts) := .node k23 (s23 _ _ g1) nsv nDp c1 c2 ((g2.same s23).weak fun _ h => h.1)
    have F23 : Fr p H21 (upd H22 sv (.tup [.str (ch t.top), .ref D])) := g7.trans (Fr.same s23)
    have P23 := g8.keep s23
    have hLt2 : t.top ∈ J.L.cps.toList := by
      have := hL
      rw [tr_eta t] at this
      exact this.1
    refine ⟨_, rfl, _, rfl, _, rfl, p, _, _, _, J, .node t.top ts, rfl, P23, by omega, P21.jato J21 F23, hok, small, by simp only [Tr.size]; omega, by simp only [Tr.depth]; omega, ⟨hLt2, g6⟩, P21.tabs T21 F23, fun H24 F24 P24 T24 => ⟨_, rfl, iteF ?_⟩⟩
    have J23 := P21.jato J21 F23
    have tree23 := tree21.keep fun b o n e => F23 b o n e
    have FA24 : FrN p H0 H24 := (FA21.trans (.fr F23)).trans F24
    obtain ⟨zs, ep⟩ := P23.isLst
    refine ⟨_, rfl, _, rfl, _, rfl, p, _, _, _, J, t, rfl, P24, by omega, J23.frn (fun _ h => h) ep F24, hok, tree23.frn F24, by omega, hdp, hL, T24, fun H25 F25 P25 T25 => ⟨_, rfl, iteF ?_⟩⟩
    exact ⟨⟨_, _, _, _, _, _, _, _, _, rfl⟩, (FA24.trans F25).seq hp hS0, T25⟩
  · rintro σ H4 _
    exact qq H4
end

theorem all_mk {l : PySem.W.OpenLaw} {w : World} {K : PySem.W.Frag} {h : Heap} {mg : Str → Option Value} {fa f0 f1 f2 f3 f4 f5 f6 f7 f8 f9 f10 f11 f12 f13 f14 f15 f16 f17 f18 f19 f20 f21 f22 f23 f24 f25 f26 f27 f28 f29 f30 f31 f32 f33 f34 f35 f36 f37 f38 f39 f40 f41 f42 f43 f44 f45 f46 : Addr} (X : K.In h) (G : h.Ns mainGlobals mg) (hfa : mg "law" = some (.ref fa))
    {od0 an0 od1 an1 od2 an2 od3 an3 od4 an4 od5 an5 od6 an6 od7 an7 od8 an8 od9 an9 od10 an10 od11 an11 od12 an12 od13 an13 od14 an14 od15 an15 od16 an16 od17 an17 od18 an18 od19 an19 od20 an20 od21 an21 od22 an22 od23 an23 od24 an24 od25 an25 od26 an26 od27 an27 od28 an28 od29 an29 od30 an30 od31 an31 od32 an32 od33 an33 od34 an34 od35 an35 od36 an36 od37 an37 od38 an38 od39 an39 od40 an40 od41 an41 od42 an42 od43 an43 od44 an44 od45 an45 od46 an46 : Option Addr} {sl0 sl1 sl2 sl3 sl4 sl5 sl6 sl7 sl8 sl9 sl10 sl11 sl12 sl13 sl14 sl15 sl16 sl17 sl18 sl19 sl20 sl21 sl22 sl23 sl24 sl25 sl26 sl27 sl28 sl29 sl30 sl31 sl32 sl33 sl34 sl35 sl36 sl37 sl38 sl39 sl40 sl41 sl42 sl43 sl44 sl45 sl46 : Array (Option Value)} {oc0 kV0 dc0 pm0 ct0 cd0 oc1 kV1 dc1 pm1 ct1 cd1 oc2 kV2 dc2 pm2 ct2 cd2 oc3 kV3 dc3 pm3 ct3 cd3 oc4 kV4 dc4 pm4 ct4 cd4 oc5 kV5 dc5 pm5 ct5 cd5 oc6 kV6 dc6 pm6 ct6 cd6 oc7 kV7 dc7 pm7 ct7 cd7 oc8 kV8 dc8 pm8 ct8 cd8 oc9 kV9 dc9 pm9 ct9 oc10 kV10 dc10 pm10 ct10 cd10 oc11 kV11 dc11 pm11 ct11 cd11 oc12 kV12 dc12 pm12 ct12 oc13 kV13 dc13 pm13 ct13 cd13 oc14 kV14 dc14 pm14 ct14 cd14 oc15 kV15 dc15 pm15 ct15 cd15 oc16 kV16 dc16 pm16 ct16 cd16 oc17 kV17 dc17 pm17 ct17 cd17 oc18 kV18 dc18 pm18 ct18 cd18 oc19 kV19 dc19 pm19 ct19 cd19 oc20 kV20 dc20 pm20 ct20 cd20 oc21 kV21 dc21 pm21 ct21 cd21 oc22 kV22 dc22 pm22 ct22 cd22 oc23 kV23 dc23 pm23 ct23 cd23 oc24 kV24 dc24 pm24 ct24 cd24 oc25 kV25 dc25 pm25 ct25 cd25 oc26 kV26 dc26 pm26 ct26 cd26 oc27 kV27 dc27 pm27 ct27 oc28 kV28 dc28 pm28 ct28 oc29 kV29 dc29 pm29 ct29 cd29 oc30 kV30 dc30 pm30 ct30 cd30 oc31 kV31 dc31 pm31 ct31 cd31 oc32 kV32 dc32 pm32 ct32 cd32 oc33 kV33 dc33 pm33 ct33 cd33 oc34 kV34 dc34 pm34 ct34 cd34 oc35 kV35 dc35 pm35 ct35 cd35 oc36 kV36 dc36 pm36 ct36 cd36 oc37 kV37 dc37 pm37 ct37 cd37 oc38 kV38 dc38 pm38 ct38 cd38 oc39 kV39 dc39 pm39 ct39 cd39 oc40 kV40 dc40 pm40 ct40 cd40 oc41 kV41 dc41 pm41 ct41 cd41 oc42 kV42 dc42 pm42 ct42 cd42 oc43 kV43 dc43 pm43 ct43 cd43 oc44 kV44 dc44 pm44 ct44 cd44 oc45 kV45 dc45 pm45 ct45 cd45 oc46 kV46 dc46 pm46 ct46 cd46 : Value} {c9 P9 c12 P12 c27 P27 c28 P28 : Addr}
    (a0 : PySem.W.nsIn K mainGlobals "is_whole" = some (some (.ref f0))) (l0 : K.lookup f0 = some ⟨oc0, od0, .func (PySem.W.fnOf "is_whole" "is_whole" (defArgs s_is_whole) (defBody s_is_whole) (defScope s_is_whole) .none kV0 dc0 pm0 an0 cd0 ct0), sl0⟩) (d0 : PySem.W.codeIn K cd0 "is_whole" = true) (k0 : PySem.W.keepIn K (.ref f0) = true)
    (a1 : PySem.W.nsIn K mainGlobals "is_whole_within" = some (some (.ref f1))) (l1 : K.lookup f1 = some ⟨oc1, od1, .func (PySem.W.fnOf "is_whole_within" "is_whole_within" (defArgs s_is_whole_within) (defBody s_is_whole_within) (defScope s_is_whole_within) .none kV1 dc1 pm1 an1 cd1 ct1), sl1⟩) (d1 : PySem.W.codeIn K cd1 "is_whole_within" = true) (k1 : PySem.W.keepIn K (.ref f1) = true)
    (a2 : PySem.W.nsIn K mainGlobals "is_letter" = some (some (.ref f2))) (l2 : K.lookup f2 = some ⟨oc2, od2, .func (PySem.W.fnOf "is_letter" "is_letter" (defArgs s_is_letter) (defBody s_is_letter) (defScope s_is_letter) .none kV2 dc2 pm2 an2 cd2 ct2), sl2⟩) (d2 : PySem.W.codeIn K cd2 "is_letter" = true) (k2 : PySem.W.keepIn K (.ref f2) = true)
    (a3 : PySem.W.nsIn K mainGlobals "is_tree" = some (some (.ref f3))) (l3 : K.lookup f3 = some ⟨oc3, od3, .func (PySem.W.fnOf "is_tree" "is_tree" (defArgs s_is_tree) (defBody s_is_tree) (defScope s_is_tree) .none kV3 dc3 pm3 an3 cd3 ct3), sl3⟩) (d3 : PySem.W.codeIn K cd3 "is_tree" = true) (k3 : PySem.W.keepIn K (.ref f3) = true)
    (a4 : PySem.W.nsIn K mainGlobals "_is_part" = some (some (.ref f4))) (l4 : K.lookup f4 = some ⟨oc4, od4, .func (PySem.W.fnOf "_is_part" "_is_part" (defArgs s__is_part) (defBody s__is_part) (defScope s__is_part) .none kV4 dc4 pm4 an4 cd4 ct4), sl4⟩) (d4 : PySem.W.codeIn K cd4 "_is_part" = true) (k4 : PySem.W.keepIn K (.ref f4) = true)
    (a5 : PySem.W.nsIn K mainGlobals "check_tree" = some (some (.ref f5))) (l5 : K.lookup f5 = some ⟨oc5, od5, .func (PySem.W.fnOf "check_tree" "check_tree" (defArgs s_check_tree) (defBody s_check_tree) (defScope s_check_tree) .none kV5 dc5 pm5 an5 cd5 ct5), sl5⟩) (d5 : PySem.W.codeIn K cd5 "check_tree" = true) (k5 : PySem.W.keepIn K (.ref f5) = true)
    (a6 : PySem.W.nsIn K mainGlobals "parts_upward" = some (some (.ref f6))) (l6 : K.lookup f6 = some ⟨oc6, od6, .func (PySem.W.fnOf "parts_upward" "parts_upward" (defArgs s_parts_upward) (defBody s_parts_upward) (defScope s_parts_upward) .none kV6 dc6 pm6 an6 cd6 ct6), sl6⟩) (d6 : PySem.W.codeIn K cd6 "parts_upward" = true) (k6 : PySem.W.keepIn K (.ref f6) = true)
    (a7 : PySem.W.nsIn K mainGlobals "built_upward" = some (some (.ref f7))) (l7 : K.lookup f7 = some ⟨oc7, od7, .func (PySem.W.fnOf "built_upward" "built_upward" (defArgs s_built_upward) (defBody s_built_upward) (defScope s_built_upward) .none kV7 dc7 pm7 an7 cd7 ct7), sl7⟩) (d7 : PySem.W.codeIn K cd7 "built_upward" = true) (k7 : PySem.W.keepIn K (.ref f7) = true)
    (a8 : PySem.W.nsIn K mainGlobals "_written_and_told" = some (some (.ref f8))) (l8 : K.lookup f8 = some ⟨oc8, od8, .func (PySem.W.fnOf "_written_and_told" "_written_and_told" (defArgs s__written_and_told) (defBody s__written_and_told) (defScope s__written_and_told) .none kV8 dc8 pm8 an8 cd8 ct8), sl8⟩) (d8 : PySem.W.codeIn K cd8 "_written_and_told" = true) (k8 : PySem.W.keepIn K (.ref f8) = true)
    (a9 : PySem.W.nsIn K mainGlobals "_joined" = some (some (.ref f9))) (l9 : K.lookup f9 = some ⟨oc9, od9, .func (PySem.W.fnOf "_joined" "_joined" (defArgs s__joined) (defBody s__joined) (defScope s__joined) .none kV9 dc9 pm9 an9 (.ref c9) ct9), sl9⟩) (d9 : PySem.W.codeIn K (.ref c9) "_joined" = true) (k9 : PySem.W.keepIn K (.ref f9) = true)
    (a10 : PySem.W.nsIn K mainGlobals "written_part" = some (some (.ref f10))) (l10 : K.lookup f10 = some ⟨oc10, od10, .func (PySem.W.fnOf "written_part" "written_part" (defArgs s_written_part) (defBody s_written_part) (defScope s_written_part) .none kV10 dc10 pm10 an10 cd10 ct10), sl10⟩) (d10 : PySem.W.codeIn K cd10 "written_part" = true) (k10 : PySem.W.keepIn K (.ref f10) = true)
    (a11 : PySem.W.nsIn K mainGlobals "told_form" = some (some (.ref f11))) (l11 : K.lookup f11 = some ⟨oc11, od11, .func (PySem.W.fnOf "told_form" "told_form" (defArgs s_told_form) (defBody s_told_form) (defScope s_told_form) .none kV11 dc11 pm11 an11 cd11 ct11), sl11⟩) (d11 : PySem.W.codeIn K cd11 "told_form" = true) (k11 : PySem.W.keepIn K (.ref f11) = true)
    (a12 : PySem.W.nsIn K mainGlobals "heap_of" = some (some (.ref f12))) (l12 : K.lookup f12 = some ⟨oc12, od12, .func (PySem.W.fnOf "heap_of" "heap_of" (defArgs s_heap_of) (defBody s_heap_of) (defScope s_heap_of) .none kV12 dc12 pm12 an12 (.ref c12) ct12), sl12⟩) (d12 : PySem.W.codeIn K (.ref c12) "heap_of" = true) (k12 : PySem.W.keepIn K (.ref f12) = true)
    (a13 : PySem.W.nsIn K mainGlobals "from_heap" = some (some (.ref f13))) (l13 : K.lookup f13 = some ⟨oc13, od13, .func (PySem.W.fnOf "from_heap" "from_heap" (defArgs s_from_heap) (defBody s_from_heap) (defScope s_from_heap) .none kV13 dc13 pm13 an13 cd13 ct13), sl13⟩) (d13 : PySem.W.codeIn K cd13 "from_heap" = true) (k13 : PySem.W.keepIn K (.ref f13) = true)
    (a14 : PySem.W.nsIn K mainGlobals "_is_heap_row" = some (some (.ref f14))) (l14 : K.lookup f14 = some ⟨oc14, od14, .func (PySem.W.fnOf "_is_heap_row" "_is_heap_row" (defArgs s__is_heap_row) (defBody s__is_heap_row) (defScope s__is_heap_row) .none kV14 dc14 pm14 an14 cd14 ct14), sl14⟩) (d14 : PySem.W.codeIn K cd14 "_is_heap_row" = true) (k14 : PySem.W.keepIn K (.ref f14) = true)
    (a15 : PySem.W.nsIn K mainGlobals "is_judge" = some (some (.ref f15))) (l15 : K.lookup f15 = some ⟨oc15, od15, .func (PySem.W.fnOf "is_judge" "is_judge" (defArgs s_is_judge) (defBody s_is_judge) (defScope s_is_judge) .none kV15 dc15 pm15 an15 cd15 ct15), sl15⟩) (d15 : PySem.W.codeIn K cd15 "is_judge" = true) (k15 : PySem.W.keepIn K (.ref f15) = true)
    (a16 : PySem.W.nsIn K mainGlobals "may_have_table" = some (some (.ref f16))) (l16 : K.lookup f16 = some ⟨oc16, od16, .func (PySem.W.fnOf "may_have_table" "may_have_table" (defArgs s_may_have_table) (defBody s_may_have_table) (defScope s_may_have_table) .none kV16 dc16 pm16 an16 cd16 ct16), sl16⟩) (d16 : PySem.W.codeIn K cd16 "may_have_table" = true) (k16 : PySem.W.keepIn K (.ref f16) = true)
    (a17 : PySem.W.nsIn K mainGlobals "are_letters" = some (some (.ref f17))) (l17 : K.lookup f17 = some ⟨oc17, od17, .func (PySem.W.fnOf "are_letters" "are_letters" (defArgs s_are_letters) (defBody s_are_letters) (defScope s_are_letters) .none kV17 dc17 pm17 an17 cd17 ct17), sl17⟩) (d17 : PySem.W.codeIn K cd17 "are_letters" = true) (k17 : PySem.W.keepIn K (.ref f17) = true)
    (a18 : PySem.W.nsIn K mainGlobals "are_rising_states" = some (some (.ref f18))) (l18 : K.lookup f18 = some ⟨oc18, od18, .func (PySem.W.fnOf "are_rising_states" "are_rising_states" (defArgs s_are_rising_states) (defBody s_are_rising_states) (defScope s_are_rising_states) .none kV18 dc18 pm18 an18 cd18 ct18), sl18⟩) (d18 : PySem.W.codeIn K cd18 "are_rising_states" = true) (k18 : PySem.W.keepIn K (.ref f18) = true)
    (a19 : PySem.W.nsIn K mainGlobals "_rises" = some (some (.ref f19))) (l19 : K.lookup f19 = some ⟨oc19, od19, .func (PySem.W.fnOf "_rises" "_rises" (defArgs s__rises) (defBody s__rises) (defScope s__rises) .none kV19 dc19 pm19 an19 cd19 ct19), sl19⟩) (d19 : PySem.W.codeIn K cd19 "_rises" = true) (k19 : PySem.W.keepIn K (.ref f19) = true)
    (a20 : PySem.W.nsIn K mainGlobals "tuples_due" = some (some (.ref f20))) (l20 : K.lookup f20 = some ⟨oc20, od20, .func (PySem.W.fnOf "tuples_due" "tuples_due" (defArgs s_tuples_due) (defBody s_tuples_due) (defScope s_tuples_due) .none kV20 dc20 pm20 an20 cd20 ct20), sl20⟩) (d20 : PySem.W.codeIn K cd20 "tuples_due" = true) (k20 : PySem.W.keepIn K (.ref f20) = true)
    (a21 : PySem.W.nsIn K mainGlobals "_is_table" = some (some (.ref f21))) (l21 : K.lookup f21 = some ⟨oc21, od21, .func (PySem.W.fnOf "_is_table" "_is_table" (defArgs s__is_table) (defBody s__is_table) (defScope s__is_table) .none kV21 dc21 pm21 an21 cd21 ct21), sl21⟩) (d21 : PySem.W.codeIn K cd21 "_is_table" = true) (k21 : PySem.W.keepIn K (.ref f21) = true)
    (a22 : PySem.W.nsIn K mainGlobals "_is_key" = some (some (.ref f22))) (l22 : K.lookup f22 = some ⟨oc22, od22, .func (PySem.W.fnOf "_is_key" "_is_key" (defArgs s__is_key) (defBody s__is_key) (defScope s__is_key) .none kV22 dc22 pm22 an22 cd22 ct22), sl22⟩) (d22 : PySem.W.codeIn K cd22 "_is_key" = true) (k22 : PySem.W.keepIn K (.ref f22) = true)
    (a23 : PySem.W.nsIn K mainGlobals "class_of" = some (some (.ref f23))) (l23 : K.lookup f23 = some ⟨oc23, od23, .func (PySem.W.fnOf "class_of" "class_of" (defArgs s_class_of) (defBody s_class_of) (defScope s_class_of) .none kV23 dc23 pm23 an23 cd23 ct23), sl23⟩) (d23 : PySem.W.codeIn K cd23 "class_of" = true) (k23 : PySem.W.keepIn K (.ref f23) = true)
    (a24 : PySem.W.nsIn K mainGlobals "state_by_numbers" = some (some (.ref f24))) (l24 : K.lookup f24 = some ⟨oc24, od24, .func (PySem.W.fnOf "state_by_numbers" "state_by_numbers" (defArgs s_state_by_numbers) (defBody s_state_by_numbers) (defScope s_state_by_numbers) .none kV24 dc24 pm24 an24 cd24 ct24), sl24⟩) (d24 : PySem.W.codeIn K cd24 "state_by_numbers" = true) (k24 : PySem.W.keepIn K (.ref f24) = true)
    (a25 : PySem.W.nsIn K mainGlobals "_numbers" = some (some (.ref f25))) (l25 : K.lookup f25 = some ⟨oc25, od25, .func (PySem.W.fnOf "_numbers" "_numbers" (defArgs s__numbers) (defBody s__numbers) (defScope s__numbers) .none kV25 dc25 pm25 an25 cd25 ct25), sl25⟩) (d25 : PySem.W.codeIn K cd25 "_numbers" = true) (k25 : PySem.W.keepIn K (.ref f25) = true)
    (a26 : PySem.W.nsIn K mainGlobals "check_letters" = some (some (.ref f26))) (l26 : K.lookup f26 = some ⟨oc26, od26, .func (PySem.W.fnOf "check_letters" "check_letters" (defArgs s_check_letters) (defBody s_check_letters) (defScope s_check_letters) .none kV26 dc26 pm26 an26 cd26 ct26), sl26⟩) (d26 : PySem.W.codeIn K cd26 "check_letters" = true) (k26 : PySem.W.keepIn K (.ref f26) = true)
    (a27 : PySem.W.nsIn K mainGlobals "states_upward" = some (some (.ref f27))) (l27 : K.lookup f27 = some ⟨oc27, od27, .func (PySem.W.fnOf "states_upward" "states_upward" (defArgs s_states_upward) (defBody s_states_upward) (defScope s_states_upward) .none kV27 dc27 pm27 an27 (.ref c27) ct27), sl27⟩) (d27 : PySem.W.codeIn K (.ref c27) "states_upward" = true) (k27 : PySem.W.keepIn K (.ref f27) = true)
    (a28 : PySem.W.nsIn K mainGlobals "part_states" = some (some (.ref f28))) (l28 : K.lookup f28 = some ⟨oc28, od28, .func (PySem.W.fnOf "part_states" "part_states" (defArgs s_part_states) (defBody s_part_states) (defScope s_part_states) .none kV28 dc28 pm28 an28 (.ref c28) ct28), sl28⟩) (d28 : PySem.W.codeIn K (.ref c28) "part_states" = true) (k28 : PySem.W.keepIn K (.ref f28) = true)
    (a29 : PySem.W.nsIn K mainGlobals "state_of" = some (some (.ref f29))) (l29 : K.lookup f29 = some ⟨oc29, od29, .func (PySem.W.fnOf "state_of" "state_of" (defArgs s_state_of) (defBody s_state_of) (defScope s_state_of) .none kV29 dc29 pm29 an29 cd29 ct29), sl29⟩) (d29 : PySem.W.codeIn K cd29 "state_of" = true) (k29 : PySem.W.keepIn K (.ref f29) = true)
    (a30 : PySem.W.nsIn K mainGlobals "lets_by" = some (some (.ref f30))) (l30 : K.lookup f30 = some ⟨oc30, od30, .func (PySem.W.fnOf "lets_by" "lets_by" (defArgs s_lets_by) (defBody s_lets_by) (defScope s_lets_by) .none kV30 dc30 pm30 an30 cd30 ct30), sl30⟩) (d30 : PySem.W.codeIn K cd30 "lets_by" = true) (k30 : PySem.W.keepIn K (.ref f30) = true)
    (a31 : PySem.W.nsIn K mainGlobals "_law_pool" = some (some (.ref f31))) (l31 : K.lookup f31 = some ⟨oc31, od31, .func (PySem.W.fnOf "_law_pool" "_law_pool" (defArgs s__law_pool) (defBody s__law_pool) (defScope s__law_pool) .none kV31 dc31 pm31 an31 cd31 ct31), sl31⟩) (d31 : PySem.W.codeIn K cd31 "_law_pool" = true) (k31 : PySem.W.keepIn K (.ref f31) = true)
    (a32 : PySem.W.nsIn K mainGlobals "_law_take" = some (some (.ref f32))) (l32 : K.lookup f32 = some ⟨oc32, od32, .func (PySem.W.fnOf "_law_take" "_law_take" (defArgs s__law_take) (defBody s__law_take) (defScope s__law_take) .none kV32 dc32 pm32 an32 cd32 ct32), sl32⟩) (d32 : PySem.W.codeIn K cd32 "_law_take" = true) (k32 : PySem.W.keepIn K (.ref f32) = true)
    (a33 : PySem.W.nsIn K mainGlobals "_law_mixed_up" = some (some (.ref f33))) (l33 : K.lookup f33 = some ⟨oc33, od33, .func (PySem.W.fnOf "_law_mixed_up" "_law_mixed_up" (defArgs s__law_mixed_up) (defBody s__law_mixed_up) (defScope s__law_mixed_up) .none kV33 dc33 pm33 an33 cd33 ct33), sl33⟩) (d33 : PySem.W.codeIn K cd33 "_law_mixed_up" = true) (k33 : PySem.W.keepIn K (.ref f33) = true)
    (a34 : PySem.W.nsIn K mainGlobals "_law_grown" = some (some (.ref f34))) (l34 : K.lookup f34 = some ⟨oc34, od34, .func (PySem.W.fnOf "_law_grown" "_law_grown" (defArgs s__law_grown) (defBody s__law_grown) (defScope s__law_grown) .none kV34 dc34 pm34 an34 cd34 ct34), sl34⟩) (d34 : PySem.W.codeIn K cd34 "_law_grown" = true) (k34 : PySem.W.keepIn K (.ref f34) = true)
    (a35 : PySem.W.nsIn K mainGlobals "_law_shuffled" = some (some (.ref f35))) (l35 : K.lookup f35 = some ⟨oc35, od35, .func (PySem.W.fnOf "_law_shuffled" "_law_shuffled" (defArgs s__law_shuffled) (defBody s__law_shuffled) (defScope s__law_shuffled) .none kV35 dc35 pm35 an35 cd35 ct35), sl35⟩) (d35 : PySem.W.codeIn K cd35 "_law_shuffled" = true) (k35 : PySem.W.keepIn K (.ref f35) = true)
    (a36 : PySem.W.nsIn K mainGlobals "_law_tree" = some (some (.ref f36))) (l36 : K.lookup f36 = some ⟨oc36, od36, .func (PySem.W.fnOf "_law_tree" "_law_tree" (defArgs s__law_tree) (defBody s__law_tree) (defScope s__law_tree) .none kV36 dc36 pm36 an36 cd36 ct36), sl36⟩) (d36 : PySem.W.codeIn K cd36 "_law_tree" = true) (k36 : PySem.W.keepIn K (.ref f36) = true)
    (a37 : PySem.W.nsIn K mainGlobals "_law_tuples" = some (some (.ref f37))) (l37 : K.lookup f37 = some ⟨oc37, od37, .func (PySem.W.fnOf "_law_tuples" "_law_tuples" (defArgs s__law_tuples) (defBody s__law_tuples) (defScope s__law_tuples) .none kV37 dc37 pm37 an37 cd37 ct37), sl37⟩) (d37 : PySem.W.codeIn K cd37 "_law_tuples" = true) (k37 : PySem.W.keepIn K (.ref f37) = true)
    (a38 : PySem.W.nsIn K mainGlobals "_law_power" = some (some (.ref f38))) (l38 : K.lookup f38 = some ⟨oc38, od38, .func (PySem.W.fnOf "_law_power" "_law_power" (defArgs s__law_power) (defBody s__law_power) (defScope s__law_power) .none kV38 dc38 pm38 an38 cd38 ct38), sl38⟩) (d38 : PySem.W.codeIn K cd38 "_law_power" = true) (k38 : PySem.W.keepIn K (.ref f38) = true)
    (a39 : PySem.W.nsIn K mainGlobals "_law_sizes" = some (some (.ref f39))) (l39 : K.lookup f39 = some ⟨oc39, od39, .func (PySem.W.fnOf "_law_sizes" "_law_sizes" (defArgs s__law_sizes) (defBody s__law_sizes) (defScope s__law_sizes) .none kV39 dc39 pm39 an39 cd39 ct39), sl39⟩) (d39 : PySem.W.codeIn K cd39 "_law_sizes" = true) (k39 : PySem.W.keepIn K (.ref f39) = true)
    (a40 : PySem.W.nsIn K mainGlobals "_law_in_order" = some (some (.ref f40))) (l40 : K.lookup f40 = some ⟨oc40, od40, .func (PySem.W.fnOf "_law_in_order" "_law_in_order" (defArgs s__law_in_order) (defBody s__law_in_order) (defScope s__law_in_order) .none kV40 dc40 pm40 an40 cd40 ct40), sl40⟩) (d40 : PySem.W.codeIn K cd40 "_law_in_order" = true) (k40 : PySem.W.keepIn K (.ref f40) = true)
    (a41 : PySem.W.nsIn K mainGlobals "_law_judge" = some (some (.ref f41))) (l41 : K.lookup f41 = some ⟨oc41, od41, .func (PySem.W.fnOf "_law_judge" "_law_judge" (defArgs s__law_judge) (defBody s__law_judge) (defScope s__law_judge) .none kV41 dc41 pm41 an41 cd41 ct41), sl41⟩) (d41 : PySem.W.codeIn K cd41 "_law_judge" = true) (k41 : PySem.W.keepIn K (.ref f41) = true)
    (a42 : PySem.W.nsIn K mainGlobals "_law_by_children" = some (some (.ref f42))) (l42 : K.lookup f42 = some ⟨oc42, od42, .func (PySem.W.fnOf "_law_by_children" "_law_by_children" (defArgs s__law_by_children) (defBody s__law_by_children) (defScope s__law_by_children) .none kV42 dc42 pm42 an42 cd42 ct42), sl42⟩) (d42 : PySem.W.codeIn K cd42 "_law_by_children" = true) (k42 : PySem.W.keepIn K (.ref f42) = true)
    (a43 : PySem.W.nsIn K mainGlobals "_law_turned_round" = some (some (.ref f43))) (l43 : K.lookup f43 = some ⟨oc43, od43, .func (PySem.W.fnOf "_law_turned_round" "_law_turned_round" (defArgs s__law_turned_round) (defBody s__law_turned_round) (defScope s__law_turned_round) .none kV43 dc43 pm43 an43 cd43 ct43), sl43⟩) (d43 : PySem.W.codeIn K cd43 "_law_turned_round" = true) (k43 : PySem.W.keepIn K (.ref f43) = true)
    (a44 : PySem.W.nsIn K mainGlobals "_law_parts" = some (some (.ref f44))) (l44 : K.lookup f44 = some ⟨oc44, od44, .func (PySem.W.fnOf "_law_parts" "_law_parts" (defArgs s__law_parts) (defBody s__law_parts) (defScope s__law_parts) .none kV44 dc44 pm44 an44 cd44 ct44), sl44⟩) (d44 : PySem.W.codeIn K cd44 "_law_parts" = true) (k44 : PySem.W.keepIn K (.ref f44) = true)
    (a45 : PySem.W.nsIn K mainGlobals "_law_exchanged" = some (some (.ref f45))) (l45 : K.lookup f45 = some ⟨oc45, od45, .func (PySem.W.fnOf "_law_exchanged" "_law_exchanged" (defArgs s__law_exchanged) (defBody s__law_exchanged) (defScope s__law_exchanged) .none kV45 dc45 pm45 an45 cd45 ct45), sl45⟩) (d45 : PySem.W.codeIn K cd45 "_law_exchanged" = true) (k45 : PySem.W.keepIn K (.ref f45) = true)
    (a46 : PySem.W.nsIn K mainGlobals "law" = some (some (.ref f46))) (l46 : K.lookup f46 = some ⟨oc46, od46, .func (PySem.W.fnOf "law" "law" (defArgs s_law) (defBody s_law) (defScope s_law) .none kV46 dc46 pm46 an46 cd46 ct46), sl46⟩) (d46 : PySem.W.codeIn K cd46 "law" = true) (k46 : PySem.W.keepIn K (.ref f46) = true)
    {tk_MOST_STATES : Tok}
    {tk_MOST_FEW : Tok}
    {tk_MOST_TURN : Tok}
    {tk_MOST_TUPLES : Tok}
    (ak_MOST_STATES : PySem.W.nsIn K mainGlobals "MOST_STATES" = some (some (.int 6 tk_MOST_STATES)))
    (ak_MOST_FEW : PySem.W.nsIn K mainGlobals "MOST_FEW" = some (some (.int 4 tk_MOST_FEW)))
    (ak_MOST_TURN : PySem.W.nsIn K mainGlobals "MOST_TURN" = some (some (.int 4 tk_MOST_TURN)))
    (ak_MOST_TUPLES : PySem.W.nsIn K mainGlobals "MOST_TUPLES" = some (some (.int 600 tk_MOST_TUPLES)))
    (t9 : PySem.W.tabIn K "_joined" = some (c9, P9)) (u9 : K.lookup P9 = none)
    (t12 : PySem.W.tabIn K "heap_of" = some (c12, P12)) (u12 : K.lookup P12 = none)
    (t27 : PySem.W.tabIn K "states_upward" = some (c27, P27)) (u27 : K.lookup P27 = none)
    (t28 : PySem.W.tabIn K "part_states" = some (c28, P28)) (u28 : K.lookup P28 = none)
    (v9_12 : P9 ≠ P12)
    (v9_27 : P9 ≠ P27)
    (v12_27 : P12 ≠ P27)
    (v9_28 : P9 ≠ P28)
    (v12_28 : P12 ≠ P28)
    (v27_28 : P27 ≠ P28)
    (z_all : PySem.W.nsIn K mainGlobals "all" = some none)
    (z_bool : PySem.W.nsIn K mainGlobals "bool" = some none)
    (z_dict : PySem.W.nsIn K mainGlobals "dict" = some none)
    (z_int : PySem.W.nsIn K mainGlobals "int" = some none)
    (z_isinstance : PySem.W.nsIn K mainGlobals "isinstance" = some none)
    (z_len : PySem.W.nsIn K mainGlobals "len" = some none)
    (z_list : PySem.W.nsIn K mainGlobals "list" = some none)
    (z_max : PySem.W.nsIn K mainGlobals "max" = some none)
    (z_min : PySem.W.nsIn K mainGlobals "min" = some none)
    (z_range : PySem.W.nsIn K mainGlobals "range" = some none)
    (z_sorted : PySem.W.nsIn K mainGlobals "sorted" = some none)
    (z_str : PySem.W.nsIn K mainGlobals "str" = some none)
    (z_sum : PySem.W.nsIn K mainGlobals "sum" = some none)
    (z_tuple : PySem.W.nsIn K mainGlobals "tuple" = some none)
    (z_zip : PySem.W.nsIn K mainGlobals "zip" = some none)
    : LawT l w K 42 "script" mg fa [("_joined", c9, P9), ("heap_of", c12, P12), ("states_upward", c27, P27), ("part_states", c28, P28)] := by
  have e := hfa.symm.trans (PySem.W.mg_of X G a46)
  cases e
  have F0 := fun_mk (st := s_is_whole) l0 d0 k0
  have b0 := F0.binds (ps := ["thing"]) fun _ _ _ _ _ _ us hl => match us, hl with | [_], _ => rfl
  have F1 := fun_mk (st := s_is_whole_within) l1 d1 k1
  have b1 := F1.binds (ps := ["thing", "low", "high"]) fun _ _ _ _ _ _ us hl => match us, hl with | [_, _, _], _ => rfl
  have F2 := fun_mk (st := s_is_letter) l2 d2 k2
  have b2 := F2.binds (ps := ["thing"]) fun _ _ _ _ _ _ us hl => match us, hl with | [_], _ => rfl
  have F3 := fun_mk (st := s_is_tree) l3 d3 k3
  have b3 := F3.binds (ps := ["thing"]) fun _ _ _ _ _ _ us hl => match us, hl with | [_], _ => rfl
  have F4 := fun_mk (st := s__is_part) l4 d4 k4
  have b4 := F4.binds (ps := ["thing"]) fun _ _ _ _ _ _ us hl => match us, hl with | [_], _ => rfl
  have F5 := fun_mk (st := s_check_tree) l5 d5 k5
  have b5 := F5.binds (ps := ["thing"]) fun _ _ _ _ _ _ us hl => match us, hl with | [_], _ => rfl
  have F6 := fun_mk (st := s_parts_upward) l6 d6 k6
  have b6 := F6.binds (ps := ["tree"]) fun _ _ _ _ _ _ us hl => match us, hl with | [_], _ => rfl
  have F7 := fun_mk (st := s_built_upward) l7 d7 k7
  have b7 := F7.binds (ps := ["tree", "made"]) fun _ _ _ _ _ _ us hl => match us, hl with | [_, _], _ => rfl
  have F8 := fun_mk (st := s__written_and_told) l8 d8 k8
  have b8 := F8.binds (ps := ["tree"]) fun _ _ _ _ _ _ us hl => match us, hl with | [_], _ => rfl
  have F9 := fun_mk (st := s__joined) l9 d9 k9
  have b9 := F9.binds (ps := ["letter", "below"]) fun _ _ _ _ _ _ us hl => match us, hl with | [_, _], _ => rfl
  have F10 := fun_mk (st := s_written_part) l10 d10 k10
  have b10 := F10.binds (ps := ["letter", "texts"]) fun _ _ _ _ _ _ us hl => match us, hl with | [_, _], _ => rfl
  have F11 := fun_mk (st := s_told_form) l11 d11 k11
  have b11 := F11.binds (ps := ["tree"]) fun _ _ _ _ _ _ us hl => match us, hl with | [_], _ => rfl
  have F12 := fun_mk (st := s_heap_of) l12 d12 k12
  have b12 := F12.binds (ps := ["tree"]) fun _ _ _ _ _ _ us hl => match us, hl with | [_], _ => rfl
  have F13 := fun_mk (st := s_from_heap) l13 d13 k13
  have b13 := F13.binds (ps := ["letter", "heap"]) fun _ _ _ _ _ _ us hl => match us, hl with | [_, _], _ => rfl
  have F14 := fun_mk (st := s__is_heap_row) l14 d14 k14
  have b14 := F14.binds (ps := ["thing"]) fun _ _ _ _ _ _ us hl => match us, hl with | [_], _ => rfl
  have F15 := fun_mk (st := s_is_judge) l15 d15 k15
  have b15 := F15.binds (ps := ["thing"]) fun _ _ _ _ _ _ us hl => match us, hl with | [_], _ => rfl
  have F16 := fun_mk (st := s_may_have_table) l16 d16 k16
  have b16 := F16.binds (ps := ["letters", "states", "few", "turn"]) fun _ _ _ _ _ _ us hl => match us, hl with | [_, _, _, _], _ => rfl
  have F17 := fun_mk (st := s_are_letters) l17 d17 k17
  have b17 := F17.binds (ps := ["thing"]) fun _ _ _ _ _ _ us hl => match us, hl with | [_], _ => rfl
  have F18 := fun_mk (st := s_are_rising_states) l18 d18 k18
  have b18 := F18.binds (ps := ["thing", "states"]) fun _ _ _ _ _ _ us hl => match us, hl with | [_, _], _ => rfl
  have F19 := fun_mk (st := s__rises) l19 d19 k19
  have b19 := F19.binds (ps := ["row"]) fun _ _ _ _ _ _ us hl => match us, hl with | [_], _ => rfl
  have F20 := fun_mk (st := s_tuples_due) l20 d20 k20
  have b20 := F20.binds (ps := ["letters", "states", "classes"]) fun _ _ _ _ _ _ us hl => match us, hl with | [_, _, _], _ => rfl
  have F21 := fun_mk (st := s__is_table) l21 d21 k21
  have b21 := F21.binds (ps := ["thing", "letters", "states", "classes"]) fun _ _ _ _ _ _ us hl => match us, hl with | [_, _, _, _], _ => rfl
  have F22 := fun_mk (st := s__is_key) l22 d22 k22
  have b22 := F22.binds (ps := ["thing", "letters", "states", "classes"]) fun _ _ _ _ _ _ us hl => match us, hl with | [_, _, _, _], _ => rfl
  have F23 := fun_mk (st := s_class_of) l23 d23 k23
  have b23 := F23.binds (ps := ["number", "few", "turn"]) fun _ _ _ _ _ _ us hl => match us, hl with | [_, _, _], _ => rfl
  have F24 := fun_mk (st := s_state_by_numbers) l24 d24 k24
  have b24 := F24.binds (ps := ["judge", "letter", "numbers"]) fun _ _ _ _ _ _ us hl => match us, hl with | [_, _, _], _ => rfl
  have F25 := fun_mk (st := s__numbers) l25 d25 k25
  have b25 := F25.binds (ps := ["below", "states"]) fun _ _ _ _ _ _ us hl => match us, hl with | [_, _], _ => rfl
  have F26 := fun_mk (st := s_check_letters) l26 d26 k26
  have b26 := F26.binds (ps := ["parts", "letters"]) fun _ _ _ _ _ _ us hl => match us, hl with | [_, _], _ => rfl
  have F27 := fun_mk (st := s_states_upward) l27 d27 k27
  have b27 := F27.binds (ps := ["tree", "letters", "states", "state_at"]) fun _ _ _ _ _ _ us hl => match us, hl with | [_, _, _, _], _ => rfl
  have F28 := fun_mk (st := s_part_states) l28 d28 k28
  have b28 := F28.binds (ps := ["judge", "tree"]) fun _ _ _ _ _ _ us hl => match us, hl with | [_, _], _ => rfl
  have F29 := fun_mk (st := s_state_of) l29 d29 k29
  have b29 := F29.binds (ps := ["judge", "tree"]) fun _ _ _ _ _ _ us hl => match us, hl with | [_, _], _ => rfl
  have F30 := fun_mk (st := s_lets_by) l30 d30 k30
  have b30 := F30.binds (ps := ["judge", "tree"]) fun _ _ _ _ _ _ us hl => match us, hl with | [_, _], _ => rfl
  have F31 := fun_mk (st := s__law_pool) l31 d31 k31
  have b31 := F31.binds (ps := ["script", "k"]) fun _ _ _ _ _ _ us hl => match us, hl with | [_, _], _ => rfl
  have F32 := fun_mk (st := s__law_take) l32 d32 k32
  have b32 := F32.binds (ps := ["pool", "many"]) fun _ _ _ _ _ _ us hl => match us, hl with | [_, _], _ => rfl
  have F33 := fun_mk (st := s__law_mixed_up) l33 d33 k33
  have b33 := F33.binds (ps := ["pool", "things"]) fun _ _ _ _ _ _ us hl => match us, hl with | [_, _], _ => rfl
  have F34 := fun_mk (st := s__law_grown) l34 d34 k34
  have b34 := F34.binds (ps := ["pool", "most", "letters"]) fun _ _ _ _ _ _ us hl => match us, hl with | [_, _, _], _ => rfl
  have F35 := fun_mk (st := s__law_shuffled) l35 d35 k35
  have b35 := F35.binds (ps := ["pool", "tree"]) fun _ _ _ _ _ _ us hl => match us, hl with | [_, _], _ => rfl
  have F36 := fun_mk (st := s__law_tree) l36 d36 k36
  have b36 := F36.binds (ps := ["pool", "most", "letters"]) fun _ _ _ _ _ _ us hl => match us, hl with | [_, _, _], _ => rfl
  have F37 := fun_mk (st := s__law_tuples) l37 d37 k37
  have b37 := F37.binds (ps := ["letters", "states", "classes"]) fun _ _ _ _ _ _ us hl => match us, hl with | [_, _, _], _ => rfl
  have F38 := fun_mk (st := s__law_power) l38 d38 k38
  have b38 := F38.binds (ps := ["base", "many"]) fun _ _ _ _ _ _ us hl => match us, hl with | [_, _], _ => rfl
  have F39 := fun_mk (st := s__law_sizes) l39 d39 k39
  have b39 := F39.binds (ps := ["pool"]) fun _ _ _ _ _ _ us hl => match us, hl with | [_], _ => rfl
  have F40 := fun_mk (st := s__law_in_order) l40 d40 k40
  have b40 := F40.binds (ps := ["pool", "table"]) fun _ _ _ _ _ _ us hl => match us, hl with | [_, _], _ => rfl
  have F41 := fun_mk (st := s__law_judge) l41 d41 k41
  have b41 := F41.binds (ps := ["pool"]) fun _ _ _ _ _ _ us hl => match us, hl with | [_], _ => rfl
  have F42 := fun_mk (st := s__law_by_children) l42 d42 k42
  have b42 := F42.binds (ps := ["judge", "tree"]) fun _ _ _ _ _ _ us hl => match us, hl with | [_, _], _ => rfl
  have F43 := fun_mk (st := s__law_turned_round) l43 d43 k43
  have b43 := F43.binds (ps := ["pool", "judge", "tree"]) fun _ _ _ _ _ _ us hl => match us, hl with | [_, _, _], _ => rfl
  have F44 := fun_mk (st := s__law_parts) l44 d44 k44
  have b44 := F44.binds (ps := ["tree"]) fun _ _ _ _ _ _ us hl => match us, hl with | [_], _ => rfl
  have F45 := fun_mk (st := s__law_exchanged) l45 d45 k45
  have b45 := F45.binds (ps := ["pool", "judge", "tree"]) fun _ _ _ _ _ _ us hl => match us, hl with | [_, _, _], _ => rfl
  have F46 := fun_mk (st := s_law) l46 d46 k46
  have b46 := F46.binds (ps := ["script"]) fun _ _ _ _ _ _ us hl => match us, hl with | [_], _ => rfl
  let T : Txt K mg := ⟨f0, _, F0, b0, PySem.W.mg_of X G a0, f1, _, F1, b1, PySem.W.mg_of X G a1, f2, _, F2, b2, PySem.W.mg_of X G a2, f3, _, F3, b3, PySem.W.mg_of X G a3, f4, _, F4, b4, PySem.W.mg_of X G a4, f5, _, F5, b5, PySem.W.mg_of X G a5, f6, _, F6, b6, PySem.W.mg_of X G a6, f7, _, F7, b7, PySem.W.mg_of X G a7, f8, _, F8, b8, PySem.W.mg_of X G a8, f9, _, F9, b9, PySem.W.mg_of X G a9, f10, _, F10, b10, PySem.W.mg_of X G a10, f11, _, F11, b11, PySem.W.mg_of X G a11, f12, _, F12, b12, PySem.W.mg_of X G a12, f13, _, F13, b13, PySem.W.mg_of X G a13, f14, _, F14, b14, PySem.W.mg_of X G a14, f15, _, F15, b15, PySem.W.mg_of X G a15, f16, _, F16, b16, PySem.W.mg_of X G a16, f17, _, F17, b17, PySem.W.mg_of X G a17, f18, _, F18, b18, PySem.W.mg_of X G a18, f19, _, F19, b19, PySem.W.mg_of X G a19, f20, _, F20, b20, PySem.W.mg_of X G a20, f21, _, F21, b21, PySem.W.mg_of X G a21, f22, _, F22, b22, PySem.W.mg_of X G a22, f23, _, F23, b23, PySem.W.mg_of X G a23, f24, _, F24, b24, PySem.W.mg_of X G a24, f25, _, F25, b25, PySem.W.mg_of X G a25, f26, _, F26, b26, PySem.W.mg_of X G a26, f27, _, F27, b27, PySem.W.mg_of X G a27, f28, _, F28, b28, PySem.W.mg_of X G a28, f29, _, F29, b29, PySem.W.mg_of X G a29, f30, _, F30, b30, PySem.W.mg_of X G a30, f31, _, F31, b31, PySem.W.mg_of X G a31, f32, _, F32, b32, PySem.W.mg_of X G a32, f33, _, F33, b33, PySem.W.mg_of X G a33, f34, _, F34, b34, PySem.W.mg_of X G a34, f35, _, F35, b35, PySem.W.mg_of X G a35, f36, _, F36, b36, PySem.W.mg_of X G a36, f37, _, F37, b37, PySem.W.mg_of X G a37, f38, _, F38, b38, PySem.W.mg_of X G a38, f39, _, F39, b39, PySem.W.mg_of X G a39, f40, _, F40, b40, PySem.W.mg_of X G a40, f41, _, F41, b41, PySem.W.mg_of X G a41, f42, _, F42, b42, PySem.W.mg_of X G a42, f43, _, F43, b43, PySem.W.mg_of X G a43, f44, _, F44, b44, PySem.W.mg_of X G a44, f45, _, F45, b45, PySem.W.mg_of X G a45, fa, _, F46, b46, PySem.W.mg_of X G a46, _, PySem.W.mg_of X G ak_MOST_STATES, _, PySem.W.mg_of X G ak_MOST_FEW, _, PySem.W.mg_of X G ak_MOST_TURN, _, PySem.W.mg_of X G ak_MOST_TUPLES, c9, P9, rfl, c12, P12, rfl, c27, P27, rfl, c28, P28, rfl, v9_12, v9_27, v12_27, v9_28, v12_28, v27_28, PySem.W.mg_none_of X G z_all, PySem.W.mg_none_of X G z_bool, PySem.W.mg_none_of X G z_dict, PySem.W.mg_none_of X G z_int, PySem.W.mg_none_of X G z_isinstance, PySem.W.mg_none_of X G z_len, PySem.W.mg_none_of X G z_list, PySem.W.mg_none_of X G z_max, PySem.W.mg_none_of X G z_min, PySem.W.mg_none_of X G z_range, PySem.W.mg_none_of X G z_sorted, PySem.W.mg_none_of X G z_str, PySem.W.mg_none_of X G z_sum, PySem.W.mg_none_of X G z_tuple, PySem.W.mg_none_of X G z_zip⟩
  refine ⟨?_, PySem.W.fnOf "law" "law" (defArgs s_law) (defBody s_law) (defScope s_law) .none kV46 dc46 pm46 an46 cd46 ct46, fun s v => .of_eq rfl, fun base _ _ hb => ?_⟩
  · intro z hz
    simp only [List.mem_cons, List.not_mem_nil, or_false] at hz
    rcases hz with rfl | rfl | rfl | rfl
    · exact ⟨t9, u9⟩
    · exact ⟨t12, u12⟩
    · exact ⟨t27, u27⟩
    · exact ⟨t28, u28⟩
  · have B : Tbs T base := ⟨hb ("_joined", c9, P9) (by simp), hb ("heap_of", c12, P12) (by simp), hb ("states_upward", c27, P27) (by simp), hb ("part_states", c28, P28) (by simp)⟩
    exact ok_law T B
end My
open PySem PySem.W PyProof.Rows
set_option maxRecDepth 100000 in
set_option maxHeartbeats 0 in
theorem PySem.Challenge.cw_heaptrees_k13_whole_judges_and_order_holds : PySem.Challenge.rw_heaptrees_k13_whole_judges_and_order.Holds := by
  w_on; o_law; k_head; (case hw => w_witness2)
  k_fill
  refine My.walk_ofT (l := PySem.Challenge.rw_heaptrees_k13_whole_judges_and_order) (n := 63) (k := 42) (x := "script") rfl (by decide) (by decide) rfl ⟨rfl, by decide, by decide⟩ (fun w h Y => Y.1) ["_joined", "heap_of", "states_upward", "part_states"] ?R ?F
  case R => decide +kernel
  case F =>
    intro w mg fa h KX G hmg
    refine' ⟨_, ?n, ?m⟩
    case m =>
      refine' My.all_mk KX G hmg ?a0 ?l0 ?d0 ?k0 ?a1 ?l1 ?d1 ?k1 ?a2 ?l2 ?d2 ?k2 ?a3 ?l3 ?d3 ?k3 ?a4 ?l4 ?d4 ?k4 ?a5 ?l5 ?d5 ?k5 ?a6 ?l6 ?d6 ?k6 ?a7 ?l7 ?d7 ?k7 ?a8 ?l8 ?d8 ?k8 ?a9 ?l9 ?d9 ?k9 ?a10 ?l10 ?d10 ?k10 ?a11 ?l11 ?d11 ?k11 ?a12 ?l12 ?d12 ?k12 ?a13 ?l13 ?d13 ?k13 ?a14 ?l14 ?d14 ?k14 ?a15 ?l15 ?d15 ?k15 ?a16 ?l16 ?d16 ?k16 ?a17 ?l17 ?d17 ?k17 ?a18 ?l18 ?d18 ?k18 ?a19 ?l19 ?d19 ?k19 ?a20 ?l20 ?d20 ?k20 ?a21 ?l21 ?d21 ?k21 ?a22 ?l22 ?d22 ?k22 ?a23 ?l23 ?d23 ?k23 ?a24 ?l24 ?d24 ?k24 ?a25 ?l25 ?d25 ?k25 ?a26 ?l26 ?d26 ?k26 ?a27 ?l27 ?d27 ?k27 ?a28 ?l28 ?d28 ?k28 ?a29 ?l29 ?d29 ?k29 ?a30 ?l30 ?d30 ?k30 ?a31 ?l31 ?d31 ?k31 ?a32 ?l32 ?d32 ?k32 ?a33 ?l33 ?d33 ?k33 ?a34 ?l34 ?d34 ?k34 ?a35 ?l35 ?d35 ?k35 ?a36 ?l36 ?d36 ?k36 ?a37 ?l37 ?d37 ?k37 ?a38 ?l38 ?d38 ?k38 ?a39 ?l39 ?d39 ?k39 ?a40 ?l40 ?d40 ?k40 ?a41 ?l41 ?d41 ?k41 ?a42 ?l42 ?d42 ?k42 ?a43 ?l43 ?d43 ?k43 ?a44 ?l44 ?d44 ?k44 ?a45 ?l45 ?d45 ?k45 ?a46 ?l46 ?d46 ?k46 ?ak_MOST_STATES ?ak_MOST_FEW ?ak_MOST_TURN ?ak_MOST_TUPLES ?t9 ?u9 ?t12 ?u12 ?t27 ?u27 ?t28 ?u28 ?v9_12 ?v9_27 ?v12_27 ?v9_28 ?v12_28 ?v27_28 ?z_all ?z_bool ?z_dict ?z_int ?z_isinstance ?z_len ?z_list ?z_max ?z_min ?z_range ?z_sorted ?z_str ?z_sum ?z_tuple ?z_zip
      (case a0 => k_is)
      (case l0 => k_is)
      (case d0 => k_is)
      (case k0 => k_is)
      (case a1 => k_is)
      (case l1 => k_is)
      (case d1 => k_is)
      (case k1 => k_is)
      (case a2 => k_is)
      (case l2 => k_is)
      (case d2 => k_is)
      (case k2 => k_is)
      (case a3 => k_is)
      (case l3 => k_is)
      (case d3 => k_is)
      (case k3 => k_is)
      (case a4 => k_is)
      (case l4 => k_is)
      (case d4 => k_is)
      (case k4 => k_is)
      (case a5 => k_is)
      (case l5 => k_is)
      (case d5 => k_is)
      (case k5 => k_is)
      (case a6 => k_is)
      (case l6 => k_is)
      (case d6 => k_is)
      (case k6 => k_is)
      (case a7 => k_is)
      (case l7 => k_is)
      (case d7 => k_is)
      (case k7 => k_is)
      (case a8 => k_is)
      (case l8 => k_is)
      (case d8 => k_is)
      (case k8 => k_is)
      (case a9 => k_is)
      (case l9 => k_is)
      (case d9 => k_is)
      (case k9 => k_is)
      (case a10 => k_is)
      (case l10 => k_is)
      (case d10 => k_is)
      (case k10 => k_is)
      (case a11 => k_is)
      (case l11 => k_is)
      (case d11 => k_is)
      (case k11 => k_is)
      (case a12 => k_is)
      (case l12 => k_is)
      (case d12 => k_is)
      (case k12 => k_is)
      (case a13 => k_is)
      (case l13 => k_is)
      (case d13 => k_is)
      (case k13 => k_is)
      (case a14 => k_is)
      (case l14 => k_is)
      (case d14 => k_is)
      (case k14 => k_is)
      (case a15 => k_is)
      (case l15 => k_is)
      (case d15 => k_is)
      (case k15 => k_is)
      (case a16 => k_is)
      (case l16 => k_is)
      (case d16 => k_is)
      (case k16 => k_is)
      (case a17 => k_is)
      (case l17 => k_is)
      (case d17 => k_is)
      (case k17 => k_is)
      (case a18 => k_is)
      (case l18 => k_is)
      (case d18 => k_is)
      (case k18 => k_is)
      (case a19 => k_is)
      (case l19 => k_is)
      (case d19 => k_is)
      (case k19 => k_is)
      (case a20 => k_is)
      (case l20 => k_is)
      (case d20 => k_is)
      (case k20 => k_is)
      (case a21 => k_is)
      (case l21 => k_is)
      (case d21 => k_is)
      (case k21 => k_is)
      (case a22 => k_is)
      (case l22 => k_is)
      (case d22 => k_is)
      (case k22 => k_is)
      (case a23 => k_is)
      (case l23 => k_is)
      (case d23 => k_is)
      (case k23 => k_is)
      (case a24 => k_is)
      (case l24 => k_is)
      (case d24 => k_is)
      (case k24 => k_is)
      (case a25 => k_is)
      (case l25 => k_is)
      (case d25 => k_is)
      (case k25 => k_is)
      (case a26 => k_is)
      (case l26 => k_is)
      (case d26 => k_is)
      (case k26 => k_is)
      (case a27 => k_is)
      (case l27 => k_is)
      (case d27 => k_is)
      (case k27 => k_is)
      (case a28 => k_is)
      (case l28 => k_is)
      (case d28 => k_is)
      (case k28 => k_is)
      (case a29 => k_is)
      (case l29 => k_is)
      (case d29 => k_is)
      (case k29 => k_is)
      (case a30 => k_is)
      (case l30 => k_is)
      (case d30 => k_is)
      (case k30 => k_is)
      (case a31 => k_is)
      (case l31 => k_is)
      (case d31 => k_is)
      (case k31 => k_is)
      (case a32 => k_is)
      (case l32 => k_is)
      (case d32 => k_is)
      (case k32 => k_is)
      (case a33 => k_is)
      (case l33 => k_is)
      (case d33 => k_is)
      (case k33 => k_is)
      (case a34 => k_is)
      (case l34 => k_is)
      (case d34 => k_is)
      (case k34 => k_is)
      (case a35 => k_is)
      (case l35 => k_is)
      (case d35 => k_is)
      (case k35 => k_is)
      (case a36 => k_is)
      (case l36 => k_is)
      (case d36 => k_is)
      (case k36 => k_is)
      (case a37 => k_is)
      (case l37 => k_is)
      (case d37 => k_is)
      (case k37 => k_is)
      (case a38 => k_is)
      (case l38 => k_is)
      (case d38 => k_is)
      (case k38 => k_is)
      (case a39 => k_is)
      (case l39 => k_is)
      (case d39 => k_is)
      (case k39 => k_is)
      (case a40 => k_is)
      (case l40 => k_is)
      (case d40 => k_is)
      (case k40 => k_is)
      (case a41 => k_is)
      (case l41 => k_is)
      (case d41 => k_is)
      (case k41 => k_is)
      (case a42 => k_is)
      (case l42 => k_is)
      (case d42 => k_is)
      (case k42 => k_is)
      (case a43 => k_is)
      (case l43 => k_is)
      (case d43 => k_is)
      (case k43 => k_is)
      (case a44 => k_is)
      (case l44 => k_is)
      (case d44 => k_is)
      (case k44 => k_is)
      (case a45 => k_is)
      (case l45 => k_is)
      (case d45 => k_is)
      (case k45 => k_is)
      (case a46 => k_is)
      (case l46 => k_is)
      (case d46 => k_is)
      (case k46 => k_is)
      (case ak_MOST_STATES => k_is)
      (case ak_MOST_FEW => k_is)
      (case ak_MOST_TURN => k_is)
      (case ak_MOST_TUPLES => k_is)
      (case t9 => rfl)
      (case u9 => rfl)
      (case t12 => rfl)
      (case u12 => rfl)
      (case t27 => rfl)
      (case u27 => rfl)
      (case t28 => rfl)
      (case u28 => rfl)
      (case v9_12 => decide +kernel)
      (case v9_27 => decide +kernel)
      (case v12_27 => decide +kernel)
      (case v9_28 => decide +kernel)
      (case v12_28 => decide +kernel)
      (case v27_28 => decide +kernel)
      (case z_all => k_is)
      (case z_bool => k_is)
      (case z_dict => k_is)
      (case z_int => k_is)
      (case z_isinstance => k_is)
      (case z_len => k_is)
      (case z_list => k_is)
      (case z_max => k_is)
      (case z_min => k_is)
      (case z_range => k_is)
      (case z_sorted => k_is)
      (case z_str => k_is)
      (case z_sum => k_is)
      (case z_tuple => k_is)
      (case z_zip => k_is)
    case n => rfl
#print axioms PySem.Challenge.cw_heaptrees_k13_whole_judges_and_order_holds
