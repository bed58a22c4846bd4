import PyProof.Rows.All
import Wide.All
import OpenK.AllK
import Wide.FinOn
import HandS.ForMost
import HandS.Wide
import HandS.IsInst
import HandS.Exc
import HandS.ExcOwn
import HandS.ExcValue
import HandS.ExcIs
import HandS.TryOnly
import HandS.WordsExc
import HandS.Flow
import HandS.Style
import HandS.Codes
import HandS.Lambda
import HandS.Star
import HandS.Nested
import HandS.EndTab
import HandS.SortKw
import HandS.FStr
import HandS.NoneIn
import HandS.More
import HandS.Zip
import HandS.Conv
import HandS.TupAny
import HandS.RaiseMore
import HandS.Walk
import HandS.Iter
import HandS.Dict
import PyProof.StrLawsRepr
import KE.SortKeyHeap
import KE.SortData
import KE.DataFind
import KE.DataMinMax
import KE.KEqNest
import PyProof.Draws
import PyProof.EnumMake
import KE.KeyNested
import KE.KDictKeyed
import HandS.Steps
import HandS.SetFor
import HandS.DictEq
import HandS.DictTup
import HandS.DictComp
import KE.KMathGC
import HandS.Gcd
import HandS.Replace
import HandS.SortInts
import KE.GoesMore
import KE.GoesZip
import PySem.Challenge.RW_heaptrees_k20_whole_judges_as_the_rules
set_option Elab.async false
set_option linter.all false
set_option maxRecDepth 100000
set_option maxHeartbeats 4000000
namespace My
open PySem PySem.Spec PyProof.Rows L2
def topS (i : Nat) : Stmt := PySem.Challenge.pw_heaptrees_k20_whole_judges_as_the_rules.main.body.getD i (.Pass ⟨0, 0, 0, 0⟩)
abbrev s_is_whole : Stmt := topS 7
theorem sc_is_whole : FnScope ["thing"] ["thing"] (defScope s_is_whole) := ⟨rfl, rfl, rfl, by decide +kernel, rfl, by decide +kernel, by decide +kernel⟩
abbrev s_is_whole_within : Stmt := topS 8
theorem sc_is_whole_within : FnScope ["thing", "low", "high"] ["thing", "low", "high"] (defScope s_is_whole_within) := ⟨rfl, rfl, rfl, by decide +kernel, rfl, by decide +kernel, by decide +kernel⟩
abbrev s_is_letter : Stmt := topS 9
theorem sc_is_letter : FnScope ["thing"] ["thing"] (defScope s_is_letter) := ⟨rfl, rfl, rfl, by decide +kernel, rfl, by decide +kernel, by decide +kernel⟩
abbrev s_is_tree : Stmt := topS 11
theorem sc_is_tree : FnScope ["thing", "waiting", "part"] ["thing"] (defScope s_is_tree) := ⟨rfl, rfl, rfl, by decide +kernel, rfl, by decide +kernel, by decide +kernel⟩
abbrev s__is_part : Stmt := topS 12
theorem sc__is_part : FnScope ["thing"] ["thing"] (defScope s__is_part) := ⟨rfl, rfl, rfl, by decide +kernel, rfl, by decide +kernel, by decide +kernel⟩
abbrev s_check_tree : Stmt := topS 13
theorem sc_check_tree : FnScope ["thing"] ["thing"] (defScope s_check_tree) := ⟨rfl, rfl, rfl, by decide +kernel, rfl, by decide +kernel, by decide +kernel⟩
abbrev s_parts_upward : Stmt := topS 14
theorem sc_parts_upward : FnScope ["tree", "parts", "waiting", "part"] ["tree"] (defScope s_parts_upward) := ⟨rfl, rfl, rfl, by decide +kernel, rfl, by decide +kernel, by decide +kernel⟩
abbrev s_built_upward : Stmt := topS 15
theorem sc_built_upward : FnScope ["tree", "made", "waiting", "letter", "children", "first", "below"] ["tree", "made"] (defScope s_built_upward) := ⟨rfl, rfl, rfl, by decide +kernel, rfl, by decide +kernel, by decide +kernel⟩
abbrev s_is_judge : Stmt := topS 21
theorem sc_is_judge : FnScope ["thing", "letters", "states", "few", "turn", "table", "good"] ["thing"] (defScope s_is_judge) := ⟨rfl, rfl, rfl, by decide +kernel, rfl, by decide +kernel, by decide +kernel⟩
abbrev s_may_have_table : Stmt := topS 22
theorem sc_may_have_table : FnScope ["letters", "states", "few", "turn"] ["letters", "states", "few", "turn"] (defScope s_may_have_table) := ⟨rfl, rfl, rfl, by decide +kernel, rfl, by decide +kernel, by decide +kernel⟩
abbrev s_are_letters : Stmt := topS 23
theorem sc_are_letters : FnScope ["thing", "sign"] ["thing"] (defScope s_are_letters) := ⟨rfl, rfl, rfl, by decide +kernel, rfl, by decide +kernel, by decide +kernel⟩
abbrev s_are_rising_states : Stmt := topS 24
theorem sc_are_rising_states : FnScope ["thing", "states", "state"] ["thing", "states"] (defScope s_are_rising_states) := ⟨rfl, rfl, rfl, by decide +kernel, rfl, by decide +kernel, by decide +kernel⟩
abbrev s__rises : Stmt := topS 25
theorem sc__rises : FnScope ["row", "low", "high"] ["row"] (defScope s__rises) := ⟨rfl, rfl, rfl, by decide +kernel, rfl, by decide +kernel, by decide +kernel⟩
abbrev s_tuples_due : Stmt := topS 26
theorem sc_tuples_due : FnScope ["letters", "states", "classes", "many", "_"] ["letters", "states", "classes"] (defScope s_tuples_due) := ⟨rfl, rfl, rfl, by decide +kernel, rfl, by decide +kernel, by decide +kernel⟩
abbrev s__is_table : Stmt := topS 27
theorem sc__is_table : FnScope ["thing", "letters", "states", "classes", "key", "state"] ["thing", "letters", "states", "classes"] (defScope s__is_table) := ⟨rfl, rfl, rfl, by decide +kernel, rfl, by decide +kernel, by decide +kernel⟩
abbrev s__is_key : Stmt := topS 28
theorem sc__is_key : FnScope ["thing", "letters", "states", "classes", "letter", "row", "number"] ["thing", "letters", "states", "classes"] (defScope s__is_key) := ⟨rfl, rfl, rfl, by decide +kernel, rfl, by decide +kernel, by decide +kernel⟩
abbrev s_class_of : Stmt := topS 29
theorem sc_class_of : FnScope ["number", "few", "turn"] ["number", "few", "turn"] (defScope s_class_of) := ⟨rfl, rfl, rfl, by decide +kernel, rfl, by decide +kernel, by decide +kernel⟩
abbrev s_class_rows : Stmt := topS 30
theorem sc_class_rows : FnScope ["states", "classes", "rows", "_", "row", "number"] ["states", "classes"] (defScope s_class_rows) := ⟨rfl, rfl, rfl, by decide +kernel, rfl, by decide +kernel, by decide +kernel⟩
abbrev s_keys_due : Stmt := topS 31
theorem sc_keys_due : FnScope ["letters", "states", "classes", "rows", "letter", "row"] ["letters", "states", "classes"] (defScope s_keys_due) := ⟨rfl, rfl, rfl, by decide +kernel, rfl, by decide +kernel, by decide +kernel⟩
abbrev s_table_made : Stmt := topS 32
theorem sc_table_made : FnScope ["letters", "states", "few", "turn", "state_at", "keys", "letter", "row"] ["letters", "states", "few", "turn", "state_at"] (defScope s_table_made) := ⟨rfl, rfl, rfl, by decide +kernel, rfl, by decide +kernel, by decide +kernel⟩
abbrev s_state_by_numbers : Stmt := topS 33
theorem sc_state_by_numbers : FnScope ["judge", "letter", "numbers", "row", "number"] ["judge", "letter", "numbers"] (defScope s_state_by_numbers) := ⟨rfl, rfl, rfl, by decide +kernel, rfl, by decide +kernel, by decide +kernel⟩
abbrev s__numbers : Stmt := topS 34
theorem sc__numbers : FnScope ["below", "states", "state"] ["below", "states"] (defScope s__numbers) := ⟨rfl, rfl, rfl, by decide +kernel, rfl, by decide +kernel, by decide +kernel⟩
abbrev s_check_letters : Stmt := topS 35
theorem sc_check_letters : FnScope ["parts", "letters", "letter", "_"] ["parts", "letters"] (defScope s_check_letters) := ⟨rfl, rfl, rfl, by decide +kernel, rfl, by decide +kernel, by decide +kernel⟩
abbrev s_states_upward : Stmt := topS 36
theorem sc_states_upward : FnScope ["tree", "letters", "states", "state_at", "told", "next_state"] ["tree", "letters", "states", "state_at"] (defScope s_states_upward) := ⟨rfl, rfl, rfl, by decide +kernel, rfl, by decide +kernel, by decide +kernel⟩
abbrev n_states_upward__next_state : Stmt := (defBody s_states_upward).getD 2 (.Pass ⟨0, 0, 0, 0⟩)
theorem sc_states_upward__next_state : NdefX.NScope ["letter", "below", "told", "state_at", "states"] ["letter", "below"] ["told", "state_at", "states"] (C8.fnScope n_states_upward__next_state) := NdefX.nscope_by (by decide +kernel)
theorem nd_states_upward__next_state : NdefX.ndefB (defScope s_states_upward) (C8.fnScope n_states_upward__next_state) ["told", "state_at", "states"] = true := by decide +kernel
abbrev s_part_states : Stmt := topS 37
theorem sc_part_states : FnScope ["judge", "tree"] ["judge", "tree"] (defScope s_part_states) := ⟨rfl, rfl, rfl, by decide +kernel, rfl, by decide +kernel, by decide +kernel⟩
abbrev s_state_of : Stmt := topS 38
theorem sc_state_of : FnScope ["judge", "tree"] ["judge", "tree"] (defScope s_state_of) := ⟨rfl, rfl, rfl, by decide +kernel, rfl, by decide +kernel, by decide +kernel⟩
abbrev s_lets_by : Stmt := topS 39
theorem sc_lets_by : FnScope ["judge", "tree"] ["judge", "tree"] (defScope s_lets_by) := ⟨rfl, rfl, rfl, by decide +kernel, rfl, by decide +kernel, by decide +kernel⟩
abbrev s_condition_holds : Stmt := topS 42
theorem sc_condition_holds : FnScope ["condition", "numbers", "word"] ["condition", "numbers"] (defScope s_condition_holds) := ⟨rfl, rfl, rfl, by decide +kernel, rfl, by decide +kernel, by decide +kernel⟩
abbrev s__weighed : Stmt := topS 43
theorem sc__weighed : FnScope ["weights", "numbers", "weight", "number"] ["weights", "numbers"] (defScope s__weighed) := ⟨rfl, rfl, rfl, by decide +kernel, rfl, by decide +kernel, by decide +kernel⟩
abbrev s__state_by_rows : Stmt := topS 44
theorem sc__state_by_rows : FnScope ["rows", "numbers", "condition", "state"] ["rows", "numbers"] (defScope s__state_by_rows) := ⟨rfl, rfl, rfl, by decide +kernel, rfl, by decide +kernel, by decide +kernel⟩
abbrev s_state_by_rules : Stmt := topS 45
theorem sc_state_by_rules : FnScope ["rules", "tree", "letters", "states", "rows", "_", "told"] ["rules", "tree"] (defScope s_state_by_rules) := ⟨rfl, rfl, rfl, by decide +kernel, rfl, by decide +kernel, by decide +kernel⟩
abbrev s_rules_let_by : Stmt := topS 46
theorem sc_rules_let_by : FnScope ["rules", "tree"] ["rules", "tree"] (defScope s_rules_let_by) := ⟨rfl, rfl, rfl, by decide +kernel, rfl, by decide +kernel, by decide +kernel⟩
abbrev s_judge_made : Stmt := topS 47
theorem sc_judge_made : FnScope ["rules", "letters", "states", "rows", "good", "few", "turn", "table", "letter", "condition", "_"] ["rules"] (defScope s_judge_made) := ⟨rfl, rfl, rfl, by decide +kernel, rfl, by decide +kernel, by decide +kernel⟩
abbrev s__few_and_turn : Stmt := topS 48
theorem sc__few_and_turn : FnScope ["conditions", "few", "turn", "plain_ones", "row", "condition", "plain"] ["conditions"] (defScope s__few_and_turn) := ⟨rfl, rfl, rfl, by decide +kernel, rfl, by decide +kernel, by decide +kernel⟩
abbrev s__plain_ones : Stmt := topS 49
theorem sc__plain_ones : FnScope ["condition", "part", "plain"] ["condition"] (defScope s__plain_ones) := ⟨rfl, rfl, rfl, by decide +kernel, rfl, by decide +kernel, by decide +kernel⟩
abbrev s__law_cell_at : Stmt := topS 51
theorem sc__law_cell_at : FnScope ["script", "k"] ["script", "k"] (defScope s__law_cell_at) := ⟨rfl, rfl, rfl, by decide +kernel, rfl, by decide +kernel, by decide +kernel⟩
abbrev s__law_numbers : Stmt := topS 52
theorem sc__law_numbers : FnScope ["cell", "many", "found", "rest", "stir", "k", "again"] ["cell", "many"] (defScope s__law_numbers) := ⟨rfl, rfl, rfl, by decide +kernel, rfl, by decide +kernel, by decide +kernel⟩
abbrev s__law_deck : Stmt := topS 53
theorem sc__law_deck : FnScope ["cell", "many"] ["cell", "many"] (defScope s__law_deck) := ⟨rfl, rfl, rfl, by decide +kernel, rfl, by decide +kernel, by decide +kernel⟩
abbrev s__law_take : Stmt := topS 54
theorem sc__law_take : FnScope ["deck", "many"] ["deck", "many"] (defScope s__law_take) := ⟨rfl, rfl, rfl, by decide +kernel, rfl, by decide +kernel, by decide +kernel⟩
abbrev s__law_weights : Stmt := topS 55
theorem sc__law_weights : FnScope ["deck", "s", "most", "k"] ["deck", "s"] (defScope s__law_weights) := ⟨rfl, rfl, rfl, by decide +kernel, rfl, by decide +kernel, by decide +kernel⟩
abbrev s__law_condition : Stmt := topS 56
theorem sc__law_condition : FnScope ["deck", "s", "deep", "way", "m", "one"] ["deck", "s", "deep"] (defScope s__law_condition) := ⟨rfl, rfl, rfl, by decide +kernel, rfl, by decide +kernel, by decide +kernel⟩
abbrev s__law_rules : Stmt := topS 57
theorem sc__law_rules : FnScope ["deck", "most", "letters", "some", "letter", "states", "rows", "deep", "many", "k", "condition"] ["deck", "most"] (defScope s__law_rules) := ⟨rfl, rfl, rfl, by decide +kernel, rfl, by decide +kernel, by decide +kernel⟩
abbrev s__law_tree : Stmt := topS 58
theorem sc__law_tree : FnScope ["deck", "letters", "most", "many", "way", "trees", "depths", "k", "head"] ["deck", "letters", "most"] (defScope s__law_tree) := ⟨rfl, rfl, rfl, by decide +kernel, rfl, by decide +kernel, by decide +kernel⟩
abbrev s__law_judged : Stmt := topS 59
theorem sc__law_judged : FnScope ["judge", "tree", "letters", "states", "few", "turn", "table", "good", "numbers", "child", "at", "classes", "number"] ["judge", "tree"] (defScope s__law_judged) := ⟨rfl, rfl, rfl, by decide +kernel, rfl, by decide +kernel, by decide +kernel⟩
abbrev s__law_lesser : Stmt := topS 60
theorem sc__law_lesser : FnScope ["condition", "most", "m", "one"] ["condition", "most"] (defScope s__law_lesser) := ⟨rfl, rfl, rfl, by decide +kernel, rfl, by decide +kernel, by decide +kernel⟩
abbrev s__law_lesser_rules : Stmt := topS 61
theorem sc__law_lesser_rules : FnScope ["rules", "rows", "letter", "some", "condition", "state"] ["rules"] (defScope s__law_lesser_rules) := ⟨rfl, rfl, rfl, by decide +kernel, rfl, by decide +kernel, by decide +kernel⟩
abbrev s__law_made : Stmt := topS 62
theorem sc__law_made : FnScope ["rules", "found"] ["rules"] (defScope s__law_made) := ⟨rfl, rfl, rfl, by decide +kernel, rfl, by decide +kernel, by decide +kernel⟩
abbrev s__law_wide : Stmt := topS 63
theorem sc__law_wide : FnScope ["deck", "letters", "one", "more", "many", "k"] ["deck", "letters"] (defScope s__law_wide) := ⟨rfl, rfl, rfl, by decide +kernel, rfl, by decide +kernel, by decide +kernel⟩
abbrev s__law_agrees : Stmt := topS 64
theorem sc__law_agrees : FnScope ["judge", "tree", "state", "good"] ["judge", "tree", "state", "good"] (defScope s__law_agrees) := ⟨rfl, rfl, rfl, by decide +kernel, rfl, by decide +kernel, by decide +kernel⟩
abbrev s_law : Stmt := topS 65
theorem sc_law : FnScope ["script", "k", "deck", "rules", "judge", "others", "state", "turned", "trees", "tree", "good", "turn"] ["script"] (defScope s_law) := ⟨rfl, rfl, rfl, by decide +kernel, rfl, by decide +kernel, by decide +kernel⟩
structure Txt (K : PySem.W.Frag) (mg : Str → Option Value) where
  f_is_whole : Addr
  d_is_whole : FuncData
  F_is_whole : Fun K "is_whole" "is_whole" s_is_whole f_is_whole d_is_whole
  b_is_whole : Binds K d_is_whole ["thing"] []
  m_is_whole : mg "is_whole" = some (.ref f_is_whole)
  f_is_whole_within : Addr
  d_is_whole_within : FuncData
  F_is_whole_within : Fun K "is_whole_within" "is_whole_within" s_is_whole_within f_is_whole_within d_is_whole_within
  b_is_whole_within : Binds K d_is_whole_within ["thing", "low", "high"] []
  m_is_whole_within : mg "is_whole_within" = some (.ref f_is_whole_within)
  f_is_letter : Addr
  d_is_letter : FuncData
  F_is_letter : Fun K "is_letter" "is_letter" s_is_letter f_is_letter d_is_letter
  b_is_letter : Binds K d_is_letter ["thing"] []
  m_is_letter : mg "is_letter" = some (.ref f_is_letter)
  f_is_tree : Addr
  d_is_tree : FuncData
  F_is_tree : Fun K "is_tree" "is_tree" s_is_tree f_is_tree d_is_tree
  b_is_tree : Binds K d_is_tree ["thing"] []
  m_is_tree : mg "is_tree" = some (.ref f_is_tree)
  f__is_part : Addr
  d__is_part : FuncData
  F__is_part : Fun K "_is_part" "_is_part" s__is_part f__is_part d__is_part
  b__is_part : Binds K d__is_part ["thing"] []
  m__is_part : mg "_is_part" = some (.ref f__is_part)
  f_check_tree : Addr
  d_check_tree : FuncData
  F_check_tree : Fun K "check_tree" "check_tree" s_check_tree f_check_tree d_check_tree
  b_check_tree : Binds K d_check_tree ["thing"] []
  m_check_tree : mg "check_tree" = some (.ref f_check_tree)
  f_parts_upward : Addr
  d_parts_upward : FuncData
  F_parts_upward : Fun K "parts_upward" "parts_upward" s_parts_upward f_parts_upward d_parts_upward
  b_parts_upward : Binds K d_parts_upward ["tree"] []
  m_parts_upward : mg "parts_upward" = some (.ref f_parts_upward)
  f_built_upward : Addr
  d_built_upward : FuncData
  F_built_upward : Fun K "built_upward" "built_upward" s_built_upward f_built_upward d_built_upward
  b_built_upward : Binds K d_built_upward ["tree", "made"] []
  m_built_upward : mg "built_upward" = some (.ref f_built_upward)
  f_is_judge : Addr
  d_is_judge : FuncData
  F_is_judge : Fun K "is_judge" "is_judge" s_is_judge f_is_judge d_is_judge
  b_is_judge : Binds K d_is_judge ["thing"] []
  m_is_judge : mg "is_judge" = some (.ref f_is_judge)
  f_may_have_table : Addr
  d_may_have_table : FuncData
  F_may_have_table : Fun K "may_have_table" "may_have_table" s_may_have_table f_may_have_table d_may_have_table
  b_may_have_table : Binds K d_may_have_table ["letters", "states", "few", "turn"] []
  m_may_have_table : mg "may_have_table" = some (.ref f_may_have_table)
  f_are_letters : Addr
  d_are_letters : FuncData
  F_are_letters : Fun K "are_letters" "are_letters" s_are_letters f_are_letters d_are_letters
  b_are_letters : Binds K d_are_letters ["thing"] []
  m_are_letters : mg "are_letters" = some (.ref f_are_letters)
  f_are_rising_states : Addr
  d_are_rising_states : FuncData
  F_are_rising_states : Fun K "are_rising_states" "are_rising_states" s_are_rising_states f_are_rising_states d_are_rising_states
  b_are_rising_states : Binds K d_are_rising_states ["thing", "states"] []
  m_are_rising_states : mg "are_rising_states" = some (.ref f_are_rising_states)
  f__rises : Addr
  d__rises : FuncData
  F__rises : Fun K "_rises" "_rises" s__rises f__rises d__rises
  b__rises : Binds K d__rises ["row"] []
  m__rises : mg "_rises" = some (.ref f__rises)
  f_tuples_due : Addr
  d_tuples_due : FuncData
  F_tuples_due : Fun K "tuples_due" "tuples_due" s_tuples_due f_tuples_due d_tuples_due
  b_tuples_due : Binds K d_tuples_due ["letters", "states", "classes"] []
  m_tuples_due : mg "tuples_due" = some (.ref f_tuples_due)
  f__is_table : Addr
  d__is_table : FuncData
  F__is_table : Fun K "_is_table" "_is_table" s__is_table f__is_table d__is_table
  b__is_table : Binds K d__is_table ["thing", "letters", "states", "classes"] []
  m__is_table : mg "_is_table" = some (.ref f__is_table)
  f__is_key : Addr
  d__is_key : FuncData
  F__is_key : Fun K "_is_key" "_is_key" s__is_key f__is_key d__is_key
  b__is_key : Binds K d__is_key ["thing", "letters", "states", "classes"] []
  m__is_key : mg "_is_key" = some (.ref f__is_key)
  f_class_of : Addr
  d_class_of : FuncData
  F_class_of : Fun K "class_of" "class_of" s_class_of f_class_of d_class_of
  b_class_of : Binds K d_class_of ["number", "few", "turn"] []
  m_class_of : mg "class_of" = some (.ref f_class_of)
  f_class_rows : Addr
  d_class_rows : FuncData
  F_class_rows : Fun K "class_rows" "class_rows" s_class_rows f_class_rows d_class_rows
  b_class_rows : Binds K d_class_rows ["states", "classes"] []
  m_class_rows : mg "class_rows" = some (.ref f_class_rows)
  f_keys_due : Addr
  d_keys_due : FuncData
  F_keys_due : Fun K "keys_due" "keys_due" s_keys_due f_keys_due d_keys_due
  b_keys_due : Binds K d_keys_due ["letters", "states", "classes"] []
  m_keys_due : mg "keys_due" = some (.ref f_keys_due)
  f_table_made : Addr
  d_table_made : FuncData
  F_table_made : Fun K "table_made" "table_made" s_table_made f_table_made d_table_made
  b_table_made : Binds K d_table_made ["letters", "states", "few", "turn", "state_at"] []
  m_table_made : mg "table_made" = some (.ref f_table_made)
  f_state_by_numbers : Addr
  d_state_by_numbers : FuncData
  F_state_by_numbers : Fun K "state_by_numbers" "state_by_numbers" s_state_by_numbers f_state_by_numbers d_state_by_numbers
  b_state_by_numbers : Binds K d_state_by_numbers ["judge", "letter", "numbers"] []
  m_state_by_numbers : mg "state_by_numbers" = some (.ref f_state_by_numbers)
  f__numbers : Addr
  d__numbers : FuncData
  F__numbers : Fun K "_numbers" "_numbers" s__numbers f__numbers d__numbers
  b__numbers : Binds K d__numbers ["below", "states"] []
  m__numbers : mg "_numbers" = some (.ref f__numbers)
  f_check_letters : Addr
  d_check_letters : FuncData
  F_check_letters : Fun K "check_letters" "check_letters" s_check_letters f_check_letters d_check_letters
  b_check_letters : Binds K d_check_letters ["parts", "letters"] []
  m_check_letters : mg "check_letters" = some (.ref f_check_letters)
  f_states_upward : Addr
  d_states_upward : FuncData
  F_states_upward : Fun K "states_upward" "states_upward" s_states_upward f_states_upward d_states_upward
  b_states_upward : Binds K d_states_upward ["tree", "letters", "states", "state_at"] []
  m_states_upward : mg "states_upward" = some (.ref f_states_upward)
  f_part_states : Addr
  d_part_states : FuncData
  F_part_states : Fun K "part_states" "part_states" s_part_states f_part_states d_part_states
  b_part_states : Binds K d_part_states ["judge", "tree"] []
  m_part_states : mg "part_states" = some (.ref f_part_states)
  f_state_of : Addr
  d_state_of : FuncData
  F_state_of : Fun K "state_of" "state_of" s_state_of f_state_of d_state_of
  b_state_of : Binds K d_state_of ["judge", "tree"] []
  m_state_of : mg "state_of" = some (.ref f_state_of)
  f_lets_by : Addr
  d_lets_by : FuncData
  F_lets_by : Fun K "lets_by" "lets_by" s_lets_by f_lets_by d_lets_by
  b_lets_by : Binds K d_lets_by ["judge", "tree"] []
  m_lets_by : mg "lets_by" = some (.ref f_lets_by)
  f_condition_holds : Addr
  d_condition_holds : FuncData
  F_condition_holds : Fun K "condition_holds" "condition_holds" s_condition_holds f_condition_holds d_condition_holds
  b_condition_holds : Binds K d_condition_holds ["condition", "numbers"] []
  m_condition_holds : mg "condition_holds" = some (.ref f_condition_holds)
  f__weighed : Addr
  d__weighed : FuncData
  F__weighed : Fun K "_weighed" "_weighed" s__weighed f__weighed d__weighed
  b__weighed : Binds K d__weighed ["weights", "numbers"] []
  m__weighed : mg "_weighed" = some (.ref f__weighed)
  f__state_by_rows : Addr
  d__state_by_rows : FuncData
  F__state_by_rows : Fun K "_state_by_rows" "_state_by_rows" s__state_by_rows f__state_by_rows d__state_by_rows
  b__state_by_rows : Binds K d__state_by_rows ["rows", "numbers"] []
  m__state_by_rows : mg "_state_by_rows" = some (.ref f__state_by_rows)
  f_state_by_rules : Addr
  d_state_by_rules : FuncData
  F_state_by_rules : Fun K "state_by_rules" "state_by_rules" s_state_by_rules f_state_by_rules d_state_by_rules
  b_state_by_rules : Binds K d_state_by_rules ["rules", "tree"] []
  m_state_by_rules : mg "state_by_rules" = some (.ref f_state_by_rules)
  f_rules_let_by : Addr
  d_rules_let_by : FuncData
  F_rules_let_by : Fun K "rules_let_by" "rules_let_by" s_rules_let_by f_rules_let_by d_rules_let_by
  b_rules_let_by : Binds K d_rules_let_by ["rules", "tree"] []
  m_rules_let_by : mg "rules_let_by" = some (.ref f_rules_let_by)
  f_judge_made : Addr
  d_judge_made : FuncData
  F_judge_made : Fun K "judge_made" "judge_made" s_judge_made f_judge_made d_judge_made
  b_judge_made : Binds K d_judge_made ["rules"] []
  m_judge_made : mg "judge_made" = some (.ref f_judge_made)
  f__few_and_turn : Addr
  d__few_and_turn : FuncData
  F__few_and_turn : Fun K "_few_and_turn" "_few_and_turn" s__few_and_turn f__few_and_turn d__few_and_turn
  b__few_and_turn : Binds K d__few_and_turn ["conditions"] []
  m__few_and_turn : mg "_few_and_turn" = some (.ref f__few_and_turn)
  f__plain_ones : Addr
  d__plain_ones : FuncData
  F__plain_ones : Fun K "_plain_ones" "_plain_ones" s__plain_ones f__plain_ones d__plain_ones
  b__plain_ones : Binds K d__plain_ones ["condition"] []
  m__plain_ones : mg "_plain_ones" = some (.ref f__plain_ones)
  f__law_cell_at : Addr
  d__law_cell_at : FuncData
  F__law_cell_at : Fun K "_law_cell_at" "_law_cell_at" s__law_cell_at f__law_cell_at d__law_cell_at
  b__law_cell_at : Binds K d__law_cell_at ["script", "k"] []
  m__law_cell_at : mg "_law_cell_at" = some (.ref f__law_cell_at)
  f__law_numbers : Addr
  d__law_numbers : FuncData
  F__law_numbers : Fun K "_law_numbers" "_law_numbers" s__law_numbers f__law_numbers d__law_numbers
  b__law_numbers : Binds K d__law_numbers ["cell", "many"] []
  m__law_numbers : mg "_law_numbers" = some (.ref f__law_numbers)
  f__law_deck : Addr
  d__law_deck : FuncData
  F__law_deck : Fun K "_law_deck" "_law_deck" s__law_deck f__law_deck d__law_deck
  b__law_deck : Binds K d__law_deck ["cell", "many"] []
  m__law_deck : mg "_law_deck" = some (.ref f__law_deck)
  f__law_take : Addr
  d__law_take : FuncData
  F__law_take : Fun K "_law_take" "_law_take" s__law_take f__law_take d__law_take
  b__law_take : Binds K d__law_take ["deck", "many"] []
  m__law_take : mg "_law_take" = some (.ref f__law_take)
  f__law_weights : Addr
  d__law_weights : FuncData
  F__law_weights : Fun K "_law_weights" "_law_weights" s__law_weights f__law_weights d__law_weights
  b__law_weights : Binds K d__law_weights ["deck", "s"] []
  m__law_weights : mg "_law_weights" = some (.ref f__law_weights)
  f__law_condition : Addr
  d__law_condition : FuncData
  F__law_condition : Fun K "_law_condition" "_law_condition" s__law_condition f__law_condition d__law_condition
  b__law_condition : Binds K d__law_condition ["deck", "s", "deep"] []
  m__law_condition : mg "_law_condition" = some (.ref f__law_condition)
  f__law_rules : Addr
  d__law_rules : FuncData
  F__law_rules : Fun K "_law_rules" "_law_rules" s__law_rules f__law_rules d__law_rules
  b__law_rules : Binds K d__law_rules ["deck", "most"] []
  m__law_rules : mg "_law_rules" = some (.ref f__law_rules)
  f__law_tree : Addr
  d__law_tree : FuncData
  F__law_tree : Fun K "_law_tree" "_law_tree" s__law_tree f__law_tree d__law_tree
  b__law_tree : Binds K d__law_tree ["deck", "letters", "most"] []
  m__law_tree : mg "_law_tree" = some (.ref f__law_tree)
  f__law_judged : Addr
  d__law_judged : FuncData
  F__law_judged : Fun K "_law_judged" "_law_judged" s__law_judged f__law_judged d__law_judged
  b__law_judged : Binds K d__law_judged ["judge", "tree"] []
  m__law_judged : mg "_law_judged" = some (.ref f__law_judged)
  f__law_lesser : Addr
  d__law_lesser : FuncData
  F__law_lesser : Fun K "_law_lesser" "_law_lesser" s__law_lesser f__law_lesser d__law_lesser
  b__law_lesser : Binds K d__law_lesser ["condition", "most"] []
  m__law_lesser : mg "_law_lesser" = some (.ref f__law_lesser)
  f__law_lesser_rules : Addr
  d__law_lesser_rules : FuncData
  F__law_lesser_rules : Fun K "_law_lesser_rules" "_law_lesser_rules" s__law_lesser_rules f__law_lesser_rules d__law_lesser_rules
  b__law_lesser_rules : Binds K d__law_lesser_rules ["rules"] []
  m__law_lesser_rules : mg "_law_lesser_rules" = some (.ref f__law_lesser_rules)
  f__law_made : Addr
  d__law_made : FuncData
  F__law_made : Fun K "_law_made" "_law_made" s__law_made f__law_made d__law_made
  b__law_made : Binds K d__law_made ["rules"] []
  m__law_made : mg "_law_made" = some (.ref f__law_made)
  f__law_wide : Addr
  d__law_wide : FuncData
  F__law_wide : Fun K "_law_wide" "_law_wide" s__law_wide f__law_wide d__law_wide
  b__law_wide : Binds K d__law_wide ["deck", "letters"] []
  m__law_wide : mg "_law_wide" = some (.ref f__law_wide)
  f__law_agrees : Addr
  d__law_agrees : FuncData
  F__law_agrees : Fun K "_law_agrees" "_law_agrees" s__law_agrees f__law_agrees d__law_agrees
  b__law_agrees : Binds K d__law_agrees ["judge", "tree", "state", "good"] []
  m__law_agrees : mg "_law_agrees" = some (.ref f__law_agrees)
  f_law : Addr
  d_law : FuncData
  F_law : Fun K "law" "law" s_law f_law d_law
  b_law : Binds K d_law ["script"] []
  m_law : mg "law" = some (.ref f_law)
  t_MOST_STATES : Tok
  g_MOST_STATES : mg "MOST_STATES" = some (.int 6 t_MOST_STATES)
  t_MOST_FEW : Tok
  g_MOST_FEW : mg "MOST_FEW" = some (.int 4 t_MOST_FEW)
  t_MOST_TURN : Tok
  g_MOST_TURN : mg "MOST_TURN" = some (.int 4 t_MOST_TURN)
  t_MOST_TUPLES : Tok
  g_MOST_TUPLES : mg "MOST_TUPLES" = some (.int 600 t_MOST_TUPLES)
  a_MADE_OF_OTHERS : Addr
  g_MADE_OF_OTHERS : mg "MADE_OF_OTHERS" = some (.ref a_MADE_OF_OTHERS)
  g_lcm : mg "lcm" = some (.builtin "math.lcm")
  c_states_upward : Addr
  P_states_upward : Addr
  h_states_upward : d_states_upward.code = .ref c_states_upward
  c_part_states : Addr
  P_part_states : Addr
  h_part_states : d_part_states.code = .ref c_part_states
  c_state_by_rules : Addr
  P_state_by_rules : Addr
  h_state_by_rules : d_state_by_rules.code = .ref c_state_by_rules
  c_judge_made : Addr
  P_judge_made : Addr
  h_judge_made : d_judge_made.code = .ref c_judge_made
  n_states_upward_part_states : P_states_upward ≠ P_part_states
  n_states_upward_state_by_rules : P_states_upward ≠ P_state_by_rules
  n_part_states_state_by_rules : P_part_states ≠ P_state_by_rules
  n_states_upward_judge_made : P_states_upward ≠ P_judge_made
  n_part_states_judge_made : P_part_states ≠ P_judge_made
  n_state_by_rules_judge_made : P_state_by_rules ≠ P_judge_made
  z_all : mg "all" = none
  z_bool : mg "bool" = none
  z_dict : mg "dict" = none
  z_enumerate : mg "enumerate" = none
  z_int : mg "int" = none
  z_isinstance : mg "isinstance" = none
  z_len : mg "len" = none
  z_list : mg "list" = none
  z_max : mg "max" = none
  z_min : mg "min" = none
  z_range : mg "range" = none
  z_str : mg "str" = none
  z_sum : mg "sum" = none
  z_tuple : mg "tuple" = none
  z_zip : mg "zip" = none
  C_NoTree : Addr
  C_NoLetter : Addr
  C_TooMany : Addr
  g_NoTree : mg "NoTree" = some (.ref C_NoTree)
  k_NoTree : PySem.W.keepIn K (.ref C_NoTree) = true
  g_NoLetter : mg "NoLetter" = some (.ref C_NoLetter)
  k_NoLetter : PySem.W.keepIn K (.ref C_NoLetter) = true
  g_TooMany : mg "TooMany" = some (.ref C_TooMany)
  k_TooMany : PySem.W.keepIn K (.ref C_TooMany) = true
  x_NoTree : PySem.W.excIn K C_NoTree [.type "ValueError", .type "Exception", .type "BaseException", .type "object"] "ValueError.__new__" = true
  b_NoTree : PySem.W.subIn K (.ref C_NoTree) (.type "BaseException") = some true
  t_NoTree : PySem.W.typeIn K (.ref C_NoTree) = some (.type "type")
  E_NoTree : ExcC K C_NoTree
  em_NoTree_TooMany : PySem.W.exmOne K (.ref C_NoTree) (.ref C_TooMany) = some false
  x_NoLetter : PySem.W.excIn K C_NoLetter [.type "ValueError", .type "Exception", .type "BaseException", .type "object"] "ValueError.__new__" = true
  b_NoLetter : PySem.W.subIn K (.ref C_NoLetter) (.type "BaseException") = some true
  t_NoLetter : PySem.W.typeIn K (.ref C_NoLetter) = some (.type "type")
  E_NoLetter : ExcC K C_NoLetter
  em_NoLetter_TooMany : PySem.W.exmOne K (.ref C_NoLetter) (.ref C_TooMany) = some false
  x_TooMany : PySem.W.excIn K C_TooMany [.type "ValueError", .type "Exception", .type "BaseException", .type "object"] "ValueError.__new__" = true
  b_TooMany : PySem.W.subIn K (.ref C_TooMany) (.type "BaseException") = some true
  t_TooMany : PySem.W.typeIn K (.ref C_TooMany) = some (.type "type")
  E_TooMany : ExcC K C_TooMany
  em_TooMany_TooMany : PySem.W.exmOne K (.ref C_TooMany) (.ref C_TooMany) = some true
structure Tbs {K : PySem.W.Frag} {mg : Str → Option Value} (T : Txt K mg) (base : Heap) : Prop where
  tb_states_upward : LamX.TabB base mg T.c_states_upward T.P_states_upward
  tb_part_states : LamX.TabB base mg T.c_part_states T.P_part_states
  tb_state_by_rules : LamX.TabB base mg T.c_state_by_rules T.P_state_by_rules
  tb_judge_made : LamX.TabB base mg T.c_judge_made T.P_judge_made
abbrev q_states_upward : Str := "states_upward" ++ ".<locals>." ++ "next_state"
abbrev q_part_states : Str := "part_states" ++ ".<locals>." ++ "<lambda>"
abbrev q_state_by_rules : Str := "state_by_rules" ++ ".<locals>." ++ "<lambda>"
abbrev q_judge_made : Str := "judge_made" ++ ".<locals>." ++ "<lambda>"
local macro_rules | `(tactic| walk_at "my rd") => `(tactic| repeat (first | refine ⟨_, rfl, ?_⟩ | refine ⟨_, _, rfl, rfl, ?_⟩ | refine ⟨rfl, ?_⟩))
local macro_rules | `(tactic| walk_at "my one") => `(tactic| first | refine ⟨_, rfl, ?_⟩ | refine ⟨_, _, rfl, rfl, ?_⟩ | refine ⟨rfl, ?_⟩)
def Chg (p : Addr) (H H' : Hp) : Prop := ∀ b, b ≠ p → H' b = H b
theorem Chg.refl (p : Addr) (H : Hp) : Chg p H H := fun _ _ => rfl
theorem Chg.trans {p : Addr} {H H1 H2 : Hp} (a : Chg p H H1) (b : Chg p H1 H2) : Chg p H H2 := fun c hc => (b c hc).trans (a c hc)
theorem Chg.upd {p : Addr} {H : Hp} {o : HO} : Chg p H (upd H p o) := fun _ h => upd_ne h
theorem Chg.at {p b : Addr} {H H' : Hp} {o : HO} (c : Chg p H H') (h : H b = some o) (n : b ≠ p) : H' b = some o := (c b n).trans h
theorem Chg.seq {K : PySem.W.Frag} {p a : Addr} {H H' : Hp} {xs : List V} (c : Chg p H H') (hp : H p = none) (h : SqL K H a xs) : SqL K H' a xs := by
  rcases h with (h | ⟨o, h⟩) | h
  · exact .inl (.inl (c.at h (ne_of_none h hp)))
  · exact .inl (.inr ⟨o, c.at h (ne_of_none h hp)⟩)
  · exact .inr h
theorem same_new {H : Hp} {p : Addr} {o : HO} (h : H p = none) : Same H (upd H p o) := fun b u q => by rw [upd_ne (ne_of_none q h)]; exact q
theorem nn_mul {a b A B : Int} (h0 : 0 ≤ a) (h1 : a ≤ A) (g0 : 0 ≤ b) (g1 : b ≤ B) : 0 ≤ a * b ∧ a * b ≤ A * B :=
  ⟨Int.mul_nonneg h0 g0, Int.mul_le_mul h1 g1 g0 (Int.le_trans h0 h1)⟩
theorem divW {i j : Int} (h : 0 < j) (h2 : j < 2 ^ 60) : CDivW i j := wide_div (b := 60) h (by omega) (by decide) (by decide)

theorem lay_ints : ∀ xs : List Int, PyData.canLayAll0 (xs.map PyData.int) = true
  | [] => by simp only [List.map_nil, PyData.canLayAll0]
  | x :: r => by simp only [List.map_cons, PyData.canLayAll0, PyData.canLay0, lay_ints r, Bool.and_self]
theorem dep_ints : ∀ xs : List Int, PyData.depthAll (xs.map PyData.int) ≤ 1
  | [] => by simp only [List.map_nil, PyData.depthAll]; omega
  | x :: r => by
    have := dep_ints r
    simp only [List.map_cons, PyData.depthAll, PyData.depth]
    omega
theorem shaped_ints (xs : List Int) : SeqAt.shaped (.list (xs.map PyData.int)) = true := by
  have a := lay_ints xs
  have b := dep_ints xs
  unfold SeqAt.shaped
  rw [Bool.and_eq_true]
  refine ⟨by simp only [PyData.canLay0]; exact a, decide_eq_true ?_⟩
  simp only [PyData.depth]
  omega
theorem dp_ints {K : PySem.W.Frag} {H : Hp} : ∀ xs : List Int, DpAll K H (xs.map V.int) (xs.map PyData.int)
  | [] => .nil
  | x :: r => .cons (.int x) (dp_ints r)
theorem dp_intsL {K : PySem.W.Frag} {H : Hp} {a : Addr} {xs : List Int} (h : SqL K H a (xs.map V.int)) : Dp K H (.ref a) (.list (xs.map PyData.int)) := .lst h (dp_ints xs)
theorem eqv_self {d : PyData} (h : SeqAt.shaped d = true) : PyData.eqv d d = true := SeqAt.eqv_refl d (SeqAt.canLay_of_shaped h)

inductive Tr where
  | node (c : Nat) (ks : List Tr)
def ch (c : Nat) : Str := ⟨#[c]⟩
mutual
def Tr.size : Tr → Nat
  | .node _ ks => 1 + sizes ks
def sizes : List Tr → Nat
  | [] => 0
  | t :: r => t.size + sizes r
end
mutual
def Tr.depth : Tr → Nat
  | .node _ ks => 1 + depths ks
def depths : List Tr → Nat
  | [] => 0
  | t :: r => max t.depth (depths r)
end
mutual
def Tr.post : Tr → List Tr
  | .node c ks => posts ks ++ [.node c ks]
def posts : List Tr → List Tr
  | [] => []
  | t :: r => t.post ++ posts r
end

mutual
def Tr.lets (p : Nat → Prop) : Tr → Prop
  | .node c ks => p c ∧ letss p ks
def letss (p : Nat → Prop) : List Tr → Prop
  | [] => True
  | t :: r => t.lets p ∧ letss p r
end
def Tr.kids : Tr → List Tr
  | .node _ ks => ks
def Tr.top : Tr → Nat
  | .node c _ => c
theorem sizes_append : ∀ a b : List Tr, sizes (a ++ b) = sizes a + sizes b
  | [], b => by simp only [List.nil_append, sizes]; omega
  | t :: r, b => by simp only [List.cons_append, sizes, sizes_append r b]; omega
theorem depths_append : ∀ a b : List Tr, depths (a ++ b) = max (depths a) (depths b)
  | [], b => by simp only [List.nil_append, depths]; omega
  | t :: r, b => by simp only [List.cons_append, depths, depths_append r b]; omega
theorem posts_append : ∀ a b : List Tr, posts (a ++ b) = posts a ++ posts b
  | [], b => by simp only [List.nil_append, posts]
  | t :: r, b => by simp only [List.cons_append, posts, posts_append r b, List.append_assoc]
theorem letss_append (p : Nat → Prop) : ∀ a b : List Tr, letss p (a ++ b) ↔ letss p a ∧ letss p b
  | [], b => by simp only [List.nil_append, letss, true_and]
  | t :: r, b => by simp only [List.cons_append, letss, letss_append p r b, and_assoc]
theorem size_pos : ∀ t : Tr, 1 ≤ t.size
  | .node c ks => by simp only [Tr.size]; omega
theorem len_sizes : ∀ ts : List Tr, ts.length ≤ sizes ts
  | [] => Nat.le_refl _
  | t :: r => by
    have a := size_pos t
    have b := len_sizes r
    simp only [List.length_cons, sizes]
    omega
mutual
theorem post_len : ∀ t : Tr, t.post.length = t.size
  | .node c ks => by simp only [Tr.post, List.length_append, posts_len ks, List.length_singleton, Tr.size]; omega
theorem posts_len : ∀ ts : List Tr, (posts ts).length = sizes ts
  | [] => rfl
  | t :: r => by simp only [posts, List.length_append, post_len t, posts_len r, sizes]
end
theorem sizes_mem : ∀ {ts : List Tr} {t : Tr}, t ∈ ts → t.size ≤ sizes ts
  | u :: r, t, h => by
    rcases List.mem_cons.mp h with e | h
    · subst e; simp only [sizes]; omega
    · have := sizes_mem h
      simp only [sizes]; omega
theorem depths_mem : ∀ {ts : List Tr} {t : Tr}, t ∈ ts → t.depth ≤ depths ts
  | u :: r, t, h => by
    rcases List.mem_cons.mp h with e | h
    · subst e; simp only [depths]; omega
    · have := depths_mem h
      simp only [depths]; omega
theorem letss_mem {p : Nat → Prop} : ∀ {ts : List Tr} {t : Tr}, letss p ts → t ∈ ts → t.lets p
  | u :: r, t, hl, h => by
    simp only [letss] at hl
    rcases List.mem_cons.mp h with e | h
    · subst e; exact hl.1
    · exact letss_mem hl.2 h
mutual
theorem lets_mono {p q : Nat → Prop} (h : ∀ c, p c → q c) : ∀ t : Tr, t.lets p → t.lets q
  | .node c ks, a => by
    simp only [Tr.lets] at a ⊢
    exact ⟨h _ a.1, letss_mono h ks a.2⟩
theorem letss_mono {p q : Nat → Prop} (h : ∀ c, p c → q c) : ∀ ts : List Tr, letss p ts → letss q ts
  | [], _ => trivial
  | t :: r, a => by
    simp only [letss] at a ⊢
    exact ⟨lets_mono h t a.1, letss_mono h r a.2⟩
end
mutual
inductive TrAt (ok : Addr → Prop) (H : Hp) : V → Tr → Prop
  | node {a l : Addr} {vs : List V} {c : Nat} {ks : List Tr} : H a = some (.tup [.str (ch c), .ref l]) → H l = some (.lst vs) → ok a → ok l → 97 ≤ c → c ≤ 122 → TrsAt ok H vs ks → TrAt ok H (.ref a) (.node c ks)
inductive TrsAt (ok : Addr → Prop) (H : Hp) : List V → List Tr → Prop
  | nil : TrsAt ok H [] []
  | cons {v : V} {vs : List V} {t : Tr} {ts : List Tr} : TrAt ok H v t → TrsAt ok H vs ts → TrsAt ok H (v :: vs) (t :: ts)
end
section
variable {ok ok' : Addr → Prop} {H H' : Hp}
mutual
theorem TrAt.imp (hk : ∀ b, ok b → ok' b) (h : ∀ b o, ok b → H b = some o → H' b = some o) : ∀ (t : Tr) (v : V), TrAt ok H v t → TrAt ok' H' v t
  | .node c ks, v, x => by
    cases x with
    | node h1 h2 k1 k2 c1 c2 r => exact .node (h _ _ k1 h1) (h _ _ k2 h2) (hk _ k1) (hk _ k2) c1 c2 (TrsAt.imp hk h ks _ r)
theorem TrsAt.imp (hk : ∀ b, ok b → ok' b) (h : ∀ b o, ok b → H b = some o → H' b = some o) : ∀ (ts : List Tr) (vs : List V), TrsAt ok H vs ts → TrsAt ok' H' vs ts
  | [], _, x => by cases x; exact .nil
  | t :: r, _, x => by
    cases x with
    | cons a b => exact .cons (TrAt.imp hk h t _ a) (TrsAt.imp hk h r _ b)
end
theorem TrAt.keep {v : V} {t : Tr} (x : TrAt ok H v t) (h : ∀ b o, ok b → H b = some o → H' b = some o) : TrAt ok H' v t := TrAt.imp (fun _ k => k) h t v x
theorem TrsAt.keep {vs : List V} {ts : List Tr} (x : TrsAt ok H vs ts) (h : ∀ b o, ok b → H b = some o → H' b = some o) : TrsAt ok H' vs ts := TrsAt.imp (fun _ k => k) h ts vs x
theorem TrAt.weak {v : V} {t : Tr} (x : TrAt ok H v t) (h : ∀ b, ok b → ok' b) : TrAt ok' H v t := TrAt.imp h (fun _ _ _ e => e) t v x
theorem TrsAt.weak {vs : List V} {ts : List Tr} (x : TrsAt ok H vs ts) (h : ∀ b, ok b → ok' b) : TrsAt ok' H vs ts := TrsAt.imp h (fun _ _ _ e => e) ts vs x
mutual
theorem TrAt.there : ∀ (t : Tr) (v : V), TrAt ok H v t → TrAt (fun b => ok b ∧ ∃ o, H b = some o) H v t
  | .node c ks, v, x => by
    cases x with
    | node h1 h2 k1 k2 c1 c2 r => exact .node h1 h2 ⟨k1, _, h1⟩ ⟨k2, _, h2⟩ c1 c2 (TrsAt.there ks _ r)
theorem TrsAt.there : ∀ (ts : List Tr) (vs : List V), TrsAt ok H vs ts → TrsAt (fun b => ok b ∧ ∃ o, H b = some o) H vs ts
  | [], _, x => by cases x; exact .nil
  | t :: r, _, x => by
    cases x with
    | cons a b => exact .cons (TrAt.there t _ a) (TrsAt.there r _ b)
end
theorem TrsAt.len : ∀ {vs : List V} {ts : List Tr}, TrsAt ok H vs ts → vs.length = ts.length
  | [], [], _ => rfl
  | v :: vs, t :: ts, h => by
    cases h with
    | cons a b => simp only [List.length_cons, TrsAt.len b]
  | [], _ :: _, h => by cases h
  | _ :: _, [], h => by cases h
theorem TrsAt.get : ∀ {vs : List V} {ts : List Tr} {i : Nat} {t : Tr}, TrsAt ok H vs ts → ts[i]? = some t → ∃ v, vs[i]? = some v ∧ TrAt ok H v t
  | _, _, i, t, .nil, e => by simp at e
  | _, _, 0, t, .cons a _, e => by simp at e; subst e; exact ⟨_, rfl, a⟩
  | _, _, i + 1, t, .cons _ b, e => by
    obtain ⟨v, h1, h2⟩ := TrsAt.get (i := i) (t := t) b (by simpa using e)
    exact ⟨v, by simpa using h1, h2⟩
theorem TrsAt.getV : ∀ {vs : List V} {ts : List Tr} {i : Nat} {v : V}, TrsAt ok H vs ts → vs[i]? = some v → ∃ t, ts[i]? = some t ∧ TrAt ok H v t
  | _, _, i, t, .nil, e => by simp at e
  | _, _, 0, t, .cons a _, e => by simp at e; subst e; exact ⟨_, rfl, a⟩
  | _, _, i + 1, t, .cons _ b, e => by
    obtain ⟨v, h1, h2⟩ := TrsAt.getV (i := i) (v := t) b (by simpa using e)
    exact ⟨v, by simpa using h1, h2⟩
theorem TrsAt.append : ∀ {vs ws : List V} {ts us : List Tr}, TrsAt ok H vs ts → TrsAt ok H ws us → TrsAt ok H (vs ++ ws) (ts ++ us)
  | [], _, [], _, _, h => h
  | v :: vs, _, t :: ts, _, h, g => by
    cases h with
    | cons a b => exact .cons a (TrsAt.append b g)
  | [], _, _ :: _, _, h, _ => by cases h
  | _ :: _, _, [], _, h, _ => by cases h
theorem TrsAt.split : ∀ {vs ws : List V} {ts : List Tr}, TrsAt ok H (vs ++ ws) ts → ∃ a b, ts = a ++ b ∧ TrsAt ok H vs a ∧ TrsAt ok H ws b
  | [], ws, ts, h => ⟨[], ts, rfl, .nil, h⟩
  | v :: vs, ws, _, h => by
    cases h with
    | cons x y =>
      obtain ⟨a, b, e, h1, h2⟩ := TrsAt.split y
      exact ⟨_ :: a, b, by rw [e]; rfl, .cons x h1, h2⟩
theorem TrsAt.perm {vs ws : List V} (p : vs.Perm ws) : ∀ {ts : List Tr}, TrsAt ok H vs ts → ∃ us, ts.Perm us ∧ TrsAt ok H ws us := by
  induction p with
  | nil => intro ts h; exact ⟨ts, .refl _, h⟩
  | cons x _ ih =>
    intro ts h
    cases h with
    | cons a b =>
      obtain ⟨us, p1, h1⟩ := ih b
      exact ⟨_ :: us, p1.cons _, .cons a h1⟩
  | swap x y l =>
    intro ts h
    cases h with
    | cons a b =>
      cases b with
      | cons c d => exact ⟨_, .swap _ _ _, .cons c (.cons a d)⟩
  | trans _ _ ih1 ih2 =>
    intro ts h
    obtain ⟨us, p1, h1⟩ := ih1 h
    obtain ⟨ws, p2, h2⟩ := ih2 h1
    exact ⟨ws, p1.trans p2, h2⟩
theorem TrsAt.rev {vs : List V} {ts : List Tr} (h : TrsAt ok H vs ts) : TrsAt ok H vs.reverse ts.reverse := by
  induction vs generalizing ts with
  | nil => cases h; exact .nil
  | cons v vs ih =>
    cases h with
    | cons a b =>
      rw [List.reverse_cons, List.reverse_cons]
      exact (ih b).append (.cons a .nil)
end
theorem sizes_perm {a b : List Tr} (p : a.Perm b) : sizes a = sizes b := by
  induction p with
  | nil => rfl
  | cons x _ ih => simp only [sizes, ih]
  | swap x y l => simp only [sizes]; omega
  | trans _ _ ih1 ih2 => exact ih1.trans ih2
theorem depths_perm {a b : List Tr} (p : a.Perm b) : depths a = depths b := by
  induction p with
  | nil => rfl
  | cons x _ ih => simp only [depths, ih]
  | swap x y l => simp only [depths]; omega
  | trans _ _ ih1 ih2 => exact ih1.trans ih2
theorem letss_perm {p : Nat → Prop} {a b : List Tr} (h : a.Perm b) : letss p a → letss p b := by
  induction h with
  | nil => exact id
  | cons x _ ih =>
    intro q
    simp only [letss] at q ⊢
    exact ⟨q.1, ih q.2⟩
  | swap x y l =>
    intro q
    simp only [letss] at q ⊢
    exact ⟨q.2.1, q.1, q.2.2⟩
  | trans _ _ ih1 ih2 => exact fun q => ih2 (ih1 q)
mutual
inductive Sh : Tr → Tr → Prop
  | node {c : Nat} {ks us ls : List Tr} : ks.Perm us → Shs us ls → Sh (.node c ks) (.node c ls)
inductive Shs : List Tr → List Tr → Prop
  | nil : Shs [] []
  | cons {t u : Tr} {ts us : List Tr} : Sh t u → Shs ts us → Shs (t :: ts) (u :: us)
end
mutual
theorem Sh.refl : ∀ t : Tr, Sh t t
  | .node c ks => .node (.refl _) (Shs.refl ks)
theorem Shs.refl : ∀ ts : List Tr, Shs ts ts
  | [] => .nil
  | t :: r => .cons (Sh.refl t) (Shs.refl r)
end
mutual
theorem Sh.size : ∀ {t u : Tr}, Sh t u → t.size = u.size
  | _, _, .node p h => by simp only [Tr.size, sizes_perm p, Shs.sizes h]
theorem Shs.sizes : ∀ {ts us : List Tr}, Shs ts us → My.sizes ts = My.sizes us
  | _, _, .nil => rfl
  | _, _, .cons a b => by simp only [My.sizes, Sh.size a, Shs.sizes b]
end
mutual
theorem Sh.depth : ∀ {t u : Tr}, Sh t u → t.depth = u.depth
  | _, _, .node p h => by simp only [Tr.depth, depths_perm p, Shs.depths h]
theorem Shs.depths : ∀ {ts us : List Tr}, Shs ts us → My.depths ts = My.depths us
  | _, _, .nil => rfl
  | _, _, .cons a b => by simp only [My.depths, Sh.depth a, Shs.depths b]
end
mutual
theorem Sh.lets {p : Nat → Prop} : ∀ {t u : Tr}, Sh t u → t.lets p → u.lets p
  | _, _, .node q h, a => by
    simp only [Tr.lets] at a ⊢
    exact ⟨a.1, Shs.letss h (letss_perm q a.2)⟩
theorem Shs.letss {p : Nat → Prop} : ∀ {ts us : List Tr}, Shs ts us → My.letss p ts → My.letss p us
  | _, _, .nil, a => a
  | _, _, .cons x y, a => by
    simp only [My.letss] at a ⊢
    exact ⟨Sh.lets x a.1, Shs.letss y a.2⟩
end
theorem Shs.len : ∀ {ts us : List Tr}, Shs ts us → ts.length = us.length
  | _, _, .nil => rfl
  | _, _, .cons a b => by simp only [List.length_cons, Shs.len b]
theorem Shs.append : ∀ {ts us ts' us' : List Tr}, Shs ts us → Shs ts' us' → Shs (ts ++ ts') (us ++ us')
  | _, _, _, _, .nil, h => h
  | _, _, _, _, .cons a b, h => .cons a (Shs.append b h)

def Fr (p : Addr) (H H' : Hp) : Prop := ∀ b o, b ≠ p → H b = some o → H' b = some o
theorem Fr.refl (p : Addr) (H : Hp) : Fr p H H := fun _ _ _ h => h
theorem Fr.trans {p : Addr} {H H1 H2 : Hp} (a : Fr p H H1) (b : Fr p H1 H2) : Fr p H H2 := fun c o n h => b c o n (a c o n h)
theorem Fr.same {p : Addr} {H H' : Hp} (s : Same H H') : Fr p H H' := fun b o _ h => s b o h
theorem Fr.chg {p : Addr} {H H' : Hp} (c : Chg p H H') : Fr p H H' := fun _ _ n h => c.at h n
theorem Fr.new {p q : Addr} {H H' : Hp} {o : HO} (f : Fr p H H') (h : H q = none) : Fr p H (upd H' q o) := fun b u n e => by
  rw [upd_ne (ne_of_none e h)]
  exact f b u n e
theorem same_add {q : Addr} {H H' : Hp} {o : HO} (f : Same H H') (h : H q = none) : Same H (upd H' q o) := fun b u e => by
  rw [upd_ne (ne_of_none e h)]
  exact f b u e
theorem Fr.free {p q : Addr} {H H' : Hp} (f : Fr p H H') (hp : H' p ≠ none) (h : H' q = none) : H q = none := by
  cases e : H q with
  | none => rfl
  | some o =>
    by_cases hq : q = p
    · subst hq; exact absurd h hp
    · rw [f q o hq e] at h; cases h
theorem Fr.seq {K : PySem.W.Frag} {p a : Addr} {H H' : Hp} {xs : List V} (c : Fr p H H') (hp : H p = none) (h : SqL K H a xs) : SqL K H' a xs := by
  rcases h with (h | ⟨o, h⟩) | h
  · exact .inl (.inl (c _ _ (ne_of_none h hp) h))
  · exact .inl (.inr ⟨o, c _ _ (ne_of_none h hp) h⟩)
  · exact .inr h
theorem TrAt.same {ok : Addr → Prop} {H H' : Hp} {v : V} {t : Tr} (x : TrAt ok H v t) (s : Same H H') : TrAt ok H' v t := x.keep fun b o _ h => s b o h
theorem TrsAt.same {ok : Addr → Prop} {H H' : Hp} {vs : List V} {ts : List Tr} (x : TrsAt ok H vs ts) (s : Same H H') : TrsAt ok H' vs ts := x.keep fun b o _ h => s b o h
theorem TrAt.off {ok : Addr → Prop} {H : Hp} {v : V} {t : Tr} {w : Addr} (x : TrAt ok H v t) (h : H w = none) : TrAt (fun b => ok b ∧ b ≠ w) H v t :=
  (TrAt.there t v x).weak fun b ⟨k, o, e⟩ => ⟨k, ne_of_none e h⟩
theorem TrsAt.off {ok : Addr → Prop} {H : Hp} {vs : List V} {ts : List Tr} {w : Addr} (x : TrsAt ok H vs ts) (h : H w = none) : TrsAt (fun b => ok b ∧ b ≠ w) H vs ts :=
  (TrsAt.there ts vs x).weak fun b ⟨k, o, e⟩ => ⟨k, ne_of_none e h⟩
theorem upd_keep {H : Hp} {w : Addr} {o : HO} {ok : Addr → Prop} (h : ∀ b, ok b → b ≠ w) : ∀ b u, ok b → H b = some u → (upd H w o) b = some u := fun b u k e => by
  rw [upd_ne (h b k)]
  exact e
theorem lc_outer {K : PySem.W.Frag} {a : Addr} {xs : List V} {Bd : V → Hp → (Hp → Prop) → Prop} {Qd : Hp → Prop} {H0 : Hp} (Pv : Nat → Hp → Prop) (h0 : Pv 0 H0) (hl : ∀ i H, i ≤ xs.length → Pv i H → SqL K H a xs)
    (hs : ∀ i x H, xs[i]? = some x → Pv i H → Bd x H (Pv (i + 1))) (hd : ∀ H, Pv xs.length H → Qd H) :
    ∃ W : Nat → Nat → Hp → Prop, (∃ m, W 0 m H0) ∧ ∀ i m H, W i m H → ((Itl K a).stop i H ∧ Qd H) ∨ ((Itl K a).go i H ∧ ∃ Nx : Hp → Prop, (∀ H', Nx H' → ∃ m', m' < m ∧ W (i + 1) m' H') ∧ ∀ x H', (Itl K a).yld i H x H' → Bd x H' Nx) := by
  refine ⟨fun i m H => m = xs.length - i ∧ i ≤ xs.length ∧ Pv i H, ⟨xs.length, by simp, Nat.zero_le _, h0⟩, ?_⟩
  rintro i m H ⟨rfl, hi, p⟩
  have q := hl i H hi p
  by_cases hlt : i < xs.length
  · refine .inr ⟨⟨xs, xs[i], q, by simp [hlt]⟩, Pv (i + 1), fun H' p' => ⟨xs.length - (i + 1), by omega, rfl, hlt, p'⟩, fun x H' y => ?_⟩
    obtain ⟨e, y⟩ := y
    subst e
    exact hs i x _ (y xs q) p
  · have e : i = xs.length := by omega
    subst e
    exact .inl ⟨⟨xs, q, Nat.le_refl _⟩, hd H p⟩
theorem take_succ_of {α : Type} {l : List α} {i : Nat} {x : α} (h : l[i]? = some x) : l.take (i + 1) = l.take i ++ [x] := by
  rw [List.take_add_one, h]
  rfl

def RowL (params : Arguments) (scope : PySem.Scope) (body : PySem.Expr) : Prop :=
  (∃ (x : Str) (p1 p2 p3 : Pos) (k0 : Nat), body = .Subscript (.Name x p1) (.Constant (.int 0) k0 p2) p3 ∧ (x == Str.ofString "__debug__") = false ∧ scope.names = [(x, .local)] ∧
    ∀ (fd : FuncData) (u : Value), fd.params = params → fd.defaults = .none → fd.kwdefaults = .none → bindArgs fd ⟨[u], []⟩ = pure [(x, u)]) ∧
  scope.kind = .function ∧ scope.isGenerator = false ∧ scope.isCoroutine = false
theorem row_call {P : Program} {w : World} {A : Around} {s : Shared} {f p c' : Addr} {nm q : Str} {params : Arguments} {scope : PySem.Scope} {body : PySem.Expr} {clos : List (Str × Addr)} {pm ctv : Value} {its : Array Value} {x : Str} {tx : Tok}
    (R : RowL params scope body) (hd : A.depth < recursionLimit) (hf : s.heap.get? f = some (PySem.W.kla_obj nm q params body scope clos pm c' ctv))
    (hc : s.heap.CodeRec (.ref c') q) (hn : s.heap.NoLimit) (ht : IsTup s.heap p its) (h0 : its[0]? = some (.str x tx)) :
    wpAny (model P w) A (call (.ref f) [.ref p]) (PySem.W.KeyPure (.str x) s) (fun _ _ => False) s := by
  obtain ⟨⟨z, p1, p2, p3, k0, rfl, hz, hnm, hb⟩, hk, hg, ho⟩ := R
  refine wpAny_call ?_
  refine PySem.W.kla_callFunE hd hf rfl ho hg rfl hc ?_
  refine BindsTo.of_eq (hb _ _ rfl rfl rfl) _ _ _ _ ?_
  refine wpAny_newFunctionEnv (by intro y hy; rw [show (PySem.W.kla_fn nm q params _ scope clos pm (.ref c') ctv).scope.names = _ from hnm] at hy; simp only [List.mem_singleton] at hy; subst hy; simp) (by intro y hy; simp only [List.mem_singleton] at hy; subst hy; rw [show (PySem.W.kla_fn nm q params _ scope clos pm (.ref c') ctv).scope.names = _ from hnm]; simp) (fun h' hns hsame => ?_) hk
  have hkeep : ∀ b o, s.heap.get? b = some o → h'.get? b = some o := by
    intro b o hb
    have hne : b ≠ s.heap.objs.size := fun e => by
      rw [e] at hb
      simp [Heap.get?] at hb
    rw [hsame.2 b hne]
    exact Heap.get?_push_of_some _ hb
  refine ⟨hn.keeps hkeep, PySem.W.kla_codeExpr ?_⟩
  refine Subscript_Constant (wpAny_Name (wpAny_loadName_local (m := fun y => List.lookup y [(z, Value.ref p)].reverse) (v := .ref p) hk ?_ hns ?_ ?_) hz)
  · simp [Env.kindOf, newEnv, hnm]
  · simp
  refine wpAny_Constant_int ?_
  obtain ⟨o, g1, g2, n, g3⟩ := ht
  have ht' : IsTup h' p its := ⟨o, hkeep _ _ g1, g2, n, g3⟩
  refine ⟨"tuple", _, rfl, ⟨o, hkeep _ _ g1, g2⟩, ?_⟩
  have hz0 : its.size ≠ 0 := fun e => by
    rw [Array.getElem?_eq_none (by omega)] at h0
    cases h0
  refine getItem_tuple (j := 0) ht' (by decide) (by decide) ?_ h0 ?_
  · simp [seqIndex?]
    intro e
    rw [e] at hz0
    exact hz0 rfl
  exact ⟨h', _, rfl, hkeep, .str _ _⟩

def leS (a b : V × Str) : Bool := decide (a.2.cps.toList ≤ b.2.cps.toList)
def RowO (f c : Addr) (q : Str) : HO := .ext fun h => ∃ nm params body scope clos pm ctv, h.get? f = some (PySem.W.kla_obj nm q params body scope clos pm c ctv) ∧ RowL params scope body
def rSortRow : List V → List V → Hp → VK → Prop := fun xs zs H Q => ∃ (a f c : Addr) (q : Str) (bs : List (V × Str)), xs = [.ref a] ∧ zs = [.ref f] ∧ H f = some (RowO f c q) ∧ H c = some (LamX.CodeO c q) ∧ H a = some (.lst (bs.map Prod.fst)) ∧
  (∀ b ∈ bs, ∃ p rest, b.1 = .ref p ∧ H p = some (.tup (.str b.2 :: rest))) ∧ bs.length ≤ sizeLine ∧ ∀ r, H r = none → Q (.ref r) (upd H r (.lst ((bs.mergeSort leS).map Prod.fst)))
def RowR (H : Hp) (v : Value) (b : V × Str) : Prop := RelV b.1 v ∧ ∃ p rest, b.1 = .ref p ∧ H p = some (.tup (.str b.2 :: rest))
theorem eachRow {H : Hp} : ∀ {bs : List (V × Str)} {its : List Value}, Vals (bs.map Prod.fst) its → (∀ b ∈ bs, ∃ p rest, b.1 = .ref p ∧ H p = some (.tup (.str b.2 :: rest))) → PySem.W.EachIs (RowR H) its bs
  | [], _, v, _ => by cases v; exact .nil
  | b :: r, _, v, h => by
    cases v with
    | cons g1 g2 => exact .cons ⟨g1, h b (by simp)⟩ (eachRow g2 fun x hx => h x (by simp [hx]))
theorem rowEach {H : Hp} : ∀ {bs : List (V × Str)} {its : List Value}, PySem.W.EachIs (RowR H) its bs → Vals (bs.map Prod.fst) its
  | [], _, v => by cases v; exact .nil
  | b :: r, _, v => by
    cases v with
    | cons g1 g2 => exact .cons g1.1 (rowEach g2)
theorem cr_sortRow {X : Cx} {k : Nat} (hr : Room k X.A) : CallRK X (.builtin "sorted") ["key"] rSortRow := by
  intro pins s σ H xs zs us ws Q I hv hw h
  obtain ⟨a, f, c, q, bs, rfl, rfl, hf, hc, ha, hp, hz, q2⟩ := h
  cases hv with
  | cons g1 g2 =>
  cases g2
  cases hw with
  | cons g3 g4 =>
  cases g4
  cases g1
  cases g3
  have oa := I.hok _ _ ha
  have of := I.hok _ _ hf
  have oc := I.hok _ _ hc
  obtain ⟨nm, params, body, scope, clos, pm, ctv, hfo, hR⟩ := of.1
  obtain ⟨oz, its, n, hits, hao⟩ := oa
  refine PySem.W.sorted_key_data (vs := its) (bs := bs) (R := RowR H) (f := .ref f) (b := false) (fun b => .str b.2) ⟨_, hao, rfl, n, rfl⟩ (eachRow hits hp) ?_ ?_ hz ?_ (ksk_s1 _ _) (fun x => ksk_l1 _ _) (fun x => ?_) (fun v x hv hx h tk hk => ?_) (fun out c' h' tk hk hn ho hl he => ?_)
  · intro d hd d' hd'
    simp only [List.mem_map] at hd hd'
    obtain ⟨_, _, rfl⟩ := hd
    obtain ⟨_, _, rfl⟩ := hd'
    rfl
  · refine .inr fun d hd => ?_
    simp only [List.mem_map] at hd
    obtain ⟨_, _, rfl⟩ := hd
    exact ⟨by simp, by simp⟩
  · intro x _
    have := hr.un
    have e : (PyData.str x.2).depth = 0 := rfl
    omega
  · rfl
  · obtain ⟨hv1, p, rest, e1, e2⟩ := hv
    obtain ⟨v1, w1⟩ := x
    dsimp only at e1 hv1 e2 hx ⊢
    subst e1
    cases hv1
    have op := I.hok _ _ e2
    obtain ⟨_, its2, g1, g2, g3, n2, g4⟩ := op
    cases g1 with
    | cons k1 k2 =>
    obtain ⟨tx, rfl⟩ := k1
    obtain ⟨oc', vs', t', c1, c2, c3⟩ := oc.1
    refine row_call (its := _) (x := w1) (tx := tx) hR ?_ (hk _ _ hfo) ⟨_, _, _, _, rfl, hk _ _ c1, c2, c3⟩ (I.nolimit.keeps hk) ⟨g2, hk _ _ g3, n2, g4⟩ (by simp)
    have := hr.dp
    show X.A.depth < recursionLimit
    omega
  · refine ⟨.ref (s.heap.objs.size + 1), _, I.laid (a := s.heap.objs.size + 1) (o := .lst ((bs.mergeSort leS).map Prod.fst)) hk (by omega) ?_, rfl, q2 _ ?_⟩
    · have e : PySem.W.dataLe false (fun b : V × Str => PyData.str b.2) = leS := PySem.W.dataLe_str _
      rw [e] at he
      exact ⟨by simpa using hz, out, c', rowEach he, ho⟩
    · exact I.hok.fresh (by omega)
theorem rowO_ok {P : Program} {w : World} {H : Hp} {h : Heap} {c : Addr} {nm q : Str} {params : Arguments} {scope : PySem.Scope} {body : PySem.Expr} {clos : List (Str × Addr)} {pm ctv : Value} (hR : RowL params scope body) :
    ObjOk P w H (h.push (PySem.W.kla_obj nm q params body scope clos pm c ctv)) h.objs.size (RowO h.objs.size c q) := by
  have e : (h.push (PySem.W.kla_obj nm q params body scope clos pm c ctv)).get? h.objs.size = some (PySem.W.kla_obj nm q params body scope clos pm c ctv) := Heap.get?_push_size _ rfl
  refine ⟨⟨_, _, _, _, _, _, _, e, hR⟩, ⟨_, e⟩, fun h1 h2 ⟨a1, a2, a3, a4, a5, a6, a7, e1, e2⟩ k => ⟨a1, a2, a3, a4, a5, a6, a7, k _ e1, e2⟩⟩
theorem pe_lamRow {X : Cx} {c P : Addr} {params : Arguments} {body : PySem.Expr} {scope : PySem.Scope} {pos : Pos} (tb : LamX.TabB X.base X.mg c P) (hc : X.env.code = .ref c) (hd : defaultsOf params X.env = ([], []))
    (hR : RowL params scope body) : PE X (.Lambda params body scope pos) (fun σ H Q => LamX.TabS H P (X.env.qual ++ "<lambda>") ∧ ∀ (f c : Addr) (H1 : Hp), Fr P H H1 → LamX.TabS H1 P (X.env.qual ++ "<lambda>") → H1 f = some (RowO f c (X.env.qual ++ "<lambda>")) → H1 c = some (LamX.CodeO c (X.env.qual ++ "<lambda>")) → Q (.ref f) H1) := by
  refine ⟨fun pins s σ H Q I h => ?_⟩
  obtain ⟨ht, q⟩ := h
  have hclo : closureFor scope X.env = pure (cloFrom X.env.cells scope.names []) := by
    refine closure_ok ?_
    intro y hy he
    obtain ⟨⟨z, p1, p2, p3, k0, rfl, hz, hnm, hb⟩, hk, hg, ho⟩ := hR
    rw [hnm] at hy
    simp only [List.mem_singleton] at hy
    subst hy
    cases he
  have ht' := ht
  obtain ⟨ps, hP, hT, hA⟩ := ht'
  have oP : s.heap.get? P = some (PySem.W.tabObj ps) := I.hok _ _ hP
  refine PySem.W.kla_eval hd ?_
  cases hcd : codeAmong pos ps.toList with
  | some cv =>
    obtain ⟨c', rfl, hc'⟩ := hA _ _ hcd
    refine PySem.W.kla_makeFunctionHit hclo I.ok.glob (I.mod.glob.keeps I.bk) hc (tb.code.keeps I.bk) oP hT hcd (tb.bm.keeps I.bk) (fun ctv h' tk hk hs => ?_)
    have I1 := I.kept (t' := tk) hk
    have hz : s.heap.objs.size ≤ h'.objs.size := hs
    have hn : H h'.objs.size = none := I.hok.fresh hz
    refine ⟨.ref h'.objs.size, upd H h'.objs.size (RowO h'.objs.size c' (X.env.qual ++ "<lambda>")), ?_, rfl, q _ c' _ (fun b o _ hb => ?_) (ht.ext fun b o hb => ?_) upd_same ?_⟩
    · exact I1.laid (h' := h'.push _) (t' := tk) (fun b u hb => Heap.get?_push_of_some _ hb) (Nat.le_refl _) (rowO_ok hR)
    · rw [upd_ne (ne_of_none hb hn)]; exact hb
    · rw [upd_ne (ne_of_none hb hn)]; exact hb
    · rw [upd_ne (ne_of_none hc' hn)]; exact hc'
  | none =>
    refine PySem.W.kla_makeFunction hclo I.ok.glob (I.mod.glob.keeps I.bk) hc (tb.code.keeps I.bk) oP hT hcd tb.gP (tb.bm.keeps I.bk) (fun c' ctv h' tk he hl hu hrec hP' => ?_)
    obtain ⟨c2, o2, vs2, t2, ec, e1, e2, e3⟩ := hrec
    cases ec
    have I2 := LamX.inv_table (t' := tk) (c := c') (q := X.env.qual ++ "<lambda>") I hP he (more := #[rawInt ↑pos.line, rawInt ↑pos.col, .ref c']) hP' hl ⟨_, _, _, e1, e2, e3⟩
    have hn : (upd (upd H P (.tbl (ps ++ #[rawInt ↑pos.line, rawInt ↑pos.col, .ref c']))) c' (LamX.CodeO c' (X.env.qual ++ "<lambda>"))) h'.objs.size = none := I2.hok.fresh (Nat.le_refl _)
    have hcn : H c' = none := I.hok.fresh hl
    have hPc : P ≠ c' := fun e => by rw [e] at hP; rw [hcn] at hP; cases hP
    refine ⟨.ref h'.objs.size, _, I2.laid (h' := h'.push _) (o := RowO h'.objs.size c' (X.env.qual ++ "<lambda>")) (t' := tk) (fun b u hb => Heap.get?_push_of_some _ hb) (Nat.le_refl _) (rowO_ok hR), rfl, q _ c' _ ?_ ?_ upd_same ?_⟩
    · intro b o hbP hb
      have h1 : (upd (upd H P (.tbl (ps ++ #[rawInt ↑pos.line, rawInt ↑pos.col, .ref c']))) c' (LamX.CodeO c' (X.env.qual ++ "<lambda>"))) b = some o := by
        rw [upd_ne (ne_of_none hb hcn), upd_ne hbP]; exact hb
      rw [upd_ne (ne_of_none h1 hn)]; exact h1
    · refine LamX.TabS.ext (H := upd (upd H P (.tbl (ps ++ #[rawInt ↑pos.line, rawInt ↑pos.col, .ref c']))) c' (LamX.CodeO c' (X.env.qual ++ "<lambda>"))) ?_ (fun b o hb => by rw [upd_ne (ne_of_none hb hn)]; exact hb)
      refine ⟨_, by rw [upd_ne hPc]; exact upd_same, ?_, ?_⟩
      · simpa using TriplesOk_snoc _ _ _ _ hT
      · intro pos2 cv hcv
        rw [Array.toList_append] at hcv
        rcases LamX.among_app _ hT hcv with h | h
        · obtain ⟨c3, e3, h3⟩ := hA _ _ h
          refine ⟨c3, e3, ?_⟩
          rw [upd_ne (ne_of_none h3 hcn), upd_ne (fun e => by rw [e, hP] at h3; cases h3)]
          exact h3
        · exact ⟨c', h, upd_same⟩
    · have h1 : (upd (upd H P (.tbl (ps ++ #[rawInt ↑pos.line, rawInt ↑pos.col, .ref c']))) c' (LamX.CodeO c' (X.env.qual ++ "<lambda>"))) c' = some (LamX.CodeO c' (X.env.qual ++ "<lambda>")) := upd_same
      rw [upd_ne (ne_of_none h1 hn)]; exact h1

theorem okC {P : Program} {w : World} {K : PySem.W.Frag} {mg : Str → Option Value} {base : Heap} {x qual : Str} {st : Stmt} {f c : Addr} {fd : FuncData} {N ps : List Str} {k : Nat} {sp : Sp} (F : Fun K x qual st f fd) (hc : fd.code = .ref c) (S : FnScope N ps (defScope st))
    (len : ∀ vs H Q E, sp vs H Q E → vs.length = ps.length)
    (hb : ∀ (A : Around) (outer : List Env) (s : Shared) (H : Hp) (vs : List V) (Q : VK) (E : XK), Room k (A.deeper (envOfC qual (defScope st) s.heap.objs.size f (.ref c))) → sp vs H Q E →
      ∃ t, PSs (cxOf CX0 P w K mg base N qual (defScope st) f (.ref c) A outer s H E).nox (defBody st) t ∧ t { nx := fun _ H' => Q .non H', rt := Q } (L2.start N vs) H) : FnOk P w K mg base CX0 (k + 1) f fd ps sp := by
  obtain ⟨oc, od, kV, doc, pm, an, cdv, ct, osl, rfl, lk, hcd⟩ := F.ex
  cases hc
  exact fn_of lk hcd S len fun A outer s H vs Q E hr hsp => by
    obtain ⟨t, h, q⟩ := hb A outer s H vs Q E hr hsp
    exact ⟨t, h.nox, q⟩
theorem rowL_mk {x : Str} {p0 p1 p2 p3 : Pos} {k0 : Nat} {scope : PySem.Scope} (hz : (x == Str.ofString "__debug__") = false) (hn : scope.names = [(x, .local)]) (hk : scope.kind = .function) (hg : scope.isGenerator = false) (hc : scope.isCoroutine = false)
    (hb : ∀ (nm q : Str) (b : FuncBody) (sc : PySem.Scope) (g : Addr) (cl : List (Str × Addr)) (pm an : Value) (cd : Option Addr) (ct bl : Value) (bu : Addr) (u : Value), bindArgs ⟨nm, q, { posonlyargs := [], args := [{ arg := x, annotation := none, pos := p0 }], vararg := none, kwonlyargs := [], kw_defaults := [], kwarg := none, defaults := [] }, b, sc, g, cl, .none, .none, pm, an, cd, ct, bl, bu⟩ ⟨[u], []⟩ = pure [(x, u)]) :
    RowL { posonlyargs := [], args := [{ arg := x, annotation := none, pos := p0 }], vararg := none, kwonlyargs := [], kw_defaults := [], kwarg := none, defaults := [] } scope (.Subscript (.Name x p1) (.Constant (.int 0) k0 p2) p3) := by
  refine ⟨⟨x, p1, p2, p3, k0, rfl, hz, hn, fun fd u e1 e2 e3 => ?_⟩, hk, hg, hc⟩
  obtain ⟨nm, q, pr, b, sc, g, cl, d, kd, pm, an, cd, ct, bl, bu⟩ := fd
  subst e1 e2 e3
  exact hb _ _ _ _ _ _ _ _ _ _ _ _ _
def spLawT (K : PySem.W.Frag) (Ps : List Addr) : Sp := fun vs H Q _ => ∃ (a : Addr) (ns : List Int), vs = [.ref a] ∧ SqL K H a (ns.map V.int) ∧ ns.length ≤ 63 ∧ (∀ P ∈ Ps, H P = some (.tbl #[])) ∧ ∀ H', Q (.bl true) H'
def LawT (l : PySem.W.OpenLaw) (w : World) (K : PySem.W.Frag) (k : Nat) (x : Str) (mg : Str → Option Value) (fa : Addr) (cs : List (Str × Addr × Addr)) : Prop :=
  (∀ z ∈ cs, PySem.W.tabIn K z.1 = some (z.2.1, z.2.2) ∧ K.lookup z.2.2 = none) ∧ ∃ fd : FuncData, (∀ (s : Shared) (v : Value), BindsTo s fd ⟨[v], []⟩ [(x, v)]) ∧
    ∀ base : Heap, K.In base → base.Ns mainGlobals mg → (∀ z ∈ cs, LamX.TabB base mg z.2.1 z.2.2) → FnOk l.prog w K mg base CX0 k fa fd [x] (spLawT K (cs.map fun z => z.2.2))
theorem walk_ofT {l : PySem.W.OpenLaw} {n k : Nat} {q : Program} {loose : List Str} {XP : (Str → Option Value) → Heap → Prop} {YP : World → Heap → Prop} {d : DefRec} {K : Params → PySem.W.Frag} {x : Str}
    (hn : l.most = some n) (hz : n ≤ sizeLine) (h63 : n ≤ 63) (hd : d.params.defaults = []) (hr : Room k callerA) (hY : ∀ w h, YP w h → (K w.params).In h) (names : List Str)
    (hR : (names.all fun z => (recsOf q).any fun e => e.name == z) = true)
    (hF : ∀ (w : World) (mg : Str → Option Value) (fa : Addr) (h : Heap), (K w.params).In h → h.Ns mainGlobals mg → mg d.name = some (.ref fa) → ∃ cs : List (Str × Addr × Addr), cs.map Prod.fst = names ∧ LawT l w (K w.params) k x mg fa cs) :
    PySem.W.WalkO q loose XP YP l.row.toRowW d [] fun f vs => call f vs := by
  refine Att.attach_callB hn hd fun w s0 s1 mg mb fa o pm cd doc a vs ns G Y ho hod hcr hmg ha hi hl hb hg => ?_
  obtain ⟨cs, hcs, hT, fd, hB, hOk⟩ := hF w mg fa s1.heap (hY w _ Y) G.T.g hmg
  have key : ∀ z ∈ cs, PySem.W.CodeHd s1.heap z.2.1 z.2.2 ∧ s1.heap.get? z.2.2 = some (PySem.W.tabObj #[]) := by
    intro z hz
    have h1 : z.1 ∈ names := by rw [← hcs]; exact List.mem_map_of_mem hz
    have h2 := List.all_eq_true.mp hR _ h1
    cases hf : (recsOf q).find? fun e => e.name == z.1 with
    | none =>
      rw [List.find?_eq_none] at hf
      rw [List.any_eq_true] at h2
      obtain ⟨e, he, h3⟩ := h2
      exact absurd h3 (hf e he)
    | some dd => exact PySem.W.tab_of G.T (hY w _ Y) hf (hT z hz).1
  refine LamX.law_callTs (K := K w.params) (cs := cs.map fun z => z.2) (hY w _ Y) G.T.g G.T.b G.T.builtins G.T.nolimit hg ?_ ?_ ?_ G.T.bmain ha hi (Nat.le_trans hl hz) hr (fun base h1 h2 h3 => hOk base h1 h2 fun z hz => h3 _ (List.mem_map_of_mem hz)) (fun s u => hB s u) (fun H hH hS => ⟨a, ns, rfl, hS, ?_, ?_, fun _ => rfl⟩) (fun _ _ _ h => h)
  · intro p hp
    obtain ⟨z, hz, rfl⟩ := List.mem_map.mp hp
    exact (key z hz).2
  · intro p hp
    obtain ⟨z, hz, rfl⟩ := List.mem_map.mp hp
    exact (hT z hz).2
  · intro p hp
    obtain ⟨z, hz, rfl⟩ := List.mem_map.mp hp
    exact (key z hz).1
  · exact Nat.le_trans hl h63
  · intro P hP
    obtain ⟨z, hz, rfl⟩ := List.mem_map.mp hP
    exact hH _ (List.mem_map_of_mem hz)

theorem take_zip {α : Type} (sel : Nat → Bool) (j : Nat) : ∀ (xs : List α) (i : Nat), (∀ k, k < i + xs.length → sel k = decide (j ≤ k)) → (xs.zipIdx i).filterMap (fun x => if sel x.2 = true then none else some x.1) = xs.take (j - i)
  | [], i, _ => by simp
  | x :: r, i, hs => by
    rw [List.zipIdx_cons, List.filterMap_cons]
    have ih := take_zip sel j r (i + 1) fun k hk => hs k (by rw [List.length_cons]; omega)
    have h0 := hs i (by rw [List.length_cons]; omega)
    by_cases h : j ≤ i
    · have e : j - i = 0 := by omega
      have e2 : j - (i + 1) = 0 := by omega
      rw [e2] at ih
      simp only [h0, h, decide_true, if_true, e, List.take_zero]
      simpa using ih
    · have e : j - i = (j - (i + 1)) + 1 := by omega
      rw [e, List.take_succ_cons, ← ih]
      simp [h0, h]
theorem run_delFrom {P : Program} {w : World} {A : Around} {E : Value → Shared → Prop} {s : Shared} {l sl : Addr} {items : Array Value} {n j : Nat} {t : Tok} {Q : Unit → Shared → Prop}
    (hl : s.heap.get? l = some { cls := Value.type "list", data := Data.seq items n }) (hs : s.heap.get? sl = some { cls := .type "slice", data := .fields #[.int j t, .none, .none] }) (hj : j ≤ items.size) (hz : items.size ≤ sizeLine)
    (q : ∀ f : Array Value → Array Value, f items = (items.toList.take j).toArray → Q () { s with heap := s.heap.update l (Obj.mapSeq f) }) :
    wpAny (model P w) A (delItem (.ref l) (.ref sl)) Q E s := by
  refine wpAny_delItem_slot (T := "list") ⟨_, hl, rfl⟩ (by decide) PySem.F.slot_list_delitem ?_
  refine wpAny_call_entry PySem.F.slot_list_delitem ⟨_, hl, rfl⟩ PySem.F.entry_list_delitem ?_ (PySem.F.args_list_delitem_2 _ _)
  show wpAny _ _ (do
      let __x ← slotArgs "__delitem__" 1 { pos := [.ref l, .ref sl] }
      _) _ _ _
  refine wpAny_bind (wpAny_pure ?_)
  refine wpAny_bind ?_
  refine wpAny_bind (wpAny_specialOf (T := "slice") (r := none) ⟨_, hs, rfl⟩ rfl ?_)
  refine wpAny_pure ?_
  refine wpAny_bind (wpAny_typeOf (T := "slice") ⟨_, hs, rfl⟩ ?_)
  dsimp only
  rw [if_neg (by decide)]
  refine wpAny_bind ?_
  rw [listSliceParts_eq]
  refine wpAny_bind (wpAny_field hs rfl (i := 2) rfl (wpAny_bind (wpAny_listPart .none ?_)))
  dsimp only [rawPart]
  rw [if_neg (by decide)]
  refine wpAny_bind (wpAny_field hs rfl (i := 0) rfl (wpAny_bind (wpAny_listPart (.int _ _) ?_)))
  refine wpAny_bind (wpAny_field hs rfl (i := 1) rfl (wpAny_bind (wpAny_listPart .none (wpAny_pure ?_))))
  dsimp only
  refine wpAny_bind (wpAny_listItems hl rfl ?_)
  have eb : sliceBounds (some (j : Int)) none none items.size = ((j : Int), (items.size : Int), 1) := by
    simp [sliceBounds]
    omega
  rw [show sliceIndices (rawPart (some (j : Int))) (rawPart none) .none items.size = pure (sliceBounds (some (j : Int)) none none items.size) from sliceIndices_raw (some (j : Int)) none none items.size (by simp), eb]
  refine wpAny_bind (wpAny_pure ?_)
  dsimp only
  refine wpAny_bind (wpAny_rule ?_)
  refine wpAny_bind (wpAny_updateSeq hl rfl (wpAny_bind (wpAny_letGo (wpAny_pure ⟨_, rfl, q _ ?_⟩))) hz ?_)
  · refine congrArg List.toArray ((take_zip (fun k => _) j items.toList 0 ?_).trans (by rw [Nat.sub_zero]))
    intro k hk
    show (if (1 : Int) > 0 then decide ((j : Int) ≤ (k : Int)) && decide ((k : Int) < (items.size : Int)) && ((k : Int) - j) % 1 == 0 else _) = _
    rw [Nat.zero_add, Array.length_toList] at hk
    rw [if_pos (by decide), Int.emod_one, decide_eq_true (show (k : Int) < (items.size : Int) by omega)]
    by_cases h : j ≤ k
    · simp [h]
    · simp [h]
  · refine Nat.le_trans ?_ (Nat.le_succ_of_le hz)
    rw [List.size_toArray]
    refine Nat.le_trans (List.length_filterMap_le _ _) ?_
    simp
theorem ps_delFrom {X : Cx} {pos p2 : Pos} {o e : PySem.Expr} {to te : TE} {tpos : Pos} (ho : PE X o to) (he : PE X e te) :
    PS X (.Delete [.Subscript o (.Slice (some e) none none p2) tpos] pos) (fun D σ H => to σ H fun x H1 => te σ H1 fun y H2 => ∃ (l : Addr) (xs : List V) (j : Nat), x = .ref l ∧ y = .int j ∧ H2 l = some (.lst xs) ∧ j ≤ xs.length ∧ D.nx σ (upd H2 l (.lst (xs.take j)))) := by
  refine ⟨fun pins s σ H D I h => ?_⟩
  refine wpAny_Delete (wpAny_deleteEach_cons (wpAny_delete_Subscript ?_))
  refine thn (ho.run pins s σ H _ I h) fun u s1 hx => ?_
  obtain ⟨x, H1, I1, r1, h1⟩ := hx
  refine wpAny_Slice ?_
  rw [evalPart_some]
  refine thn (he.run pins s1 σ H1 _ I1 h1) fun u2 s2 hx => ?_
  obtain ⟨y, H2, I2, r2, l, xs, j, rfl, rfl, hl, hj, q⟩ := hx
  cases r1
  obtain ⟨t, rfl⟩ := r2
  rw [evalPart_none]
  refine wpAny_pure ?_
  refine wpAny_pure ?_
  have hsl : (s2.heap.push { cls := .type "slice", data := .fields #[.int j t, .none, .none] }).get? s2.heap.objs.size = some { cls := .type "slice", data := .fields #[.int j t, .none, .none] } := Heap.get?_push_size _ rfl
  have I3 := I2.kept (h' := s2.heap.push { cls := .type "slice", data := .fields #[.int j t, .none, .none] }) (t' := s2.toks) (fun b u hb => Heap.get?_push_of_some _ hb)
  obtain ⟨oz, its, n, hits, hao⟩ := I3.hok _ _ hl
  have ll : xs.length = its.length := L2.Vals.length hits
  refine run_delFrom (items := its.toArray) hao hsl (by simp; omega) (by simp; omega) (fun f hf => ?_)
  refine wpAny_deleteEach_nil ?_
  refine ⟨σ, _, I3.lset (its := its) (its' := its.take j) (ys := xs.take j) hl hao (by simpa using hf) ?_ ?_, q⟩
  · exact L2.Vals.take j hits
  · rw [List.length_take]; omega

mutual
def Tr.dat : Tr → PyData
  | .node c ks => .tuple [.str (ch c), .list (dats ks)]
def dats : List Tr → List PyData
  | [] => []
  | t :: r => t.dat :: dats r
end
mutual
theorem dat_depth : ∀ t : Tr, t.dat.depth ≤ 2 * t.depth
  | .node c ks => by
    have := dats_depth ks
    simp only [Tr.dat, PyData.depth, PyData.depthAll, Tr.depth]
    omega
theorem dats_depth : ∀ ts : List Tr, PyData.depthAll (dats ts) ≤ 2 * depths ts
  | [] => by simp only [dats, PyData.depthAll, depths]; omega
  | t :: r => by
    have a := dat_depth t
    have b := dats_depth r
    simp only [dats, PyData.depthAll, depths]
    omega
end
section
variable {ok : Addr → Prop} {H : Hp} {K : PySem.W.Frag}
theorem strOk_ch {c : Nat} (h : c ≤ 122) : PyData.strOk (ch c) = true := by
  unfold PyData.strOk ch
  simp
  omega
mutual
theorem TrAt.lay : ∀ (t : Tr) (v : V), TrAt ok H v t → t.dat.canLay0 = true
  | .node c ks, v, x => by
    cases x with
    | node h1 h2 k1 k2 c1 c2 r => simp only [Tr.dat, PyData.canLay0, PyData.canLayAll0, strOk_ch c2, TrsAt.lay ks _ r, Bool.and_self]
theorem TrsAt.lay : ∀ (ts : List Tr) (vs : List V), TrsAt ok H vs ts → PyData.canLayAll0 (dats ts) = true
  | [], _, _ => by simp only [dats, PyData.canLayAll0]
  | t :: r, _, x => by
    cases x with
    | cons a b => simp only [dats, PyData.canLayAll0, TrAt.lay t _ a, TrsAt.lay r _ b, Bool.and_self]
end
mutual
theorem TrAt.dp : ∀ (t : Tr) (v : V), TrAt ok H v t → Dp K H v t.dat
  | .node c ks, v, x => by
    cases x with
    | node h1 h2 k1 k2 c1 c2 r =>
      simp only [Tr.dat]
      exact .tup (SqT.of h1) (.cons (.str _) (.cons (.lst (SqL.of h2) (TrsAt.dp ks _ r)) .nil))
theorem TrsAt.dp : ∀ (ts : List Tr) (vs : List V), TrsAt ok H vs ts → DpAll K H vs (dats ts)
  | [], _, x => by cases x; exact .nil
  | t :: r, _, x => by
    cases x with
    | cons a b => exact .cons (TrAt.dp t _ a) (TrsAt.dp r _ b)
end
theorem shaped_tr {v : V} {t : Tr} (x : TrAt ok H v t) (h : t.depth ≤ 32) : SeqAt.shaped t.dat = true := by
  unfold SeqAt.shaped
  rw [Bool.and_eq_true]
  exact ⟨TrAt.lay t v x, decide_eq_true (by have := dat_depth t; omega)⟩
theorem shaped_trs {vs : List V} {ts : List Tr} (x : TrsAt ok H vs ts) (h : depths ts ≤ 31) : SeqAt.shaped (.list (dats ts)) = true := by
  unfold SeqAt.shaped
  rw [Bool.and_eq_true]
  refine ⟨by simp only [PyData.canLay0]; exact TrsAt.lay ts vs x, decide_eq_true ?_⟩
  have := dats_depth ts
  simp only [PyData.depth]
  omega
end
def DatOk (K : PySem.W.Frag) (H : Hp) (v : V) : Prop := ∃ d, Dp K H v d ∧ d.canLay0 = true ∧ d.depth ≤ 63
theorem DatOk.all {K : PySem.W.Frag} {H : Hp} : ∀ {vs : List V}, (∀ v ∈ vs, DatOk K H v) → ∃ ds, DpAll K H vs ds ∧ SeqAt.shaped (.list ds) = true ∧ ds.length = vs.length
  | [], _ => ⟨[], .nil, by decide +kernel, rfl⟩
  | v :: r, h => by
    obtain ⟨d, h1, h2, h3⟩ := h v List.mem_cons_self
    obtain ⟨ds, g1, g2, g3⟩ := DatOk.all (vs := r) fun u hu => h u (List.mem_cons_of_mem _ hu)
    unfold SeqAt.shaped at g2
    rw [Bool.and_eq_true] at g2
    have g4 := of_decide_eq_true g2.2
    have g5 := g2.1
    simp only [PyData.canLay0] at g5
    simp only [PyData.depth] at g4
    refine ⟨d :: ds, .cons h1 g1, ?_, by simp only [List.length_cons, g3]⟩
    unfold SeqAt.shaped
    rw [Bool.and_eq_true]
    refine ⟨by simp only [PyData.canLay0, PyData.canLayAll0, h2, g5, Bool.and_self], decide_eq_true ?_⟩
    simp only [PyData.depth, PyData.depthAll]
    omega
theorem datOk_int {K : PySem.W.Frag} {H : Hp} (i : Int) : DatOk K H (.int i) := ⟨.int i, .int i, by simp only [PyData.canLay0], by simp only [PyData.depth]; omega⟩
theorem datOk_tr {K : PySem.W.Frag} {H : Hp} {ok : Addr → Prop} {v : V} {t : Tr} (x : TrAt ok H v t) (h : t.depth ≤ 31) : DatOk K H v := ⟨t.dat, TrAt.dp t v x, TrAt.lay t v x, by have := dat_depth t; omega⟩
theorem eqv_nil (ds : List PyData) : PyData.eqv (.list ds) (.list []) = decide (ds.length = 0) := by
  cases ds with
  | nil => simp [PyData.eqv, PyData.eqvAll]
  | cons d r => simp [PyData.eqv, PyData.eqvAll]
theorem shaped_nil : SeqAt.shaped (.list []) = true := by decide +kernel
theorem dp_nil {K : PySem.W.Frag} {H : Hp} {a : Addr} (h : H a = some (.lst [])) : Dp K H (.ref a) (.list []) := .lst (SqL.of h) .nil


def sp_is_letter : Sp := fun vs H Q _ => ∃ c : Nat, vs = [.str (ch c)] ∧ 97 ≤ c ∧ c ≤ 122 ∧ Q (.bl true) H
def sp__is_part : Sp := fun vs H Q _ => ∃ (v : V) (t : Tr), vs = [v] ∧ TrAt (fun _ => True) H v t ∧ Q (.bl true) H
def sp_is_tree : Sp := fun vs H Q _ => ∃ (v : V) (t : Tr), vs = [v] ∧ TrAt (fun _ => True) H v t ∧ t.size ≤ 1000000 ∧ ∀ H', Same H H' → Q (.bl true) H'
def sp_check_tree : Sp := fun vs H Q _ => ∃ (v : V) (t : Tr), vs = [v] ∧ TrAt (fun _ => True) H v t ∧ t.size ≤ 1000000 ∧ ∀ H', Same H H' → Q .non H'
def sp_parts_upward : Sp := fun vs H Q _ => ∃ (v : V) (t : Tr) (ok : Addr → Prop), vs = [v] ∧ TrAt ok H v t ∧ t.size ≤ 1000000 ∧
  ∀ r ws H', Same H H' → H r = none → H' r = some (.lst ws) → TrsAt (fun b => ok b ∧ H b ≠ none) H' ws t.post → Q (.ref r) H'
theorem le_a {c : Nat} (h : 97 ≤ c) : (!decide ((ch c).cps.toList < (Str.ofString "a").cps.toList)) = true := by
  have e : (Str.ofString "a").cps.toList = [97] := by decide +kernel
  rw [e]
  show (!decide (([c] : List Nat) < [97])) = true
  have : ¬ (([c] : List Nat) < [97]) := by
    intro q
    have := List.cons_lt_cons_iff.mp q
    rcases this with z | ⟨z, y⟩
    · omega
    · exact absurd y (by decide)
  simp [this]
theorem le_z {c : Nat} (h : c ≤ 122) : (!decide ((Str.ofString "z").cps.toList < (ch c).cps.toList)) = true := by
  have e : (Str.ofString "z").cps.toList = [122] := by decide +kernel
  rw [e]
  show (!decide (([122] : List Nat) < [c])) = true
  have : ¬ (([122] : List Nat) < [c]) := by
    intro q
    have := List.cons_lt_cons_iff.mp q
    rcases this with z | ⟨z, y⟩
    · omega
    · exact absurd y (by decide)
  simp [this]
theorem concat_of {α : Type} {l : List α} (h : l ≠ []) : ∃ a b, l = a ++ [b] := ⟨l.dropLast, l.getLast h, (List.dropLast_concat_getLast h).symm⟩
section
variable {P : Program} {w : World} {K : PySem.W.Frag} {mg : Str → Option Value} {base : Heap}
theorem ok_is_letter (T : Txt K mg) : FnOk P w K mg base CX0 1 T.f_is_letter T.d_is_letter ["thing"] sp_is_letter := by
  refine T.F_is_letter.ok sc_is_letter (fun vs H Q E h => ?_) (fun cdv A outer s H vs Q E hr h => ?_)
  · obtain ⟨c, rfl, _⟩ := h
    rfl
  obtain ⟨c, rfl, h0, h1, q⟩ := h
  refine ⟨_, (pss_one (ps_ret (pe_and (pe_callB call_isi (by rfl) T.z_isinstance (by decide +kernel) (pa_cons (pv 0) (pa_cons (pe_bltn (v := .ty "str") (by rfl) T.z_str (by decide +kernel) rfl) pa_nil))) (pe_and (pe_cmpR op_eq (pe_callB call_len_str (by rfl) T.z_len PySem.boot_len (pa_cons (pv 0) pa_nil)) pe_int (nomark _)) (pe_one (pe_chain op_le_str op_le_str pe_str (pv 0) pe_str)))))), ?_⟩
  refine ⟨_, rfl, _, _, _, _, true, rfl, .ty "str", .base (.str _), kit_ty (by decide +kernel), _, rfl, iteT ?_⟩
  refine ⟨_, rfl, _, rfl, (by show 1 ≤ sizeLine; decide), rfl, _, rfl, iteT ?_⟩
  refine ⟨_, rfl, _, _, rfl, rfl, _, rfl, ?_⟩
  rw [if_pos (le_a h0)]
  refine ⟨_, _, rfl, rfl, ?_⟩
  rw [le_z h1]
  exact q
theorem ok__is_part (T : Txt K mg) : FnOk P w K mg base CX0 2 T.f__is_part T.d__is_part ["thing"] sp__is_part := by
  have G_is_letter : FnOk P w K mg base CX0 1 T.f_is_letter T.d_is_letter ["thing"] sp_is_letter := ok_is_letter T
  refine T.F__is_part.ok sc__is_part (fun vs H Q E h => ?_) (fun cdv A outer s H vs Q E hr h => ?_)
  · obtain ⟨v, t, rfl, _⟩ := h
    rfl
  obtain ⟨v, t, rfl, ht, q⟩ := h
  refine ⟨_, (pss_cons (ps_if (PW.pt (pw_or (pt_not (pt_val (pe_callB call_isi (by rfl) T.z_isinstance (by decide +kernel) (pa_cons (pv 0) (pa_cons (pe_bltn (v := .ty "tuple") (by rfl) T.z_tuple (by decide +kernel) rfl) pa_nil))))) (pw_or1 (pt_cmpR op_ne (pe_callB call_len_seq (by rfl) T.z_len PySem.boot_len (pa_cons (pv 0) pa_nil)) pe_int (nomark _))))) (pss_one (ps_ret pe_bl)) pss_nil) (pss_one (ps_ret (pe_and (pe_call G_is_letter (hr.mono (by omega)) (by rfl) T.m_is_letter T.F_is_letter.kp T.b_is_letter .nil pass0 (pa_cons (pe_ix ix_tup (pv 0) pe_int (fun _ _ => rfl)) pa_nil)) (pe_one (pe_callB call_isi (by rfl) T.z_isinstance (by decide +kernel) (pa_cons (pe_ix ix_tup (pv 0) pe_int (fun _ _ => rfl)) (pa_cons (pe_bltn (v := .ty "list") (by rfl) T.z_list (by decide +kernel) rfl) pa_nil)))))))), ?_⟩
  obtain ⟨c, ks⟩ := t
  cases ht with
  | node h1 h2 _ _ c1 c2 _ =>
    refine ⟨_, rfl, _, _, _, _, true, rfl, .ty "tuple", .base (.tup h1), kit_ty (by decide +kernel), _, rfl, iteF ?_⟩
    refine ⟨_, rfl, _, _, rfl, .inr (SqT.of h1), rfl, _, rfl, iteF ?_⟩
    refine ⟨_, rfl, _, _, 0, _, rfl, rfl, SqT.of h1, atI_nat (j := 0) rfl, _, rfl, c1, c2, _, rfl, iteT ?_⟩
    exact ⟨_, rfl, _, _, 1, _, rfl, rfl, SqT.of h1, atI_nat (j := 1) rfl, _, _, _, _, true, rfl, .ty "list", .base (.lst h2), kit_ty (by decide +kernel), q⟩
theorem ok_is_tree (T : Txt K mg) : FnOk P w K mg base CX0 3 T.f_is_tree T.d_is_tree ["thing"] sp_is_tree := by
  have G__is_part : FnOk P w K mg base CX0 2 T.f__is_part T.d__is_part ["thing"] sp__is_part := ok__is_part T
  refine T.F_is_tree.ok sc_is_tree (fun vs H Q E h => ?_) (fun cdv A outer s H vs Q E hr h => ?_)
  · obtain ⟨v, t, rfl, _⟩ := h
    rfl
  obtain ⟨v, t, rfl, ht, hz, q⟩ := h
  refine ⟨_, (pss_cons (ps_set (i := 1) sc_is_tree.nd rfl (Or.inl rfl) (pe_lst (pa_cons (pv 0) pa_nil))) (pss_cons (ps_while PassesOwn.never (pt_truth (pv 1) (by intro _; rfl)) (pss_cons (ps_set (i := 2) sc_is_tree.nd rfl (Or.inl rfl) (pe_bm0 PySem.F.plainAttrs_list PySem.F.slot_list_pop PySem.F.type_list_pop mt_pop (pv 1))) (pss_cons (ps_if (pt_not (pt_val (pe_call G__is_part (hr.mono (by omega)) (by rfl) T.m__is_part T.F__is_part.kp T.b__is_part .nil pass0 (pa_cons (pv 2) pa_nil)))) (pss_one (ps_ret pe_bl)) pss_nil) (pss_one (ps_expr (pe_bm PySem.F.plainAttrs_list PySem.F.slot_list_extend PySem.F.type_list_extend mt_extend (pv 1) (pa_cons (pe_ix ix_tup (pv 2) pe_int (fun _ _ => rfl)) pa_nil))))))) (pss_one (ps_ret pe_bl)))), ?_⟩
  refine ⟨_, rfl, (by show 1 ≤ sizeLine; decide), fun p hp => ?_⟩
  refine ⟨fun m σ H' => ∃ y ws ts, σ = [some v, some (.ref p), y] ∧ H' p = some (.lst ws) ∧ TrsAt (fun b => True ∧ b ≠ p) H' ws ts ∧ sizes ts = m ∧ m ≤ 1000000 ∧ Same H H',
    ⟨t.size, none, [v], [t], rfl, upd_same, .cons ((ht.off hp).same (same_new hp)) .nil, by simp only [sizes]; omega, hz, same_new hp⟩, ?_⟩
  rintro m σ H' ⟨y, ws, ts, rfl, hw, hts, hm, hm2, hs⟩
  by_cases he : ws = []
  · subst he
    refine ⟨_, rfl, false, .inl ⟨_, SqL.of hw, rfl⟩, iteF ?_⟩
    exact q _ hs
  · refine ⟨_, rfl, true, .inl ⟨_, SqL.of hw, by cases ws with | nil => exact absurd rfl he | cons a b => rfl⟩, iteT ?_⟩
    obtain ⟨ws', x, rfl⟩ := concat_of he
    obtain ⟨ts', tl, rfl, h1, h2⟩ := TrsAt.split hts
    cases h2 with
    | cons hx hn =>
      cases hn
      rename_i tx
      obtain ⟨c, ks⟩ := tx
      refine ⟨fun σ2 H2 => ∃ y ws ts, σ2 = [some v, some (.ref p), y] ∧ H2 p = some (.lst ws) ∧ TrsAt (fun b => True ∧ b ≠ p) H2 ws ts ∧ sizes ts < m ∧ Same H H2, fun σ2 H2 ⟨y, ws, ts, e1, e2, e3, e4, e5⟩ => ⟨sizes ts, e4, y, ws, ts, e1, e2, e3, rfl, by omega, e5⟩, ?_⟩
      refine ⟨_, rfl, .inl ⟨rfl, _, SqL.of hw⟩, _, _, x, rfl, rfl, hw, by simp, ?_⟩
      have kp : ∀ b u, (True ∧ b ≠ p) → H' b = some u → (upd H' p (.lst (ws' ++ [x]).dropLast)) b = some u := upd_keep fun b h => h.2
      have hx2 := hx.keep kp
      have hp3 : (upd H' p (.lst (ws' ++ [x]).dropLast)) p = some (.lst ws') := by rw [upd_same, List.dropLast_concat]
      refine ⟨_, rfl, x, _, rfl, hx2.weak fun _ _ => trivial, _, rfl, iteF ?_⟩
      cases hx2 with
      | node g1 g2 k1 k2 c1 c2 r =>
        have ll := r.len
        have l2 := h1.len
        have l3 := len_sizes ts'
        have l4 := len_sizes ks
        rw [sizes_append] at hm
        simp only [sizes, Tr.size] at hm
        refine ⟨_, rfl, .inl ⟨rfl, _, SqL.of hp3⟩, _, rfl, _, _, 1, _, rfl, rfl, SqT.of g1, atI_nat (j := 1) rfl, p, _, ws', _, rfl, rfl, hp3, g2, ?_, ?_⟩
        · exact Nat.le_trans (show ws'.length + _ ≤ 1000000 by omega) (by decide)
        · refine ⟨some _, _, ts' ++ ks, rfl, upd_same, ?_, ?_, ?_⟩
          · exact ((h1.keep kp).append r).keep (upd_keep fun b h => h.2)
          · rw [sizes_append]
            omega
          · exact same_add (same_add hs hp) hp
theorem ok_check_tree (T : Txt K mg) : FnOk P w K mg base CX0 4 T.f_check_tree T.d_check_tree ["thing"] sp_check_tree := by
  have G_is_tree : FnOk P w K mg base CX0 3 T.f_is_tree T.d_is_tree ["thing"] sp_is_tree := ok_is_tree T
  refine T.F_check_tree.ok sc_check_tree (fun vs H Q E h => ?_) (fun cdv A outer s H vs Q E hr h => ?_)
  · obtain ⟨v, t, rfl, _⟩ := h
    rfl
  obtain ⟨v, t, rfl, ht, hz, q⟩ := h
  refine ⟨_, (pss_one (ps_if (pt_not (pt_val (pe_call G_is_tree (hr.mono (by omega)) (by rfl) T.m_is_tree T.F_is_tree.kp T.b_is_tree .nil pass0 (pa_cons (pv 0) pa_nil)))) (pss_one ps_never) pss_nil)), ?_⟩
  refine ⟨_, rfl, v, t, rfl, ht, hz, fun H' hs => ⟨_, rfl, iteF ?_⟩⟩
  exact q _ hs
theorem ok_parts_upward (T : Txt K mg) : FnOk P w K mg base CX0 5 T.f_parts_upward T.d_parts_upward ["tree"] sp_parts_upward := by
  have G_check_tree : FnOk P w K mg base CX0 4 T.f_check_tree T.d_check_tree ["thing"] sp_check_tree := ok_check_tree T
  refine T.F_parts_upward.ok sc_parts_upward (fun vs H Q E h => ?_) (fun cdv A outer s H vs Q E hr h => ?_)
  · obtain ⟨v, t, ok, rfl, _⟩ := h
    rfl
  obtain ⟨v, t, ok, rfl, ht, hz, q⟩ := h
  refine ⟨_, (pss_cons (ps_expr (pe_call G_check_tree (hr.mono (by omega)) (by rfl) T.m_check_tree T.F_check_tree.kp T.b_check_tree .nil pass0 (pa_cons (pv 0) pa_nil))) (pss_cons (ps_set (i := 1) sc_parts_upward.nd rfl (Or.inl rfl) (pe_lst pa_nil)) (pss_cons (ps_set (i := 2) sc_parts_upward.nd rfl (Or.inl rfl) (pe_lst (pa_cons (pv 0) pa_nil))) (pss_cons (ps_while PassesOwn.never (pt_truth (pv 2) (by intro _; rfl)) (pss_cons (ps_set (i := 3) sc_parts_upward.nd rfl (Or.inl rfl) (pe_bm0 PySem.F.plainAttrs_list PySem.F.slot_list_pop PySem.F.type_list_pop mt_pop (pv 2))) (pss_cons (ps_expr (pe_bm PySem.F.plainAttrs_list PySem.F.slot_list_append PySem.F.type_list_append mt_append (pv 1) (pa_cons (pv 3) pa_nil))) (pss_one (ps_expr (pe_bm PySem.F.plainAttrs_list PySem.F.slot_list_extend PySem.F.type_list_extend mt_extend (pv 2) (pa_cons (pe_ix ix_tup (pv 3) pe_int (fun _ _ => rfl)) pa_nil))))))) (pss_one (ps_ret (pe_revL (pv 1)))))))), ?_⟩
  refine ⟨_, rfl, v, t, rfl, ht.weak fun _ _ => trivial, hz, fun H1 s1 => ?_⟩
  have ht1 := ((TrAt.there t v ht).same s1).weak (ok' := fun b => ok b ∧ H b ≠ none) fun b ⟨k, o, e⟩ => ⟨k, by rw [e]; simp⟩
  refine ⟨(by show 0 ≤ sizeLine; decide), fun a ha => ?_⟩
  refine ⟨_, rfl, (by show 1 ≤ sizeLine; decide), fun p hp => ?_⟩
  have nap : a ≠ p := fun e => by rw [e, upd_same] at hp; cases hp
  have hp1 : H1 p = none := by rw [upd_ne (fun e => nap e.symm)] at hp; exact hp
  have ha0 : H a = none := s1.free ha
  have hp0 : H p = none := s1.free hp1
  have oka : ∀ b, (ok b ∧ H b ≠ none) → b ≠ a := fun b h e => h.2 (by rw [e]; exact ha0)
  have okp : ∀ b, (ok b ∧ H b ≠ none) → b ≠ p := fun b h e => h.2 (by rw [e]; exact hp0)
  refine ⟨fun m σ H' => ∃ y as tas ws ts, σ = [some v, some (.ref a), some (.ref p), y] ∧ H' a = some (.lst as) ∧ H' p = some (.lst ws) ∧ TrsAt (fun b => ok b ∧ H b ≠ none) H' as tas ∧ TrsAt (fun b => ok b ∧ H b ≠ none) H' ws ts ∧
      tas ++ (posts ts).reverse = t.post.reverse ∧ sizes ts = m ∧ Same H H',
    ⟨t.size, none, [], [], [v], [t], rfl, by rw [upd_ne nap]; exact upd_same, upd_same, .nil, .cons ((ht1.keep (upd_keep oka)).keep (upd_keep okp)) .nil, by simp only [posts, List.append_nil, List.nil_append], by simp only [sizes]; omega, same_add (same_add s1 ha0) hp0⟩, ?_⟩
  rintro m σ H' ⟨y, as, tas, ws, ts, rfl, hA, hw, hta, hts, hpo, hm, hs⟩
  have hlen : tas.length + sizes ts = t.size := by
    have := congrArg List.length hpo
    rw [List.length_append, List.length_reverse, List.length_reverse, posts_len, post_len] at this
    exact this
  by_cases he : ws = []
  · subst he
    cases hts
    refine ⟨_, rfl, false, .inl ⟨_, SqL.of hw, rfl⟩, iteF ?_⟩
    refine ⟨_, rfl, a, as, rfl, SqL.of hA, fun r hr' => ?_⟩
    have hr0 : H r = none := hs.free hr'
    refine q r as.reverse _ (same_add hs hr0) hr0 upd_same ?_
    have e : tas.reverse = t.post := by
      simp only [posts, List.reverse_nil, List.append_nil] at hpo
      rw [hpo, List.reverse_reverse]
    rw [← e]
    exact hta.rev.keep (upd_keep fun b h e => h.2 (by rw [e]; exact hr0))
  · refine ⟨_, rfl, true, .inl ⟨_, SqL.of hw, by cases ws with | nil => exact absurd rfl he | cons a b => rfl⟩, iteT ?_⟩
    obtain ⟨ws', x, rfl⟩ := concat_of he
    obtain ⟨ts', tl, rfl, h1, h2⟩ := TrsAt.split hts
    cases h2 with
    | cons hx hn =>
      cases hn
      rename_i tx
      obtain ⟨c, ks⟩ := tx
      rw [sizes_append] at hm hlen
      simp only [sizes, Tr.size] at hm hlen
      refine ⟨fun σ2 H2 => ∃ y as tas ws ts, σ2 = [some v, some (.ref a), some (.ref p), y] ∧ H2 a = some (.lst as) ∧ H2 p = some (.lst ws) ∧ TrsAt (fun b => ok b ∧ H b ≠ none) H2 as tas ∧ TrsAt (fun b => ok b ∧ H b ≠ none) H2 ws ts ∧
        tas ++ (posts ts).reverse = t.post.reverse ∧ sizes ts < m ∧ Same H H2, fun σ2 H2 ⟨y, as, tas, ws, ts, e1, e2, e3, e4, e5, e6, e7, e8⟩ => ⟨sizes ts, e7, y, as, tas, ws, ts, e1, e2, e3, e4, e5, e6, rfl, e8⟩, ?_⟩
      refine ⟨_, rfl, .inl ⟨rfl, _, SqL.of hw⟩, _, _, x, rfl, rfl, hw, by simp, ?_⟩
      have kp : ∀ b u, (ok b ∧ H b ≠ none) → H' b = some u → (upd H' p (.lst (ws' ++ [x]).dropLast)) b = some u := upd_keep okp
      have hA2 : (upd H' p (.lst (ws' ++ [x]).dropLast)) a = some (.lst as) := by rw [upd_ne nap]; exact hA
      have la := hta.len
      refine ⟨_, rfl, .inl ⟨rfl, _, SqL.of hA2⟩, _, rfl, a, as, x, rfl, rfl, hA2, Nat.lt_of_le_of_lt (show as.length ≤ 1000000 by omega) (by decide), ?_⟩
      have hx3 := (hx.keep kp).keep (upd_keep (o := .lst (as ++ [x])) oka)
      have hp3 : (upd (upd H' p (.lst (ws' ++ [x]).dropLast)) a (.lst (as ++ [x]))) p = some (.lst ws') := by
        rw [upd_ne (fun e => nap e.symm), upd_same, List.dropLast_concat]
      have hx3' := hx3
      cases hx3 with
      | node g1 g2 k1 k2 c1 c2 r =>
        have ll := r.len
        have l2 := h1.len
        have l3 := len_sizes ts'
        have l4 := len_sizes ks
        refine ⟨_, rfl, .inl ⟨rfl, _, SqL.of hp3⟩, _, rfl, _, _, 1, _, rfl, rfl, SqT.of g1, atI_nat (j := 1) rfl, p, _, ws', _, rfl, rfl, hp3, g2, ?_, ?_⟩
        · exact Nat.le_trans (show ws'.length + _ ≤ 1000000 by omega) (by decide)
        · refine ⟨some _, as ++ [_], tas ++ [Tr.node c ks], _, ts' ++ ks, rfl, by rw [upd_ne nap]; exact upd_same, upd_same, ?_, ?_, ?_, ?_, ?_⟩
          · exact (((hta.keep kp).keep (upd_keep oka)).append (.cons hx3' .nil)).keep (upd_keep okp)
          · exact (((h1.keep kp).keep (upd_keep oka)).append r).keep (upd_keep okp)
          · rw [← hpo, posts_append, posts_append]
            simp only [posts, Tr.post, List.reverse_append, List.append_assoc, List.append_nil, List.reverse_cons, List.reverse_nil, List.nil_append, List.singleton_append, List.cons_append]
          · rw [sizes_append]
            omega
          · exact same_add (same_add (same_add hs hp0) ha0) hp0
end

def brk : List Nat → List Nat
  | [] => []
  | x :: l => 40 :: ((x :: l) ++ [41])
mutual
def Tr.wr : Tr → List Nat
  | .node c ks => c :: brk (wrs ks)
def wrs : List Tr → List Nat
  | [] => []
  | t :: r => t.wr ++ wrs r
end
def leW (a b : Tr) : Bool := decide (a.wr ≤ b.wr)
mutual
def Tr.told : Tr → Tr
  | .node c ks => .node c ((tolds ks).mergeSort leW)
def tolds : List Tr → List Tr
  | [] => []
  | t :: r => t.told :: tolds r
end
theorem tolds_map : ∀ ts : List Tr, tolds ts = ts.map Tr.told
  | [] => rfl
  | t :: r => by simp only [tolds, List.map_cons, tolds_map r]
theorem tolds_len (ts : List Tr) : (tolds ts).length = ts.length := by rw [tolds_map, List.length_map]
theorem wrs_append : ∀ a b : List Tr, wrs (a ++ b) = wrs a ++ wrs b
  | [], b => rfl
  | t :: r, b => by simp only [List.cons_append, wrs, wrs_append r b, List.append_assoc]
theorem leW_trans (a b c : Tr) (h : leW a b = true) (g : leW b c = true) : leW a c = true :=
  decide_eq_true (List.le_trans (of_decide_eq_true h) (of_decide_eq_true g))
theorem leW_total (a b : Tr) : (leW a b || leW b a) = true := by
  rcases List.le_total a.wr b.wr with h | h
  · simp [leW, h]
  · simp [leW, h]
abbrev Ltr (c : Nat) : Prop := 97 ≤ c ∧ c ≤ 122
theorem wr_ne (t : Tr) : t.wr ≠ [] := by
  cases t
  simp [Tr.wr]
theorem wr_head {t : Tr} (h : t.lets Ltr) : ∃ c l, t.wr = c :: l ∧ 97 ≤ c := by
  cases t with
  | node c ks =>
    simp only [Tr.lets] at h
    exact ⟨c, _, rfl, h.1.1⟩
theorem wrs_ne {t : Tr} {r : List Tr} : ∃ x l, wrs (t :: r) = x :: l := by
  cases t
  simp [wrs, Tr.wr]
theorem brk_wrs (t : Tr) (r : List Tr) : brk (wrs (t :: r)) = 40 :: (wrs (t :: r) ++ [41]) := by
  obtain ⟨x, l, e⟩ := wrs_ne (t := t) (r := r)
  rw [e]
  rfl
def nb (u : List Nat) : Prop := u.head? ≠ some 40
mutual
theorem wr_inj : ∀ (a b : Tr) (u v : List Nat), a.lets Ltr → b.lets Ltr → a.wr ++ u = b.wr ++ v → nb u → nb v → a = b ∧ u = v
  | .node c ks, .node d js, u, v, ha, hb, h, hu, hv => by
    simp only [Tr.lets] at ha hb
    simp only [Tr.wr, List.cons_append, List.cons.injEq] at h
    obtain ⟨rfl, h⟩ := h
    cases ks with
    | nil =>
      cases js with
      | nil => exact ⟨rfl, h⟩
      | cons j js =>
        obtain ⟨x, l, e⟩ := wrs_ne (t := j) (r := js)
        rw [e] at h
        simp only [wrs, brk, List.nil_append, List.cons_append] at h
        rw [h] at hu
        exact absurd rfl hu
    | cons k ks =>
      rw [brk_wrs k ks] at h
      cases js with
      | nil =>
        simp only [wrs, brk, List.nil_append, List.cons_append] at h
        rw [← h] at hv
        exact absurd rfl hv
      | cons j js =>
        rw [brk_wrs j js] at h
        simp only [List.cons_append, List.append_assoc, List.cons.injEq, true_and, List.singleton_append] at h
        obtain ⟨e1, e2⟩ := wrs_inj (k :: ks) (j :: js) u v ha.2 hb.2 h
        exact ⟨by rw [e1], e2⟩
theorem wrs_inj : ∀ (ks js : List Tr) (u v : List Nat), letss Ltr ks → letss Ltr js → wrs ks ++ 41 :: u = wrs js ++ 41 :: v → ks = js ∧ u = v
  | [], [], u, v, _, _, h => ⟨rfl, by simpa [wrs] using h⟩
  | [], j :: js, u, v, _, hb, h => by
    simp only [letss] at hb
    obtain ⟨c, l, e, hc⟩ := wr_head hb.1
    simp only [wrs, e, List.nil_append, List.cons_append, List.cons.injEq] at h
    omega
  | k :: ks, [], u, v, ha, _, h => by
    simp only [letss] at ha
    obtain ⟨c, l, e, hc⟩ := wr_head ha.1
    simp only [wrs, e, List.nil_append, List.cons_append, List.cons.injEq] at h
    omega
  | k :: ks, j :: js, u, v, ha, hb, h => by
    simp only [letss] at ha hb
    simp only [wrs, List.append_assoc] at h
    have nbk : ∀ (l : List Tr) (w : List Nat), letss Ltr l → nb (wrs l ++ 41 :: w) := by
      intro l w hl
      cases l with
      | nil => simp [nb, wrs]
      | cons a b =>
        simp only [letss] at hl
        obtain ⟨c, m, e, hc⟩ := wr_head hl.1
        simp only [nb, wrs, e, List.cons_append, List.head?_cons]
        intro h
        cases h
        omega
    have := wr_inj k j _ _ ha.1 hb.1 h (nbk _ _ ha.2) (nbk _ _ hb.2)
    obtain ⟨rfl, h2⟩ := this
    obtain ⟨rfl, h3⟩ := wrs_inj ks js u v ha.2 hb.2 h2
    exact ⟨rfl, h3⟩
end
theorem wr_eq {a b : Tr} (ha : a.lets Ltr) (hb : b.lets Ltr) (h : a.wr = b.wr) : a = b :=
  (wr_inj a b [] [] ha hb (by rw [h]) (by simp [nb]) (by simp [nb])).1
mutual
theorem told_lets {p : Nat → Prop} : ∀ t : Tr, t.lets p → t.told.lets p
  | .node c ks, h => by
    simp only [Tr.lets, Tr.told] at h ⊢
    exact ⟨h.1, letss_perm (List.mergeSort_perm _ _).symm (tolds_lets ks h.2)⟩
theorem tolds_lets {p : Nat → Prop} : ∀ ts : List Tr, letss p ts → letss p (tolds ts)
  | [], _ => trivial
  | t :: r, h => by
    simp only [letss, tolds] at h ⊢
    exact ⟨told_lets t h.1, tolds_lets r h.2⟩
end
theorem sorted_is {a b : List Tr} (ha : letss Ltr b) (hp : a.Perm b) (hs : a.Pairwise fun x y => leW x y = true) : a = b.mergeSort leW := by
  refine List.Perm.eq_of_pairwise (le := fun x y => leW x y = true) ?_ hs (List.pairwise_mergeSort leW_trans leW_total _) (hp.trans (List.mergeSort_perm _ _).symm)
  intro x y hx hy h g
  have hx2 := letss_mem ha (hp.mem_iff.mp hx)
  have hy2 := letss_mem ha ((List.mergeSort_perm _ _).mem_iff.mp hy)
  exact wr_eq hx2 hy2 (List.le_antisymm (of_decide_eq_true h) (of_decide_eq_true g))
theorem sort_perm {a b : List Tr} (ha : letss Ltr b) (hp : a.Perm b) : a.mergeSort leW = b.mergeSort leW :=
  sorted_is ha ((List.mergeSort_perm _ _).trans hp) (List.pairwise_mergeSort leW_trans leW_total _)
theorem tolds_perm {a b : List Tr} (h : a.Perm b) : (tolds a).Perm (tolds b) := by
  rw [tolds_map, tolds_map]
  exact h.map _
mutual
theorem Sh.told : ∀ {t u : Tr}, Sh t u → t.lets Ltr → t.told = u.told
  | _, _, .node (ks := ks) (us := us) (ls := ls) p h, hl => by
    simp only [Tr.lets] at hl
    simp only [Tr.told]
    have e := Shs.told h (letss_perm p hl.2)
    rw [sort_perm (tolds_lets _ (letss_perm p hl.2)) (tolds_perm p), e]
theorem Shs.told : ∀ {ts us : List Tr}, Shs ts us → My.letss Ltr ts → tolds ts = tolds us
  | _, _, .nil, _ => rfl
  | _, _, .cons a b, hl => by
    simp only [My.letss] at hl
    simp only [tolds, Sh.told a hl.1, Shs.told b hl.2]
end
theorem sizes_sort (ts : List Tr) : sizes (ts.mergeSort leW) = sizes ts := sizes_perm (List.mergeSort_perm _ _)
theorem depths_sort (ts : List Tr) : depths (ts.mergeSort leW) = depths ts := depths_perm (List.mergeSort_perm _ _)
mutual
theorem told_size : ∀ t : Tr, t.told.size = t.size
  | .node c ks => by simp only [Tr.told, Tr.size, sizes_sort, tolds_sizes ks]
theorem tolds_sizes : ∀ ts : List Tr, sizes (tolds ts) = sizes ts
  | [] => rfl
  | t :: r => by simp only [tolds, sizes, told_size t, tolds_sizes r]
end
mutual
theorem told_depth : ∀ t : Tr, t.told.depth = t.depth
  | .node c ks => by simp only [Tr.told, Tr.depth, depths_sort, tolds_depths ks]
theorem tolds_depths : ∀ ts : List Tr, depths (tolds ts) = depths ts
  | [] => rfl
  | t :: r => by simp only [tolds, depths, told_depth t, tolds_depths r]
end
mutual
theorem wr_len : ∀ t : Tr, t.wr.length ≤ 3 * t.size
  | .node c ks => by
    have := wrs_len ks
    have e : (brk (wrs ks)).length ≤ (wrs ks).length + 2 := by
      cases wrs ks with
      | nil => simp [brk]
      | cons x l => simp [brk]
    simp only [Tr.wr, Tr.size, List.length_cons]
    omega
theorem wrs_len : ∀ ts : List Tr, (wrs ts).length ≤ 3 * sizes ts
  | [] => by simp [wrs]
  | t :: r => by
    have a := wr_len t
    have b := wrs_len r
    simp only [wrs, sizes, List.length_append]
    omega
end
def steps : List Tr → List Tr → Option (List Tr)
  | s, [] => some s
  | s, .node c ks :: r => if ks.length ≤ s.length then steps (s.take (s.length - ks.length) ++ [.node c ((s.drop (s.length - ks.length)).mergeSort leW)]) r else none
mutual
theorem steps_post : ∀ (t : Tr) (s r : List Tr), steps s (t.post ++ r) = steps (s ++ [t.told]) r
  | .node c ks, s, r => by
    have e := steps_posts ks s (.node c ks :: r)
    simp only [Tr.post, List.append_assoc, List.singleton_append]
    rw [e]
    have l := tolds_len ks
    simp only [steps, List.length_append, l, Nat.add_sub_cancel, Nat.le_add_left, if_true, Tr.told]
    rw [List.take_left, List.drop_left]
theorem steps_posts : ∀ (ts : List Tr) (s r : List Tr), steps s (posts ts ++ r) = steps (s ++ tolds ts) r
  | [], s, r => by simp only [posts, tolds, List.nil_append, List.append_nil]
  | t :: ts, s, r => by
    simp only [posts, tolds, List.append_assoc]
    rw [steps_post t s (posts ts ++ r), steps_posts ts (s ++ [t.told]) r]
    simp only [List.append_assoc, List.singleton_append]
end
theorem steps_all (t : Tr) : steps [] t.post = some [t.told] := by
  have := steps_post t [] []
  rw [List.append_nil] at this
  rw [this]
  rfl
mutual
theorem told_told : ∀ t : Tr, t.lets Ltr → t.told.told = t.told
  | .node c ks, h => by
    simp only [Tr.lets] at h
    simp only [Tr.told]
    have e : tolds ((tolds ks).mergeSort leW) = (tolds ks).mergeSort leW := by
      rw [tolds_map]
      have : ∀ x ∈ (tolds ks).mergeSort leW, x.told = x := fun x hx => tolds_fix ks h.2 x ((List.mergeSort_perm _ _).mem_iff.mp hx)
      exact (List.map_congr_left this).trans (List.map_id' _)
    rw [e, sort_perm (tolds_lets ks h.2) (List.mergeSort_perm _ _)]
theorem tolds_fix : ∀ ts : List Tr, letss Ltr ts → ∀ x ∈ tolds ts, x.told = x
  | [], _, x, hx => by simp [tolds] at hx
  | t :: r, h, x, hx => by
    simp only [letss] at h
    simp only [tolds, List.mem_cons] at hx
    rcases hx with rfl | hx
    · exact told_told t h.1
    · exact tolds_fix r h.2 x hx
end

mutual
inductive TrO (ok : Addr → Prop) (H : Hp) : V → Tr → List Addr → Prop
  | node {a l : Addr} {vs : List V} {c : Nat} {ks : List Tr} {as : List Addr} : H a = some (.tup [.str (ch c), .ref l]) → H l = some (.lst vs) → ok a → ok l → 97 ≤ c → c ≤ 122 → TrsO ok H vs ks as → TrO ok H (.ref a) (.node c ks) (l :: as)
inductive TrsO (ok : Addr → Prop) (H : Hp) : List V → List Tr → List Addr → Prop
  | nil : TrsO ok H [] [] []
  | cons {v : V} {vs : List V} {t : Tr} {ts : List Tr} {as bs : List Addr} : TrO ok H v t as → TrsO ok H vs ts bs → TrsO ok H (v :: vs) (t :: ts) (as ++ bs)
end
section
variable {ok ok' : Addr → Prop} {H H' : Hp}
mutual
theorem TrO.imp (hk : ∀ b, ok b → ok' b) (h : ∀ b o, ok b → H b = some o → H' b = some o) : ∀ (t : Tr) (v : V) (as : List Addr), TrO ok H v t as → TrO ok' H' v t as
  | .node c ks, v, as, x => by
    cases x with
    | node h1 h2 k1 k2 c1 c2 r => exact .node (h _ _ k1 h1) (h _ _ k2 h2) (hk _ k1) (hk _ k2) c1 c2 (TrsO.imp hk h ks _ _ r)
theorem TrsO.imp (hk : ∀ b, ok b → ok' b) (h : ∀ b o, ok b → H b = some o → H' b = some o) : ∀ (ts : List Tr) (vs : List V) (as : List Addr), TrsO ok H vs ts as → TrsO ok' H' vs ts as
  | [], vs, as, x => by cases x; exact .nil
  | t :: r, vs, as, x => by
    cases x with
    | cons a b => exact .cons (TrO.imp hk h t _ _ a) (TrsO.imp hk h r _ _ b)
end
theorem TrO.keep {v : V} {t : Tr} {as : List Addr} (x : TrO ok H v t as) (h : ∀ b o, ok b → H b = some o → H' b = some o) : TrO ok H' v t as := TrO.imp (fun _ k => k) h t v as x
theorem TrO.same {v : V} {t : Tr} {as : List Addr} (x : TrO ok H v t as) (s : Same H H') : TrO ok H' v t as := x.keep fun b o _ h => s b o h
theorem TrO.weak {v : V} {t : Tr} {as : List Addr} (x : TrO ok H v t as) (h : ∀ b, ok b → ok' b) : TrO ok' H v t as := TrO.imp h (fun _ _ _ e => e) t v as x
theorem TrsO.keep {vs : List V} {ts : List Tr} {as : List Addr} (x : TrsO ok H vs ts as) (h : ∀ b o, ok b → H b = some o → H' b = some o) : TrsO ok H' vs ts as := TrsO.imp (fun _ k => k) h ts vs as x
theorem TrsO.same {vs : List V} {ts : List Tr} {as : List Addr} (x : TrsO ok H vs ts as) (s : Same H H') : TrsO ok H' vs ts as := x.keep fun b o _ h => s b o h
theorem TrsO.weak {vs : List V} {ts : List Tr} {as : List Addr} (x : TrsO ok H vs ts as) (h : ∀ b, ok b → ok' b) : TrsO ok' H vs ts as := TrsO.imp h (fun _ _ _ e => e) ts vs as x
mutual
theorem TrO.at : ∀ (t : Tr) (v : V) (as : List Addr), TrO ok H v t as → TrAt ok H v t
  | .node c ks, v, as, x => by
    cases x with
    | node h1 h2 k1 k2 c1 c2 r => exact .node h1 h2 k1 k2 c1 c2 (TrsO.at ks _ _ r)
theorem TrsO.at : ∀ (ts : List Tr) (vs : List V) (as : List Addr), TrsO ok H vs ts as → TrsAt ok H vs ts
  | [], vs, as, x => by cases x; exact .nil
  | t :: r, vs, as, x => by
    cases x with
    | cons a b => exact .cons (TrO.at t _ _ a) (TrsO.at r _ _ b)
end
mutual
theorem TrO.lst : ∀ (t : Tr) (v : V) (as : List Addr), TrO ok H v t as → ∀ b ∈ as, ok b ∧ ∃ xs, H b = some (.lst xs)
  | .node c ks, v, as, x => by
    cases x with
    | node h1 h2 k1 k2 c1 c2 r =>
      intro b hb
      rcases List.mem_cons.mp hb with e | hb
      · subst e; exact ⟨k2, _, h2⟩
      · exact TrsO.lst ks _ _ r b hb
theorem TrsO.lst : ∀ (ts : List Tr) (vs : List V) (as : List Addr), TrsO ok H vs ts as → ∀ b ∈ as, ok b ∧ ∃ xs, H b = some (.lst xs)
  | [], vs, as, x => by cases x; intro b hb; cases hb
  | t :: r, vs, as, x => by
    cases x with
    | cons x1 x2 =>
      intro b hb
      rcases List.mem_append.mp hb with hb | hb
      · exact TrO.lst t _ _ x1 b hb
      · exact TrsO.lst r _ _ x2 b hb
end
mutual
theorem TrO.there : ∀ (t : Tr) (v : V) (as : List Addr), TrO ok H v t as → TrO (fun b => ok b ∧ ∃ o, H b = some o) H v t as
  | .node c ks, v, as, x => by
    cases x with
    | node h1 h2 k1 k2 c1 c2 r => exact .node h1 h2 ⟨k1, _, h1⟩ ⟨k2, _, h2⟩ c1 c2 (TrsO.there ks _ _ r)
theorem TrsO.there : ∀ (ts : List Tr) (vs : List V) (as : List Addr), TrsO ok H vs ts as → TrsO (fun b => ok b ∧ ∃ o, H b = some o) H vs ts as
  | [], vs, as, x => by cases x; exact .nil
  | t :: r, vs, as, x => by
    cases x with
    | cons a b => exact .cons (TrO.there t _ _ a) (TrsO.there r _ _ b)
end
theorem TrO.off {v : V} {t : Tr} {as : List Addr} {w : Addr} (x : TrO ok H v t as) (h : H w = none) : TrO (fun b => ok b ∧ b ≠ w) H v t as :=
  (TrO.there t v as x).weak fun b ⟨k, o, e⟩ => ⟨k, ne_of_none e h⟩
theorem TrsO.off {vs : List V} {ts : List Tr} {as : List Addr} {w : Addr} (x : TrsO ok H vs ts as) (h : H w = none) : TrsO (fun b => ok b ∧ b ≠ w) H vs ts as :=
  (TrsO.there ts vs as x).weak fun b ⟨k, o, e⟩ => ⟨k, ne_of_none e h⟩
theorem TrsO.of : ∀ bs : List (V × Tr × List Addr), (∀ b ∈ bs, TrO ok H b.1 b.2.1 b.2.2) → TrsO ok H (bs.map (·.1)) (bs.map (·.2.1)) (bs.map (·.2.2)).flatten
  | [], _ => .nil
  | b :: r, h => by
    simp only [List.map_cons, List.flatten_cons]
    exact .cons (h b (by simp)) (TrsO.of r fun x hx => h x (by simp [hx]))
theorem TrsO.split1 : ∀ {vs : List V} {ts : List Tr} {as : List Addr}, TrsO ok H vs ts as → ∃ bs : List (V × Tr × List Addr), vs = bs.map (·.1) ∧ ts = bs.map (·.2.1) ∧ as = (bs.map (·.2.2)).flatten ∧ ∀ b ∈ bs, TrO ok H b.1 b.2.1 b.2.2
  | _, _, _, .nil => ⟨[], rfl, rfl, rfl, fun _ h => by cases h⟩
  | _, _, _, .cons (v := v) (t := t) (as := as) a b => by
    obtain ⟨bs, rfl, rfl, rfl, h⟩ := TrsO.split1 b
    refine ⟨(v, t, as) :: bs, rfl, rfl, rfl, fun x hx => ?_⟩
    rcases List.mem_cons.mp hx with e | hx
    · subst e; exact a
    · exact h x hx
theorem TrsO.snoc {vs : List V} {ts : List Tr} {as bs : List Addr} {v : V} {t : Tr} (x : TrsO ok H vs ts as) (y : TrO ok H v t bs) : TrsO ok H (vs ++ [v]) (ts ++ [t]) (as ++ bs) := by
  obtain ⟨cs, rfl, rfl, rfl, h⟩ := x.split1
  have := TrsO.of (ok := ok) (H := H) (cs ++ [(v, t, bs)]) (by
    intro b hb
    rcases List.mem_append.mp hb with hb | hb
    · exact h b hb
    · simp only [List.mem_singleton] at hb
      subst hb
      exact y)
  simpa using this
theorem TrsO.len {vs : List V} {ts : List Tr} {as : List Addr} (x : TrsO ok H vs ts as) : vs.length = ts.length := (TrsO.at ts vs as x).len
end
def ws (t : Tr) : Str := ⟨t.wr.toArray⟩
def RowO1 (ok : Addr → Prop) (H : Hp) (b : V × Tr × List Addr) : Prop := ∃ p x, b.1 = .ref p ∧ H p = some (.tup [.str (ws b.2.1), x]) ∧ ok p ∧ TrO ok H x b.2.1 b.2.2
theorem RowO1.imp {ok ok' : Addr → Prop} {H H' : Hp} {b : V × Tr × List Addr} (x : RowO1 ok H b) (hk : ∀ b, ok b → ok' b) (h : ∀ b o, ok b → H b = some o → H' b = some o) : RowO1 ok' H' b := by
  obtain ⟨p, x, e, h1, h2, h3⟩ := x
  exact ⟨p, x, e, h _ _ h2 h1, hk _ h2, TrO.imp hk h _ _ _ h3⟩
theorem RowO1.same {ok : Addr → Prop} {H H' : Hp} {b : V × Tr × List Addr} (x : RowO1 ok H b) (s : Same H H') : RowO1 ok H' b := x.imp (fun _ k => k) fun b o _ h => s b o h
theorem nodup_snoc {α : Type} {as bs : List α} (ha : as.Nodup) (hb : bs.Nodup) (h : ∀ x ∈ as, x ∉ bs) : (as ++ bs).Nodup := by
  rw [List.nodup_append]
  exact ⟨ha, hb, fun a h1 b h2 e => h a h1 (e ▸ h2)⟩

open LamX NdefX in
structure CalX (P : Program) (w : World) (K : PySem.W.Frag) (mg : Str → Option Value) (base : Heap) (k : Nat) (f : Addr) (G : Hp → Prop) (np : Nat) (sp : Sp) : Prop where
  len : ∀ vs H Q E, sp vs H Q E → vs.length = np
  at_ : ∀ (s : Shared) (H : Hp), HOk P w H s.heap → K.In s.heap → G H → PySem.W.FnAt f s.heap
  run : ∀ (A : Around) (outer : List Env) (s : Shared) (H : Hp) (us : List Value) (vs : List V) (Q : VK) (E : XK), Room k A → Env0 P w K mg base A outer s H → G H → Vals vs us → sp vs H Q E → codeAny (model P w) A (.call (.ref f) ⟨us, []⟩) (CR CX0 outer P w H s Q E) s
def tCalX (i : Nat) (f : Addr) (G : Hp → Prop) (sp : Sp) (t : TA) : TE := fun σ H Q => σ[i]? = some (some (.ref f)) ∧ G H ∧ t σ H fun vs H1 => G H1 ∧ sp vs H1 Q C8.E0
theorem pe_calX {X : Cx} {k i np : Nat} {f : Addr} {G : Hp → Prop} {sp : Sp} {x : Str} {p pos : Pos} {e : PySem.Expr} {es : List PySem.Expr} {t : TA}
    (C : CalX X.prog X.w X.K X.mg X.base k f G np sp) (hr : Room k X.A) (hN : X.N[i]? = some x) (hv : Vis X.env.scope x) (ha : PA X (e :: es) t)
    (hdb : (x == ("__debug__" : Str)) = false := by decide) (hcd : (x == ("__classdict__" : Str)) = false := by decide)
    (he : starEach (e :: es) X.env = (false, eval e X.env) :: starEach es X.env := by rfl) (hpl : (backTo pos (starEach es X.env)).any (·.1) = false := by rfl) : PE X (.Call (.Name x p) (e :: es) [] pos) (tCalX i f G sp t) := by
  refine ⟨fun pins s σ H Q I h => ?_⟩
  obtain ⟨hs, hg, ht⟩ := h
  refine wpAny_Call_Name_kw (thn ((pe_var (pos := p) hN hv hdb hcd).run pins s σ H (fun v H1 => v = .ref f ∧ H1 = H) I ⟨.ref f, hs, rfl, rfl⟩) fun u s1 ⟨v, H1, I1, r1, q1⟩ => ?_)
  obtain ⟨ev, eH⟩ := q1
  subst ev
  rw [eH] at I1
  obtain rfl : u = Value.ref f := r1
  refine PySem.W.callWith_F (first := []) (C.at_ s1 H I1.hok I1.kIn hg) (thn (ha.run pos pins s1 σ H _ I1 ht) fun us s2 ⟨vs, H2, I2, r, h1, q⟩ => ⟨C.at_ s2 H2 I2.hok I2.kIn h1, ?_⟩) he hpl
  show wpAny _ _ (call (.ref f) us) _ _ _
  refine wpAny_call (codeAny_mono (C.run X.A X.stack s2 H2 us vs Q C8.E0 hr I2.env0 h1 r q) fun r s' hq => ?_)
  cases r with
  | error e => exact (show False from hq).elim
  | ok fl =>
    cases fl with
    | ret u => exact I2.after hq
    | next => exact False.elim hq
    | brk => exact False.elim hq
    | cont => exact False.elim hq
theorem calX_of {P : Program} {w : World} {K : PySem.W.Frag} {mg : Str → Option Value} {base : Heap} {k : Nat} {x q : Str} {st : Stmt} {f : Addr} {fd : FuncData} {ps : List Str} {sp : Sp} (F : FnOk P w K mg base CX0 k f fd ps sp) (U : Fun K x q st f fd) (hb : Binds K fd ps []) {G : Hp → Prop} : CalX P w K mg base k f G ps.length sp := by
  refine ⟨F.len, fun s H _ hk _ => ?_, fun A outer s H us vs Q E hr e0 _ r h => ?_⟩
  · obtain ⟨oc, od, kV, doc, pm, an, cdv, ct, osl, rfl, lk, hcd⟩ := U.ex
    exact ⟨_, _, _, _, hk _ _ lk⟩
  · have KX : K.In s.heap := e0.mod.kin.keeps fun b o e => (e0.bs b o e).1
    have hl : us.length = ps.length := by rw [← r.length]; exact F.len _ _ _ _ h
    have hb' := hb s us KX (by rw [List.append_nil]; exact hl)
    rw [List.append_nil] at hb'
    exact F.run A outer s H ⟨us, []⟩ us vs Q E hr e0 hb' r h
structure LF where
  qual : Str
  params : Arguments
  body : PySem.Expr
  scope : PySem.Scope
  cl : List (Str × Addr)
  c : Addr
abbrev LF.nf (F : LF) : NdefX.NF := ⟨"<lambda>", F.qual, F.params, [], F.scope, F.cl, F.c⟩
def LamO (f : Addr) (F : LF) : HO := .ext fun h => ∃ pm ctv, h.get? f = some (PySem.W.kla_obj "<lambda>" F.qual F.params F.body F.scope F.cl pm F.c ctv)
theorem lamO_ok {P : Program} {w : World} {H : Hp} {h : Heap} {F : LF} {pm ctv : Value} :
    ObjOk P w H (h.push (PySem.W.kla_obj "<lambda>" F.qual F.params F.body F.scope F.cl pm F.c ctv)) h.objs.size (LamO h.objs.size F) := by
  have e : (h.push (PySem.W.kla_obj "<lambda>" F.qual F.params F.body F.scope F.cl pm F.c ctv)).get? h.objs.size = some (PySem.W.kla_obj "<lambda>" F.qual F.params F.body F.scope F.cl pm F.c ctv) := Heap.get?_push_size _ rfl
  exact ⟨⟨pm, ctv, e⟩, ⟨_, e⟩, fun h1 h2 ⟨a1, a2, e1⟩ k => ⟨a1, a2, k _ e1⟩⟩
theorem calX_lam {P : Program} {w : World} {K : PySem.W.Frag} {mg : Str → Option Value} {base : Heap} {k : Nat} {N ps : List Str} {f : Addr} {F : LF} {sp : Sp} (S : NdefX.NScope N ps [] F.scope) (hcl : F.cl = [])
    (hb : ∀ (pm ctv : Value) (us : List Value), us.length = ps.length → bindArgs (PySem.W.kla_fn "<lambda>" F.qual F.params F.body F.scope F.cl pm (.ref F.c) ctv) ⟨us, []⟩ = pure (ps.zip us)) (len : ∀ vs H Q E, sp vs H Q E → vs.length = ps.length)
    (hbody : ∀ (A : Around) (outer : List Env) (s : Shared) (H : Hp) (vs : List V) (Q : VK) (E : XK), Room k (A.deeper (NdefX.envF F.nf f s.heap.objs.size)) → sp vs H Q E →
      ∃ t, PE (NdefX.ncx CX0 P w K mg base N F.nf f A outer s H E) F.body t ∧ t (NdefX.startF N vs []) H Q) :
    CalX P w K mg base (k + 1) f (fun H => H f = some (LamO f F) ∧ H F.c = some (LamX.CodeO F.c F.qual)) ps.length sp := by
  refine ⟨len, fun s H hok _ hg => ?_, fun A outer s H us vs Q E hr e0 hg r hsp => ?_⟩
  · obtain ⟨⟨pm, ctv, e⟩, _, _⟩ := hok _ _ hg.1
    exact ⟨_, _, _, _, e⟩
  obtain ⟨⟨pm, ctv, ho⟩, _, _⟩ := e0.hok _ _ hg.1
  have hl := len _ _ _ _ hsp
  have lim : s.heap.NoLimit := e0.mod.nolimit.keeps fun b o e => (e0.bs b o e).1
  refine PySem.W.kla_callFunE hr.depth ho rfl S.co S.gen rfl (NdefX.codeO_at e0.hok hg.2) ?_
  rw [hb pm ctv us (by rw [← r.length]; exact hl)]
  refine wpAny_pure (wpAny_newFunctionEnv S.nocell (fun ⟨n, _⟩ hy => S.par n (List.of_mem_zip hy).1) (fun h₁ hns hsb => ⟨lim.fresh _ hsb, ?_⟩) S.kind)
  show codeAny _ _ (.expr F.body (NdefX.envF F.nf f s.heap.objs.size)) _ _
  have kp : ∀ b o, s.heap.get? b = some o → h₁.get? b = some o := fun b o e => hsb.extBut b o (Nat.ne_of_lt (Heap.lt_size e)) (Heap.get?_push_of_some _ e)
  obtain ⟨t, ht, hq⟩ := hbody A outer s H vs Q E (hr.deeper _) hsp
  have C : NdefX.CellsAt F.nf.cl [] [] s.heap H := by
    have e : F.nf.cl = [] := hcl
    rw [e]
    exact ⟨rfl, (fun y c e => by cases e), (fun x y c e => by cases e), (fun i y e => by simp at e)⟩
  have I : Inv (NdefX.ncx CX0 P w K mg base N F.nf f A outer s H E) [] (NdefX.startF N vs []) H { s with heap := h₁, toks := s.toks + (ps.zip us).length } := NdefX.inv_startN S hr.hd e0 hl r C hns kp
  refine PySem.W.kla_codeExpr (wpAny_mono (ht.run [] _ _ H Q I hq) (fun v s' hq => ?_) fun e s' hq => hq)
  obtain ⟨w', H', J', rv, q⟩ := hq
  exact ⟨w', H', J'.os, J'.bare, J'.base, J'.hok, rv, q⟩
theorem pe_lamX {X : Cx} {c P : Addr} {params : Arguments} {body : PySem.Expr} {scope : PySem.Scope} {pos : Pos} (tb : LamX.TabB X.base X.mg c P) (hc : X.env.code = .ref c) (hd : defaultsOf params X.env = ([], []))
    (hfree : ∀ y ∈ scope.names, y.2 = .free → ∃ c, X.env.cells.lookup y.1 = some c) : PE X (.Lambda params body scope pos) (fun σ H Q => LamX.TabS H P (X.env.qual ++ "<lambda>") ∧ ∀ (f c : Addr) (H1 : Hp), Fr P H H1 → (∀ b, H1 b = none → H b = none) → LamX.TabS H1 P (X.env.qual ++ "<lambda>") → H f = none →
      H1 f = some (LamO f ⟨X.env.qual ++ "<lambda>", params, body, scope, cloFrom X.env.cells scope.names [], c⟩) → H1 c = some (LamX.CodeO c (X.env.qual ++ "<lambda>")) → Q (.ref f) H1) := by
  refine ⟨fun pins s σ H Q I h => ?_⟩
  obtain ⟨ht, q⟩ := h
  have hclo : closureFor scope X.env = pure (cloFrom X.env.cells scope.names []) := closure_ok hfree
  have ht' := ht
  obtain ⟨ps, hP, hT, hA⟩ := ht'
  have oP : s.heap.get? P = some (PySem.W.tabObj ps) := I.hok _ _ hP
  refine PySem.W.kla_eval hd ?_
  cases hcd : codeAmong pos ps.toList with
  | some cv =>
    obtain ⟨c', rfl, hc'⟩ := hA _ _ hcd
    refine PySem.W.kla_makeFunctionHit hclo I.ok.glob (I.mod.glob.keeps I.bk) hc (tb.code.keeps I.bk) oP hT hcd (tb.bm.keeps I.bk) (fun ctv h' tk hk hs => ?_)
    have I1 := I.kept (t' := tk) hk
    have hz : s.heap.objs.size ≤ h'.objs.size := hs
    have hn : H h'.objs.size = none := I.hok.fresh hz
    refine ⟨.ref h'.objs.size, upd H h'.objs.size (LamO h'.objs.size ⟨X.env.qual ++ "<lambda>", params, body, scope, cloFrom X.env.cells scope.names [], c'⟩), ?_, rfl, q _ c' _ (fun b o _ hb => ?_) (fun b e => NdefX.upd_none e) (ht.ext fun b o hb => ?_) hn upd_same ?_⟩
    · exact I1.laid (h' := h'.push _) (t' := tk) (fun b u hb => Heap.get?_push_of_some _ hb) (Nat.le_refl _) (lamO_ok (F := ⟨X.env.qual ++ "<lambda>", params, body, scope, cloFrom X.env.cells scope.names [], c'⟩))
    · rw [upd_ne (ne_of_none hb hn)]; exact hb
    · rw [upd_ne (ne_of_none hb hn)]; exact hb
    · rw [upd_ne (ne_of_none hc' hn)]; exact hc'
  | none =>
    refine PySem.W.kla_makeFunction hclo I.ok.glob (I.mod.glob.keeps I.bk) hc (tb.code.keeps I.bk) oP hT hcd tb.gP (tb.bm.keeps I.bk) (fun c' ctv h' tk he hl hu hrec hP' => ?_)
    obtain ⟨c2, o2, vs2, t2, ec, e1, e2, e3⟩ := hrec
    cases ec
    have I2 := LamX.inv_table (t' := tk) (c := c') (q := X.env.qual ++ "<lambda>") I hP he (more := #[rawInt ↑pos.line, rawInt ↑pos.col, .ref c']) hP' hl ⟨_, _, _, e1, e2, e3⟩
    have hn : (upd (upd H P (.tbl (ps ++ #[rawInt ↑pos.line, rawInt ↑pos.col, .ref c']))) c' (LamX.CodeO c' (X.env.qual ++ "<lambda>"))) h'.objs.size = none := I2.hok.fresh (Nat.le_refl _)
    have hcn : H c' = none := I.hok.fresh hl
    have hPc : P ≠ c' := fun e => by rw [e] at hP; rw [hcn] at hP; cases hP
    refine ⟨.ref h'.objs.size, _, I2.laid (h' := h'.push _) (o := LamO h'.objs.size ⟨X.env.qual ++ "<lambda>", params, body, scope, cloFrom X.env.cells scope.names [], c'⟩) (t' := tk) (fun b u hb => Heap.get?_push_of_some _ hb) (Nat.le_refl _) (lamO_ok (F := ⟨X.env.qual ++ "<lambda>", params, body, scope, cloFrom X.env.cells scope.names [], c'⟩)), rfl, q _ c' _ ?_ (fun b e => NdefX.upd_none (NdefX.upd_none (NdefX.upd_none e))) ?_ (NdefX.upd_none (NdefX.upd_none hn)) upd_same ?_⟩
    · intro b o hbP hb
      have h1 : (upd (upd H P (.tbl (ps ++ #[rawInt ↑pos.line, rawInt ↑pos.col, .ref c']))) c' (LamX.CodeO c' (X.env.qual ++ "<lambda>"))) b = some o := by
        rw [upd_ne (ne_of_none hb hcn), upd_ne hbP]; exact hb
      rw [upd_ne (ne_of_none h1 hn)]; exact h1
    · refine LamX.TabS.ext (H := upd (upd H P (.tbl (ps ++ #[rawInt ↑pos.line, rawInt ↑pos.col, .ref c']))) c' (LamX.CodeO c' (X.env.qual ++ "<lambda>"))) ?_ (fun b o hb => by rw [upd_ne (ne_of_none hb hn)]; exact hb)
      refine ⟨_, by rw [upd_ne hPc]; exact upd_same, ?_, ?_⟩
      · simpa using TriplesOk_snoc _ _ _ _ hT
      · intro pos2 cv hcv
        rw [Array.toList_append] at hcv
        rcases LamX.among_app _ hT hcv with h | h
        · obtain ⟨c3, e3, h3⟩ := hA _ _ h
          refine ⟨c3, e3, ?_⟩
          rw [upd_ne (ne_of_none h3 hcn), upd_ne (fun e => by rw [e, hP] at h3; cases h3)]
          exact h3
        · exact ⟨c', h, upd_same⟩
    · have h1 : (upd (upd H P (.tbl (ps ++ #[rawInt ↑pos.line, rawInt ↑pos.col, .ref c']))) c' (LamX.CodeO c' (X.env.qual ++ "<lambda>"))) c' = some (LamX.CodeO c' (X.env.qual ++ "<lambda>")) := upd_same
      rw [upd_ne (ne_of_none h1 hn)]; exact h1
theorem nofree_by {scope : PySem.Scope} {cells : List (Str × Addr)} (h : (scope.names.all fun y => !decide (y.2 = .free)) = true) : ∀ y ∈ scope.names, y.2 = .free → ∃ c, cells.lookup y.1 = some c := fun y hy e => by
  have := List.all_eq_true.mp h y hy
  simp only [e, decide_true, Bool.not_true] at this
  cases this
theorem CalX.imp {P : Program} {w : World} {K : PySem.W.Frag} {mg : Str → Option Value} {base : Heap} {k j : Nat} {f : Addr} {G G' : Hp → Prop} {np : Nat} {sp sp' : Sp} (C : CalX P w K mg base k f G np sp) (hk : k ≤ j) (hG : ∀ H, G' H → G H) (hs : ∀ vs H Q E, sp' vs H Q E → sp vs H Q E) : CalX P w K mg base j f G' np sp' :=
  ⟨fun vs H Q E q => C.len vs H Q E (hs _ _ _ _ q), fun s H a b g => C.at_ s H a b (hG H g), fun A outer s H us vs Q E hr e0 g r q => C.run A outer s H us vs Q E (hr.mono hk) e0 (hG H g) r (hs _ _ _ _ q)⟩
inductive Runs : List Tr → List Tr → List Tr → Prop
  | nil {us : List Tr} : Runs us [] us
  | cons {us ks r z : List Tr} {c : Nat} : Runs (us ++ [.node c ks]) r z → Runs (us ++ ks) (.node c ks :: r) z
mutual
theorem runs_post : ∀ (t : Tr) (us r z : List Tr), Runs (us ++ [t]) r z → Runs us (t.post ++ r) z
  | .node c ks, us, r, z, h => by
    simp only [Tr.post, List.append_assoc, List.singleton_append]
    exact runs_posts ks us _ z (.cons h)
theorem runs_posts : ∀ (ts us r z : List Tr), Runs (us ++ ts) r z → Runs us (posts ts ++ r) z
  | [], us, r, z, h => by simpa [posts] using h
  | t :: ts, us, r, z, h => by
    simp only [posts, List.append_assoc]
    refine runs_post t us _ z (runs_posts ts (us ++ [t]) r z ?_)
    rw [List.append_assoc]
    exact h
end
theorem runs_all (t : Tr) : Runs [] t.post [t] := by
  have := runs_post t [] [] [t] .nil
  rwa [List.append_nil] at this
abbrev ItP := (Addr → Prop) → Hp → V → Tr → List Addr → Prop
structure ItOk (It : ItP) : Prop where
  imp : ∀ {ok ok' : Addr → Prop} {H H' : Hp} {v : V} {t : Tr} {as : List Addr}, (∀ b, ok b → ok' b) → (∀ b o, ok b → H b = some o → H' b = some o) → It ok H v t as → It ok' H' v t as
  lst : ∀ {ok : Addr → Prop} {H : Hp} {v : V} {t : Tr} {as : List Addr}, It ok H v t as → ∀ b ∈ as, ok b ∧ ∃ xs, H b = some (.lst xs)
abbrev lstsI (bs : List (V × Tr × List Addr)) : List Addr := (bs.map fun b => b.2.2).flatten
def sp_made (It : ItP) (Pt : Addr) (q : Str) : Sp := fun vs H Q _ => ∃ (c : Nat) (bl : Addr) (bs : List (V × Tr × List Addr)) (ok : Addr → Prop), vs = [.str (ch c), .ref bl] ∧ 97 ≤ c ∧ c ≤ 122 ∧ H bl = some (.lst (bs.map (·.1))) ∧ ok bl ∧
  (∀ b ∈ bs, It ok H b.1 b.2.1 b.2.2) ∧ (bl :: lstsI bs).Nodup ∧ sizes (bs.map (·.2.1)) ≤ 1000000 ∧ (∀ b, ok b → b ≠ Pt) ∧ LamX.TabS H Pt q ∧
  ∀ v as H', Fr Pt H H' → LamX.TabS H' Pt q → It (fun b => ok b ∨ H b = none) H' v (.node c (bs.map (·.2.1))) as → as.Nodup → (∀ a ∈ as, a ∈ bl :: lstsI bs ∨ H a = none) → Q v H'
def sp_built_upward (P : Program) (w : World) (K : PySem.W.Frag) (mg : Str → Option Value) (base : Heap) (k : Nat) (Pt : Addr) (q : Str) : Sp := fun vs H Q _ => ∃ (v : V) (t : Tr) (f : Addr) (It : ItP), vs = [v, .ref f] ∧ TrAt (fun _ => True) H v t ∧ t.size ≤ 1000000 ∧ ItOk It ∧ LamX.TabS H Pt q ∧
  CalX P w K mg base k f (fun H' => Fr Pt H H') 2 (sp_made It Pt q) ∧ ∀ r as H', Fr Pt H H' → LamX.TabS H' Pt q → It (fun b => H b = none) H' r t as → as.Nodup → Q r H'

def CellO (c : Addr) (o : Obj) : HO := .ext fun h => h.get? c = some o
abbrev Lent := List (Addr × Obj)
def lend (H : Hp) (cs : Lent) : Hp := fun b => match cs.lookup b with
  | some o => some (CellO b o)
  | none => H b
def unl (H : Hp) (cs : Lent) : Hp := fun b => match cs.lookup b with
  | some _ => none
  | none => H b
def LentAt (cs : Lent) (H : Hp) : Prop := ∀ c o, cs.lookup c = some o → H c = some (CellO c o)
def Fresh (cs : Lent) (H : Hp) : Prop := ∀ c o, cs.lookup c = some o → H c = none
section
variable {H H' : Hp} {cs : Lent} {b c : Addr} {o : Obj} {u : HO}
theorem lend_in (h : cs.lookup c = some o) : lend H cs c = some (CellO c o) := by unfold lend; rw [h]
theorem lend_out (h : cs.lookup b = none) : lend H cs b = H b := by unfold lend; rw [h]
theorem unl_in (h : cs.lookup c = some o) : unl H cs c = none := by unfold unl; rw [h]
theorem unl_out (h : cs.lookup b = none) : unl H cs b = H b := by unfold unl; rw [h]
theorem Fresh.out (f : Fresh cs H) (h : H b = some u) : cs.lookup b = none := by
  cases e : cs.lookup b with
  | none => rfl
  | some o => rw [f b o e] at h; cases h
theorem lend_some (f : Fresh cs H) (h : H b = some u) : lend H cs b = some u := by rw [lend_out (f.out h)]; exact h
theorem lend_same (f : Fresh cs H) : Same H (lend H cs) := fun _ _ h => lend_some f h
theorem unl_some (h : unl H cs b = some u) : H b = some u := by
  cases e : cs.lookup b with
  | none => rw [unl_out e] at h; exact h
  | some o => rw [unl_in e] at h; cases h
theorem unl_same : Same (unl H cs) H := fun _ _ h => unl_some h
theorem LentAt.out (f : LentAt cs H) (h : H b = some u) (n : ∀ φ, u ≠ .ext φ) : cs.lookup b = none := by
  cases e : cs.lookup b with
  | none => rfl
  | some o => rw [f b o e] at h; cases h; exact absurd rfl (n _)
theorem unl_keep (f : LentAt cs H) (h : H b = some u) (n : ∀ φ, u ≠ .ext φ) : unl H cs b = some u := by rw [unl_out (f.out h n)]; exact h
theorem unl_fresh : Fresh cs (unl H cs) := fun _ _ h => unl_in h
theorem lend_lent : LentAt cs (lend H cs) := fun _ _ h => lend_in h
theorem unl_lend (f : Fresh cs H) : unl (lend H cs) cs = H := by
  funext b
  cases e : cs.lookup b with
  | none => rw [unl_out e, lend_out e]
  | some o => rw [unl_in e, f b o e]
theorem lend_unl (f : LentAt cs H) : lend (unl H cs) cs = H := by
  funext b
  cases e : cs.lookup b with
  | none => rw [lend_out e, unl_out e]
  | some o => rw [lend_in e, f b o e]
end
section
variable {P : Program} {w : World} {H H1 : Hp} {h h0 h1 : Heap} {cs : Lent} {fs : List Addr}
theorem hok_lend (ok : HOk P w H h) (f : Fresh cs H) (hc : ∀ c o, cs.lookup c = some o → h.get? c = some o) : HOk P w (lend H cs) h := fun a u e => by
  cases hl : cs.lookup a with
  | some o =>
    rw [lend_in hl] at e
    cases e
    exact ⟨hc _ _ hl, ⟨o, hc _ _ hl⟩, fun h1 h2 q k => k _ q⟩
  | none =>
    rw [lend_out hl] at e
    exact (ok a u e).stay (fun _ _ _ q => q) (fun b q => lend_some f q) fun b xs q => lend_some f q
theorem hok_unl (ok : HOk P w H h) (f : LentAt cs H) : HOk P w (unl H cs) h := fun a u e =>
  (ok a u (unl_some e)).stay (fun _ _ _ q => q) (fun b q => unl_keep f q (fun φ z => by cases z)) fun b xs q => unl_keep f q (fun φ z => by cases z)
theorem lent_get (ok : HOk P w H h) (f : LentAt cs H) {c : Addr} {o : Obj} (e : cs.lookup c = some o) : h.get? c = some o := (ok c _ (f c o e)).1
theorem un_back (u : Un fs [] (lend H cs) H1 h0 h1) (f : Fresh cs H) (l : LentAt cs H1) (ok : HOk P w H1 h1) (hc : ∀ c o, cs.lookup c = some o → h0.get? c = some o) : Un fs [] H (unl H1 cs) h0 h1 where
  keep := fun b ob e n hf hx => by
    cases hl : cs.lookup b with
    | some o =>
      have e2 := hc _ _ hl
      rw [e] at e2
      cases e2
      exact lent_get ok l hl
    | none => exact u.keep b ob e (by rw [lend_out hl]; exact n) hf hx
  slot := fun b ob e n hf hx => by
    cases hl : cs.lookup b with
    | some o =>
      have e2 := hc _ _ hl
      rw [e] at e2
      cases e2
      exact ⟨ob.slots, lent_get ok l hl⟩
    | none => exact u.slot b ob e (by rw [lend_out hl]; exact n) hf hx
  free := fun b ob e n hx => by
    cases hl : cs.lookup b with
    | some o => exact unl_in hl
    | none => rw [unl_out hl]; exact u.free b ob e (by rw [lend_out hl]; exact n) hx
  there := u.there
  tups := fun b xs e => unl_keep l (u.tups b xs (lend_some f e)) (fun φ z => by cases z)
  frzs := fun b o v e => unl_keep l (u.frzs b o v (lend_some f e)) (fun φ z => by cases z)
  tbls := fun b ps e => by
    obtain ⟨more, q⟩ := u.tbls b ps (lend_some f e)
    exact ⟨more, unl_keep l q (fun φ z => by cases z)⟩
theorem un_fwd (u : Un fs [] (unl H cs) H1 h0 h1) (l : LentAt cs H) (ok : HOk P w H h0) (hf : ∀ c o, cs.lookup c = some o → c ∉ fs) : Fresh cs H1 ∧ (∀ c o, cs.lookup c = some o → h1.get? c = some o) ∧ Un fs [] H (lend H1 cs) h0 h1 := by
  have f1 : Fresh cs H1 := fun c o e => u.free c o (lent_get ok l e) (unl_in e) (by simp)
  have hc : ∀ c o, cs.lookup c = some o → h1.get? c = some o := fun c o e => u.keep c o (lent_get ok l e) (unl_in e) (hf c o e) (by simp)
  have no : ∀ b, H b = none → cs.lookup b = none := fun b n => by
    cases hl : cs.lookup b with
    | none => rfl
    | some o => rw [l b o hl] at n; cases n
  refine ⟨f1, hc, fun b ob e n => ?_, fun b ob e n => ?_, fun b ob e n hx => ?_, u.there, fun b xs e => ?_, fun b o v e => ?_, fun b ps e => ?_⟩
  · exact u.keep b ob e (by rw [unl_out (no b n)]; exact n)
  · exact u.slot b ob e (by rw [unl_out (no b n)]; exact n)
  · rw [lend_out (no b n)]
    exact u.free b ob e (by rw [unl_out (no b n)]; exact n) hx
  · exact lend_some f1 (u.tups b xs (unl_keep l e (fun φ z => by cases z)))
  · exact lend_some f1 (u.frzs b o v (unl_keep l e (fun φ z => by cases z)))
  · obtain ⟨more, q⟩ := u.tbls b ps (unl_keep l e (fun φ z => by cases z))
    exact ⟨more, lend_some f1 q⟩
end
structure Caught (cl : List (Str × Addr)) (fr : List Str) (ws : List (Option V)) (cs : Lent) : Prop where
  len : ws.length = fr.length
  all : ∀ y c, cl.lookup y = some c → ∃ o v, cs.lookup c = some o ∧ o.data = .cell v
  inj : ∀ x y c, cl.lookup x = some c → cl.lookup y = some c → x = y
  has : ∀ (i : Nat) (y : Str), fr[i]? = some y → ∃ c, cl.lookup y = some c ∧ ∀ v, ws[i]? = some (some v) → ∃ u o, L2.RelV v u ∧ cs.lookup c = some o ∧ o.data = .cell (some u)
def Cells (cs : Lent) : Prop := ∀ c o, cs.lookup c = some o → ∃ v, o.data = .cell v
theorem codeO_cell {c : Addr} {q : Str} {o : Obj} {v : Option Value} (hd : o.data = .cell v) : LamX.CodeO c q ≠ CellO c o := fun e => by
  have hg : (Heap.mk (Array.replicate (c + 1) o) {}).get? c = some o := by
    have h1 : (Array.replicate (c + 1) o)[c]? = some o := by rw [Array.getElem?_replicate, if_pos (Nat.lt_succ_self c)]
    show (match (Array.replicate (c + 1) o)[c]? with
      | some ⟨_, _, .freed, _⟩ => none
      | o => o) = some o
    rw [h1]
    obtain ⟨c1, c2, c3, c4⟩ := o
    cases hd
    rfl
  have e2 := HO.ext.inj e
  have e3 := (congrFun e2 (Heap.mk (Array.replicate (c + 1) o) {})).mpr hg
  obtain ⟨oc, vs, t, h1, h2, _⟩ := e3
  rw [hg] at h1
  cases h1
  rw [hd] at h2
  cases h2
section
variable {P : Program} {w : World} {K : PySem.W.Frag} {mg : Str → Option Value} {base : Heap} {cl : List (Str × Addr)} {fr : List Str} {ws : List (Option V)} {cs : Lent}
theorem Caught.at (C : Caught cl fr ws cs) {H : Hp} {h : Heap} (l : LentAt cs H) (ok : HOk P w H h) : NdefX.CellsAt cl fr ws h (unl H cs) := by
  refine ⟨C.len, fun y c e => ?_, C.inj, fun i y e => ?_⟩
  · obtain ⟨o, v, h1, h2⟩ := C.all y c e
    exact ⟨unl_in h1, v, o, lent_get ok l h1, h2⟩
  · obtain ⟨c, h1, h2⟩ := C.has i y e
    refine ⟨c, h1, fun v hv => ?_⟩
    obtain ⟨u, o, r, g1, g2⟩ := h2 v hv
    exact ⟨u, r, o, lent_get ok l g1, g2⟩
theorem unl_none {H : Hp} {b : Addr} (h : H b = none) : unl H cs b = none := by
  cases z : unl H cs b with
  | none => rfl
  | some u => rw [unl_some z] at h; cases h
theorem env0_unl {A : Around} {outer : List Env} {s : Shared} {H : Hp} (e : Env0 P w K mg base A outer s H) (l : LentAt cs H) : Env0 P w K mg base A outer s (unl H cs) :=
  ⟨e.frames, e.mod, fun b o q => ⟨(e.bs b o q).1, unl_none (e.bs b o q).2⟩, e.bsz, e.funs, fun b hb => unl_none (e.frf b hb), hok_unl e.hok l, e.bare⟩
theorem cr_fwd {outer : List Env} {s s' : Shared} {H : Hp} {Q : VK} {E : XK} {r : Result} (l : LentAt cs H) (ok : HOk P w H s.heap) (hf : ∀ c o, cs.lookup c = some o → c ∉ frs outer) (h : CR CX0 outer P w (unl H cs) s (fun v H' => Q v (lend H' cs)) E r s') : CR CX0 outer P w H s Q E r s' := by
  cases r with
  | error e => exact (show False from h).elim
  | ok fl =>
    cases fl with
    | ret u =>
      obtain ⟨v, H1, h1, h2, h3, h4, h5, h6⟩ := h
      obtain ⟨f1, f2, f3⟩ := un_fwd h3 l ok hf
      exact ⟨v, lend H1 cs, h1, h2, f3, hok_lend h4 f1 f2, h5, h6⟩
    | next => exact h
    | brk => exact h
    | cont => exact h
theorem calX_ndef {k : Nat} {f : Addr} {F : NdefX.NF} {ps : List Str} {sp : List (Option V) → Sp} (o : NdefX.NOk P w K mg base CX0 k f F ps fr sp) (C : Caught F.cl fr ws cs) (hz : Cells cs) :
    CalX P w K mg base k f (fun H => H f = some (NdefX.FnO f F) ∧ H F.c = some (LamX.CodeO F.c F.qual) ∧ LentAt cs H) ps.length (fun vs H Q E => sp ws vs (unl H cs) (fun v H' => Q v (lend H' cs)) E) := by
  refine ⟨fun vs H Q E h => o.len _ _ _ _ _ h, fun s H hok _ hg => ?_, fun A outer s H us vs Q E hr e0 hg r h => ?_⟩
  · obtain ⟨od, sl, doc, pm, ctv, ho⟩ := NdefX.fnO_at hok hg.1
    exact ⟨_, od, _, sl, ho⟩
  · obtain ⟨g1, g2, g3⟩ := hg
    have nf : cs.lookup f = none := by
      cases e : cs.lookup f with
      | none => rfl
      | some ob =>
        obtain ⟨od, sl, doc, pm, ctv, ho⟩ := NdefX.fnO_at e0.hok g1
        obtain ⟨v, hv⟩ := hz _ _ e
        rw [lent_get e0.hok g3 e] at ho
        cases ho
        cases hv
    have nc : cs.lookup F.c = none := by
      cases e : cs.lookup F.c with
      | none => rfl
      | some ob =>
        obtain ⟨c, oc, vs, t, ec, h1, h2, h3⟩ := NdefX.codeO_at e0.hok g2
        obtain ⟨v, hv⟩ := hz _ _ e
        cases ec
        rw [lent_get e0.hok g3 e] at h1
        cases h1
        rw [hv] at h2
        cases h2
    refine codeAny_mono (o.run A outer s (unl H cs) us vs ws _ E hr (env0_unl e0 g3) (by rw [unl_out nf]; exact g1) (by rw [unl_out nc]; exact g2) (C.at g3 e0.hok) r h) fun r s' hq => ?_
    exact cr_fwd g3 e0.hok (fun c ob e hb => by have := e0.frf c hb; rw [g3 c ob e] at this; cases this) hq
theorem calX_lamC {k : Nat} {N ps : List Str} {f : Addr} {F : LF} {sp : Sp} (S : NdefX.NScope N ps fr F.scope) (C : Caught F.cl fr ws cs) (hz : Cells cs)
    (hb : ∀ (pm ctv : Value) (us : List Value), us.length = ps.length → bindArgs (PySem.W.kla_fn "<lambda>" F.qual F.params F.body F.scope F.cl pm (.ref F.c) ctv) ⟨us, []⟩ = pure (ps.zip us)) (len : ∀ vs H Q E, sp vs H Q E → vs.length = ps.length)
    (hbody : ∀ (A : Around) (outer : List Env) (s : Shared) (H : Hp) (vs : List V) (Q : VK) (E : XK), Room k (A.deeper (NdefX.envF F.nf f s.heap.objs.size)) → sp vs H Q E →
      ∃ t, PE (NdefX.ncx CX0 P w K mg base N F.nf f A outer s H E) F.body t ∧ t (NdefX.startF N vs ws) H Q) :
    CalX P w K mg base (k + 1) f (fun H => H f = some (LamO f F) ∧ H F.c = some (LamX.CodeO F.c F.qual) ∧ LentAt cs H) ps.length (fun vs H Q E => sp vs (unl H cs) (fun v H' => Q v (lend H' cs)) E) := by
  refine ⟨fun vs H Q E h => len _ _ _ _ h, fun s H hok _ hg => ?_, fun A outer s H us vs Q E hr e0 hg r hsp => ?_⟩
  · obtain ⟨⟨pm, ctv, e⟩, _, _⟩ := hok _ _ hg.1
    exact ⟨_, _, _, _, e⟩
  obtain ⟨g1, g2, g3⟩ := hg
  obtain ⟨⟨pm, ctv, ho⟩, _, _⟩ := e0.hok _ _ g1
  have hl := len _ _ _ _ hsp
  have lim : s.heap.NoLimit := e0.mod.nolimit.keeps fun b o e => (e0.bs b o e).1
  refine codeAny_mono (R := CR CX0 outer P w (unl H cs) s (fun v H' => Q v (lend H' cs)) E) ?_ fun r s' hq => cr_fwd g3 e0.hok (fun c ob e hb => by have := e0.frf c hb; rw [g3 c ob e] at this; cases this) hq
  refine PySem.W.kla_callFunE hr.depth ho rfl S.co S.gen rfl (NdefX.codeO_at e0.hok g2) ?_
  rw [hb pm ctv us (by rw [← r.length]; exact hl)]
  refine wpAny_pure (wpAny_newFunctionEnv S.nocell (fun ⟨n, _⟩ hy => S.par n (List.of_mem_zip hy).1) (fun h₁ hns hsb => ⟨lim.fresh _ hsb, ?_⟩) S.kind)
  show codeAny _ _ (.expr F.body (NdefX.envF F.nf f s.heap.objs.size)) _ _
  have kp : ∀ b o, s.heap.get? b = some o → h₁.get? b = some o := fun b o e => hsb.extBut b o (Nat.ne_of_lt (Heap.lt_size e)) (Heap.get?_push_of_some _ e)
  obtain ⟨t, ht, hq⟩ := hbody A outer s (unl H cs) vs _ E (hr.deeper _) hsp
  have I : Inv (NdefX.ncx CX0 P w K mg base N F.nf f A outer s (unl H cs) E) [] (NdefX.startF N vs ws) (unl H cs) { s with heap := h₁, toks := s.toks + (ps.zip us).length } := NdefX.inv_startN S hr.hd (env0_unl e0 g3) hl r (C.at g3 e0.hok) hns kp
  refine PySem.W.kla_codeExpr (wpAny_mono (ht.run [] _ _ _ _ I hq) (fun v s' hq => ?_) fun e s' hq => hq)
  obtain ⟨w', H', J', rv, q⟩ := hq
  exact ⟨w', H', J'.os, J'.bare, J'.base, J'.hok, rv, q⟩
end
section
variable {X : Cx} {pins : List (Addr × Obj)} {σ : L2.St} {H : Hp} {s : Shared}
def ownCells (X : Cx) (h : Heap) : Lent := (X.env.cells.map (·.1)).filterMap fun y => match X.env.cells.lookup y with
  | some c => (h.get? c).map fun o => (c, o)
  | none => none
theorem look_has {α β : Type} [BEq α] [LawfulBEq α] {a : α} {b : β} : ∀ {l : List (α × β)}, (a, b) ∈ l → ∃ b', l.lookup a = some b'
  | (x, y) :: r, h => by
    by_cases e : a = x
    · subst e
      exact ⟨y, by simp [List.lookup]⟩
    · rcases List.mem_cons.mp h with h | h
      · cases h
        exact absurd rfl e
      · obtain ⟨b', h'⟩ := look_has h
        refine ⟨b', ?_⟩
        have : (a == x) = false := by simpa using e
        simp [List.lookup, this, h']
theorem mem_look {α β : Type} [BEq α] [LawfulBEq α] {a : α} {b : β} : ∀ {l : List (α × β)}, l.lookup a = some b → (a, b) ∈ l
  | (x, y) :: r, h => by
    by_cases e : a = x
    · subst e
      simp [List.lookup] at h
      rw [h]
      exact List.mem_cons_self
    · have e2 : (a == x) = false := by simpa using e
      simp only [List.lookup, e2] at h
      exact List.mem_cons_of_mem _ (mem_look h)
theorem own_mem {c : Addr} {o : Obj} {h : Heap} (e : (c, o) ∈ ownCells X h) : h.get? c = some o ∧ ∃ y, X.env.cells.lookup y = some c := by
  unfold ownCells at e
  obtain ⟨y, _, hy⟩ := List.mem_filterMap.mp e
  cases hl : X.env.cells.lookup y with
  | none => rw [hl] at hy; cases hy
  | some c' =>
    rw [hl] at hy
    dsimp only at hy
    cases ho : h.get? c' with
    | none => rw [ho] at hy; cases hy
    | some o' =>
      rw [ho] at hy
      cases hy
      exact ⟨ho, y, hl⟩
theorem own_look {c : Addr} {o : Obj} {h : Heap} (e : (ownCells X h).lookup c = some o) : h.get? c = some o ∧ ∃ y, X.env.cells.lookup y = some c := own_mem (mem_look e)
theorem own_in {c : Addr} {o : Obj} {h : Heap} {y : Str} (hy : X.env.cells.lookup y = some c) (ho : h.get? c = some o) : (ownCells X h).lookup c = some o := by
  have hm : (c, o) ∈ ownCells X h := by
    unfold ownCells
    refine List.mem_filterMap.mpr ⟨y, List.mem_map.mpr ⟨_, PySem.mem_of_lookup hy, rfl⟩, ?_⟩
    rw [hy]
    dsimp only
    rw [ho]
    rfl
  obtain ⟨o', h'⟩ := look_has hm
  have := (own_look h').1
  rw [ho] at this
  cases this
  exact h'
structure Lends (X : Cx) (σ : L2.St) (H : Hp) (cs : Lent) : Prop where
  new : Fresh cs H
  cel : Cells cs
  got : ∀ (scope : PySem.Scope) (fr : List Str) (js : List Nat), NdefX.ndefB X.env.scope scope fr = true → js.map (fun j => X.N[j]?) = fr.map some → Caught (cloFrom X.env.cells scope.names []) fr (js.map (NdefX.slotAt σ)) cs
theorem lends_own (I : Inv X pins σ H s) : Lends X σ H (ownCells X s.heap) := by
  have cel : Cells (ownCells X s.heap) := fun c o e => by
    obtain ⟨h1, y, h2⟩ := own_look e
    obtain ⟨v, o', h3, h4⟩ := I.cell y c h2
    rw [h1] at h3
    cases h3
    exact ⟨v, h4⟩
  refine ⟨fun c o e => ?_, cel, fun scope fr js hfr hjs => ?_⟩
  · obtain ⟨_, y, h2⟩ := own_look e
    exact I.freeC y c h2
  · have C := NdefX.Caps.made I.ok (NdefX.ndef_free hfr) (NdefX.ndef_fr hfr) hjs
    have A := NdefX.cells_of I C
    refine ⟨A.len, fun y c e => ?_, A.inj, fun i y e => ?_⟩
    · obtain ⟨_, v, o, h1, h2⟩ := A.all y c e
      exact ⟨o, v, own_in (C.sub y c e) h1, h2⟩
    · obtain ⟨c, h1, h2⟩ := A.has i y e
      refine ⟨c, h1, fun v hv => ?_⟩
      obtain ⟨u, r, o, h3, h4⟩ := h2 v hv
      exact ⟨u, o, r, own_in (C.sub y c h1) h3, h4⟩
theorem env0_lend (I : Inv X pins σ H s) (hfn : ∀ x, X.fn x = true) : Env0 X.prog X.w X.K X.mg X.base X.A X.stack s (lend H (ownCells X s.heap)) := by
  have L := lends_own I
  have big : ∀ c o, (ownCells X s.heap).lookup c = some o → X.s_0.heap.objs.size ≤ c := fun c o e => by
    obtain ⟨_, y, h2⟩ := own_look e
    exact I.ok.cab y c (hfn y) h2
  refine ⟨I.ok.frames, I.ok.mod, fun b o e => ⟨(I.bs b o e).1, ?_⟩, Nat.le_trans I.ok.bsz I.sz, I.stack, fun b hb => ?_, hok_lend I.hok L.new (fun c o e => (own_look e).1), I.bare⟩
  · cases hl : (ownCells X s.heap).lookup b with
    | none => rw [lend_out hl]; exact (I.bs b o e).2
    | some ob =>
      exact absurd (Nat.lt_of_lt_of_le (Heap.lt_size e) I.ok.bsz) (Nat.not_lt.mpr (big _ _ hl))
  · cases hl : (ownCells X s.heap).lookup b with
    | none => rw [lend_out hl]; exact I.stkFree b hb
    | some ob =>
      exfalso
      rcases List.mem_cons.mp (I.stkSub b hb) with e | hb
      · obtain ⟨v, hv⟩ := L.cel _ _ hl
        obtain ⟨m, hn, _⟩ := I.loc
        obtain ⟨o2, es, ep, h1, h3, _⟩ := hn
        rw [← e, (own_look hl).1] at h1
        cases h1
        rw [hv] at h3
        cases h3
      · obtain ⟨_, o, ho, _⟩ := I.ok.funs.mem hb
        exact absurd (Heap.lt_size ho) (Nat.not_lt.mpr (big _ _ hl))
theorem pe_callLd {k : Nat} {f : Addr} {fd : FuncData} {ps : List Str} {sp : Sp} {x : Str} {p pos : Pos} {e : PySem.Expr} {es : List PySem.Expr} {t : TA} (F : FnOk X.prog X.w X.K X.mg X.base CX0 k f fd ps sp) (hr : Room k X.A) (hg : Gl X x) (hm : X.mg x = some (.ref f)) (hk : PySem.W.keepIn X.K (.ref f) = true) (hb : Binds X.K fd ps []) (hfn : ∀ x, X.fn x = true)
    (ha : PA X (e :: es) t) (hdb : (x == ("__debug__" : Str)) = false := by decide) (he : starEach (e :: es) X.env = (false, eval e X.env) :: starEach es X.env := by rfl) (hpl : (backTo pos (starEach es X.env)).any (·.1) = false := by rfl) :
    PE X (.Call (.Name x p) (e :: es) [] pos) (fun σ H Q => t σ H fun vs H1 => ∀ cs, Lends X σ H1 cs → sp vs (lend H1 cs) (fun v H2 => LentAt cs H2 ∧ Q v (unl H2 cs)) E0) := by
  refine ⟨fun pins s σ H Q I h => ?_⟩
  refine wpAny_Call_Name_kw (ld_glob I hg hm ?_ hdb)
  refine PySem.W.callWith_K (h₀ := X.base) I.ok.mod.kin hk (thn (ha.run pos pins s σ H _ I h) fun us s1 ⟨vs, H1, I1, r, q⟩ => ⟨I1.kIn, ?_⟩) he hpl
  have L := lends_own I1
  have q := q _ L
  have hl : us.length = ps.length := by rw [← r.length]; exact F.len _ _ _ _ q
  have hb' := hb s1 us I1.kIn (by rw [List.append_nil]; exact hl)
  rw [List.append_nil] at hb'
  refine wpAny_call (codeAny_mono (F.run X.A X.stack s1 _ ⟨us, []⟩ us vs _ E0 hr (env0_lend I1 hfn) hb' r q) fun r s' hq => ?_)
  cases r with
  | error e => exact (show False from hq).elim
  | ok fl =>
    cases fl with
    | ret u =>
      obtain ⟨v, H2, h1, h2, h3, h4, h5, h6, h7⟩ := hq
      exact I1.after ⟨v, unl H2 _, h1, h2, un_back h3 L.new h6 h4 (fun c o e => (own_look e).1), hok_unl h4 h6, h5, h7⟩
    | next => exact False.elim hq
    | brk => exact False.elim hq
    | cont => exact False.elim hq
end
theorem pe_lamXc {X : Cx} {c P : Addr} {params : Arguments} {body : PySem.Expr} {scope : PySem.Scope} {pos : Pos} {fr : List Str} (tb : LamX.TabB X.base X.mg c P) (hc : X.env.code = .ref c) (hd : defaultsOf params X.env = ([], []))
    (hfr : NdefX.ndefB X.env.scope scope fr = true) : PE X (.Lambda params body scope pos) (fun σ H Q => LamX.TabS H P (X.env.qual ++ "<lambda>") ∧ ∀ (f c : Addr) (H1 : Hp), Fr P H H1 → (∀ b, H1 b = none → H b = none) → LamX.TabS H1 P (X.env.qual ++ "<lambda>") → H f = none →
      H1 f = some (LamO f ⟨X.env.qual ++ "<lambda>", params, body, scope, cloFrom X.env.cells scope.names [], c⟩) → H1 c = some (LamX.CodeO c (X.env.qual ++ "<lambda>")) → Q (.ref f) H1) :=
  ⟨fun pins s σ H Q I h => (pe_lamX tb hc hd fun y hy e => ((NdefX.ndef_free hfr) y hy e).elim (fun z => I.ok.has _ (.inl z)) fun z => I.ok.has _ (.inr z)).run pins s σ H Q I h⟩


theorem cut_fromU (xs : List V) (k : Nat) (h : k ≤ xs.length) : cutV xs (some (k : Int)) none = xs.drop k := by
  have e : HT.sIx xs.length 0 (some (k : Int)) = k := by
    show (if (k : Int) < 0 then ((k : Int) + (xs.length : Int)).toNat else min ((k : Int).toNat) xs.length) = k
    rw [if_neg (by omega)]
    omega
  have e2 : HT.sIx xs.length xs.length none = xs.length := rfl
  unfold cutV
  rw [e, e2]
  exact List.take_of_length_le (by rw [List.length_drop]; omega)
theorem TabS.fr1 {H H' : Hp} {P p : Addr} {q : Str} {xs : List V} (h : LamX.TabS H P q) (hp : H p = some (.lst xs)) (f : Fr p H H') : LamX.TabS H' P q := by
  obtain ⟨ps, h1, h2, h3⟩ := h
  refine ⟨ps, f _ _ (fun e => by rw [e, hp] at h1; cases h1) h1, h2, fun pos cv hc => ?_⟩
  obtain ⟨c, e, h4⟩ := h3 pos cv hc
  exact ⟨c, e, f _ _ (fun e => by rw [e, hp] at h4; cases h4) h4⟩
mutual
theorem TrAt.kind1 {ok : Addr → Prop} {H : Hp} : ∀ (t : Tr) (v : V), TrAt ok H v t → TrAt (fun b => ok b ∧ ∀ ps, H b ≠ some (.tbl ps)) H v t
  | .node c ks, v, x => by
    cases x with
    | node h1 h2 k1 k2 c1 c2 r => exact .node h1 h2 ⟨k1, fun ps e => by rw [h1] at e; cases e⟩ ⟨k2, fun ps e => by rw [h2] at e; cases e⟩ c1 c2 (TrsAt.kind1 ks _ r)
theorem TrsAt.kind1 {ok : Addr → Prop} {H : Hp} : ∀ (ts : List Tr) (vs : List V), TrsAt ok H vs ts → TrsAt (fun b => ok b ∧ ∀ ps, H b ≠ some (.tbl ps)) H vs ts
  | [], vs, x => by cases x; exact .nil
  | t :: r, vs, x => by
    cases x with
    | cons a b => exact .cons (TrAt.kind1 t _ a) (TrsAt.kind1 r _ b)
end
section
variable {P : Program} {w : World} {K : PySem.W.Frag} {mg : Str → Option Value} {base : Heap}
theorem ok_built_upward (T : Txt K mg) (k : Nat) (hk : 5 ≤ k) (Pt : Addr) (qn : Str) : FnOk P w K mg base CX0 (k + 1) T.f_built_upward T.d_built_upward ["tree", "made"] (sp_built_upward P w K mg base k Pt qn) := by
  have G_parts_upward : FnOk P w K mg base CX0 5 T.f_parts_upward T.d_parts_upward ["tree"] sp_parts_upward := ok_parts_upward T
  refine T.F_built_upward.ok sc_built_upward (fun vs H Q E h => ?_) (fun cdv A outer s H vs Q E hr h => ?_)
  · obtain ⟨v, t, f, It, rfl, _⟩ := h
    rfl
  obtain ⟨v, t, f, It, rfl, ht, hz, hIt, hT, C, q⟩ := h
  have C_made := C
  refine ⟨_, (pss_cons (ps_set (i := 2) sc_built_upward.nd rfl (Or.inl rfl) (pe_lst pa_nil)) (pss_cons (ps_for PassesOwn.never rfl (pi_list (pe_call G_parts_upward (hr.mono (by omega)) (by rfl) T.m_parts_upward T.F_parts_upward.kp T.b_parts_upward .nil pass0 (pa_cons (pv 0) pa_nil))) (pg_tup rfl (pgs_cons (pg_name (i := 3) sc_built_upward.nd rfl (Or.inl rfl)) (pgs_cons (pg_name (i := 4) sc_built_upward.nd rfl (Or.inl rfl)) pgs_nil))) (pss_cons (ps_set (i := 5) sc_built_upward.nd rfl (Or.inl rfl) (pe_op op_sub (pe_callB call_len_seq (by rfl) T.z_len PySem.boot_len (pa_cons (pv 2) pa_nil)) (pe_callB call_len_seq (by rfl) T.z_len PySem.boot_len (pa_cons (pv 4) pa_nil)))) (pss_cons (ps_set (i := 6) sc_built_upward.nd rfl (Or.inl rfl) (pe_slice sl_list (pv 2) (po_some (pv 5)) po_none)) (pss_cons (ps_delFrom (pv 2) (pv 5)) (pss_one (ps_expr (pe_bm PySem.F.plainAttrs_list PySem.F.slot_list_append PySem.F.type_list_append mt_append (pv 2) (pa_cons (pe_calX (i := 1) C_made (hr.mono (by omega)) rfl (.inl (by rfl)) (pa_cons (pv 3) (pa_cons (pv 6) pa_nil))) pa_nil)))))))) (pss_one (ps_ret (pe_ix ix_list (pv 2) pe_int (fun _ _ => rfl)))))), ?_⟩
  obtain ⟨ps0, hP0, _, _⟩ := id hT
  refine ⟨(by show 0 ≤ sizeLine; decide), fun wl hwl => ?_⟩
  have nPw : Pt ≠ wl := ne_of_none hP0 hwl
  have ht1 := (ht.off hwl).same (same_new (o := .lst []) hwl)
  refine ⟨_, rfl, v, t, _, rfl, ht1, hz, fun r wsv H1 s1 hr0 hr1 hparts => ?_⟩
  have hw1 : H1 wl = some (.lst []) := s1 _ _ upd_same
  have nrw : r ≠ wl := fun e => by rw [e, upd_same] at hr0; cases hr0
  have sH1 : Same H H1 := (same_new hwl).trans s1
  have hr00 : H r = none := by rw [upd_ne nrw] at hr0; exact hr0
  have nPr : Pt ≠ r := ne_of_none hP0 hr00
  have hp2 : TrsAt (fun b => b ≠ wl ∧ b ≠ r ∧ b ≠ Pt) H1 wsv t.post := by
    exact (TrsAt.kind1 _ _ hparts).weak fun b ⟨⟨k, h⟩, n⟩ => ⟨k.2, fun e => h (by rw [e]; exact hr0), fun e => n ps0 (by rw [e]; exact sH1 _ _ hP0)⟩
  refine ⟨r, rfl, ⟨_, SqL.of hr1⟩, for_list (xs := wsv) (fun i σ H2 => ∃ (y3 y4 y5 y6 : Option V) (bs : List (V × Tr × List Addr)), σ = [some v, some (.ref f), some (.ref wl), y3, y4, y5, y6] ∧ H2 wl = some (.lst (bs.map (·.1))) ∧
      (∀ b ∈ bs, It (fun b => H b = none ∧ b ≠ wl) H2 b.1 b.2.1 b.2.2) ∧ (lstsI bs).Nodup ∧ Runs (bs.map (·.2.1)) (t.post.drop i) [t] ∧ sizes (bs.map (·.2.1)) ≤ i ∧ Fr Pt H H2 ∧ LamX.TabS H2 Pt qn ∧ H2 r = some (.lst wsv) ∧ TrsAt (fun b => b ≠ wl ∧ b ≠ r ∧ b ≠ Pt) H2 wsv t.post)
    ⟨none, none, none, none, [], rfl, hw1, (fun _ h => by cases h), List.nodup_nil, (by rw [List.drop_zero]; exact runs_all t), (Nat.le_refl _), Fr.same sH1, hT.ext sH1, hr1, hp2⟩ (fun i σ H2 _ ⟨_, _, _, _, _, _, _, _, _, _, _, _, _, h, _⟩ => SqL.of h) ?_ ?_⟩
  · rintro i x σ H2 hx ⟨y3, y4, y5, y6, bs, rfl, hw2, hb, hnd, hst, hsz, hf, hT2, hr2, hpp⟩
    obtain ⟨t1, ht1', hx2⟩ := hpp.getV hx
    have hdrop : t.post.drop i = t1 :: t.post.drop (i + 1) := by
      obtain ⟨hlt, e⟩ := List.getElem?_eq_some_iff.mp ht1'
      rw [← e]
      exact List.drop_eq_getElem_cons hlt
    have hi : i < t.size := by
      have := (List.getElem?_eq_some_iff.mp ht1').1
      rw [post_len] at this
      exact this
    rw [hdrop] at hst
    generalize hus : bs.map (·.2.1) = us0 at hst
    cases hst with
    | cons hst =>
    rename_i us ks c
    obtain ⟨b1, b2, rfl, e1, e2⟩ := List.map_eq_append_iff.mp hus
    subst e1
    subst e2
    rw [List.map_append, sizes_append] at hsz
    have lz := len_sizes (b2.map (·.2.1))
    have lz1 := len_sizes (b1.map (·.2.1))
    rw [List.length_map] at lz lz1
    cases hx2 with
    | node g1 g2 o1 o2 c1 c2 rr =>
      rename_i ax lx vx
      have lr := rr.len
      rw [List.length_map] at lr
      refine ⟨_, _, rfl, SqT.of g1, rfl, ?_⟩
      refine ⟨_, _, rfl, _, _, rfl, rfl, _, rfl, wl, _, rfl, .inl (SqL.of hw2), _, rfl, lx, _, rfl, .inl (SqL.of g2), _, _, rfl, rfl, ?_⟩
      rw [List.length_map, lr, List.length_append]
      have ek : (((b1.length + b2.length : Nat) : Int) - (b2.length : Int)) = (b1.length : Int) := by omega
      show gName 5 (.int (((b1.length + b2.length : Nat) : Int) - (b2.length : Int))) _ _ _
      rw [ek]
      refine ⟨_, rfl, _, rfl, _, rfl, wl, _, rfl, SqL.of hw2, fun p hp => ?_⟩
      rw [cut_fromU _ _ (by rw [List.length_map, List.length_append]; omega)]
      have hcut : ((b1 ++ b2).map (·.1)).drop b1.length = b2.map (·.1) := by
        rw [List.map_append, List.drop_left' (List.length_map _)]
      have htk : ((b1 ++ b2).map (·.1)).take b1.length = b1.map (·.1) := by
        rw [List.map_append, List.take_left' (List.length_map _)]
      rw [hcut]
      have nPp : Pt ≠ p := by
        intro e
        obtain ⟨_, e2, _⟩ := hT2
        rw [← e, e2] at hp
        cases hp
      have npw : p ≠ wl := fun e => by rw [e, hw2] at hp; cases hp
      have hp0 : H p = none := by
        cases e : H p with
        | none => rfl
        | some o => rw [hf p o nPp.symm e] at hp; cases hp
      have okP : ∀ b, (H b = none ∧ b ≠ wl) → b ≠ Pt := fun b h e => by rw [e, hP0] at h; cases h.1
      refine ⟨_, rfl, _, rfl, wl, _, b1.length, rfl, rfl, (by rw [upd_ne npw.symm]; exact hw2), (by rw [List.length_map, List.length_append]; omega), ?_⟩
      rw [htk]
      generalize hH5 : upd (upd H2 p (.lst (b2.map (·.1)))) wl (.lst (b1.map (·.1))) = H5
      have hw5 : H5 wl = some (.lst (b1.map (·.1))) := by rw [← hH5]; exact upd_same
      have hp5 : H5 p = some (.lst (b2.map (·.1))) := by rw [← hH5, upd_ne npw]; exact upd_same
      have k25 : ∀ b o, b ≠ wl → H2 b = some o → H5 b = some o := fun b o n e => by rw [← hH5, upd_ne n, upd_ne (ne_of_none e hp)]; exact e
      have T5 : LamX.TabS H5 Pt qn := TabS.fr1 hT2 hw2 fun b o n e => k25 b o n e
      have F5 : Fr Pt H H5 := fun b o n e => k25 _ _ (ne_of_none e hwl) (hf b o n e)
      refine ⟨_, rfl, .inl ⟨rfl, _, SqL.of hw5⟩, rfl, F5, _, rfl, _, rfl, F5, c, p, b2, (fun b => H b = none ∧ b ≠ wl), rfl, c1, c2, hp5, ⟨hp0, npw⟩, ?_, ?_, by omega, okP, T5, fun v' as H6 f6 T6 it6 nd6 ha6 => ?_⟩
      · exact fun b hb5 => hIt.imp (fun _ h => h) (fun b o h e => k25 b o h.2 e) (hb b (List.mem_append_right _ hb5))
      · have e0 : lstsI (b1 ++ b2) = lstsI b1 ++ lstsI b2 := by simp [lstsI]
        rw [e0] at hnd
        rw [List.nodup_cons]
        refine ⟨fun hm => ?_, (List.nodup_append.mp hnd).2.1⟩
        obtain ⟨as, ha, hl2⟩ := List.mem_flatten.mp hm
        obtain ⟨b, hb8, rfl⟩ := List.mem_map.mp ha
        obtain ⟨_, xs, e5⟩ := hIt.lst (hb b (List.mem_append_right _ hb8)) p hl2
        rw [hp] at e5
        cases e5
      have hw6 := f6 _ _ nPw.symm hw5
      refine ⟨wl, _, v', rfl, rfl, hw6, Nat.lt_of_le_of_lt (show (b1.map (·.1)).length ≤ 1000000 by rw [List.length_map]; omega) (by decide), ?_⟩
      have k27 : ∀ b o, b ≠ Pt → b ≠ wl → H2 b = some o → (upd H6 wl (.lst (b1.map (·.1) ++ [v']))) b = some o := fun b o n1 n2 e => by
        rw [upd_ne n2]
        exact f6 _ _ n1 (k25 _ _ n2 e)
      obtain ⟨ps5, hP5, _, _⟩ := id T5
      have free5 : ∀ b, H5 b = none → H b = none ∧ b ≠ wl := fun b h => by
        refine ⟨?_, fun e => by rw [e, hw5] at h; cases h⟩
        cases e : H b with
        | none => rfl
        | some o =>
          have n1 : b ≠ Pt := fun e2 => by rw [e2, hP5] at h; cases h
          rw [F5 _ _ n1 e] at h
          cases h
      refine ⟨_, _, _, _, b1 ++ [(v', .node c (b2.map (·.2.1)), as)], rfl, ?_, ?_, ?_, ?_, ?_, ?_, ?_, k27 _ _ nPr.symm nrw hr2, ?_⟩
      · rw [upd_same, List.map_append]
        rfl
      · intro b hb7
        rcases List.mem_append.mp hb7 with h | h
        · exact hIt.imp (fun _ h => h) (fun b o h e => k27 b o (okP b h) h.2 e) (hb b (List.mem_append_left _ h))
        · simp only [List.mem_singleton] at h
          subst h
          refine hIt.imp (fun b h => h.elim id (free5 b)) (fun b o h e => ?_) it6
          rw [upd_ne (h.elim (fun h => h.2) fun h => (free5 b h).2)]
          exact e
      · have e0 : lstsI (b1 ++ b2) = lstsI b1 ++ lstsI b2 := by simp [lstsI]
        have e1 : lstsI (b1 ++ [(v', Tr.node c (b2.map (·.2.1)), as)]) = lstsI b1 ++ as := by simp [lstsI]
        rw [e0] at hnd
        rw [e1]
        refine nodup_snoc (List.nodup_append.mp hnd).1 nd6 fun a h1 h2 => ?_
        obtain ⟨as1, hm1, hl1⟩ := List.mem_flatten.mp h1
        obtain ⟨b, hb8, rfl⟩ := List.mem_map.mp hm1
        obtain ⟨o1, xs, e5⟩ := hIt.lst (hb b (List.mem_append_left _ hb8)) a hl1
        rcases ha6 a h2 with h | h
        · rcases List.mem_cons.mp h with h | h
          · rw [h, hp] at e5; cases e5
          · exact (List.nodup_append.mp hnd).2.2 a h1 a h rfl
        · rw [k25 _ _ o1.2 e5] at h
          cases h
      · rw [List.map_append]
        exact hst
      · rw [List.map_append, sizes_append]
        simp only [List.map_cons, List.map_nil, sizes, Tr.size]
        omega
      · intro b o n e
        exact k27 b o n (ne_of_none e hwl) (hf b o n e)
      · exact TabS.fr1 T6 hw6 fun b o n e => by rw [upd_ne n]; exact e
      · exact hpp.keep fun b o h e => k27 b o h.2.2 h.1 e
  · rintro σ H2 ⟨y3, y4, y5, y6, bs, rfl, hw2, hb, hnd, hst, hsz, hf, hT2, hr2, hpp⟩
    rw [hpp.len, List.drop_length] at hst
    generalize hus : bs.map (·.2.1) = us0 at hst
    cases hst
    obtain ⟨b, rfl⟩ : ∃ b, bs = [b] := by
      have := congrArg List.length hus
      rw [List.length_map] at this
      exact List.length_eq_one_iff.mp this
    simp only [List.map_cons, List.map_nil, List.cons.injEq, and_true] at hus
    refine ⟨_, rfl, wl, _, 0, b.1, rfl, rfl, SqL.of hw2, atI_nat (j := 0) rfl, ?_⟩
    have hb1 := hb b (by simp)
    refine q b.1 b.2.2 H2 hf hT2 ?_ (by simpa [lstsI] using hnd)
    rw [← hus]
    exact hIt.imp (fun b h => h.1) (fun _ _ _ h => h) hb1
end

def FrX (E : Addr → Prop) (H H' : Hp) : Prop := ∀ b o, ¬ E b → H b = some o → H' b = some o
theorem FrX.refl {E : Addr → Prop} {H : Hp} : FrX E H H := fun _ _ _ h => h
theorem FrX.trans {E : Addr → Prop} {H H1 H2 : Hp} (a : FrX E H H1) (b : FrX E H1 H2) : FrX E H H2 := fun c o n h => b c o n (a c o n h)
theorem FrX.same {E : Addr → Prop} {H H' : Hp} (s : Same H H') : FrX E H H' := fun b o _ h => s b o h
def sp_madeJ (R : Tr → V) (E : Addr → Prop) (H0 : Hp) (J : List Tr → Hp → Prop) (t0 : Tr) : Sp := fun vs H Q _ => ∃ (c : Nat) (bl : Addr) (ks done rest : List Tr), vs = [.str (ch c), .ref bl] ∧ t0.post = done ++ .node c ks :: rest ∧ 97 ≤ c ∧ c ≤ 122 ∧ ks.length ≤ 1000000 ∧
  H bl = some (.lst (ks.map R)) ∧ H0 bl = none ∧ FrX E H0 H ∧ J done H ∧ ∀ H', FrX E H H' → J (done ++ [.node c ks]) H' → Q (R (.node c ks)) H'
def sp_built_upwardJ (P : Program) (w : World) (K : PySem.W.Frag) (mg : Str → Option Value) (base : Heap) (k : Nat) : Sp := fun vs H Q _ => ∃ (v : V) (t : Tr) (f : Addr) (R : Tr → V) (E : Addr → Prop) (J : List Tr → Hp → Prop), vs = [v, .ref f] ∧ TrAt (fun b => ¬ E b) H v t ∧ t.size ≤ 1000000 ∧
  (∀ b, E b → H b ≠ none) ∧ (∀ l H' b, J l H' → E b → H' b ≠ none) ∧ (∀ l H1 H2, (∀ b o, H b ≠ none → H1 b = some o → H2 b = some o) → J l H1 → J l H2) ∧ J [] H ∧
  CalX P w K mg base k f (fun H' => FrX E H H') 2 (sp_madeJ R E H J t) ∧ ∀ H', FrX E H H' → J t.post H' → Q (R t) H'
section
variable {P : Program} {w : World} {K : PySem.W.Frag} {mg : Str → Option Value} {base : Heap}
theorem ok_built_upwardJ (T : Txt K mg) (k : Nat) (hk : 5 ≤ k) : FnOk P w K mg base CX0 (k + 1) T.f_built_upward T.d_built_upward ["tree", "made"] (sp_built_upwardJ P w K mg base k) := by
  have G_parts_upward : FnOk P w K mg base CX0 5 T.f_parts_upward T.d_parts_upward ["tree"] sp_parts_upward := ok_parts_upward T
  refine T.F_built_upward.ok sc_built_upward (fun vs H Q E h => ?_) (fun cdv A outer s H vs Q E hr h => ?_)
  · obtain ⟨v, t, f, R, EE, J, rfl, _⟩ := h
    rfl
  obtain ⟨v, t, f, R, EE, J, rfl, ht, hz, hE, hJE, hJ, J0, C, q⟩ := h
  have C_made := C
  refine ⟨_, (pss_cons (ps_set (i := 2) sc_built_upward.nd rfl (Or.inl rfl) (pe_lst pa_nil)) (pss_cons (ps_for PassesOwn.never rfl (pi_list (pe_call G_parts_upward (hr.mono (by omega)) (by rfl) T.m_parts_upward T.F_parts_upward.kp T.b_parts_upward .nil pass0 (pa_cons (pv 0) pa_nil))) (pg_tup rfl (pgs_cons (pg_name (i := 3) sc_built_upward.nd rfl (Or.inl rfl)) (pgs_cons (pg_name (i := 4) sc_built_upward.nd rfl (Or.inl rfl)) pgs_nil))) (pss_cons (ps_set (i := 5) sc_built_upward.nd rfl (Or.inl rfl) (pe_op op_sub (pe_callB call_len_seq (by rfl) T.z_len PySem.boot_len (pa_cons (pv 2) pa_nil)) (pe_callB call_len_seq (by rfl) T.z_len PySem.boot_len (pa_cons (pv 4) pa_nil)))) (pss_cons (ps_set (i := 6) sc_built_upward.nd rfl (Or.inl rfl) (pe_slice sl_list (pv 2) (po_some (pv 5)) po_none)) (pss_cons (ps_delFrom (pv 2) (pv 5)) (pss_one (ps_expr (pe_bm PySem.F.plainAttrs_list PySem.F.slot_list_append PySem.F.type_list_append mt_append (pv 2) (pa_cons (pe_calX (i := 1) C_made (hr.mono (by omega)) rfl (.inl (by rfl)) (pa_cons (pv 3) (pa_cons (pv 6) pa_nil))) pa_nil)))))))) (pss_one (ps_ret (pe_ix ix_list (pv 2) pe_int (fun _ _ => rfl)))))), ?_⟩
  refine ⟨(by show 0 ≤ sizeLine; decide), fun wl hwl => ?_⟩
  have nEw : ∀ b, H b = none → ¬ EE b := fun b h e => hE b e h
  have ht1 := (ht.off hwl).same (same_new (o := .lst []) hwl)
  refine ⟨_, rfl, v, t, _, rfl, ht1, hz, fun r wsv H1 s1 hr0 hr1 hparts => ?_⟩
  have hw1 : H1 wl = some (.lst []) := s1 _ _ upd_same
  have nrw : r ≠ wl := fun e => by rw [e, upd_same] at hr0; cases hr0
  have sH1 : Same H H1 := (same_new hwl).trans s1
  have hr00 : H r = none := by rw [upd_ne nrw] at hr0; exact hr0
  have hp2 : TrsAt (fun b => b ≠ wl ∧ b ≠ r ∧ ¬ EE b) H1 wsv t.post := by
    exact hparts.weak fun b ⟨k, h⟩ => ⟨k.2, fun e => h (by rw [e]; exact hr0), k.1⟩
  refine ⟨r, rfl, ⟨_, SqL.of hr1⟩, for_list (xs := wsv) (fun i σ H2 => ∃ (y3 y4 y5 y6 : Option V) (us : List Tr), σ = [some v, some (.ref f), some (.ref wl), y3, y4, y5, y6] ∧ H2 wl = some (.lst (us.map R)) ∧
      Runs us (t.post.drop i) [t] ∧ sizes us ≤ i ∧ FrX EE H H2 ∧ J (t.post.take i) H2 ∧ H2 r = some (.lst wsv) ∧ TrsAt (fun b => b ≠ wl ∧ b ≠ r ∧ ¬ EE b) H2 wsv t.post)
    ⟨none, none, none, none, [], rfl, hw1, (by rw [List.drop_zero]; exact runs_all t), (Nat.le_refl _), FrX.same sH1, (by rw [List.take_zero]; exact hJ _ _ _ (fun b o _ e => sH1 b o e) J0), hr1, hp2⟩ (fun i σ H2 _ ⟨_, _, _, _, _, _, _, _, _, _, _, h, _⟩ => SqL.of h) ?_ ?_⟩
  · rintro i x σ H2 hx ⟨y3, y4, y5, y6, us0, rfl, hw2, hst, hsz, hf, hJ2, hr2, hpp⟩
    obtain ⟨t1, ht1', hx2⟩ := hpp.getV hx
    have hdrop : t.post.drop i = t1 :: t.post.drop (i + 1) := by
      obtain ⟨hlt, e⟩ := List.getElem?_eq_some_iff.mp ht1'
      rw [← e]
      exact List.drop_eq_getElem_cons hlt
    have hi : i < t.size := by
      have := (List.getElem?_eq_some_iff.mp ht1').1
      rw [post_len] at this
      exact this
    have hsplit : t.post = t.post.take i ++ t1 :: t.post.drop (i + 1) := by rw [← hdrop, List.take_append_drop]
    have htake : t.post.take (i + 1) = t.post.take i ++ [t1] := take_succ_of ht1'
    rw [hdrop] at hst
    cases hst with
    | cons hst =>
    rename_i us ks c
    rw [sizes_append] at hsz
    have lz := len_sizes ks
    have lz1 := len_sizes us
    cases hx2 with
    | node g1 g2 o1 o2 c1 c2 rr =>
      rename_i ax lx vx
      have lr := rr.len
      refine ⟨_, _, rfl, SqT.of g1, rfl, ?_⟩
      refine ⟨_, _, rfl, _, _, rfl, rfl, _, rfl, wl, _, rfl, .inl (SqL.of hw2), _, rfl, lx, _, rfl, .inl (SqL.of g2), _, _, rfl, rfl, ?_⟩
      rw [List.length_map, lr, List.length_append]
      have ek : (((us.length + ks.length : Nat) : Int) - (ks.length : Int)) = (us.length : Int) := by omega
      show gName 5 (.int (((us.length + ks.length : Nat) : Int) - (ks.length : Int))) _ _ _
      rw [ek]
      refine ⟨_, rfl, _, rfl, _, rfl, wl, _, rfl, SqL.of hw2, fun p hp => ?_⟩
      rw [cut_fromU _ _ (by rw [List.length_map, List.length_append]; omega)]
      have hcut : ((us ++ ks).map R).drop us.length = ks.map R := by
        rw [List.map_append, List.drop_left' (List.length_map _)]
      have htk : ((us ++ ks).map R).take us.length = us.map R := by
        rw [List.map_append, List.take_left' (List.length_map _)]
      rw [hcut]
      have npw : p ≠ wl := fun e => by rw [e, hw2] at hp; cases hp
      have hp0 : H p = none := by
        cases e : H p with
        | none => rfl
        | some o =>
          by_cases hEp : EE p
          · exact absurd hp (hJE _ _ _ hJ2 hEp)
          · rw [hf p o hEp e] at hp; cases hp
      refine ⟨_, rfl, _, rfl, wl, _, us.length, rfl, rfl, (by rw [upd_ne npw.symm]; exact hw2), (by rw [List.length_map, List.length_append]; omega), ?_⟩
      rw [htk]
      generalize hH5 : upd (upd H2 p (.lst (ks.map R))) wl (.lst (us.map R)) = H5
      have hw5 : H5 wl = some (.lst (us.map R)) := by rw [← hH5]; exact upd_same
      have hp5 : H5 p = some (.lst (ks.map R)) := by rw [← hH5, upd_ne npw]; exact upd_same
      have k25 : ∀ b o, b ≠ wl → H2 b = some o → H5 b = some o := fun b o n e => by rw [← hH5, upd_ne n, upd_ne (ne_of_none e hp)]; exact e
      have F5 : FrX EE H H5 := fun b o n e => k25 _ _ (ne_of_none e hwl) (hf b o n e)
      have J5 : J (t.post.take i) H5 := hJ _ _ _ (fun b o hb e => k25 b o (fun e2 => hb (by rw [e2]; exact hwl)) e) hJ2
      refine ⟨_, rfl, .inl ⟨rfl, _, SqL.of hw5⟩, rfl, F5, _, rfl, _, rfl, F5, c, p, ks, t.post.take i, _, rfl, hsplit, c1, c2, by omega, hp5, hp0, F5, J5, fun H6 f6 J6 => ?_⟩
      have hw6 := f6 _ _ (nEw _ hwl) hw5
      refine ⟨wl, _, _, rfl, rfl, hw6, Nat.lt_of_le_of_lt (show (us.map R).length ≤ 1000000 by rw [List.length_map]; omega) (by decide), ?_⟩
      have k27 : ∀ b o, ¬ EE b → b ≠ wl → H2 b = some o → (upd H6 wl (.lst (us.map R ++ [R (.node c ks)]))) b = some o := fun b o n1 n2 e => by
        rw [upd_ne n2]
        exact f6 _ _ n1 (k25 _ _ n2 e)
      refine ⟨_, _, _, _, us ++ [.node c ks], rfl, ?_, hst, ?_, ?_, ?_, k27 _ _ (nEw _ hr00) nrw hr2, ?_⟩
      · rw [upd_same, List.map_append]
        rfl
      · rw [sizes_append]
        simp only [sizes, Tr.size]
        omega
      · intro b o n e
        exact k27 b o n (ne_of_none e hwl) (hf b o n e)
      · rw [htake]
        exact hJ _ _ _ (fun b o hb e => by rw [upd_ne (fun e2 => hb (by rw [e2]; exact hwl))]; exact e) J6
      · exact hpp.keep fun b o h e => k27 b o h.2.2 h.1 e
  · rintro σ H2 ⟨y3, y4, y5, y6, us, rfl, hw2, hst, hsz, hf, hJ2, hr2, hpp⟩
    rw [hpp.len, List.drop_length] at hst
    rw [hpp.len, List.take_length] at hJ2
    cases hst
    exact ⟨_, rfl, wl, _, 0, R t, rfl, rfl, SqL.of hw2, atI_nat (j := 0) rfl, q H2 hf hJ2⟩
end

abbrev nI (n : Nat) : V := .int (n : Int)
theorem nI_map (xs : List Nat) : xs.map nI = (xs.map fun n : Nat => (n : Int)).map V.int := by rw [List.map_map]; rfl
theorem tabsN_fr1 {TT : List NdefX.NTab} {H H' : Hp} {p : Addr} {xs : List V} (h : NdefX.TabsN TT H) (hp : H p = some (.lst xs)) (f : Fr p H H') : NdefX.TabsN TT H' := fun z hz => by
  obtain ⟨ps, h1, h2, h3⟩ := h z hz
  refine ⟨ps, f _ _ (fun e => by rw [e, hp] at h1; cases h1) h1, h2, fun pos cv hc => ?_⟩
  obtain ⟨c, e, h4⟩ := h3 pos cv hc
  exact ⟨c, e, f _ _ (fun e => by rw [e, hp] at h4; unfold LamX.CodeO at h4; cases h4) h4⟩
theorem CalX.imp2 {P : Program} {w : World} {K : PySem.W.Frag} {mg : Str → Option Value} {base : Heap} {k j : Nat} {f : Addr} {G G' : Hp → Prop} {np : Nat} {sp sp' : Sp} (C : CalX P w K mg base k f G np sp) (hk : k ≤ j) (hl : ∀ vs H Q E, sp' vs H Q E → vs.length = np) (hG : ∀ H, G' H → G H) (hs : ∀ vs H Q E, G' H → sp' vs H Q E → sp vs H Q E) : CalX P w K mg base j f G' np sp' :=
  ⟨hl, fun s H a b g => C.at_ s H a b (hG H g), fun A outer s H us vs Q E hr e0 g r q => C.run A outer s H us vs Q E (hr.mono hk) e0 (hG H g) r (hs _ _ _ _ g q)⟩


def cnts (n : Nat) (xs : List Nat) : List Nat := (List.range n).map fun s => xs.count s
mutual
def St (fs : Nat → List Nat → Nat) (n : Nat) : Tr → Nat
  | .node c ks => fs c (cnts n (Sts fs n ks))
def Sts (fs : Nat → List Nat → Nat) (n : Nat) : List Tr → List Nat
  | [] => []
  | t :: r => St fs n t :: Sts fs n r
end
theorem Sts_map (fs : Nat → List Nat → Nat) (n : Nat) : ∀ ks : List Tr, Sts fs n ks = ks.map (St fs n)
  | [] => rfl
  | t :: r => by simp only [Sts, List.map_cons, Sts_map fs n r]
theorem count_cast (s : Nat) : ∀ xs : List Nat, (xs.map fun n : Nat => (n : Int)).count (s : Int) = xs.count s
  | [] => rfl
  | x :: r => by
    rw [List.map_cons, List.count_cons, List.count_cons, count_cast s r]
    by_cases e : x = s
    · subst e; simp
    · have : ¬ ((x : Int) = (s : Int)) := by omega
      simp [e, this]
def sp__numbers (K : PySem.W.Frag) : Sp := fun vs H Q _ => ∃ (b : Addr) (xs : List Nat) (n : Nat), vs = [.ref b, nI n] ∧ SqL K H b (xs.map nI) ∧ n ≤ 1000 ∧ ∀ r H', Same H H' → H r = none → H' r = some (.lst ((cnts n xs).map nI)) → Q (.ref r) H'
def sp_state_at (L : Str) (n : Nat) (fs : Nat → List Nat → Nat) : Sp := fun vs H Q _ => ∃ (c : Nat) (b : Addr) (cs : List Nat), vs = [.str (ch c), .ref b] ∧ c ∈ L.cps.toList ∧ cs.length = n ∧ (∀ x ∈ cs, x ≤ 1000000) ∧ H b = some (.lst (cs.map nI)) ∧ ∀ H', Same H H' → Q (nI (fs c cs)) H'
def sp_check_letters (K : PySem.W.Frag) : Sp := fun vs H Q _ => ∃ (a : Addr) (L : Str) (ws : List V) (ts : List Tr) (ok : Addr → Prop), vs = [.ref a, .str L] ∧ SqL K H a ws ∧ TrsAt ok H ws ts ∧ (∀ t ∈ ts, ∀ c ks, t = .node c ks → c ∈ L.cps.toList) ∧ ∀ H', Same H H' → Q .non H'
def sp_next_state (L : Str) (n : Nat) (fs : Nat → List Nat → Nat) (f p : Addr) (G : Hp → Prop) : List (Option V) → Sp := fun ws vs H Q _ => ∃ (c : Nat) (bl : Addr) (xs ds : List Nat), vs = [.str (ch c), .ref bl] ∧ ws = [some (.ref p), some (.ref f), some (nI n)] ∧ c ∈ L.cps.toList ∧ n ≤ 1000 ∧ xs.length ≤ 1000000 ∧ ds.length ≤ 1000000 ∧
  H bl = some (.lst (xs.map nI)) ∧ H p = some (.lst (ds.map nI)) ∧ (∀ H', Same H H' → G H') ∧ ∀ H', Fr p H H' → H' p = some (.lst ((ds ++ [fs c (cnts n xs)]).map nI)) → Q (nI (fs c (cnts n xs))) H'
def sp_states_upward (P : Program) (w : World) (K : PySem.W.Frag) (mg : Str → Option Value) (base : Heap) (TT : List NdefX.NTab) : Sp := fun vs H Q _ => ∃ (v : V) (t : Tr) (L : Str) (n : Nat) (f : Addr) (fs : Nat → List Nat → Nat), vs = [v, .str L, nI n, .ref f] ∧ TrAt (fun _ => True) H v t ∧ t.size ≤ 1000000 ∧
  t.lets (fun c => c ∈ L.cps.toList) ∧ n ≤ 1000 ∧ NdefX.TabsN TT H ∧ CalX P w K mg base 10 f (fun H' => LamX.ExtN H H') 2 (sp_state_at L n fs) ∧
  ∀ r H', LamX.ExtN H H' → NdefX.TabsN TT H' → H r = none → H' r = some (.lst ((t.post.map (St fs n)).map nI)) → Q (.ref r) H'
mutual
theorem lets_post {q : Nat → Prop} : ∀ t : Tr, t.lets q → ∀ u ∈ t.post, ∀ c ks, u = .node c ks → q c
  | .node c ks, h, u, hu, c', ks', e => by
    simp only [Tr.lets] at h
    simp only [Tr.post, List.mem_append, List.mem_singleton] at hu
    rcases hu with hu | hu
    · exact letss_post ks h.2 u hu c' ks' e
    · rw [hu] at e
      cases e
      exact h.1
theorem letss_post {q : Nat → Prop} : ∀ ts : List Tr, letss q ts → ∀ u ∈ posts ts, ∀ c ks, u = .node c ks → q c
  | [], _, u, hu, _, _, _ => by simp [posts] at hu
  | t :: r, h, u, hu, c', ks', e => by
    simp only [letss] at h
    simp only [posts, List.mem_append] at hu
    rcases hu with hu | hu
    · exact lets_post t h.1 u hu c' ks' e
    · exact letss_post r h.2 u hu c' ks' e
end
theorem TrAt.extN1 {ok : Addr → Prop} {H H' : Hp} {v : V} {t : Tr} (x : TrAt ok H v t) (f : LamX.ExtN H H') : TrAt ok H' v t :=
  ((TrAt.kind1 t v x).keep fun b o h e => f b o e fun ps e2 => h.2 ps (by rw [e, e2])).weak fun b h => h.1
theorem Same.fr {H H' : Hp} {p : Addr} (s : Same H H') : Fr p H H' := Fr.same s
section
variable {P : Program} {w : World} {K : PySem.W.Frag} {mg : Str → Option Value} {base : Heap}
theorem ok__numbers (T : Txt K mg) : FnOk P w K mg base CX0 1 T.f__numbers T.d__numbers ["below", "states"] (sp__numbers K) := by
  refine T.F__numbers.ok sc__numbers (fun vs H Q E h => ?_) (fun cdv A outer s H vs Q E hr h => ?_)
  · obtain ⟨b, xs, n, rfl, _⟩ := h
    rfl
  obtain ⟨b, xs, n, rfl, hb, hn, q⟩ := h
  refine ⟨_, (pss_one (ps_ret (pe_lc (own := [("state", 2)]) (g := gName 2) (te := tBM K "list" (rCntI K) (tVar 0) (tCons (tVar 2) tNil)) (tt := tYes) rfl sc__numbers.nd (pi_range1 (by rfl) T.z_range (pa_cons (pv 1) pa_nil)) (blkOk_by (own := [("state", 2)]) (N := ["below", "states", "state"]) (sc := (defScope s__numbers)) (by decide +kernel)) (fun _ _ _ _ _ => (pg_name (i := 2) sc__numbers.nd rfl (Or.inl rfl))) (fun _ _ _ _ _ => pts_nil) (fun _ _ _ _ _ => (by exact (pe_bm PySem.F.plainAttrs_list PySem.F.slot_list_count PySem.F.type_list_count mt_lcount (pv 0) (pa_cons (pv 2) pa_nil))))))), ?_⟩
  refine ⟨_, rfl, (n : Int), rfl, by omega, by omega, fun D hD => lc_range (lo := 0) (n := n) (fun i H3 => H3 D = some (.lst ((cnts i xs).map nI)) ∧ Same H H3)
    ⟨upd_same, same_new hD⟩ ?_ ?_⟩
  · rintro i H3 hi ⟨g1, g2⟩
    have hb3 := Same.seq g2 hb
    rw [nI_map] at hb3
    refine ⟨rfl, _, rfl, .inl ⟨rfl, _, hb3⟩, _, rfl, b, _, (i : Int), rfl, congrArg (fun z => [V.int z]) (Int.zero_add _), hb3, _, g1, ?_, ?_, same_add g2 hD⟩
    · rw [List.length_map]
      unfold cnts
      rw [List.length_map, List.length_range]
      exact Nat.lt_of_le_of_lt (show i ≤ 1000 by omega) (by decide)
    · rw [upd_same, count_cast]
      unfold cnts
      rw [List.range_succ, List.map_append, List.map_append]
      rfl
  · rintro H3 ⟨g1, g2⟩
    exact q D H3 g2 hD g1
theorem ok_check_letters (T : Txt K mg) : FnOk P w K mg base CX0 1 T.f_check_letters T.d_check_letters ["parts", "letters"] (sp_check_letters K) := by
  refine T.F_check_letters.ok sc_check_letters (fun vs H Q E h => ?_) (fun cdv A outer s H vs Q E hr h => ?_)
  · obtain ⟨a, L, ws, ts, ok, rfl, _⟩ := h
    rfl
  obtain ⟨a, L, ws, ts, ok, rfl, ha, ht, hL, q⟩ := h
  refine ⟨_, (pss_one (ps_for PassesOwn.never rfl (pi_list (pv 0)) (pg_tup rfl (pgs_cons (pg_name (i := 2) sc_check_letters.nd rfl (Or.inl rfl)) (pgs_cons (pg_name (i := 3) sc_check_letters.nd rfl (Or.inl rfl)) pgs_nil))) (pss_one (ps_if (pt_cmpR op_notInS (pv 2) (pv 1) (by rfl)) (pss_one ps_never) pss_nil)))), ?_⟩
  refine ⟨_, rfl, a, rfl, ⟨_, ha⟩, for_list (xs := ws) (fun i σ H2 => (∃ y2 y3, σ = [some (.ref a), some (.str L), y2, y3]) ∧ H2 = H) ⟨⟨_, _, rfl⟩, rfl⟩ (fun i σ H2 _ ⟨_, e⟩ => by rw [e]; exact ha) ?_ ?_⟩
  · rintro i x σ H2 hx ⟨⟨y2, y3, rfl⟩, rfl⟩
    obtain ⟨t1, ht1, hx2⟩ := ht.getV hx
    cases hx2 with
    | node g1 g2 o1 o2 c1 c2 rr =>
      rename_i ax lx vx c ks
      have hc := hL _ (List.mem_of_getElem? ht1) c ks rfl
      refine ⟨_, _, rfl, SqT.of g1, rfl, ?_⟩
      refine ⟨_, _, rfl, _, _, rfl, rfl, ?_⟩
      refine ⟨_, rfl, _, rfl, c, L, rfl, rfl, _, rfl, ?_⟩
      rw [decide_eq_true hc]
      exact iteF ⟨⟨_, _, rfl⟩, rfl⟩
  · rintro σ H2 ⟨⟨y2, y3, rfl⟩, rfl⟩
    exact q _ (Same.refl _)
theorem ok_next_state (T : Txt K mg) {f p : Addr} {G : Hp → Prop} {L : Str} {n : Nat} {fs : Nat → List Nat → Nat} (C_state_at : CalX P w K mg base 10 f G 2 (sp_state_at L n fs)) (qual : Str) (cl : List (Str × Addr)) (c' nf : Addr) :
    NdefX.NOk P w K mg base CX0 11 nf (NdefX.NF.of n_states_upward__next_state "next_state" qual cl c') ["letter", "below"] ["told", "state_at", "states"] (sp_next_state L n fs f p G) := by
  have G__numbers : FnOk P w K mg base CX0 1 T.f__numbers T.d__numbers ["below", "states"] (sp__numbers K) := ok__numbers T
  refine NdefX.nok_of sc_states_upward__next_state (fun doc pm ctv us hl => match us, hl with | [_, _], _ => rfl) (fun ws vs H Q E h => ?_) (fun A outer s H vs ws Q E hr hf hc hw h => ?_)
  · obtain ⟨c, bl, xs, ds, rfl, _⟩ := h
    rfl
  obtain ⟨c, bl, xs, ds, rfl, rfl, hcL, hn, hx, hd, hbl, hp, hG, q⟩ := h
  refine ⟨_, (pss_cons (ps_expr (pe_bm PySem.F.plainAttrs_list PySem.F.slot_list_append PySem.F.type_list_append mt_append (pv 2) (pa_cons (pe_calX (i := 3) C_state_at (hr.mono (by omega)) rfl (.inr (.inr (by rfl))) (pa_cons (pv 0) (pa_cons (pe_call G__numbers (hr.mono (by omega)) (by rfl) T.m__numbers T.F__numbers.kp T.b__numbers .nil pass0 (pa_cons (pv 1) (pa_cons (pv 4) pa_nil))) pa_nil))) pa_nil))) (pss_one (ps_ret (pe_ix ix_list (pv 2) (pe_un un_neg pe_int) (fun _ _ => rfl))))), ?_⟩
  refine ⟨_, rfl, .inl ⟨rfl, _, SqL.of hp⟩, rfl, hG _ (Same.refl _), _, rfl, _, rfl, _, rfl, bl, xs, n, rfl, SqL.of hbl, hn, fun r H1 s1 hr1 hr2 => ⟨hG _ s1, c, r, _, rfl, hcL, ?_, ?_, hr2, fun H2 s2 => ?_⟩⟩
  · unfold cnts
    rw [List.length_map, List.length_range]
  · intro x hx2
    obtain ⟨s', _, rfl⟩ := List.mem_map.mp hx2
    exact Nat.le_trans List.count_le_length hx
  have hp2 := s2 _ _ (s1 _ _ hp)
  refine ⟨p, _, _, rfl, rfl, hp2, ?_, ?_⟩
  · rw [List.length_map]
    exact Nat.lt_of_le_of_lt hd (by decide)
  have e1 : ds.map nI ++ [nI (fs c (cnts n xs))] = (ds ++ [fs c (cnts n xs)]).map nI := by rw [List.map_append]; rfl
  rw [e1]
  refine ⟨_, rfl, 1, rfl, p, _, -1, _, rfl, rfl, SqL.of upd_same, ?_, q _ ?_ upd_same⟩
  · rw [← e1]
    exact atI_last _ _
  · intro b o nb e
    rw [upd_ne nb]
    exact s2 _ _ (s1 _ _ e)
theorem ok_states_upward (T : Txt K mg) (B : Tbs T base) (TT : List NdefX.NTab) (hTT : (T.P_states_upward, fun _ _ => q_states_upward) ∈ TT) (hu : ∀ z ∈ TT, z.1 = T.P_states_upward → z.2 = fun _ _ => q_states_upward) : FnOk P w K mg base CX0 14 T.f_states_upward T.d_states_upward ["tree", "letters", "states", "state_at"] (sp_states_upward P w K mg base TT) := by
  have G_check_letters : FnOk P w K mg base CX0 1 T.f_check_letters T.d_check_letters ["parts", "letters"] (sp_check_letters K) := ok_check_letters T
  have G_parts_upward : FnOk P w K mg base CX0 5 T.f_parts_upward T.d_parts_upward ["tree"] sp_parts_upward := ok_parts_upward T
  have G_built_upward : FnOk P w K mg base CX0 12 T.f_built_upward T.d_built_upward ["tree", "made"] (sp_built_upwardJ P w K mg base 11) := ok_built_upwardJ T 11 (by decide)
  refine okC T.F_states_upward T.h_states_upward sc_states_upward (fun vs H Q E h => ?_) (fun A outer s H vs Q E hr h => ?_)
  · obtain ⟨v, t, L, n, f, fs, rfl, _⟩ := h
    rfl
  obtain ⟨v, t, L, n, f, fs, rfl, ht, hz, hL, hn, hT, C, q⟩ := h
  refine ⟨_, (pss_cons (ps_expr (pe_call G_check_letters (hr.mono (by omega)) (by rfl) T.m_check_letters T.F_check_letters.kp T.b_check_letters .nil pass0 (pa_cons (pe_call G_parts_upward (hr.mono (by omega)) (by rfl) T.m_parts_upward T.F_parts_upward.kp T.b_parts_upward .nil pass0 (pa_cons (pv 0) pa_nil)) (pa_cons (pv 1) pa_nil)))) (pss_cons (ps_set (i := 4) sc_states_upward.nd rfl (Or.inr rfl) (pe_lst pa_nil)) (pss_cons (NdefX.ps_ndefMS (T := TT) (nm := fun _ _ => q_states_upward) (i := 5) (st := n_states_upward__next_state) rfl B.tb_states_upward rfl hTT rfl hu (NdefX.ndef_free nd_states_upward__next_state) rfl rfl rfl sc_states_upward.nd rfl (Or.inl rfl) (.inl rfl)) (pss_cons (ps_expr (pe_callLd G_built_upward (hr.mono (by omega)) (by rfl) T.m_built_upward T.F_built_upward.kp T.b_built_upward (fun _ => rfl) (pa_cons (pv 0) (pa_cons (pv 5) pa_nil)))) (pss_one (ps_ret (pv 4))))))), ?_⟩
  refine ⟨_, rfl, v, t, _, rfl, ht, hz, fun r ws H1 s1 hr0 hr1 hparts => ⟨_, rfl, r, L, ws, t.post, _, rfl, SqL.of hr1, hparts, lets_post t hL, fun H2 s2 => ?_⟩⟩
  refine ⟨(by show 0 ≤ sizeLine; decide), fun p hp => ?_⟩
  have S3 : Same H (upd H2 p (.lst [])) := (s1.trans s2).trans (same_new hp)
  have hp0 : H p = none := (s1.trans s2).free hp
  have k3 := upd_same (H := H2) (a := p) (o := .lst [])
  generalize hH3 : upd H2 p (.lst []) = H3 at *
  refine ⟨hT.ext S3, fun nf c' H4 e4 n4 T4 hf0 hf hc => ?_⟩
  have hp4 : H4 p = some (.lst []) := e4 _ _ k3 (fun _ e => by cases e)
  have E4 : LamX.ExtN H H4 := (LamX.ExtN.of S3).trans e4
  refine ⟨_, rfl, _, rfl, fun cs hcs => ?_⟩
  have Cc := hcs.got (C8.fnScope n_states_upward__next_state) ["told", "state_at", "states"] [4, 3, 2] nd_states_upward__next_state rfl
  have hnew := hcs.new
  have hcel := hcs.cel
  clear hcs
  generalize (cloFrom _ _ [] : List (Str × Addr)) = cl at *
  have N0 := ok_next_state T C (q_states_upward) cl c' nf (p := p)
  have X0 := calX_ndef N0 Cc hcel
  have hpL : (lend H4 cs) p = some (.lst []) := lend_some hnew hp4
  have npf : nf ≠ p := fun e => by rw [e, hp4] at hf; unfold NdefX.FnO at hf; cases hf
  have npc : c' ≠ p := fun e => by rw [e, hp4] at hc; unfold LamX.CodeO at hc; cases hc
  have hE0 : ∀ H', FrX (fun b => b = p) (lend H4 cs) H' → Fr p H4 (unl H' cs) := fun H' f b o n e => by
    rw [unl_out (hnew.out e)]
    exact f b o n (lend_some hnew e)
  have hlt : ∀ H', FrX (fun b => b = p) (lend H4 cs) H' → LentAt cs H' := fun H' f c o e => f c _ (fun e2 => by
    have := hnew c o e
    rw [show c = p from e2, hp4] at this
    cases this) (lend_in e)
  refine ⟨v, t, nf, fun u => nI (St fs n u), (fun b => b = p), (fun l H' => H' p = some (.lst ((l.map (St fs n)).map nI))), rfl, ?_, hz, ?_, ?_, ?_, hpL, ?_, fun H5 f5 J5 => ⟨?_, ?_⟩⟩
  · exact ((TrAt.extN1 (TrAt.there t v ht) E4).same (lend_same hnew)).weak fun b ⟨_, o, e⟩ e2 => by rw [e2, hp0] at e; cases e
  · rintro b rfl; rw [hpL]; simp
  · rintro l H' b e rfl; rw [e]; simp
  · intro l Ha Hb k e
    exact k _ _ (by rw [hpL]; simp) e
  · refine CalX.imp2 X0 (Nat.le_refl _) (fun vs H Q E h => ?_) (fun H' f => ⟨f _ _ npf (lend_some hnew hf), f _ _ npc (lend_some hnew hc), hlt H' f⟩) (fun vs H' Q E f h => ?_)
    · obtain ⟨c, bl, ks, done, rest, rfl, _⟩ := h
      rfl
    · obtain ⟨c, bl, ks, done, rest, rfl, hsplit, c1, c2, hk, hbl, hbl0, hf', hJ, qq⟩ := h
      have hl' := hlt H' f
      have hlen : done.length ≤ 1000000 := by
        have e1 := congrArg List.length hsplit
        rw [post_len, List.length_append] at e1
        omega
      have eS : (ks.map (St fs n)).map nI = ks.map fun u => nI (St fs n u) := by rw [List.map_map]; rfl
      have eN : St fs n (.node c ks) = fs c (cnts n (ks.map (St fs n))) := by simp only [St, Sts_map]
      refine ⟨c, bl, ks.map (St fs n), done.map (St fs n), rfl, rfl, lets_post t hL (.node c ks) (by rw [hsplit]; simp) c ks rfl, hn, by rw [List.length_map]; exact hk, by rw [List.length_map]; exact hlen, ?_, unl_keep hl' hJ (fun _ e => by cases e), fun H2 s2 b o e nt => s2 _ _ (hE0 H' f b o (fun e2 => by rw [e2, hp0] at e; cases e) (E4 b o e nt)), fun H2 f2 e2 => ?_⟩
      · rw [eS]; exact unl_keep hl' hbl (fun _ e => by cases e)
      · rw [← eN] at e2 ⊢
        refine qq (lend H2 cs) (fun b o nb e => ?_) ?_
        · cases hb : cs.lookup b with
          | some ob =>
            rw [lend_in hb, ← hl' b ob hb]
            exact e
          | none =>
            rw [lend_out hb]
            exact f2 b o nb (by rw [unl_out hb]; exact e)
        · show (lend H2 cs) p = some (.lst (((done ++ [Tr.node c ks]).map (St fs n)).map nI))
          rw [lend_out (hnew.out hp4), e2]
          simp only [List.map_append, List.map_cons, List.map_nil]
  · exact hlt H5 f5
  · refine ⟨_, rfl, q p (unl H5 cs) (fun b o e nt => hE0 H5 f5 b o (fun e2 => by rw [e2, hp0] at e; cases e) (E4 b o e nt)) (tabsN_fr1 T4 hp4 (hE0 H5 f5)) hp0 (unl_keep (hlt H5 f5) J5 (fun _ e => by cases e))⟩
end

mutual
inductive Dt (ok : Addr → Prop) (H : Hp) : V → PyData → Prop
  | non : Dt ok H .non .none
  | bl (b : Bool) : Dt ok H (.bl b) (.bool b)
  | int (i : Int) : Dt ok H (.int i) (.int i)
  | str (x : Str) : Dt ok H (.str x) (.str x)
  | dic {a : Addr} : H a = some (.dK []) → ok a → Dt ok H (.ref a) (.dict [])
  | lst {a : Addr} {xs : List V} {ds : List PyData} : H a = some (.lst xs) → ok a → xs.length ≤ 1000 → DtAll ok H xs ds → Dt ok H (.ref a) (.list ds)
  | tup {a : Addr} {xs : List V} {ds : List PyData} : H a = some (.tup xs) → ok a → xs.length ≤ 1000 → DtAll ok H xs ds → Dt ok H (.ref a) (.tuple ds)
inductive DtAll (ok : Addr → Prop) (H : Hp) : List V → List PyData → Prop
  | nil : DtAll ok H [] []
  | cons {v : V} {vs : List V} {d : PyData} {ds : List PyData} : Dt ok H v d → DtAll ok H vs ds → DtAll ok H (v :: vs) (d :: ds)
end
section
variable {ok ok' : Addr → Prop} {H H' : Hp} {K : PySem.W.Frag}
mutual
theorem Dt.imp (hk : ∀ b o, ok b → H b = some o → ok' b) (h : ∀ b o, ok b → H b = some o → H' b = some o) : ∀ {v : V} {d : PyData}, Dt ok H v d → Dt ok' H' v d
  | _, _, .non => .non
  | _, _, .bl b => .bl b
  | _, _, .int i => .int i
  | _, _, .str x => .str x
  | _, _, .dic e k => .dic (h _ _ k e) (hk _ _ k e)
  | _, _, .lst e k l r => .lst (h _ _ k e) (hk _ _ k e) l (DtAll.imp hk h r)
  | _, _, .tup e k l r => .tup (h _ _ k e) (hk _ _ k e) l (DtAll.imp hk h r)
theorem DtAll.imp (hk : ∀ b o, ok b → H b = some o → ok' b) (h : ∀ b o, ok b → H b = some o → H' b = some o) : ∀ {vs : List V} {ds : List PyData}, DtAll ok H vs ds → DtAll ok' H' vs ds
  | _, _, .nil => .nil
  | _, _, .cons a b => .cons (Dt.imp hk h a) (DtAll.imp hk h b)
end
theorem Dt.keep {v : V} {d : PyData} (x : Dt ok H v d) (h : ∀ b o, ok b → H b = some o → H' b = some o) : Dt ok H' v d := x.imp (fun _ _ k _ => k) h
theorem Dt.same {v : V} {d : PyData} (x : Dt ok H v d) (s : Same H H') : Dt ok H' v d := x.keep fun b o _ h => s b o h
theorem Dt.weak {v : V} {d : PyData} (x : Dt ok H v d) (h : ∀ b, ok b → ok' b) : Dt ok' H v d := x.imp (fun b _ k _ => h b k) fun _ _ _ e => e
theorem Dt.any {v : V} {d : PyData} (x : Dt ok H v d) : Dt (fun _ => True) H v d := x.weak fun _ _ => trivial
theorem Dt.off {w : Addr} {v : V} {d : PyData} (x : Dt ok H v d) (h : H w = none) : Dt (fun b => ok b ∧ b ≠ w) H v d := x.imp (fun _ _ k e => ⟨k, ne_of_none e h⟩) fun _ _ _ e => e
theorem DtAll.keep {vs : List V} {ds : List PyData} (x : DtAll ok H vs ds) (h : ∀ b o, ok b → H b = some o → H' b = some o) : DtAll ok H' vs ds := x.imp (fun _ _ k _ => k) h
theorem DtAll.same {vs : List V} {ds : List PyData} (x : DtAll ok H vs ds) (s : Same H H') : DtAll ok H' vs ds := x.keep fun b o _ h => s b o h
theorem DtAll.weak {vs : List V} {ds : List PyData} (x : DtAll ok H vs ds) (h : ∀ b, ok b → ok' b) : DtAll ok' H vs ds := x.imp (fun b _ k _ => h b k) fun _ _ _ e => e
mutual
theorem Dt.dp : ∀ {v : V} {d : PyData}, Dt ok H v d → d.canLay0 = true → Dp K H v d
  | _, _, .non, _ => .non
  | _, _, .bl b, _ => .bl b
  | _, _, .int i, _ => .int i
  | _, _, .str x, _ => .str x
  | _, _, .dic _ _, h => by simp [PyData.canLay0] at h
  | _, _, .lst e _ _ r, h => .lst (SqL.of e) (DtAll.dp r (by simpa only [PyData.canLay0] using h))
  | _, _, .tup e _ _ r, h => .tup (SqT.of e) (DtAll.dp r (by simpa only [PyData.canLay0] using h))
theorem DtAll.dp : ∀ {vs : List V} {ds : List PyData}, DtAll ok H vs ds → PyData.canLayAll0 ds = true → DpAll K H vs ds
  | _, _, .nil, _ => .nil
  | _, _, .cons a b, h => by
    simp only [PyData.canLayAll0, Bool.and_eq_true] at h
    exact .cons (Dt.dp a h.1) (DtAll.dp b h.2)
end
theorem DtAll.len : ∀ {vs : List V} {ds : List PyData}, DtAll ok H vs ds → vs.length = ds.length
  | _, _, .nil => rfl
  | _, _, .cons _ b => by simp only [List.length_cons, DtAll.len b]
theorem DtAll.getV : ∀ {vs : List V} {ds : List PyData} {i : Nat} {x : V}, DtAll ok H vs ds → vs[i]? = some x → ∃ d, ds[i]? = some d ∧ Dt ok H x d
  | _, _, 0, _, .cons a _, h => by cases h; exact ⟨_, rfl, a⟩
  | _, _, i + 1, _, .cons _ b, h => by
    rw [List.getElem?_cons_succ] at h
    obtain ⟨d, h1, h2⟩ := DtAll.getV b h
    exact ⟨d, by rw [List.getElem?_cons_succ]; exact h1, h2⟩
theorem DtAll.snoc : ∀ {vs : List V} {ds : List PyData} {v : V} {d : PyData}, DtAll ok H vs ds → Dt ok H v d → DtAll ok H (vs ++ [v]) (ds ++ [d])
  | _, _, _, _, .nil, y => .cons y .nil
  | _, _, _, _, .cons a b, y => .cons a (DtAll.snoc b y)
theorem dt_ints : ∀ xs : List Int, DtAll ok H (xs.map V.int) (xs.map PyData.int)
  | [] => .nil
  | x :: r => .cons (.int x) (dt_ints r)
theorem dt_intsL {a : Addr} {xs : List Int} (h : H a = some (.lst (xs.map V.int))) (k : ok a) (l : xs.length ≤ 1000) : Dt ok H (.ref a) (.list (xs.map PyData.int)) := .lst h k (by rw [List.length_map]; exact l) (dt_ints xs)
theorem dtAll_ints : ∀ {w : List Int} {vs : List V}, DtAll ok H vs (w.map PyData.int) → vs = w.map V.int
  | [], _, h => by cases h; rfl
  | x :: r, _, h => by
    cases h with
    | cons a b =>
      cases a
      rw [dtAll_ints b]
      rfl
theorem Dt.intsL {v : V} {w : List Int} (h : Dt ok H v (.list (w.map PyData.int))) : ∃ a, v = .ref a ∧ H a = some (.lst (w.map V.int)) ∧ ok a := by
  cases h with
  | lst e k l r =>
    rw [dtAll_ints r] at e
    exact ⟨_, rfl, e, k⟩
end
theorem layAll_mem {d : PyData} : ∀ {ds : List PyData}, PyData.canLayAll0 ds = true → d ∈ ds → d.canLay0 = true
  | x :: r, h, hm => by
    simp only [PyData.canLayAll0, Bool.and_eq_true] at h
    rcases List.mem_cons.mp hm with rfl | hm
    · exact h.1
    · exact layAll_mem h.2 hm
theorem depthAll_mem {d : PyData} : ∀ {ds : List PyData}, d ∈ ds → d.depth ≤ PyData.depthAll ds
  | x :: r, h => by
    simp only [PyData.depthAll]
    rcases List.mem_cons.mp h with rfl | h
    · omega
    · have := depthAll_mem h
      omega
theorem eqT {x y : V} {i : Decidable (x = y)} {A B : Prop} (h : x = y) (k : A) : if (@decide (x = y) i) = true then A else B := by
  rw [decide_eq_true h]
  exact iteT k
theorem eqF {x y : V} {i : Decidable (x = y)} {A B : Prop} (h : x ≠ y) (k : B) : if (@decide (x = y) i) = true then A else B := by
  rw [decide_eq_false h]
  exact iteF k
theorem noneOf {sp : Sp} {P : Program} {w : World} {K : PySem.W.Frag} {mg : Str → Option Value} {base : Heap} {f : Addr} {fd : FuncData} {ps : List Str} {k : Nat} (no : ∀ vs H Q E, ¬ sp vs H Q E) : FnOk P w K mg base CX0 k f fd ps sp :=
  ⟨fun vs H Q E h => absurd h (no vs H Q E), fun A outer s H args us vs Q E _ _ _ _ h => absurd h (no vs H Q E)⟩


def Dk (H : Hp) (p : Addr) : Prop := ∃ xs : List Int, H p = some (.lst (xs.map V.int))
theorem Dk.some {H : Hp} {p : Addr} (h : Dk H p) : H p ≠ none := by obtain ⟨xs, e⟩ := h; rw [e]; simp
theorem Dk.ne {H : Hp} {p q : Addr} (h : Dk H p) (e : H q = none) : q ≠ p := fun e2 => h.some (by rw [← e2]; exact e)
theorem Dk.keep {H H' : Hp} {p : Addr} (h : Dk H p) (s : Same H H') : Dk H' p := by obtain ⟨xs, e⟩ := h; exact ⟨xs, s _ _ e⟩
theorem Dk.upd {H : Hp} {p q : Addr} {o : HO} (h : Dk H p) (n : q ≠ p) : Dk (upd H q o) p := by obtain ⟨xs, e⟩ := h; exact ⟨xs, by rw [upd_ne (fun e => n e.symm)]; exact e⟩
def sp__law_cell_at (K : PySem.W.Frag) : Sp := fun vs H Q _ => ∃ (a : Addr) (ns : List Int) (k : Int), vs = [.ref a, .int k] ∧ SqL K H a (ns.map V.int) ∧ 0 ≤ k ∧ ∀ x, Q (.int x) H
def sp__law_numbers : Sp := fun vs H Q _ => ∃ (c m : Int), vs = [.int c, .int m] ∧ 0 ≤ m ∧ m ≤ 1000 ∧ ∀ p (xs : List Int) H', Same H H' → H p = none → H' p = some (.lst (xs.map V.int)) → Q (.ref p) H'
def sp__law_take : Sp := fun vs H Q _ => ∃ (p : Addr) (m : Int), vs = [.ref p, .int m] ∧ Dk H p ∧ 0 < m ∧ ∀ r H', 0 ≤ r → r < m → Fr p H H' → Dk H' p → Q (.int r) H'
section
variable {P : Program} {w : World} {K : PySem.W.Frag} {mg : Str → Option Value} {base : Heap}
theorem ok__law_cell_at (T : Txt K mg) : FnOk P w K mg base CX0 1 T.f__law_cell_at T.d__law_cell_at ["script", "k"] (sp__law_cell_at K) := by
  refine T.F__law_cell_at.ok sc__law_cell_at (fun vs H Q E h => ?_) (fun cdv A outer s H vs Q E hr h => ?_)
  · obtain ⟨a, ns, k, rfl, _⟩ := h
    rfl
  obtain ⟨a, ns, k, rfl, hS, h0, q⟩ := h
  refine ⟨_, (pss_cons (ps_if (pt_cmpR op_lt (pv 1) (pe_callB call_len_seq (by rfl) T.z_len PySem.boot_len (pa_cons (pv 0) pa_nil)) (nomark _)) (pss_one (ps_ret (pe_ix ix_list (pv 0) (pv 1) (fun _ _ => rfl)))) pss_nil) (pss_one (ps_ret pe_int))), ?_⟩
  refine ⟨_, rfl, _, rfl, a, _, rfl, .inl hS, _, _, rfl, rfl, _, rfl, ?_⟩
  refine ite2 (fun c => ?_) (fun c => ?_)
  · have hk : k.toNat < ns.length := by
      have c' : k < (((ns.map V.int).length : Nat) : Int) := of_decide_eq_true c
      rw [List.length_map] at c'
      omega
    exact ⟨_, rfl, _, rfl, a, _, _, _, rfl, rfl, hS, at_of (j := k.toNat) (v := V.int ns[k.toNat]) (by omega) (by rw [List.getElem?_map, List.getElem?_eq_getElem hk]; rfl), q _⟩
  · exact q _
theorem ok__law_numbers (T : Txt K mg) : FnOk P w K mg base CX0 1 T.f__law_numbers T.d__law_numbers ["cell", "many"] sp__law_numbers := by
  refine T.F__law_numbers.ok sc__law_numbers (fun vs H Q E h => ?_) (fun cdv A outer s H vs Q E hr h => ?_)
  · obtain ⟨c, m, rfl, _⟩ := h
    rfl
  obtain ⟨c, m, rfl, h0, h1, q⟩ := h
  refine ⟨_, (pss_cons (ps_set (i := 2) sc__law_numbers.nd rfl (Or.inl rfl) (pe_lst pa_nil)) (pss_cons (ps_set (i := 3) sc__law_numbers.nd rfl (Or.inl rfl) (pv 0)) (pss_cons (ps_set (i := 4) sc__law_numbers.nd rfl (Or.inl rfl) (pe_op op_mod (pv 0) pe_int)) (pss_cons (ps_for PassesOwn.never rfl (pi_range1 (by rfl) T.z_range (pa_cons (pv 1) pa_nil)) (pg_name (i := 5) sc__law_numbers.nd rfl (Or.inl rfl)) (pss_one (ps_if (PW.pt (pw_and (pt_cmpR op_ge (pv 0) (pe_op op_pow pe_int pe_int) (nomark _)) (pw_and1 (pt_cmpR op_gt (pv 3) pe_int (nomark _))))) (pss_cons (ps_expr (pe_bm PySem.F.plainAttrs_list PySem.F.slot_list_append PySem.F.type_list_append mt_append (pv 2) (pa_cons (pe_op op_mod (pv 3) pe_int) pa_nil))) (pss_one (ps_set (i := 3) sc__law_numbers.nd rfl (Or.inl rfl) (pe_op op_fdivW (pv 3) pe_int)))) (pss_cons (ps_set (i := 4) sc__law_numbers.nd rfl (Or.inl rfl) (pe_op op_mod (pe_op op_mul (pe_op op_add (pe_op op_add (pv 4) (pe_op op_mul pe_int (pv 5))) pe_int) pe_int) pe_int)) (pss_cons (ps_set (i := 6) sc__law_numbers.nd rfl (Or.inl rfl) (pe_op op_mod (pe_op op_mul (pe_op op_mod (pe_op op_mul (pv 4) (pv 4)) pe_int) pe_int) pe_int)) (pss_one (ps_expr (pe_bm PySem.F.plainAttrs_list PySem.F.slot_list_append PySem.F.type_list_append mt_append (pv 2) (pa_cons (pe_op op_mod (pe_op op_fdivW (pv 6) pe_int) pe_int) pa_nil))))))))) (pss_one (ps_ret (pv 2))))))), ?_⟩
  refine ⟨(by show 0 ≤ sizeLine; decide), fun p hp => ?_⟩
  have s0 : 0 ≤ c % 2147483647 := Int.emod_nonneg _ (by decide)
  have s1 : c % 2147483647 < 2147483647 := Int.emod_lt_of_pos _ (by decide)
  refine ⟨_, rfl, _, rfl, _, _, rfl, rfl, (by show (0 : Int) < 2147483647; decide), ?_⟩
  refine ⟨_, rfl, m, rfl, by omega, by omega, for_range (lo := 0) (n := m.toNat) (fun i σ H' => ∃ (rest stir : Int) (xs : List Int) (y5 y6 : Option V), σ = [some (.int c), some (.int m), some (.ref p), some (.int rest), some (.int stir), y5, y6] ∧ 0 ≤ stir ∧ stir < 2147483647 ∧ H' p = some (.lst (xs.map V.int)) ∧ xs.length ≤ i ∧ Same H H')
    ⟨_, _, [], _, _, rfl, s0, s1, upd_same, Nat.le_refl _, same_new hp⟩ ?_ ?_⟩
  · rintro i σ H' hi ⟨rest, stir, xs, y5, y6, rfl, g0, g1, g2, g3, g4⟩
    have fits : (xs.map V.int).length < sizeLine := by
      rw [List.length_map]
      exact Nat.lt_of_le_of_lt (show _ ≤ 1000000 by omega) (by decide)
    have app : ∀ z : Int, xs.map V.int ++ [V.int z] = (xs ++ [z]).map V.int := fun z => by rw [List.map_append]; rfl
    have m1 : ∀ x : Int, 0 ≤ x % 2147483629 ∧ x % 2147483629 < 2147483629 := fun x => ⟨Int.emod_nonneg _ (by decide), Int.emod_lt_of_pos _ (by decide)⟩
    refine ⟨_, rfl, 10, 18, rfl, rfl, ⟨by decide, by decide, by decide⟩, _, _, rfl, rfl, _, rfl, ?_⟩
    refine ite2 (fun k1 => ⟨_, rfl, _, _, rfl, rfl, _, rfl, ite2 (fun k2 => ?A) (fun k2 => ?B)⟩) (fun k1 => ite2 (fun k2 => absurd k2 (by decide)) (fun k2 => ?C))
    case A =>
      refine ⟨_, rfl, .inl ⟨rfl, _, SqL.of g2⟩, _, rfl, _, _, rfl, rfl, (by show (0 : Int) < 64; decide), p, _, _, rfl, rfl, g2, fits, ?_⟩
      refine ⟨_, rfl, _, _, rfl, rfl, divW (by decide) (by decide), ?_⟩
      exact ⟨_, stir, xs ++ [rest % 64], _, _, rfl, g0, g1, by rw [upd_same, app], by rw [List.length_append, List.length_singleton]; omega, same_add g4 hp⟩
    all_goals
      refine ⟨_, rfl, _, rfl, 7, 0 + (i : Int), rfl, rfl, .inl ⟨by decide, by decide⟩, _, _, rfl, rfl, _, _, rfl, rfl, _, _, rfl, rfl, .inl ⟨by omega, by omega⟩, _, _, rfl, rfl, (by show (0 : Int) < 2147483647; decide), ?_⟩
      have t0 : 0 ≤ (stir + 7 * (0 + (i : Int)) + 3) * 48271 % 2147483647 := Int.emod_nonneg _ (by decide)
      have t1 : (stir + 7 * (0 + (i : Int)) + 3) * 48271 % 2147483647 < 2147483647 := Int.emod_lt_of_pos _ (by decide)
      refine ⟨_, rfl, _, rfl, _, _, rfl, rfl, .inl ⟨by omega, by omega⟩, _, _, rfl, rfl, (by show (0 : Int) < 2147483629; decide), _, _, rfl, rfl, .inl ⟨?_, ?_⟩, _, _, rfl, rfl, (by show (0 : Int) < 2147483587; decide), ?_⟩
      · exact Int.lt_of_lt_of_le (by decide) (m1 _).1
      · exact Int.lt_trans (m1 _).2 (by decide)
      refine ⟨_, rfl, .inl ⟨rfl, _, SqL.of g2⟩, _, rfl, _, _, rfl, rfl, divW (by decide) (by decide), _, _, rfl, rfl, (by show (0 : Int) < 720720; decide), p, _, _, rfl, rfl, g2, fits, ?_⟩
      exact ⟨rest, _, xs ++ [_], _, _, rfl, t0, t1, by rw [upd_same, app], by rw [List.length_append, List.length_singleton]; omega, same_add g4 hp⟩
  · rintro σ H' ⟨rest, stir, xs, y5, y6, rfl, g0, g1, g2, g3, g4⟩
    exact ⟨_, rfl, q p xs H' g4 hp g2⟩
theorem ok__law_deck (T : Txt K mg) : FnOk P w K mg base CX0 2 T.f__law_deck T.d__law_deck ["cell", "many"] sp__law_numbers := by
  have G__law_numbers : FnOk P w K mg base CX0 1 T.f__law_numbers T.d__law_numbers ["cell", "many"] sp__law_numbers := ok__law_numbers T
  refine T.F__law_deck.ok sc__law_deck (fun vs H Q E h => ?_) (fun cdv A outer s H vs Q E hr h => ?_)
  · obtain ⟨c, m, rfl, _⟩ := h
    rfl
  obtain ⟨c, m, rfl, h0, h1, q⟩ := h
  refine ⟨_, (pss_one (ps_ret (pe_revL (pe_call G__law_numbers (hr.mono (by omega)) (by rfl) T.m__law_numbers T.F__law_numbers.kp T.b__law_numbers .nil pass0 (pa_cons (pv 0) (pa_cons (pv 1) pa_nil)))))), ?_⟩
  refine ⟨_, rfl, _, rfl, c, m, rfl, h0, h1, fun p xs H' s hp hx => ⟨p, _, rfl, SqL.of hx, fun p2 hp2 => ?_⟩⟩
  exact q p2 xs.reverse _ (s.trans (same_new hp2)) (s.free hp2) (by rw [upd_same, List.map_reverse])
theorem ok__law_take (T : Txt K mg) : FnOk P w K mg base CX0 1 T.f__law_take T.d__law_take ["deck", "many"] sp__law_take := by
  refine T.F__law_take.ok sc__law_take (fun vs H Q E h => ?_) (fun cdv A outer s H vs Q E hr h => ?_)
  · obtain ⟨p, m, rfl, _⟩ := h
    rfl
  obtain ⟨p, m, rfl, ⟨xs, hp⟩, hm, q⟩ := h
  refine ⟨_, (pss_cons (ps_if (pt_cmpR (op_eqD hr.units) (pv 0) (pe_lst pa_nil) (nomark _)) (pss_one (ps_ret pe_int)) pss_nil) (pss_one (ps_ret (pe_op op_mod (pe_bm0 PySem.F.plainAttrs_list PySem.F.slot_list_pop PySem.F.type_list_pop mt_pop (pv 0)) (pv 1))))), ?_⟩
  refine ⟨_, rfl, (by show 0 ≤ sizeLine; decide), fun e he => ?_⟩
  have sE := same_new he (o := .lst [])
  refine ⟨_, _, dp_intsL (SqL.of (sE _ _ hp)), dp_nil upd_same, shaped_ints _, shaped_nil, _, rfl, ?_⟩
  rw [eqv_nil, List.length_map]
  by_cases hu : xs.length = 0
  · rw [decide_eq_true hu]
    exact iteT (q 0 _ (by omega) hm (Fr.same sE) ⟨xs, sE _ _ hp⟩)
  · rw [decide_eq_false hu]
    have hl : xs.length - 1 < xs.length := by omega
    refine iteF ⟨_, rfl, .inl ⟨rfl, _, SqL.of (sE _ _ hp)⟩, p, _, _, rfl, rfl, sE _ _ hp, by rw [List.length_map, List.getElem?_map, List.getElem?_eq_getElem hl]; rfl, ?_⟩
    refine ⟨_, rfl, _, _, rfl, rfl, hm, ?_⟩
    refine q _ _ (Int.emod_nonneg _ (by omega)) (Int.emod_lt_of_pos _ hm) (fun b o n h => by rw [upd_ne n]; exact sE _ _ h) ⟨xs.dropLast, ?_⟩
    rw [upd_same, List.map_dropLast]
end


inductive Cd
  | least (w : List Int) (b : Int)
  | turns (w : List Int) (m r : Int)
  | neg (c : Cd)
  | both (c d : Cd)
  | either (c d : Cd)
def Cd.dat : Cd → PyData
  | .least w b => .tuple [.str (Str.ofString "least"), .list (w.map PyData.int), .int b]
  | .turns w m r => .tuple [.str (Str.ofString "turns"), .list (w.map PyData.int), .int m, .int r]
  | .neg c => .tuple [.str (Str.ofString "not"), c.dat]
  | .both c d => .tuple [.str (Str.ofString "both"), c.dat, d.dat]
  | .either c d => .tuple [.str (Str.ofString "either"), c.dat, d.dat]
def wOk (s : Nat) (w : List Int) : Prop := w.length = s ∧ ∀ x ∈ w, 0 ≤ x ∧ x ≤ 4
def Cd.ok (s : Nat) : Cd → Prop
  | .least w b => wOk s w ∧ 0 ≤ b ∧ b ≤ 4
  | .turns w m r => wOk s w ∧ 1 ≤ m ∧ m ≤ 4 ∧ 0 ≤ r ∧ r < m
  | .neg c => c.ok s
  | .both c d => c.ok s ∧ d.ok s
  | .either c d => c.ok s ∧ d.ok s
def Cd.deep : Cd → Nat
  | .least _ _ => 1
  | .turns _ _ _ => 1
  | .neg c => 1 + c.deep
  | .both c d => 1 + max c.deep d.deep
  | .either c d => 1 + max c.deep d.deep
theorem Cd.deep_pos : ∀ c : Cd, 1 ≤ c.deep
  | .least _ _ => Nat.le_refl _
  | .turns _ _ _ => Nat.le_refl _
  | .neg c => by simp only [Cd.deep]; omega
  | .both c d => by simp only [Cd.deep]; omega
  | .either c d => by simp only [Cd.deep]; omega
theorem dep0 : ∀ xs : List Int, PyData.depthAll (xs.map PyData.int) = 0
  | [] => by simp only [List.map_nil, PyData.depthAll]
  | x :: r => by simp only [List.map_cons, PyData.depthAll, PyData.depth, dep0 r, Nat.max_self]
theorem Cd.dat_depth : ∀ c : Cd, c.dat.depth ≤ c.deep + 1
  | .least w b => by
    simp only [Cd.dat, PyData.depth, PyData.depthAll, Cd.deep, dep0]; omega
  | .turns w m r => by
    simp only [Cd.dat, PyData.depth, PyData.depthAll, Cd.deep, dep0]; omega
  | .neg c => by
    have := c.dat_depth
    simp only [Cd.dat, PyData.depth, PyData.depthAll, Cd.deep]; omega
  | .both c d => by
    have := c.dat_depth
    have := d.dat_depth
    simp only [Cd.dat, PyData.depth, PyData.depthAll, Cd.deep]; omega
  | .either c d => by
    have := c.dat_depth
    have := d.dat_depth
    simp only [Cd.dat, PyData.depth, PyData.depthAll, Cd.deep]; omega
theorem so_least : PyData.strOk (Str.ofString "least") = true := by decide +kernel
theorem so_turns : PyData.strOk (Str.ofString "turns") = true := by decide +kernel
theorem so_not : PyData.strOk (Str.ofString "not") = true := by decide +kernel
theorem so_both : PyData.strOk (Str.ofString "both") = true := by decide +kernel
theorem so_either : PyData.strOk (Str.ofString "either") = true := by decide +kernel
theorem Cd.lay : ∀ c : Cd, c.dat.canLay0 = true
  | .least w b => by simp only [Cd.dat, PyData.canLay0, PyData.canLayAll0, so_least, lay_ints, Bool.and_self]
  | .turns w m r => by simp only [Cd.dat, PyData.canLay0, PyData.canLayAll0, so_turns, lay_ints, Bool.and_self]
  | .neg c => by simp only [Cd.dat, PyData.canLay0, PyData.canLayAll0, so_not, c.lay, Bool.and_self]
  | .both c d => by simp only [Cd.dat, PyData.canLay0, PyData.canLayAll0, so_both, c.lay, d.lay, Bool.and_self]
  | .either c d => by simp only [Cd.dat, PyData.canLay0, PyData.canLayAll0, so_either, c.lay, d.lay, Bool.and_self]
theorem ine {a b : Int} (h : a ≠ b) : V.int a ≠ V.int b := fun e => h (V.int.inj e)
theorem sne {a b : Str} (h : a ≠ b) : V.str a ≠ V.str b := fun e => h (V.str.inj e)
def sp__law_weights : Sp := fun vs H Q _ => ∃ (p : Addr) (s : Int), vs = [.ref p, .int s] ∧ Dk H p ∧ 1 ≤ s ∧ s ≤ 6 ∧ ∀ a (w : List Int) H', wOk s.toNat w → H' a = some (.lst (w.map V.int)) → H a = none → Fr p H H' → Dk H' p → Q (.ref a) H'
def sp__law_condition (d : Nat) : Sp := fun vs H Q _ => ∃ (p : Addr) (s deep : Int), vs = [.ref p, .int s, .int deep] ∧ Dk H p ∧ 1 ≤ s ∧ s ≤ 6 ∧ 1 ≤ deep ∧ deep ≤ d ∧
  ∀ v (c : Cd) H', Fr p H H' → Dk H' p → Dt (fun b => b ≠ p ∧ H b = none) H' v c.dat → c.ok s.toNat → (c.deep : Int) ≤ deep → Q v H'
section
variable {P : Program} {w : World} {K : PySem.W.Frag} {mg : Str → Option Value} {base : Heap}
theorem ok__law_weights (T : Txt K mg) : FnOk P w K mg base CX0 2 T.f__law_weights T.d__law_weights ["deck", "s"] sp__law_weights := by
  have G__law_take : FnOk P w K mg base CX0 1 T.f__law_take T.d__law_take ["deck", "many"] sp__law_take := ok__law_take T
  refine T.F__law_weights.ok sc__law_weights (fun vs H Q E h => ?_) (fun cdv A outer s H vs Q E hr h => ?_)
  · obtain ⟨p, s, rfl, _⟩ := h
    rfl
  obtain ⟨p, s, rfl, hp, h1, h6, q⟩ := h
  refine ⟨_, (pss_cons (ps_set (i := 2) sc__law_weights.nd rfl (Or.inr rfl) (pe_ix ix_list (pe_lst (pa_cons pe_int (pa_cons pe_int (pa_cons pe_int pa_nil)))) (pe_call G__law_take (hr.mono (by omega)) (by rfl) T.m__law_take T.F__law_take.kp T.b__law_take .nil pass0 (pa_cons (pv 0) (pa_cons pe_int pa_nil))) (fun _ _ => rfl))) (pss_one (ps_ret (pe_lc (own := [("k", 3)]) (g := gName 3) (tt := tYes) rfl sc__law_weights.nd (pi_range1 (by rfl) T.z_range (pa_cons (pv 1) pa_nil)) (blkOk_by (own := [("k", 3)]) (N := ["deck", "s", "most", "k"]) (sc := (defScope s__law_weights)) (by decide +kernel)) (fun _ _ _ _ _ => (pg_name (i := 3) sc__law_weights.nd rfl (Or.inl rfl))) (fun _ _ _ _ _ => pts_nil) (fun _ _ _ _ _ => (pe_call G__law_take (hr.mono (by omega)) (by rfl) T.m__law_take T.F__law_take.kp T.b__law_take .nil pass0 (pa_cons (pv 0) (pa_cons (pv 2) pa_nil)))))))), ?_⟩
  refine ⟨(by show 3 ≤ sizeLine; decide), fun l hl => ?_⟩
  have sl := same_new hl (o := .lst [V.int 2, V.int 2, V.int 5])
  refine ⟨_, rfl, p, 3, rfl, hp.keep sl, by decide, fun r H2 r0 r1 f2 d2 => ?_⟩
  have hl2 := f2 l _ (hp.ne hl) upd_same
  obtain ⟨m, hm, hm0, hm5⟩ : ∃ m : Int, atI [V.int 2, V.int 2, V.int 5] r = some (V.int m) ∧ 0 < m ∧ m ≤ 5 := by
    rcases (by omega : r = 0 ∨ r = 1 ∨ r = 2) with rfl | rfl | rfl
    · exact ⟨2, at_of (j := 0) rfl rfl, by decide, by decide⟩
    · exact ⟨2, at_of (j := 1) rfl rfl, by decide, by decide⟩
    · exact ⟨5, at_of (j := 2) rfl rfl, by decide, by decide⟩
  refine ⟨l, _, r, V.int m, rfl, rfl, SqL.of hl2, hm, ?_⟩
  have F2 : Fr p H H2 := (Fr.same sl).trans f2
  refine ⟨_, rfl, s, rfl, by omega, by omega, fun D hD => lc_range (lo := 0) (n := s.toNat) (fun i H3 => ∃ w : List Int, w.length = i ∧ (∀ x ∈ w, 0 ≤ x ∧ x ≤ 4) ∧ H3 D = some (.lst (w.map V.int)) ∧ Fr p H H3 ∧ Dk H3 p)
    ⟨[], rfl, (fun _ h => by cases h), upd_same, F2.new (F2.free d2.some hD), d2.keep (same_new hD)⟩ ?_ ?_⟩
  · rintro i H3 hi ⟨w, g1, g2, g3, g4, g5⟩
    have nD : D ≠ p := d2.ne hD
    refine ⟨rfl, _, rfl, _, rfl, p, m, rfl, g5, hm0, fun x H4 x0 x1 f4 d4 => ⟨_, f4 _ _ nD g3, ?_, w ++ [x], by simp [g1], ?_, by rw [upd_same, List.map_append]; rfl, ?_, d4.upd nD⟩⟩
    · rw [List.length_map]
      exact Nat.lt_of_le_of_lt (show _ ≤ 1000000 by omega) (by decide)
    · intro y hy
      rcases List.mem_append.mp hy with hy | hy
      · exact g2 y hy
      · simp only [List.mem_singleton] at hy
        omega
    · exact (g4.trans f4).new (F2.free d2.some hD)
  · rintro H3 ⟨w, g1, g2, g3, g4, g5⟩
    exact q D w H3 ⟨g1, g2⟩ g3 (F2.free d2.some hD) g4 g5
theorem ok__law_condition (T : Txt K mg) : ∀ d : Nat, FnOk P w K mg base CX0 (d + 2) T.f__law_condition T.d__law_condition ["deck", "s", "deep"] (sp__law_condition d)
  | 0 => noneOf fun vs H Q E ⟨p, s, deep, _, _, _, _, h1, h2, _⟩ => by omega
  | d + 1 => by
    have G__law_condition : FnOk P w K mg base CX0 (d + 2) T.f__law_condition T.d__law_condition ["deck", "s", "deep"] (sp__law_condition d) := ok__law_condition T d
    have G__law_take : FnOk P w K mg base CX0 1 T.f__law_take T.d__law_take ["deck", "many"] sp__law_take := ok__law_take T
    have G__law_weights : FnOk P w K mg base CX0 2 T.f__law_weights T.d__law_weights ["deck", "s"] sp__law_weights := ok__law_weights T
    refine T.F__law_condition.ok sc__law_condition (fun vs H Q E h => ?_) (fun cdv A outer s H vs Q E hr h => ?_)
    · obtain ⟨p, s, deep, rfl, _⟩ := h
      rfl
    obtain ⟨p, s, deep, rfl, hp, h1, h6, hd1, hd, q⟩ := h
    refine ⟨_, (pss_cons (ps_set (i := 3) sc__law_condition.nd rfl (Or.inl rfl) (pe_call G__law_take (hr.mono (by omega)) (by rfl) T.m__law_take T.F__law_take.kp T.b__law_take .nil pass0 (pa_cons (pv 0) (pa_cons (pe_ix ix_list (pe_lst (pa_cons pe_int (pa_cons pe_int pa_nil))) (pe_callTy call_int1 (by rfl) T.z_int (by decide +kernel) (pa_cons (pe_cmpR op_gt (pv 2) pe_int (nomark _)) pa_nil)) (fun _ _ => rfl)) pa_nil)))) (pss_cons (ps_if (PW.pt (pw_or (pt_cmpR op_eq (pv 3) pe_int (nomark _)) (pw_or1 (pt_cmpR op_eq (pv 3) pe_int (nomark _))))) (pss_one (ps_ret (pe_tup (pa_cons pe_str (pa_cons (pe_call G__law_weights (hr.mono (by omega)) (by rfl) T.m__law_weights T.F__law_weights.kp T.b__law_weights .nil pass0 (pa_cons (pv 0) (pa_cons (pv 1) pa_nil))) (pa_cons (pe_call G__law_take (hr.mono (by omega)) (by rfl) T.m__law_take T.F__law_take.kp T.b__law_take .nil pass0 (pa_cons (pv 0) (pa_cons pe_int pa_nil))) pa_nil)))))) pss_nil) (pss_cons (ps_if (pt_cmpR op_eq (pv 3) pe_int (nomark _)) (pss_cons (ps_set (i := 4) sc__law_condition.nd rfl (Or.inl rfl) (pe_op op_add pe_int (pe_call G__law_take (hr.mono (by omega)) (by rfl) T.m__law_take T.F__law_take.kp T.b__law_take .nil pass0 (pa_cons (pv 0) (pa_cons pe_int pa_nil))))) (pss_one (ps_ret (pe_tup (pa_cons pe_str (pa_cons (pe_call G__law_weights (hr.mono (by omega)) (by rfl) T.m__law_weights T.F__law_weights.kp T.b__law_weights .nil pass0 (pa_cons (pv 0) (pa_cons (pv 1) pa_nil))) (pa_cons (pv 4) (pa_cons (pe_call G__law_take (hr.mono (by omega)) (by rfl) T.m__law_take T.F__law_take.kp T.b__law_take .nil pass0 (pa_cons (pv 0) (pa_cons (pv 4) pa_nil))) pa_nil)))))))) pss_nil) (pss_cons (ps_set (i := 5) sc__law_condition.nd rfl (Or.inl rfl) (pe_call G__law_condition (hr.mono (by omega)) (by rfl) T.m__law_condition T.F__law_condition.kp T.b__law_condition .nil pass0 (pa_cons (pv 0) (pa_cons (pv 1) (pa_cons (pe_op op_sub (pv 2) pe_int) pa_nil))))) (pss_cons (ps_if (pt_cmpR op_eq (pv 3) pe_int (nomark _)) (pss_one (ps_ret (pe_tup (pa_cons pe_str (pa_cons (pv 5) pa_nil))))) pss_nil) (pss_one (ps_ret (pe_tup (pa_cons (pe_ix ix_list (pe_lst (pa_cons pe_str (pa_cons pe_str pa_nil))) (pe_op op_sub (pv 3) pe_int) (fun _ _ => rfl)) (pa_cons (pv 5) (pa_cons (pe_call G__law_condition (hr.mono (by omega)) (by rfl) T.m__law_condition T.F__law_condition.kp T.b__law_condition .nil pass0 (pa_cons (pv 0) (pa_cons (pv 1) (pa_cons (pe_op op_sub (pv 2) pe_int) pa_nil)))) pa_nil))))))))))), ?_⟩
    obtain ⟨M, hM, hM2⟩ : ∃ M : Int, (M = 2 ∧ ¬ 1 < deep ∨ M = 6 ∧ 1 < deep) ∧ atI [V.int 2, V.int 6] (if (decide (1 < deep)) = true then 1 else 0) = some (V.int M) := by
      by_cases h : 1 < deep
      · rw [decide_eq_true h]
        exact ⟨6, .inr ⟨rfl, h⟩, at_of (j := 1) rfl rfl⟩
      · rw [decide_eq_false h]
        exact ⟨2, .inl ⟨rfl, h⟩, at_of (j := 0) rfl rfl⟩
    refine ⟨_, rfl, (by show 2 ≤ sizeLine; decide), fun l hl => ⟨_, rfl, _, _, rfl, rfl, .inr ⟨_, rfl, l, _, _, V.int M, rfl, rfl, SqL.of upd_same, hM2, ?_⟩⟩⟩
    have sl := same_new hl (o := .lst [V.int 2, V.int 6])
    refine ⟨p, M, rfl, hp.keep sl, by omega, fun way H2 w0 w1 f2 d2 => ?_⟩
    have F2 : Fr p H H2 := (Fr.same sl).trans f2
    by_cases h05 : way = 0 ∨ way = 5
    · rcases h05 with rfl | rfl
      case' inl => refine ⟨_, rfl, rfl, _, rfl, eqT rfl (iteT ?_)⟩
      case' inr => refine ⟨_, rfl, rfl, _, rfl, eqF (ine (by decide)) ⟨_, rfl, rfl, _, rfl, eqT rfl ?_⟩⟩
      all_goals
        refine ⟨_, rfl, _, rfl, p, s, rfl, d2, h1, h6, fun a w H3 hw ha hna f3 d3 => ?_⟩
        refine ⟨_, rfl, p, 5, rfl, d3, by decide, fun b H4 b0 b1 f4 d4 => ⟨(by show 3 ≤ sizeLine; decide), fun t ht => ?_⟩⟩
        have nap : a ≠ p := d2.ne hna
        have sT := same_new ht (o := .tup [.str (Str.ofString "least"), .ref a, .int b])
        have hw6 : w.length ≤ 1000 := by have := hw.1; omega
        exact q (.ref t) (.least w b) _ (((F2.trans f3).trans f4).trans (Fr.same sT)) (d4.keep sT) (.tup upd_same ⟨d4.ne ht, ((F2.trans f3).trans f4).free d4.some ht⟩ (Nat.le_add_left _ 997) (.cons (.str _) (.cons (dt_intsL (sT _ _ (f4 _ _ nap ha)) ⟨nap, F2.free d2.some hna⟩ hw6) (.cons (.int b) .nil)))) ⟨hw, b0, by omega⟩ (by simp only [Cd.deep]; omega)
    rw [not_or] at h05
    refine ⟨_, rfl, rfl, _, rfl, eqF (ine h05.1) ⟨_, rfl, rfl, _, rfl, eqF (ine h05.2) ?_⟩⟩
    by_cases hw1 : way = 1
    · subst hw1
      refine ⟨_, rfl, rfl, _, rfl, eqT rfl ?_⟩
      refine ⟨_, rfl, p, 4, rfl, d2, by decide, fun m H3 m0 m1 f3 d3 => ⟨1, m, rfl, rfl, ?_⟩⟩
      refine ⟨_, rfl, _, rfl, p, s, rfl, d3, h1, h6, fun a w H4 hw ha hna f4 d4 => ?_⟩
      refine ⟨_, rfl, _, rfl, _, rfl, p, 1 + m, rfl, d4, by omega, fun r H5 r0 r1 f5 d5 => ⟨(by show 4 ≤ sizeLine; decide), fun t ht => ?_⟩⟩
      have nap : a ≠ p := d3.ne hna
      have sT := same_new ht (o := .tup [.str (Str.ofString "turns"), .ref a, .int (1 + m), .int r])
      have hw6 : w.length ≤ 1000 := by have := hw.1; omega
      exact q (.ref t) (.turns w (1 + m) r) _ ((((F2.trans f3).trans f4).trans f5).trans (Fr.same sT)) (d5.keep sT) (.tup upd_same ⟨d5.ne ht, (((F2.trans f3).trans f4).trans f5).free d5.some ht⟩ (Nat.le_add_left _ 996) (.cons (.str _) (.cons (dt_intsL (sT _ _ (f5 _ _ nap ha)) ⟨nap, (F2.trans f3).free d3.some hna⟩ hw6) (.cons (.int _) (.cons (.int r) .nil))))) ⟨hw, by omega, by omega, r0, r1⟩ (by simp only [Cd.deep]; omega)
    refine ⟨_, rfl, rfl, _, rfl, eqF (ine hw1) ?_⟩
    have hdp : 1 < deep := by omega
    refine ⟨_, rfl, _, rfl, _, rfl, _, _, rfl, rfl, p, s, deep - 1, rfl, d2, h1, h6, by omega, by omega, fun v c H3 f3 d3 hv hc hcd => ?_⟩
    by_cases hw2 : way = 2
    · subst hw2
      refine ⟨_, rfl, rfl, _, rfl, eqT rfl ?_⟩
      refine ⟨_, rfl, (by show 2 ≤ sizeLine; decide), fun t ht => ?_⟩
      have sT := same_new ht (o := .tup [.str (Str.ofString "not"), v])
      exact q (.ref t) (.neg c) _ ((F2.trans f3).trans (Fr.same sT)) (d3.keep sT) (.tup upd_same ⟨d3.ne ht, (F2.trans f3).free d3.some ht⟩ (Nat.le_add_left _ 998) (.cons (.str _) (.cons ((hv.weak fun b h => ⟨h.1, F2.free d2.some h.2⟩).same sT) .nil))) hc (by simp only [Cd.deep]; omega)
    refine ⟨_, rfl, rfl, _, rfl, eqF (ine hw2) ?_⟩
    refine ⟨(by show 2 ≤ sizeLine; decide), fun l2 hl2 => ?_⟩
    have s2 := same_new hl2 (o := .lst [.str (Str.ofString "both"), .str (Str.ofString "either")])
    have d3' := d3.keep s2
    have hv' := hv.same s2
    rcases (by omega : way = 3 ∨ way = 4) with rfl | rfl
    · refine ⟨_, rfl, _, _, rfl, rfl, l2, _, _, .str (Str.ofString "both"), rfl, rfl, SqL.of upd_same, at_of (j := 0) rfl rfl, ?_⟩
      refine ⟨_, rfl, _, rfl, _, rfl, _, rfl, _, _, rfl, rfl, p, s, deep - 1, rfl, d3', h1, h6, by omega, by omega, fun v2 c2 H4 f4 d4 hv2 hc2 hcd2 => ⟨(by show 3 ≤ sizeLine; decide), fun t ht => ?_⟩⟩
      have sT := same_new ht (o := .tup [.str (Str.ofString "both"), v, v2])
      exact q (.ref t) (.both c c2) _ ((((F2.trans f3).trans (Fr.same s2)).trans f4).trans (Fr.same sT)) (d4.keep sT) (.tup upd_same ⟨d4.ne ht, (((F2.trans f3).trans (Fr.same s2)).trans f4).free d4.some ht⟩ (Nat.le_add_left _ 997) (.cons (.str _) (.cons (((hv'.keep fun b o h e => f4 b o h.1 e).weak fun b h => ⟨h.1, F2.free d2.some h.2⟩).same sT) (.cons ((hv2.weak fun b h => ⟨h.1, ((F2.trans f3).trans (Fr.same s2)).free d3'.some h.2⟩).same sT) .nil)))) ⟨hc, hc2⟩ (by simp only [Cd.deep]; omega)
    · refine ⟨_, rfl, _, _, rfl, rfl, l2, _, _, .str (Str.ofString "either"), rfl, rfl, SqL.of upd_same, at_of (j := 1) rfl rfl, ?_⟩
      refine ⟨_, rfl, _, rfl, _, rfl, _, rfl, _, _, rfl, rfl, p, s, deep - 1, rfl, d3', h1, h6, by omega, by omega, fun v2 c2 H4 f4 d4 hv2 hc2 hcd2 => ⟨(by show 3 ≤ sizeLine; decide), fun t ht => ?_⟩⟩
      have sT := same_new ht (o := .tup [.str (Str.ofString "either"), v, v2])
      exact q (.ref t) (.either c c2) _ ((((F2.trans f3).trans (Fr.same s2)).trans f4).trans (Fr.same sT)) (d4.keep sT) (.tup upd_same ⟨d4.ne ht, (((F2.trans f3).trans (Fr.same s2)).trans f4).free d4.some ht⟩ (Nat.le_add_left _ 997) (.cons (.str _) (.cons (((hv'.keep fun b o h e => f4 b o h.1 e).weak fun b h => ⟨h.1, F2.free d2.some h.2⟩).same sT) (.cons ((hv2.weak fun b h => ⟨h.1, ((F2.trans f3).trans (Fr.same s2)).free d3'.some h.2⟩).same sT) .nil)))) ⟨hc, hc2⟩ (by simp only [Cd.deep]; omega)
end


theorem lc_zip {K : PySem.W.Frag} {a b : Addr} {xs ys : List V} {Bd : V → Hp → (Hp → Prop) → Prop} {Qd : Hp → Prop} {H0 : Hp} (hlen : xs.length = ys.length) (Pv : Nat → Hp → Prop) (h0 : Pv 0 H0) (hl : ∀ i H, i ≤ xs.length → Pv i H → SqL K H a xs ∧ SqL K H b ys)
    (hs : ∀ i x y T H, xs[i]? = some x → ys[i]? = some y → Pv i H → H T = none → Bd (.ref T) (upd H T (.tup [x, y])) (Pv (i + 1))) (hd : ∀ H, Pv xs.length H → Qd H) :
    ∃ W : Nat → Nat → Hp → Prop, (∃ m, W 0 m H0) ∧ ∀ i m H, W i m H → ((Itz K a b).stop i H ∧ Qd H) ∨ ((Itz K a b).go i H ∧ ∃ Nx : Hp → Prop, (∀ H', Nx H' → ∃ m', m' < m ∧ W (i + 1) m' H') ∧ ∀ x H', (Itz K a b).yld i H x H' → Bd x H' Nx) := by
  refine ⟨fun i m H => m = xs.length - i ∧ i ≤ xs.length ∧ Pv i H, ⟨xs.length, by simp, Nat.zero_le _, h0⟩, ?_⟩
  rintro i m H ⟨rfl, hi, p⟩
  obtain ⟨q1, q2⟩ := hl i H hi p
  by_cases hlt : i < xs.length
  · have hlt2 : i < ys.length := by omega
    refine .inr ⟨⟨xs, ys, xs[i], ys[i], q1, q2, by simp [hlt], by simp [hlt2]⟩, Pv (i + 1), fun H' p' => ⟨xs.length - (i + 1), by omega, rfl, hlt, p'⟩, fun x H' y => ?_⟩
    obtain ⟨T, x1, y1, rfl, hT, rfl, g1, g2⟩ := y
    exact hs i x1 y1 T H (g1 xs q1) (g2 ys q2) p hT
  · have e : i = xs.length := by omega
    subst e
    exact .inl ⟨⟨xs, ys, q1, q2, .inl (Nat.le_refl _)⟩, hd H p⟩

def prods (w ns : List Int) : List Int := (w.zip ns).map fun p => p.1 * p.2
def dot (w ns : List Int) : Int := (prods w ns).sum
def Cd.val (ns : List Int) : Cd → Bool
  | .least w b => decide (dot w ns ≥ b)
  | .turns w m r => decide (dot w ns % m = r)
  | .neg c => !c.val ns
  | .both c d => c.val ns && d.val ns
  | .either c d => c.val ns || d.val ns
theorem prods_at {w ns : List Int} {i : Nat} {x y : Int} (hx : w[i]? = some x) (hy : ns[i]? = some y) : (prods w ns)[i]? = some (x * y) := by
  unfold prods
  rw [List.getElem?_map, List.getElem?_zip_eq_some (z := (x, y)).mpr ⟨hx, hy⟩]
  rfl
theorem prods_len {w ns : List Int} (h : w.length = ns.length) : (prods w ns).length = ns.length := by
  unfold prods
  rw [List.length_map, List.length_zip]
  omega
theorem dint {a b : Int} {i : Decidable (V.int a = V.int b)} : @decide (V.int a = V.int b) i = decide (a = b) := by
  by_cases h : a = b
  · rw [decide_eq_true h, decide_eq_true (congrArg V.int h)]
  · rw [decide_eq_false h, decide_eq_false (ine h)]
theorem turns_eq {x m r : Int} (h0 : 0 ≤ r) (h1 : r < m) : decide ((x - r) % m = 0) = decide (x % m = r) := by
  have e : r % m = r := Int.emod_eq_of_lt h0 h1
  have k := Int.emod_eq_emod_iff_emod_sub_eq_zero (m := x) (n := m) (k := r)
  rw [e] at k
  exact decide_eq_decide.mpr k.symm
def sp__weighed : Sp := fun vs H Q _ => ∃ (a b : Addr) (w ns : List Int) (s : Nat), vs = [.ref a, .ref b] ∧ H a = some (.lst (w.map V.int)) ∧ H b = some (.lst (ns.map V.int)) ∧ wOk s w ∧ ns.length = s ∧ s ≤ 6 ∧ ∀ H', Same H H' → Q (.int (dot w ns)) H'
def sp_condition_holds (d : Nat) : Sp := fun vs H Q _ => ∃ (v : V) (b : Addr) (c : Cd) (ns : List Int) (s : Nat), vs = [v, .ref b] ∧ Dt (fun _ => True) H v c.dat ∧ H b = some (.lst (ns.map V.int)) ∧ c.ok s ∧ ns.length = s ∧ s ≤ 6 ∧ c.deep ≤ d ∧ ∀ H', Same H H' → Q (.bl (c.val ns)) H'
section
variable {P : Program} {w : World} {K : PySem.W.Frag} {mg : Str → Option Value} {base : Heap}
theorem ok__weighed (T : Txt K mg) : FnOk P w K mg base CX0 1 T.f__weighed T.d__weighed ["weights", "numbers"] sp__weighed := by
  refine T.F__weighed.ok sc__weighed (fun vs H Q E h => ?_) (fun cdv A outer s H vs Q E hr h => ?_)
  · obtain ⟨a, b, w, ns, s, rfl, _⟩ := h
    rfl
  obtain ⟨a, b, w, ns, n, rfl, ha, hb, hw, hn, h6, q⟩ := h
  refine ⟨_, (pss_one (ps_ret (pe_callB (cr_sum rfl) (by rfl) T.z_sum (by decide +kernel) (pa_cons (pe_lc (own := [("weight", 2), ("number", 3)]) (g := gTup K 2 (gCons (gName 2) (gCons (gName 3) gNil))) (tt := tYes) rfl sc__weighed.nd (pi_zip (by rfl) T.z_zip (pa_cons (pv 0) (pa_cons (pv 1) pa_nil))) (blkOk_by (own := [("weight", 2), ("number", 3)]) (N := ["weights", "numbers", "weight", "number"]) (sc := (defScope s__weighed)) (by decide +kernel)) (fun _ _ _ _ _ => (pg_tup rfl (pgs_cons (pg_name (i := 2) sc__weighed.nd rfl (Or.inl rfl)) (pgs_cons (pg_name (i := 3) sc__weighed.nd rfl (Or.inl rfl)) pgs_nil)))) (fun _ _ _ _ _ => pts_nil) (fun _ _ _ _ _ => (pe_op op_mul (pv 2) (pv 3)))) pa_nil)))), ?_⟩
  have hlen : w.length = ns.length := by rw [hw.1, hn]
  refine ⟨_, rfl, _, rfl, a, b, _, _, rfl, SqL.of ha, SqL.of hb, fun D hD => ?_⟩
  refine lc_zip (xs := w.map V.int) (ys := ns.map V.int) (by rw [List.length_map, List.length_map, hlen]) (fun i H2 => H2 D = some (.lst (((prods w ns).take i).map V.int)) ∧ Same H H2) ⟨upd_same, same_new hD⟩ (fun i H2 _ ⟨_, s⟩ => ⟨SqL.of (s _ _ ha), SqL.of (s _ _ hb)⟩) ?_ ?_
  · rintro i x y Tt H2 hx hy ⟨g1, g2⟩ hT
    rw [List.getElem?_map] at hx hy
    cases hc : w[i]? with
    | none => rw [hc] at hx; cases hx
    | some x1 =>
    cases hc2 : ns[i]? with
    | none => rw [hc2] at hy; cases hy
    | some y1 =>
    rw [hc] at hx
    rw [hc2] at hy
    cases hx
    cases hy
    have g3 : Same H (upd H2 Tt (.tup [V.int x1, V.int y1])) := same_add g2 (g2.free hT)
    have hb4 := hw.2 x1 (List.mem_of_getElem? hc)
    refine ⟨_, _, rfl, SqT.of upd_same, rfl, _, _, rfl, _, _, rfl, rfl, rfl, _, rfl, _, rfl, _, _, rfl, rfl, .inl ⟨by omega, by omega⟩, ?_⟩
    refine ⟨_, by rw [upd_ne (ne_of_none g1 hT)]; exact g1, ?_, ?_, ?_⟩
    · rw [List.length_map, List.length_take, prods_len hlen]
      exact Nat.lt_of_le_of_lt (show _ ≤ 1000000 by omega) (by decide)
    · rw [upd_same, take_succ_of (prods_at hc hc2), List.map_append]
      rfl
    · exact same_add g3 hD
  · rintro H2 ⟨g1, g2⟩
    rw [List.length_map, hlen, ← prods_len hlen, List.take_length] at g1
    exact ⟨D, _, rfl, SqL.of g1, q _ g2⟩
theorem ok_condition_holds (T : Txt K mg) : ∀ d : Nat, FnOk P w K mg base CX0 (d + 1) T.f_condition_holds T.d_condition_holds ["condition", "numbers"] (sp_condition_holds d)
  | 0 => noneOf fun vs H Q E ⟨v, b, c, ns, s, _, _, _, _, _, _, h, _⟩ => by have := c.deep_pos; omega
  | d + 1 => by
    have G_condition_holds : FnOk P w K mg base CX0 (d + 1) T.f_condition_holds T.d_condition_holds ["condition", "numbers"] (sp_condition_holds d) := ok_condition_holds T d
    have G__weighed : FnOk P w K mg base CX0 1 T.f__weighed T.d__weighed ["weights", "numbers"] sp__weighed := ok__weighed T
    refine T.F_condition_holds.ok sc_condition_holds (fun vs H Q E h => ?_) (fun cdv A outer s H vs Q E hr h => ?_)
    · obtain ⟨v, b, c, ns, s, rfl, _⟩ := h
      rfl
    obtain ⟨v, b, c, ns, n, rfl, ht, hb, hc, hn, h6, hd, q⟩ := h
    refine ⟨_, (pss_cons (ps_set (i := 2) sc_condition_holds.nd rfl (Or.inl rfl) (pe_ix ix_tup (pv 0) pe_int (fun _ _ => rfl))) (pss_cons (ps_if (pt_cmpR op_eq (pv 2) pe_str (nomark _)) (pss_one (ps_ret (pe_cmpR op_ge (pe_call G__weighed (hr.mono (by omega)) (by rfl) T.m__weighed T.F__weighed.kp T.b__weighed .nil pass0 (pa_cons (pe_ix ix_tup (pv 0) pe_int (fun _ _ => rfl)) (pa_cons (pv 1) pa_nil))) (pe_ix ix_tup (pv 0) pe_int (fun _ _ => rfl)) (nomark _)))) pss_nil) (pss_cons (ps_if (pt_cmpR op_eq (pv 2) pe_str (nomark _)) (pss_one (ps_ret (pe_cmpR op_eq (pe_op op_mod (pe_op op_sub (pe_call G__weighed (hr.mono (by omega)) (by rfl) T.m__weighed T.F__weighed.kp T.b__weighed .nil pass0 (pa_cons (pe_ix ix_tup (pv 0) pe_int (fun _ _ => rfl)) (pa_cons (pv 1) pa_nil))) (pe_ix ix_tup (pv 0) pe_int (fun _ _ => rfl))) (pe_ix ix_tup (pv 0) pe_int (fun _ _ => rfl))) pe_int (nomark _)))) pss_nil) (pss_cons (ps_if (pt_cmpR op_eq (pv 2) pe_str (nomark _)) (pss_one (ps_ret (pe_not (pe_call G_condition_holds (hr.mono (by omega)) (by rfl) T.m_condition_holds T.F_condition_holds.kp T.b_condition_holds .nil pass0 (pa_cons (pe_ix ix_tup (pv 0) pe_int (fun _ _ => rfl)) (pa_cons (pv 1) pa_nil)))))) pss_nil) (pss_cons (ps_if (pt_cmpR op_eq (pv 2) pe_str (nomark _)) (pss_one (ps_ret (pe_and (pe_call G_condition_holds (hr.mono (by omega)) (by rfl) T.m_condition_holds T.F_condition_holds.kp T.b_condition_holds .nil pass0 (pa_cons (pe_ix ix_tup (pv 0) pe_int (fun _ _ => rfl)) (pa_cons (pv 1) pa_nil))) (pe_one (pe_call G_condition_holds (hr.mono (by omega)) (by rfl) T.m_condition_holds T.F_condition_holds.kp T.b_condition_holds .nil pass0 (pa_cons (pe_ix ix_tup (pv 0) pe_int (fun _ _ => rfl)) (pa_cons (pv 1) pa_nil))))))) pss_nil) (pss_one (ps_ret (pe_or (pe_call G_condition_holds (hr.mono (by omega)) (by rfl) T.m_condition_holds T.F_condition_holds.kp T.b_condition_holds .nil pass0 (pa_cons (pe_ix ix_tup (pv 0) pe_int (fun _ _ => rfl)) (pa_cons (pv 1) pa_nil))) (pe_one (pe_call G_condition_holds (hr.mono (by omega)) (by rfl) T.m_condition_holds T.F_condition_holds.kp T.b_condition_holds .nil pass0 (pa_cons (pe_ix ix_tup (pv 0) pe_int (fun _ _ => rfl)) (pa_cons (pv 1) pa_nil)))))))))))), ?_⟩
    cases c with
    | least w k =>
      cases ht with
      | tup e _ _ r =>
      cases r with
      | cons r0 r =>
      cases r with
      | cons r1 r =>
      cases r with
      | cons r2 r =>
      cases r
      cases r0
      cases r2
      obtain ⟨wa, rfl, hwa, _⟩ := r1.intsL
      refine ⟨_, rfl, _, _, 0, _, rfl, rfl, SqT.of e, atI_nat (j := 0) rfl, ?_⟩
      refine ⟨_, rfl, rfl, _, rfl, eqT rfl ?_⟩
      refine ⟨_, rfl, _, _, 1, _, rfl, rfl, SqT.of e, atI_nat (j := 1) rfl, _, rfl, wa, b, w, ns, n, rfl, hwa, hb, hc.1, hn, h6, fun H1 s1 => ?_⟩
      exact ⟨_, rfl, _, _, 2, _, rfl, rfl, SqT.of (s1 _ _ e), atI_nat (j := 2) rfl, _, _, rfl, rfl, q _ s1⟩
    | turns w m k =>
      cases ht with
      | tup e _ _ r =>
      cases r with
      | cons r0 r =>
      cases r with
      | cons r1 r =>
      cases r with
      | cons r2 r =>
      cases r with
      | cons r3 r =>
      cases r
      cases r0
      cases r2
      cases r3
      obtain ⟨wa, rfl, hwa, _⟩ := r1.intsL
      refine ⟨_, rfl, _, _, 0, _, rfl, rfl, SqT.of e, atI_nat (j := 0) rfl, ?_⟩
      refine ⟨_, rfl, rfl, _, rfl, eqF (sne (by decide +kernel)) ?_⟩
      refine ⟨_, rfl, rfl, _, rfl, eqT rfl ?_⟩
      refine ⟨_, rfl, _, _, 1, _, rfl, rfl, SqT.of e, atI_nat (j := 1) rfl, _, rfl, wa, b, w, ns, n, rfl, hwa, hb, hc.1, hn, h6, fun H1 s1 => ?_⟩
      obtain ⟨c1, c2, c3, c4, c5⟩ := hc
      refine ⟨_, rfl, _, _, 3, _, rfl, rfl, SqT.of (s1 _ _ e), atI_nat (j := 3) rfl, _, _, rfl, rfl, _, rfl, _, _, 2, _, rfl, rfl, SqT.of (s1 _ _ e), atI_nat (j := 2) rfl, _, _, rfl, rfl, (by show 0 < m; omega), rfl, ?_⟩
      rw [dint, turns_eq c4 c5]
      exact q _ s1
    | neg c1 =>
      cases ht with
      | tup e _ _ r =>
      cases r with
      | cons r0 r =>
      cases r with
      | cons r1 r =>
      cases r
      cases r0
      simp only [Cd.deep] at hd
      refine ⟨_, rfl, _, _, 0, _, rfl, rfl, SqT.of e, atI_nat (j := 0) rfl, ?_⟩
      refine ⟨_, rfl, rfl, _, rfl, eqF (sne (by decide +kernel)) ?_⟩
      refine ⟨_, rfl, rfl, _, rfl, eqF (sne (by decide +kernel)) ?_⟩
      refine ⟨_, rfl, rfl, _, rfl, eqT rfl ?_⟩
      exact ⟨_, rfl, _, _, 1, _, rfl, rfl, SqT.of e, atI_nat (j := 1) rfl, _, rfl, _, b, c1, ns, n, rfl, r1, hb, hc, hn, h6, by omega, fun H1 s1 => ⟨_, rfl, q _ s1⟩⟩
    | both c1 c2 =>
      cases ht with
      | tup e _ _ r =>
      cases r with
      | cons r0 r =>
      cases r with
      | cons r1 r =>
      cases r with
      | cons r2 r =>
      cases r
      cases r0
      simp only [Cd.deep] at hd
      refine ⟨_, rfl, _, _, 0, _, rfl, rfl, SqT.of e, atI_nat (j := 0) rfl, ?_⟩
      refine ⟨_, rfl, rfl, _, rfl, eqF (sne (by decide +kernel)) ?_⟩
      refine ⟨_, rfl, rfl, _, rfl, eqF (sne (by decide +kernel)) ?_⟩
      refine ⟨_, rfl, rfl, _, rfl, eqF (sne (by decide +kernel)) ?_⟩
      refine ⟨_, rfl, rfl, _, rfl, eqT rfl ?_⟩
      refine ⟨_, rfl, _, _, 1, _, rfl, rfl, SqT.of e, atI_nat (j := 1) rfl, _, rfl, _, b, c1, ns, n, rfl, r1, hb, hc.1, hn, h6, by omega, fun H1 s1 => ⟨_, rfl, ite2 (fun hv => ?_) (fun hv => ?_)⟩⟩
      · refine ⟨_, rfl, _, _, 2, _, rfl, rfl, SqT.of (s1 _ _ e), atI_nat (j := 2) rfl, _, rfl, _, b, c2, ns, n, rfl, r2.same s1, s1 _ _ hb, hc.2, hn, h6, by omega, fun H2 s2 => ?_⟩
        have e1 : (Cd.both c1 c2).val ns = c2.val ns := by simp only [Cd.val, hv, Bool.true_and]
        rw [← e1]
        exact q _ (s1.trans s2)
      · have e1 : (Cd.both c1 c2).val ns = false := by simp only [Cd.val, Bool.eq_false_iff.mpr hv, Bool.false_and]
        rw [← e1]
        exact q _ s1
    | either c1 c2 =>
      cases ht with
      | tup e _ _ r =>
      cases r with
      | cons r0 r =>
      cases r with
      | cons r1 r =>
      cases r with
      | cons r2 r =>
      cases r
      cases r0
      simp only [Cd.deep] at hd
      refine ⟨_, rfl, _, _, 0, _, rfl, rfl, SqT.of e, atI_nat (j := 0) rfl, ?_⟩
      refine ⟨_, rfl, rfl, _, rfl, eqF (sne (by decide +kernel)) ?_⟩
      refine ⟨_, rfl, rfl, _, rfl, eqF (sne (by decide +kernel)) ?_⟩
      refine ⟨_, rfl, rfl, _, rfl, eqF (sne (by decide +kernel)) ?_⟩
      refine ⟨_, rfl, rfl, _, rfl, eqF (sne (by decide +kernel)) ?_⟩
      refine ⟨_, rfl, _, _, 1, _, rfl, rfl, SqT.of e, atI_nat (j := 1) rfl, _, rfl, _, b, c1, ns, n, rfl, r1, hb, hc.1, hn, h6, by omega, fun H1 s1 => ⟨_, rfl, ite2 (fun hv => ?_) (fun hv => ?_)⟩⟩
      · have e1 : (Cd.either c1 c2).val ns = true := by simp only [Cd.val, hv, Bool.true_or]
        rw [← e1]
        exact q _ s1
      · refine ⟨_, rfl, _, _, 2, _, rfl, rfl, SqT.of (s1 _ _ e), atI_nat (j := 2) rfl, _, rfl, _, b, c2, ns, n, rfl, r2.same s1, s1 _ _ hb, hc.2, hn, h6, by omega, fun H2 s2 => ?_⟩
        have e1 : (Cd.either c1 c2).val ns = c2.val ns := by simp only [Cd.val, Bool.eq_false_iff.mpr hv, Bool.false_or]
        rw [← e1]
        exact q _ (s1.trans s2)
end

def Lets (L : Str) : Prop := 1 ≤ L.length ∧ L.length ≤ 26 ∧ ∀ c ∈ L.cps.toList, 97 ≤ c ∧ c ≤ 122

theorem tabsN_frP {TT : List NdefX.NTab} {H H' : Hp} {P : Addr} {q : Str} (h : NdefX.TabsN TT H) (hm : (P, fun _ _ => q) ∈ TT) (hu : ∀ z ∈ TT, z.1 = P → z.2 = fun _ _ => q) (f : Fr P H H') (t : LamX.TabS H' P q) : NdefX.TabsN TT H' := fun z hz => by
  by_cases e : z.1 = P
  · rw [hu z hz e, e]
    exact NdefX.TabN.of t
  · obtain ⟨ps, h1, h2, h3⟩ := h z hz
    refine ⟨ps, f _ _ e h1, h2, fun pos cv hc => ?_⟩
    obtain ⟨c, e1, h4⟩ := h3 pos cv hc
    obtain ⟨ps0, g1, _⟩ := h _ hm
    exact ⟨c, e1, f _ _ (fun e2 => by rw [e2, g1] at h4; unfold LamX.CodeO at h4; cases h4) h4⟩
theorem extN_of_frP {H H' : Hp} {P : Addr} {TT : List NdefX.NTab} {q : Str} (h : NdefX.TabsN TT H) (hm : (P, fun _ _ => q) ∈ TT) (f : Fr P H H') : LamX.ExtN H H' := fun b o e n => f b o (fun e2 => by
  obtain ⟨ps0, g1, _⟩ := h _ hm
  rw [e2, g1] at e
  cases e
  exact n _ rfl) e
theorem lent_extN {cs : Lent} {H H' : Hp} (f : LamX.ExtN (lend H cs) H') : LentAt cs H' := fun c o e => f c _ (lend_in e) (fun ps z => by unfold CellO at z; cases z)
theorem same_lend {cs : Lent} {H H2 : Hp} (l : LentAt cs H) (s : Same (unl H cs) H2) : Same H (lend H2 cs) := fun b o e => by
  cases hb : cs.lookup b with
  | some ob => rw [lend_in hb, ← l b ob hb]; exact e
  | none => rw [lend_out hb]; exact s b o (by rw [unl_out hb]; exact e)
theorem extN_unl {cs : Lent} {H H' : Hp} (hn : Fresh cs H) (f : LamX.ExtN (lend H cs) H') : LamX.ExtN H (unl H' cs) := fun b o e n => by
  rw [unl_out (hn.out e)]
  exact f b o (lend_some hn e) n
theorem tabsN_unl {cs : Lent} {TT : List NdefX.NTab} {H H' : Hp} (hn : Fresh cs H) (h : NdefX.TabsN TT H') (l : LentAt cs H') (hcel : Cells cs) : NdefX.TabsN TT (unl H' cs) := fun z hz => by
  obtain ⟨ps, h1, h2, h3⟩ := h z hz
  refine ⟨ps, unl_keep l h1 (fun _ e => by cases e), h2, fun pos cv hc => ?_⟩
  obtain ⟨c, e, h4⟩ := h3 pos cv hc
  refine ⟨c, e, ?_⟩
  cases hb : cs.lookup c with
  | none => rw [unl_out hb]; exact h4
  | some ob =>
    obtain ⟨v, hv⟩ := hcel _ _ hb
    rw [l c ob hb] at h4
    exact absurd (Option.some.inj h4).symm (codeO_cell hv)


abbrev RR := List (Cd × Nat)
def rowD (r : Cd × Nat) : PyData := .tuple [r.1.dat, .int r.2]
def rowsD (rs : RR) : PyData := .list (rs.map rowD)
structure Rl where
  L : Str
  n : Nat
  rows : List (Nat × RR)
  good : List Nat
def rowsIn (ok : Addr → Prop) (H : Hp) (es : List (Key × V)) (kvs : List (Nat × RR)) : Prop := Paired (fun (e : Key × V) (kv : Nat × RR) => e.1 = .inr (ch kv.1) ∧ Dt ok H e.2 (rowsD kv.2)) es kvs
def RlAt (ok : Addr → Prop) (H : Hp) (v : V) (R : Rl) : Prop := ∃ (a d g : Addr) (es : List (Key × V)), v = .ref a ∧ H a = some (.tup [.str R.L, nI R.n, .ref d, .ref g]) ∧ ok a ∧ H d = some (.dK es) ∧ ok d ∧ rowsIn ok H es R.rows ∧ H g = some (.lst (R.good.map nI)) ∧ ok g
def rsOk (n : Nat) (rs : RR) : Prop := rs.length ≤ 100 ∧ (∀ r ∈ rs, r.1.ok n ∧ r.1.deep ≤ 4 ∧ r.2 < n) ∧ ∃ (init : RR) (s : Nat), rs = init ++ [(.least (List.replicate n 0) 0, s)]
structure Rl.ok (R : Rl) : Prop where
  L : Lets R.L
  n1 : 1 ≤ R.n
  n6 : R.n ≤ 6
  has : ∀ c ∈ R.L.cps.toList, ∃ rs, R.rows.lookup c = some rs
  rs : ∀ kv ∈ R.rows, rsOk R.n kv.2 ∧ kv.1 ∈ R.L.cps.toList
  nd : (R.rows.map (·.1)).Nodup
  g6 : R.good.length ≤ 6
  gn : ∀ g ∈ R.good, g < R.n
  r26 : R.rows.length ≤ 26
def stR (rs : RR) (ns : List Int) : Option Nat := (rs.find? fun r => r.1.val ns).map (·.2)
def fsR (R : Rl) (c : Nat) (cs : List Nat) : Nat := match R.rows.lookup c with
  | some rs => (stR rs (cs.map fun x : Nat => (x : Int))).getD 0
  | none => 0
theorem dot_zero : ∀ (n : Nat) (ns : List Int), dot (List.replicate n 0) ns = 0
  | 0, ns => by simp [dot, prods]
  | n + 1, [] => by simp [dot, prods]
  | n + 1, x :: r => by
    have ih := dot_zero n r
    unfold dot prods at ih ⊢
    rw [List.replicate_succ, List.zip_cons_cons, List.map_cons, List.sum_cons, ih]
    simp
theorem stR_app {init : RR} {r : Cd × Nat} {ns : List Int} (h : ∀ x ∈ init, x.1.val ns = false) (hr : r.1.val ns = true) (more : RR) : stR (init ++ r :: more) ns = some r.2 := by
  unfold stR
  rw [List.find?_append, List.find?_eq_none.mpr fun x hx => by rw [h x hx]; simp]
  simp [List.find?_cons, hr]
theorem last_holds (n : Nat) (ns : List Int) : (Cd.least (List.replicate n 0) 0).val ns = true := by
  simp only [Cd.val, dot_zero]
  decide
theorem stR_some {n : Nat} {rs : RR} (h : rsOk n rs) (ns : List Int) : ∃ s, stR rs ns = some s ∧ s < n := by
  obtain ⟨_, h2, init, s, rfl⟩ := h
  have : ((init ++ [(Cd.least (List.replicate n 0) 0, s)]).find? fun r => r.1.val ns).isSome = true := by
    rw [List.find?_isSome]
    exact ⟨_, List.mem_append_right _ (List.mem_singleton.mpr rfl), last_holds n ns⟩
  obtain ⟨r, hr⟩ := Option.isSome_iff_exists.mp this
  exact ⟨r.2, by unfold stR; rw [hr]; rfl, (h2 r (List.mem_of_find?_eq_some hr)).2.2⟩
theorem look_mem {α β : Type} [BEq α] [LawfulBEq α] {a : α} {b : β} {l : List (α × β)} (h : l.lookup a = some b) : (a, b) ∈ l := mem_look h
theorem Rl.ok.at {R : Rl} (h : R.ok) {c : Nat} (hc : c ∈ R.L.cps.toList) : ∃ rs, R.rows.lookup c = some rs ∧ rsOk R.n rs := by
  obtain ⟨rs, e⟩ := h.has c hc
  exact ⟨rs, e, (h.rs _ (look_mem e)).1⟩
theorem fsR_lt {R : Rl} (h : R.ok) {c : Nat} (hc : c ∈ R.L.cps.toList) (cs : List Nat) : fsR R c cs < R.n := by
  obtain ⟨rs, e, hr⟩ := h.at hc
  obtain ⟨s, hs, hl⟩ := stR_some hr (cs.map fun x : Nat => (x : Int))
  unfold fsR
  rw [e]
  show (stR rs _).getD 0 < R.n
  rw [hs]
  exact hl
theorem rowsIn.keep {ok : Addr → Prop} {H H' : Hp} {es : List (Key × V)} {kvs : List (Nat × RR)} (x : rowsIn ok H es kvs) (h : ∀ b o, ok b → H b = some o → H' b = some o) : rowsIn ok H' es kvs := Paired.mapP x fun _ _ k => ⟨k.1, k.2.keep h⟩
theorem rowsIn.weak {ok ok' : Addr → Prop} {H : Hp} {es : List (Key × V)} {kvs : List (Nat × RR)} (x : rowsIn ok H es kvs) (h : ∀ b, ok b → ok' b) : rowsIn ok' H es kvs := Paired.mapP x fun _ _ k => ⟨k.1, k.2.weak h⟩
theorem RlAt.keep {ok : Addr → Prop} {H H' : Hp} {v : V} {R : Rl} (x : RlAt ok H v R) (h : ∀ b o, ok b → H b = some o → H' b = some o) : RlAt ok H' v R := by
  obtain ⟨a, d, g, es, e, h1, k1, h2, k2, h3, h4, k4⟩ := x
  exact ⟨a, d, g, es, e, h _ _ k1 h1, k1, h _ _ k2 h2, k2, h3.keep h, h _ _ k4 h4, k4⟩
theorem RlAt.same {ok : Addr → Prop} {H H' : Hp} {v : V} {R : Rl} (x : RlAt ok H v R) (s : Same H H') : RlAt ok H' v R := x.keep fun b o _ e => s b o e
theorem RlAt.weak {ok ok' : Addr → Prop} {H : Hp} {v : V} {R : Rl} (x : RlAt ok H v R) (h : ∀ b, ok b → ok' b) : RlAt ok' H v R := by
  obtain ⟨a, d, g, es, e, h1, k1, h2, k2, h3, h4, k4⟩ := x
  exact ⟨a, d, g, es, e, h1, h _ k1, h2, h _ k2, h3.weak h, h4, h _ k4⟩
mutual
theorem Dt.extN {ok : Addr → Prop} {H H' : Hp} (f : LamX.ExtN H H') : ∀ {v : V} {d : PyData}, Dt ok H v d → Dt ok H' v d
  | _, _, .non => .non
  | _, _, .bl b => .bl b
  | _, _, .int i => .int i
  | _, _, .str x => .str x
  | _, _, .dic e k => .dic (f _ _ e (fun _ z => by cases z)) k
  | _, _, .lst e k l r => .lst (f _ _ e (fun _ z => by cases z)) k l (DtAll.extN f r)
  | _, _, .tup e k l r => .tup (f _ _ e (fun _ z => by cases z)) k l (DtAll.extN f r)
theorem DtAll.extN {ok : Addr → Prop} {H H' : Hp} (f : LamX.ExtN H H') : ∀ {vs : List V} {ds : List PyData}, DtAll ok H vs ds → DtAll ok H' vs ds
  | _, _, .nil => .nil
  | _, _, .cons a b => .cons (Dt.extN f a) (DtAll.extN f b)
end
theorem RlAt.extN {ok : Addr → Prop} {H H' : Hp} {v : V} {R : Rl} (x : RlAt ok H v R) (f : LamX.ExtN H H') : RlAt ok H' v R := by
  obtain ⟨a, d, g, es, e, h1, k1, h2, k2, h3, h4, k4⟩ := x
  exact ⟨a, d, g, es, e, f _ _ h1 (fun _ z => by cases z), k1, f _ _ h2 (fun _ z => by cases z), k2, Paired.mapP h3 fun _ _ k => ⟨k.1, k.2.extN f⟩, f _ _ h4 (fun _ z => by cases z), k4⟩
theorem rows_val {ok : Addr → Prop} {H : Hp} {c : Nat} : ∀ {es : List (Key × V)} {kvs : List (Nat × RR)} {rs : RR}, rowsIn ok H es kvs → kvs.lookup c = some rs → ∃ v, valV es (.inr (ch c)) = some v ∧ Dt ok H v (rowsD rs)
  | [], [], _, _, h => by simp [List.lookup] at h
  | (k, v) :: es, (c', rs') :: kvs, rs, .cons r t, h => by
    by_cases e : c = c'
    · subst e
      have h' : some rs' = some rs := by simpa [List.lookup] using h
      cases h'
      have e1 : k = .inr (ch c) := r.1
      subst e1
      exact ⟨v, by simp [valV], r.2⟩
    · have e2 : (c == c') = false := by simpa using e
      simp only [List.lookup, e2] at h
      obtain ⟨v', h1, h2⟩ := rows_val t h
      refine ⟨v', ?_, h2⟩
      have e1 : k = .inr (ch c') := r.1
      subst e1
      have ne : ¬ ((Sum.inr (ch c') : Key) = .inr (ch c)) := fun z => by
        have z1 := Sum.inr.inj z
        have z2 := congrArg (fun s : Str => s.cps.toList) z1
        simp [ch] at z2
        exact e z2.symm
      rw [← h1]
      simp [valV, List.find?_cons, ne]
def sp__state_by_rows : Sp := fun vs H Q _ => ∃ (v : V) (b : Addr) (rs : RR) (ns : List Int) (n : Nat), vs = [v, .ref b] ∧ Dt (fun _ => True) H v (rowsD rs) ∧ H b = some (.lst (ns.map V.int)) ∧ rsOk n rs ∧ ns.length = n ∧ n ≤ 6 ∧ ∀ s H', stR rs ns = some s → Same H H' → Q (nI s) H'
section
variable {P : Program} {w : World} {K : PySem.W.Frag} {mg : Str → Option Value} {base : Heap}
theorem cut_init (xs : List V) (v : V) : cutV (xs ++ [v]) none (some (-1)) = xs := by
  have e : HT.sIx (xs ++ [v]).length (xs ++ [v]).length (some (-1)) = xs.length := by
    show (if (-1 : Int) < 0 then ((-1 : Int) + ((xs ++ [v]).length : Int)).toNat else min (((-1 : Int)).toNat) (xs ++ [v]).length) = xs.length
    rw [if_pos (by decide), List.length_append, List.length_singleton]
    omega
  have e2 : HT.sIx (xs ++ [v]).length 0 none = 0 := rfl
  unfold cutV
  rw [e, e2]
  simp
theorem ok__state_by_rows (T : Txt K mg) : FnOk P w K mg base CX0 6 T.f__state_by_rows T.d__state_by_rows ["rows", "numbers"] sp__state_by_rows := by
  have G_condition_holds : FnOk P w K mg base CX0 5 T.f_condition_holds T.d_condition_holds ["condition", "numbers"] (sp_condition_holds 4) := ok_condition_holds T 4
  refine T.F__state_by_rows.ok sc__state_by_rows (fun vs H Q E h => ?_) (fun cdv A outer s H vs Q E hr h => ?_)
  · obtain ⟨v, b, rs, ns, n, rfl, _⟩ := h
    rfl
  obtain ⟨v, b, rs, ns, n, rfl, hv, hb, hrs, hn, h6, q⟩ := h
  refine ⟨_, (pss_cons (ps_for PassesOwn.never rfl (pi_list (pe_slice sl_list (pv 0) po_none (po_some (pe_un un_neg pe_int)))) (pg_tup rfl (pgs_cons (pg_name (i := 2) sc__state_by_rows.nd rfl (Or.inl rfl)) (pgs_cons (pg_name (i := 3) sc__state_by_rows.nd rfl (Or.inl rfl)) pgs_nil))) (pss_one (ps_if (pt_val (pe_call G_condition_holds (hr.mono (by omega)) (by rfl) T.m_condition_holds T.F_condition_holds.kp T.b_condition_holds .nil pass0 (pa_cons (pv 2) (pa_cons (pv 1) pa_nil)))) (pss_one (ps_ret (pv 3))) pss_nil))) (pss_one (ps_ret (pe_ix ix_tup (pe_ix ix_list (pv 0) (pe_un un_neg pe_int) (fun _ _ => rfl)) pe_int (fun _ _ => rfl))))), ?_⟩
  obtain ⟨hr1, hr2, init, sl, rfl⟩ := hrs
  cases hv with
  | @lst a xs ds ha ok hl r =>
  have lr := r.len
  rw [List.length_map, List.length_append, List.length_singleton] at lr
  obtain ⟨xi, xl, rfl⟩ := concat_of (l := xs) (fun e => by rw [e] at lr; simp at lr)
  rw [List.length_append, List.length_singleton] at lr
  have lr' : xi.length = init.length := by omega
  refine ⟨_, rfl, 1, rfl, -1, rfl, a, _, rfl, SqL.of ha, fun p hp => ?_⟩
  rw [cut_init]
  have sp := same_new (o := .lst xi) hp
  have hpx := upd_same (H := H) (a := p) (o := .lst xi)
  generalize upd H p (.lst xi) = H1 at *
  have row : ∀ (i : Nat) (x : V), (xi ++ [xl])[i]? = some x → ∃ r1 : Cd × Nat, (init ++ [(Cd.least (List.replicate n 0) 0, sl)])[i]? = some r1 ∧ ∃ (pr : Addr) (cv : V), x = V.ref pr ∧ H pr = some (.tup [cv, nI r1.2]) ∧ Dt (fun _ => True) H cv r1.1.dat := by
    intro i x hx
    obtain ⟨d, h1, h2⟩ := r.getV hx
    rw [List.getElem?_map] at h1
    cases hc : (init ++ [(Cd.least (List.replicate n 0) 0, sl)])[i]? with
    | none => rw [hc] at h1; cases h1
    | some rw1 =>
      rw [hc] at h1
      cases h1
      cases h2 with
      | @tup pr ys es g1 g2 g3 g4 =>
        cases g4 with
        | cons k1 k2 =>
        cases k2 with
        | cons k3 k4 =>
        cases k4
        cases k3
        exact ⟨rw1, rfl, pr, _, rfl, g1, k1⟩
  refine ⟨p, rfl, ⟨_, SqL.of hpx⟩, for_list (xs := xi) (fun i σ H2 => (∃ y2 y3, σ = [some (.ref a), some (.ref b), y2, y3]) ∧ Same H1 H2 ∧ ∀ x ∈ init.take i, x.1.val ns = false) ⟨⟨_, _, rfl⟩, Same.refl _, by simp⟩ (fun i σ H2 _ ⟨_, s2, _⟩ => SqL.of (s2 _ _ hpx)) ?_ ?_⟩
  · rintro i x σ H2 hx ⟨⟨y2, y3, rfl⟩, s2, hno⟩
    have hi : i < xi.length := (List.getElem?_eq_some_iff.mp hx).1
    obtain ⟨rw1, h1, pr, cv, rfl, h2, h3⟩ := row i x (by rw [List.getElem?_append_left hi]; exact hx)
    rw [List.getElem?_append_left (by omega)] at h1
    have hm := hr2 rw1 (List.mem_append_left _ (List.mem_of_getElem? h1))
    have S2 := sp.trans s2
    refine ⟨_, _, rfl, SqT.of (S2 _ _ h2), rfl, ?_⟩
    refine ⟨_, _, rfl, _, _, rfl, rfl, ?_⟩
    refine ⟨_, rfl, _, rfl, cv, b, rw1.1, ns, n, rfl, h3.same S2, S2 _ _ hb, hm.1, hn, h6, hm.2.1, fun H3 s3 => ⟨_, rfl, ?_⟩⟩
    cases hval : rw1.1.val ns with
    | true =>
      refine iteT ⟨_, rfl, q rw1.2 H3 ?_ (S2.trans s3)⟩
      have hsp : init = init.take i ++ rw1 :: init.drop (i + 1) := by
        obtain ⟨hlt, e⟩ := List.getElem?_eq_some_iff.mp h1
        rw [← e, ← List.drop_eq_getElem_cons hlt, List.take_append_drop]
      rw [hsp, List.append_assoc, List.cons_append]
      exact stR_app hno hval _
    | false =>
      refine iteF ⟨⟨_, _, rfl⟩, s2.trans s3, fun y hy => ?_⟩
      rw [take_succ_of h1] at hy
      rcases List.mem_append.mp hy with hy | hy
      · exact hno y hy
      · rw [List.mem_singleton.mp hy]; exact hval
  · rintro σ H2 ⟨⟨y2, y3, rfl⟩, s2, hno⟩
    rw [lr', List.take_length] at hno
    obtain ⟨rw1, h1, pr, cv, rfl, h2, h3⟩ := row xi.length xl (by simp)
    rw [lr'] at h1
    have e1 : rw1 = (Cd.least (List.replicate n 0) 0, sl) := by simpa using h1.symm
    subst e1
    have S2 := sp.trans s2
    refine ⟨_, rfl, 1, rfl, a, _, -1, _, rfl, rfl, SqL.of (S2 _ _ ha), atI_last _ _, pr, _, 1, nI sl, rfl, rfl, SqT.of (S2 _ _ h2), atI_nat (j := 1) rfl, q sl H2 ?_ S2⟩
    exact stR_app hno (last_holds n ns) []
end

theorem inV_nI (x : Nat) : ∀ g : List Nat, inV (nI x) (g.map nI) = decide (x ∈ g)
  | [] => rfl
  | y :: r => by
    have ih := inV_nI x r
    unfold inV at ih ⊢
    rw [List.map_cons, List.any_cons, ih]
    have e : eqV (nI y) (nI x) = decide (x = y) := by
      show ((y : Int) == (x : Int)) = _
      rw [Bool.eq_iff_iff]
      simp
      omega
    rw [e]
    simp
theorem flat_nI : ∀ g : List Nat, (g.map nI).all flatV = true
  | [] => rfl
  | y :: r => by rw [List.map_cons, List.all_cons, flat_nI r]; rfl
theorem post_last : ∀ t : Tr, ∃ l, t.post = l ++ [t]
  | .node c ks => ⟨posts ks, rfl⟩

structure TT2 {K : PySem.W.Frag} {mg : Str → Option Value} (T : Txt K mg) (TT : List NdefX.NTab) : Prop where
  s1 : (T.P_states_upward, fun _ _ => q_states_upward) ∈ TT
  s2 : ∀ z ∈ TT, z.1 = T.P_states_upward → z.2 = fun _ _ => q_states_upward
  r1 : (T.P_state_by_rules, fun _ _ => q_state_by_rules) ∈ TT
  r2 : ∀ z ∈ TT, z.1 = T.P_state_by_rules → z.2 = fun _ _ => q_state_by_rules
def sp_state_by_rules (TT : List NdefX.NTab) : Sp := fun vs H Q _ => ∃ (v u : V) (R : Rl) (t : Tr), vs = [v, u] ∧ RlAt (fun _ => True) H v R ∧ TrAt (fun _ => True) H u t ∧ t.size ≤ 1000000 ∧ t.lets (fun c => c ∈ R.L.cps.toList) ∧ R.ok ∧ NdefX.TabsN TT H ∧
  ∀ H', LamX.ExtN H H' → NdefX.TabsN TT H' → Q (nI (St (fsR R) R.n t)) H'
def sp_rules_let_by (TT : List NdefX.NTab) : Sp := fun vs H Q _ => ∃ (v u : V) (R : Rl) (t : Tr), vs = [v, u] ∧ RlAt (fun _ => True) H v R ∧ TrAt (fun _ => True) H u t ∧ t.size ≤ 1000000 ∧ t.lets (fun c => c ∈ R.L.cps.toList) ∧ R.ok ∧ NdefX.TabsN TT H ∧
  ∀ H', LamX.ExtN H H' → NdefX.TabsN TT H' → Q (.bl (decide (St (fsR R) R.n t ∈ R.good))) H'
def sp_rules_lam (R : Rl) (d : Addr) : Sp := fun vs H Q _ => ∃ (c : Nat) (b : Addr) (cs : List Nat) (es : List (Key × V)), vs = [.str (ch c), .ref b] ∧ c ∈ R.L.cps.toList ∧ cs.length = R.n ∧ H b = some (.lst (cs.map nI)) ∧ H d = some (.dK es) ∧ rowsIn (fun _ => True) H es R.rows ∧ ∀ H', Same H H' → Q (nI (fsR R c cs)) H'
section
variable {P : Program} {w : World} {K : PySem.W.Frag} {mg : Str → Option Value} {base : Heap}
theorem ok_state_by_rules (T : Txt K mg) (B : Tbs T base) {TT : List NdefX.NTab} (hTT : TT2 T TT) : FnOk P w K mg base CX0 15 T.f_state_by_rules T.d_state_by_rules ["rules", "tree"] (sp_state_by_rules TT) := by
  have G_states_upward : FnOk P w K mg base CX0 14 T.f_states_upward T.d_states_upward ["tree", "letters", "states", "state_at"] (sp_states_upward P w K mg base TT) := ok_states_upward T B TT hTT.s1 hTT.s2
  refine okC T.F_state_by_rules T.h_state_by_rules sc_state_by_rules (fun vs H Q E h => ?_) (fun A outer s H vs Q E hr h => ?_)
  · obtain ⟨v, u, R, t, rfl, _⟩ := h
    rfl
  obtain ⟨v, u, R, t, rfl, hR, ht, hz, hL, hok, hT, q⟩ := h
  obtain ⟨a, d, g, es, rfl, ha, _, hd, _, hes, hg, _⟩ := hR
  refine ⟨_, (pss_cons (ps_asg (pv 0) (pg_tup rfl (pgs_cons (pg_name (i := 2) sc_state_by_rules.nd rfl (Or.inl rfl)) (pgs_cons (pg_name (i := 3) sc_state_by_rules.nd rfl (Or.inl rfl)) (pgs_cons (pg_name (i := 4) sc_state_by_rules.nd rfl (Or.inr rfl)) (pgs_cons (pg_name (i := 5) sc_state_by_rules.nd rfl (Or.inl rfl)) pgs_nil)))))) (pss_cons (ps_set (i := 6) sc_state_by_rules.nd rfl (Or.inl rfl) (pe_callLd G_states_upward (hr.mono (by omega)) (by rfl) T.m_states_upward T.F_states_upward.kp T.b_states_upward (fun _ => rfl) (pa_cons (pv 1) (pa_cons (pv 2) (pa_cons (pv 3) (pa_cons (pe_lamXc B.tb_state_by_rules rfl (by rfl) (fr := ["rows"]) (by show NdefX.ndefB (defScope s_state_by_rules) _ _ = true; decide +kernel)) pa_nil)))))) (pss_one (ps_ret (pe_ix ix_list (pv 6) (pe_un un_neg pe_int) (fun _ _ => rfl)))))), ?_⟩
  refine ⟨_, rfl, _, _, rfl, SqT.of ha, rfl, ?_⟩
  refine ⟨_, _, rfl, _, _, rfl, _, _, rfl, _, _, rfl, rfl, ?_⟩
  refine ⟨_, rfl, _, rfl, _, rfl, NdefX.TabN.to (hT _ hTT.r1), fun f c H1 f1 n1 T1 hf0 hf hc cs hcs => ?_⟩
  have hnew := hcs.new
  have E1 : LamX.ExtN H H1 := extN_of_frP hT hTT.r1 f1
  have TN1 : NdefX.TabsN TT H1 := tabsN_frP hT hTT.r1 hTT.r2 f1 T1
  have hd1 : H1 d = some (.dK es) := E1 _ _ hd (fun _ z => by cases z)
  have hes1 : rowsIn (fun _ => True) H1 es R.rows := Paired.mapP hes fun _ _ k => ⟨k.1, k.2.extN E1⟩
  refine ⟨u, t, R.L, R.n, f, fsR R, rfl, (ht.extN1 E1).same (lend_same hnew), hz, hL, Nat.le_trans hok.n6 (by decide), TN1.ext (fun b o e => lend_some hnew e), ?_, fun r H2 e2 T2 hr0 hr2 => ⟨lent_extN e2, ?_⟩⟩
  · refine CalX.imp2 (k := 9 + 1) (calX_lamC (k := 9) (N := ["letter", "numbers", "rows"]) (ps := ["letter", "numbers"]) (f := f) (F := _) (sp := sp_rules_lam R d) (NdefX.nscope_by (by dsimp only; decide +kernel)) (hcs.got _ ["rows"] [4] (by show NdefX.ndefB (defScope s_state_by_rules) _ _ = true; decide +kernel) rfl) hcs.cel (fun pm ctv us hl => match us, hl with | [_, _], _ => rfl) (fun vs H Q E h => ?_) (fun A outer s H vs Q E hr h => ?_)) (Nat.le_refl _) (fun vs H Q E h => ?_) (fun H' e => ⟨e _ _ (lend_some hnew hf) (fun ps z => by unfold LamO at z; cases z), e _ _ (lend_some hnew hc) (fun ps z => by unfold LamX.CodeO at z; cases z), lent_extN e⟩) (fun vs H' Q E e h => ?_)
    · obtain ⟨c, b, cs, es, rfl, _⟩ := h
      rfl
    · obtain ⟨c, b, cs, es, rfl, hc, hl, hb, hd', hes', qq⟩ := h
      have G__state_by_rows : FnOk P w K mg base CX0 6 T.f__state_by_rows T.d__state_by_rows ["rows", "numbers"] sp__state_by_rows := ok__state_by_rows T
      refine ⟨_, (pe_call G__state_by_rows (hr.mono (by omega)) (by rfl) T.m__state_by_rows T.F__state_by_rows.kp T.b__state_by_rows .nil pass0 (pa_cons (pe_dget (hu_of hr) (pv 2) (pv 0) (fun _ _ => rfl)) (pa_cons (pv 1) pa_nil))), ?_⟩
      obtain ⟨rs, hrs, hro⟩ := hok.at hc
      obtain ⟨rv, hv1, hv2⟩ := rows_val hes' hrs
      refine ⟨_, rfl, _, rfl, d, rv, rfl, ?_, _, rfl, rv, b, rs, cs.map (fun x : Nat => (x : Int)), R.n, rfl, hv2, ?_, hro, by rw [List.length_map]; exact hl, hok.n6, fun s' H2 hs s2 => ?_⟩
      · have := DGet.k (k := .inr (ch c)) hd'
        rw [hv1] at this
        exact this
      · rw [← nI_map]; exact hb
      · have e3 : fsR R c cs = s' := by
          unfold fsR
          rw [hrs]
          show (stR rs _).getD 0 = s'
          rw [hs]
          rfl
        rw [← e3]
        exact qq H2 s2
    · obtain ⟨c, b, cs, rfl, _⟩ := h
      rfl
    · obtain ⟨c, b, ds, rfl, hc', hl, _, hb, qq⟩ := h
      have lt := lent_extN e
      refine ⟨c, b, ds, es, rfl, hc', hl, unl_keep lt hb (fun _ z => by cases z), extN_unl hnew e _ _ hd1 (fun _ z => by cases z), Paired.mapP hes1 fun _ _ k => ⟨k.1, k.2.extN (extN_unl hnew e)⟩, fun H2 s2 => qq _ (same_lend lt s2)⟩
  · obtain ⟨l, hl⟩ := post_last t
    have lt := lent_extN e2
    have hr3 := unl_keep lt hr2 (fun _ z => by cases z)
    rw [hl, List.map_append, List.map_append] at hr3
    refine ⟨_, rfl, 1, rfl, r, _, -1, _, rfl, rfl, SqL.of hr3, atI_last _ _, q _ (E1.trans (extN_unl hnew e2)) (tabsN_unl hnew T2 lt hcs.cel)⟩
theorem ok_rules_let_by (T : Txt K mg) (B : Tbs T base) {TT : List NdefX.NTab} (hTT : TT2 T TT) : FnOk P w K mg base CX0 16 T.f_rules_let_by T.d_rules_let_by ["rules", "tree"] (sp_rules_let_by TT) := by
  have G_state_by_rules : FnOk P w K mg base CX0 15 T.f_state_by_rules T.d_state_by_rules ["rules", "tree"] (sp_state_by_rules TT) := ok_state_by_rules T B hTT
  refine T.F_rules_let_by.ok sc_rules_let_by (fun vs H Q E h => ?_) (fun cdv A outer s H vs Q E hr h => ?_)
  · obtain ⟨v, u, R, t, rfl, _⟩ := h
    rfl
  obtain ⟨v, u, R, t, rfl, hR, ht, hz, hL, hok, hT, q⟩ := h
  refine ⟨_, (pss_one (ps_ret (pe_cmpR op_in_seq (pe_call G_state_by_rules (hr.mono (by omega)) (by rfl) T.m_state_by_rules T.F_state_by_rules.kp T.b_state_by_rules .nil pass0 (pa_cons (pv 0) (pa_cons (pv 1) pa_nil))) (pe_ix ix_tup (pv 0) pe_int (fun _ _ => rfl)) (by rfl)))), ?_⟩
  refine ⟨_, rfl, _, rfl, v, u, R, t, rfl, hR, ht, hz, hL, hok, hT, fun H2 e2 T2 => ?_⟩
  obtain ⟨a, d, g, es, rfl, ha, _, hd, _, hes, hg, _⟩ := hR
  exact ⟨_, rfl, a, _, 3, _, rfl, rfl, SqT.of (e2 _ _ ha (fun _ z => by cases z)), atI_nat (j := 3) rfl, g, _, rfl, .inl (SqL.of (e2 _ _ hg (fun _ z => by cases z))), rfl, flat_nI _, by rw [if_neg (by decide), inV_nI]; exact q H2 e2 T2⟩
end

mutual
inductive NK (H : Hp) : NestedKey → V → Prop
  | int (i : Int) : NK H (.num i) (.int i)
  | text (x : Str) : NK H (.text x) (.str x)
  | tup {a : Addr} {vs : List V} {ks : List NestedKey} : H a = some (.tup vs) → NKs H ks vs → NK H (.tup ks) (.ref a)
inductive NKs (H : Hp) : List NestedKey → List V → Prop
  | nil : NKs H [] []
  | cons {k : NestedKey} {v : V} {ks : List NestedKey} {vs : List V} : NK H k v → NKs H ks vs → NKs H (k :: ks) (v :: vs)
end
section
variable {X : Cx} {pins : List (Addr × Obj)} {σ : L2.St} {H H' : Hp} {s : Shared}
mutual
theorem NK.is (I : Inv X pins σ H s) : ∀ {k : NestedKey} {v : V} {u : Value}, NK H k v → RelV v u → NestedIs s.heap k u
  | _, _, _, .int i, r => by
    obtain ⟨t, rfl⟩ := r
    exact .int i t
  | _, _, _, .text x, r => by
    obtain ⟨t, rfl⟩ := r
    exact .text x t
  | _, _, _, .tup h1 h2, r => by
    cases r
    obtain ⟨_, its, rv, o, e1, e2, n, e3⟩ := I.hok _ _ h1
    exact .tup e1 e2 e3 (by simpa using NKs.is I h2 rv)
theorem NKs.is (I : Inv X pins σ H s) : ∀ {ks : List NestedKey} {vs : List V} {us : List Value}, NKs H ks vs → Vals vs us → NestedAll s.heap ks us
  | _, _, _, .nil, r => by cases r; exact .nil
  | _, _, _, .cons a b, r => by
    cases r with
    | cons r1 r2 => exact .cons (NK.is I a r1) (NKs.is I b r2)
end
mutual
theorem NK.keep (f : ∀ b xs, H b = some (.tup xs) → H' b = some (.tup xs)) : ∀ {k : NestedKey} {v : V}, NK H k v → NK H' k v
  | _, _, .int i => .int i
  | _, _, .text x => .text x
  | _, _, .tup h1 h2 => .tup (f _ _ h1) (NKs.keep f h2)
theorem NKs.keep (f : ∀ b xs, H b = some (.tup xs) → H' b = some (.tup xs)) : ∀ {ks : List NestedKey} {vs : List V}, NKs H ks vs → NKs H' ks vs
  | _, _, .nil => .nil
  | _, _, .cons a b => .cons (NK.keep f a) (NKs.keep f b)
end
end
abbrev NRow := NestedKey × Addr × V
def DictN (P : Program) (w : World) (a : Addr) (xs : List NRow) : HO := .ext fun h => (a == sysModules) = false ∧ xs.length ≤ sizeLine ∧ ∃ us : List (NestedKey × Addr × Value), Paired (fun (p : NRow) (q : NestedKey × Addr × Value) => p.1 = q.1 ∧ p.2.1 = q.2.1 ∧ RelV p.2.2 q.2.2) xs us ∧
  ∃ o es ep, h.get? a = some o ∧ o.ExactDict ∧ o.data = .dict es ep ∧ es.toList = us.map (entryOfKey (nestedKind P w)) ∧ (us.map (·.1)).Nodup
theorem dictN_ok {P : Program} {w : World} {H : Hp} {h : Heap} {a : Addr} {xs : List NRow} (h1 : (a == sysModules) = false) (h2 : xs.length ≤ sizeLine) {us : List (NestedKey × Addr × Value)} (h3 : Paired (fun (p : NRow) (q : NestedKey × Addr × Value) => p.1 = q.1 ∧ p.2.1 = q.2.1 ∧ RelV p.2.2 q.2.2) xs us)
    (h4 : ∃ o es ep, h.get? a = some o ∧ o.ExactDict ∧ o.data = .dict es ep ∧ es.toList = us.map (entryOfKey (nestedKind P w)) ∧ (us.map (·.1)).Nodup) : ObjOk P w H h a (DictN P w a xs) :=
  ⟨⟨h1, h2, us, h3, h4⟩, (let ⟨o, _, _, e, _⟩ := h4; ⟨o, e⟩), fun _ _ ⟨b1, b2, us, b3, o, es, ep, e, r⟩ k => ⟨b1, b2, us, b3, o, es, ep, k o e, r⟩⟩
def RowsN (H : Hp) (xs : List NRow) : Prop := ∀ x ∈ xs, NK H x.1 (.ref x.2.1) ∧ x.1.depth ≤ 8
def atN (xs : List NRow) (k : NestedKey) : Option V := (xs.find? fun x => decide (x.1 = k)).map (·.2.2)
section
variable {X : Cx} {pins : List (Addr × Obj)} {σ : L2.St} {H : Hp} {s : Shared} {a : Addr} {xs : List NRow}
theorem dictN_of (I : Inv X pins σ H s) (h : H a = some (DictN X.prog X.w a xs)) (hk : RowsN H xs) : (a == sysModules) = false ∧ ∃ us : List (NestedKey × Addr × Value), Paired (fun (p : NRow) (q : NestedKey × Addr × Value) => p.1 = q.1 ∧ p.2.1 = q.2.1 ∧ RelV p.2.2 q.2.2) xs us ∧ s.heap.DictOfH (nestedKind X.prog X.w) a us := by
  obtain ⟨⟨h1, h2, us, h3, o, es, ep, e1, e2, e3, e4, e5⟩, _, _⟩ := I.hok _ _ h
  refine ⟨h1, us, h3, o, es, ep, e1, e2, e3, e4, fun u hu => ?_, e5⟩
  have : ∀ (xs : List NRow) (us : List (NestedKey × Addr × Value)), Paired (fun (p : NRow) (q : NestedKey × Addr × Value) => p.1 = q.1 ∧ p.2.1 = q.2.1 ∧ RelV p.2.2 q.2.2) xs us → RowsN H xs → ∀ u ∈ us, (nestedKind X.prog X.w).is s.heap u.1 u.2.1 := by
    intro xs us p
    induction p with
    | nil => intro _ u hu; cases hu
    | cons r t ih =>
      intro hk u hu
      rcases List.mem_cons.mp hu with rfl | hu
      · obtain ⟨n1, n2⟩ := hk _ List.mem_cons_self
        refine ⟨?_, ?_⟩
        · rw [← r.1, ← r.2.1]
          exact NK.is I n1 rfl
        · rw [← r.1]
          exact n2
      · exact ih (fun x hx => hk x (List.mem_cons_of_mem _ hx)) u hu
  exact this _ _ h3 hk u hu
def tDGetN (P : Program) (w : World) (td ty : TE) : TE := fun σ H Q => td σ H fun x H1 => ty σ H1 fun y H2 => ∃ (a b : Addr) (xs : List NRow) (k : NestedKey) (v : V), x = .ref a ∧ y = .ref b ∧ H2 a = some (DictN P w a xs) ∧ RowsN H2 xs ∧ NK H2 k (.ref b) ∧ k.depth ≤ 8 ∧ atN xs k = some v ∧ Q v H2
theorem atN_pairs {k : NestedKey} {xs : List NRow} {us : List (NestedKey × Addr × Value)} (p : Paired (fun (p : NRow) (q : NestedKey × Addr × Value) => p.1 = q.1 ∧ p.2.1 = q.2.1 ∧ RelV p.2.2 q.2.2) xs us) : (∃ v u, atN xs k = some v ∧ valueAt (pairsH us) k = some u ∧ RelV v u) ∨ (atN xs k = none ∧ valueAt (pairsH us) k = none) := by
  induction p with
  | nil => exact .inr ⟨rfl, rfl⟩
  | cons r t ih =>
    rename_i x u xs us
    by_cases e : x.1 = k
    · have e2 : u.1 = k := r.1.symm.trans e
      exact .inl ⟨x.2.2, u.2.2, by simp [atN, e], by simp [valueAt, pairsH, e2], r.2.2⟩
    · have e2 : ¬ u.1 = k := fun z => e (r.1.trans z)
      have a1 : atN (x :: xs) k = atN xs k := by simp [atN, List.find?_cons, e]
      have a2 : valueAt (pairsH (u :: us)) k = valueAt (pairsH us) k := by simp [valueAt, pairsH, List.find?_cons, e2]
      rw [a1, a2]
      exact ih
theorem pe_dgetN {o i : PySem.Expr} {td ty : TE} {pos : Pos} (hu : X.A.units + 9 < cLine) (ho : PE X o td) (hi : PE X i ty) (hs : NoSl i) : PE X (.Subscript o i pos) (tDGetN X.prog X.w td ty) := by
  refine ⟨fun pins s σ H Q I h => ?_⟩
  refine subD_of PySem.F.slot_dict_getitem.lookup hs (thn (ho.run pins s σ H _ I h) fun u s1 ⟨x, H1, I1, rx, q1⟩ => thn (hi.run pins s1 σ H1 _ I1 q1) fun iv s2 ⟨y, H2, I2, ry, a, b, xs, k, v, ex, ey, g, gr, gk, gd, ga, q2⟩ => ?_)
  subst ex ey
  cases rx
  cases ry
  obtain ⟨ha, us, hp, hm⟩ := dictN_of I2 g gr
  rcases atN_pairs (k := k) hp with ⟨v', uv, e1, e2, rv⟩ | ⟨e1, _⟩
  · have ev := Option.some.inj (e1.symm.trans ga)
    subst ev
    exact ⟨hm.typeIs, getItem_keyed (knd := nestedKind X.prog X.w) (show X.A.units + 1 + 8 < cLine by omega) ⟨NK.is I2 gk rfl, gd⟩ ⟨us, hm, rfl⟩ e2 ⟨_, H2, I2.tok _, rv, q2⟩⟩
  · rw [ga] at e1
    cases e1
def rInN (P : Program) (w : World) : R2 := fun y x H Q => ∃ (a b : Addr) (xs : List NRow) (k : NestedKey), x = .ref a ∧ y = .ref b ∧ H a = some (DictN P w a xs) ∧ RowsN H xs ∧ NK H k (.ref b) ∧ k.depth ≤ 8 ∧ Q (.bl (atN xs k).isSome) H
theorem op_inN (hu : X.A.units + 9 < cLine) : OpR X (compareOp .In) (rInN X.prog X.w) := by
  intro pins s σ H y x u iv Q I ry rx h
  obtain ⟨a, b, xs, k, rfl, rfl, g, gr, gk, gd, q⟩ := h
  cases rx
  cases ry
  obtain ⟨ha, us, hp, hm⟩ := dictN_of I g gr
  refine in_keyed (knd := nestedKind X.prog X.w) (show X.A.units + 1 + 8 < cLine by omega) ⟨NK.is I gk rfl, gd⟩ ha ⟨us, hm, rfl⟩ ?_
  rcases atN_pairs (k := k) hp with ⟨v', uv, e1, e2, _⟩ | ⟨e1, e2⟩
  · rw [e1] at q
    rw [e2]
    exact ⟨.bl true, H, I.tok _, rfl, q⟩
  · rw [e1] at q
    rw [e2]
    exact ⟨.bl false, H, I.tok _, rfl, q⟩
def rNotInN (P : Program) (w : World) : R2 := fun y x H Q => ∃ (a b : Addr) (xs : List NRow) (k : NestedKey), x = .ref a ∧ y = .ref b ∧ H a = some (DictN P w a xs) ∧ RowsN H xs ∧ NK H k (.ref b) ∧ k.depth ≤ 8 ∧ Q (.bl (!(atN xs k).isSome)) H
theorem op_notInN (hu : X.A.units + 9 < cLine) : OpR X (compareOp .NotIn) (rNotInN X.prog X.w) := by
  intro pins s σ H y x u iv Q I ry rx h
  obtain ⟨a, b, xs, k, rfl, rfl, g, gr, gk, gd, q⟩ := h
  cases rx
  cases ry
  obtain ⟨ha, us, hp, hm⟩ := dictN_of I g gr
  refine notIn_keyed (knd := nestedKind X.prog X.w) (show X.A.units + 1 + 8 < cLine by omega) ⟨NK.is I gk rfl, gd⟩ ha ⟨us, hm, rfl⟩ ?_
  rcases atN_pairs (k := k) hp with ⟨v', uv, e1, e2, _⟩ | ⟨e1, e2⟩
  · rw [e1] at q
    rw [e2]
    exact ⟨.bl false, H, I.tok _, rfl, q⟩
  · rw [e1] at q
    rw [e2]
    exact ⟨.bl true, H, I.tok _, rfl, q⟩
def storedN (xs : List NRow) (k : NestedKey) (b : Addr) (v : V) : List NRow := if (atN xs k).isSome then xs.map (fun x => if x.1 = k then (x.1, x.2.1, v) else x) else xs ++ [(k, b, v)]
abbrev RowsP (xs : List NRow) (us : List (NestedKey × Addr × Value)) : Prop := Paired (fun (p : NRow) (q : NestedKey × Addr × Value) => p.1 = q.1 ∧ p.2.1 = q.2.1 ∧ RelV p.2.2 q.2.2) xs us
theorem rows_map {k : NestedKey} {v : V} {u : Value} (rv : RelV v u) : ∀ {xs : List NRow} {us : List (NestedKey × Addr × Value)}, RowsP xs us → RowsP (xs.map (fun x => if x.1 = k then (x.1, x.2.1, v) else x)) (us.map (putAt k u))
  | _, _, .nil => .nil
  | x :: xs, y :: us, .cons r t => by
    refine .cons ?_ (rows_map rv t)
    show (if x.1 = k then (x.1, x.2.1, v) else x).1 = (putAt k u y).1 ∧ (if x.1 = k then (x.1, x.2.1, v) else x).2.1 = (putAt k u y).2.1 ∧ RelV (if x.1 = k then (x.1, x.2.1, v) else x).2.2 (putAt k u y).2.2
    unfold putAt
    by_cases e : x.1 = k
    · rw [if_pos e, if_pos (r.1.symm.trans e)]
      exact ⟨r.1, r.2.1, rv⟩
    · rw [if_neg e, if_neg (fun z => e (r.1.trans z))]
      exact r
theorem rows_app {k : NestedKey} {b : Addr} {v : V} {u : Value} (rv : RelV v u) : ∀ {xs : List NRow} {us : List (NestedKey × Addr × Value)}, RowsP xs us → RowsP (xs ++ [(k, b, v)]) (us ++ [(k, b, u)])
  | _, _, .nil => .cons ⟨rfl, rfl, rv⟩ .nil
  | _ :: _, _ :: _, .cons r t => .cons r (rows_app rv t)
theorem stored_pairs {k : NestedKey} {b : Addr} {v : V} {u : Value} (rv : RelV v u) {xs : List NRow} {us : List (NestedKey × Addr × Value)} (p : Paired (fun (p : NRow) (q : NestedKey × Addr × Value) => p.1 = q.1 ∧ p.2.1 = q.2.1 ∧ RelV p.2.2 q.2.2) xs us) :
    Paired (fun (p : NRow) (q : NestedKey × Addr × Value) => p.1 = q.1 ∧ p.2.1 = q.2.1 ∧ RelV p.2.2 q.2.2) (storedN xs k b v) (storedH us k b u) := by
  have hs : (atN xs k).isSome = (atKey us k).isSome := by
    have e : valueAt (pairsH us) k = (atKey us k).map (·.2) := valueAt_pairsH us k
    rcases atN_pairs (k := k) p with ⟨v', u', e1, e2, _⟩ | ⟨e1, e2⟩
    · rw [e1]
      rw [e2] at e
      cases h : atKey us k with
      | none => rw [h] at e; cases e
      | some _ => rfl
    · rw [e1]
      rw [e2] at e
      cases h : atKey us k with
      | none => rfl
      | some _ => rw [h] at e; cases e
  unfold storedN storedH
  rw [hs]
  split
  · exact rows_map rv p
  · exact rows_app rv p
theorem storedN_len (xs : List NRow) (k : NestedKey) (b : Addr) (v : V) : (storedN xs k b v).length ≤ xs.length + 1 := by
  unfold storedN
  split
  · rw [List.length_map]; omega
  · rw [List.length_append]; exact Nat.le_refl _
def sDPutN (P : Program) (w : World) (td ty tv : TE) : TS := fun D σ H => tv σ H fun v H1 => td σ H1 fun x H2 => ty σ H2 fun y H3 => ∃ (a b : Addr) (xs : List NRow) (k : NestedKey), x = .ref a ∧ y = .ref b ∧ H3 a = some (DictN P w a xs) ∧ RowsN H3 xs ∧ NK H3 k (.ref b) ∧ k.depth ≤ 8 ∧ xs.length < sizeLine ∧ D.nx σ (upd H3 a (DictN P w a (storedN xs k b v)))
theorem ps_dputN {o i value : PySem.Expr} {td ty tv : TE} {pos pos' : Pos} (hu : X.A.units + 9 < cLine) (ho : PE X o td) (hi : PE X i ty) (hv : PE X value tv) (hs : swapsWith value (some (.Subscript o i pos')) pos.line X.env = pure false) :
    PS X (.Assign [.Subscript o i pos'] value pos) (sDPutN X.prog X.w td ty tv) := by
  refine ⟨fun pins s σ H D I h => ?_⟩
  refine wpAny_Assign_Subscript (thn (hv.run pins s σ H _ I h) fun r s1 ⟨v, H1, I1, rv, q1⟩ => thn (ho.run pins s1 σ H1 _ I1 q1) fun u s2 ⟨x, H2, I2, rx, q2⟩ => thn (hi.run pins s2 σ H2 _ I2 q2) fun iv s3 ⟨y, H3, I3, ry, a, b, xs, k, ex, ey, g, gr, gk, gd, gz, q3⟩ => ?_) hs
  subst ex ey
  cases rx
  cases ry
  obtain ⟨ha, us, hp, hm⟩ := dictN_of I3 g gr
  have hl : us.length ≤ sizeLine := by rw [← Paired.length hp]; omega
  refine wpAny_setItem_heap (knd := nestedKind X.prog X.w) (hsz := hl) (show X.A.units + 1 + 8 < cLine by omega) ⟨NK.is I3 gk rfl, gd⟩ hm fun h' hm' sb => ?_
  obtain ⟨ob, es, ep, e1, e2, e3, e4, _, e5⟩ := hm'
  have hz : (storedN xs k b v).length ≤ sizeLine := by have := storedN_len xs k b v; omega
  exact ⟨σ, _, d_write I3 (by rw [g]; exact True.intro) sb ⟨ob, e1⟩ (dictN_ok ha hz (stored_pairs rv hp) ⟨ob, es, ep, e1, e2, e3, e4, e5⟩), q3⟩
theorem pe_dnewN {pos : Pos} : PE X (.Dict [] [] pos) (fun _ H Q => ∀ p, H p = none → Q (.ref p) (upd H p (DictN X.prog X.w p []))) := ⟨fun pins s σ H Q I h =>
  wpAny_Dict_empty ⟨.ref s.heap.objs.size, _, I.laid (a := s.heap.objs.size) (o := DictN X.prog X.w s.heap.objs.size []) (t' := s.toks) (fun _ _ q => Heap.get?_push_of_some _ q) (Nat.le_refl _)
    (dictN_ok (beq_eq_false_iff_ne.mpr (Ne.symm (Nat.ne_of_lt I.big))) (Nat.zero_le _) .nil ⟨_, #[], 0, Heap.get?_push_size _ rfl, ⟨rfl, rfl, rfl⟩, rfl, rfl, List.nodup_nil⟩), rfl, h _ (I.hok.fresh (Nat.le_refl _))⟩⟩
end
theorem frzN {X : Cx} {pins : List (Addr × Obj)} {σ : L2.St} {H : Hp} {s : Shared} {a : Addr} {o : Obj} {xs : List NRow} (I : Inv X pins σ H s) (h : H a = some (.frz o (DictN X.prog X.w a xs))) :
    (a == sysModules) = false ∧ s.heap.get? a = some o ∧ o.ExactDict ∧ ∃ (es : Array DictEntry) (ep : Nat), o.data = .dict es ep ∧ es.size = xs.length ∧ ∀ (i : Nat) (row : NRow), xs[i]? = some row → ∃ en : DictEntry, es[i]? = some en ∧ en.key = Value.ref row.2.1 ∧ RelV row.2.2 en.val := by
  obtain ⟨hg, ⟨h1, h2, us, h3, o2, es, ep, e1, e2, e3, e4, e5⟩, _, _⟩ := I.hok _ _ h
  have eo : o2 = o := Option.some.inj (e1.symm.trans hg)
  subst eo
  have hl : us.length = es.size := by
    have := congrArg List.length e4
    rw [List.length_map, Array.length_toList] at this
    exact this.symm
  refine ⟨h1, hg, e2, es, ep, e3, by rw [← hl]; exact (Paired.length h3).symm, fun i row hr => ?_⟩
  have : ∀ (xs : List NRow) (us : List (NestedKey × Addr × Value)), RowsP xs us → ∀ (i : Nat) (row : NRow), xs[i]? = some row → ∃ u : NestedKey × Addr × Value, us[i]? = some u ∧ u.2.1 = row.2.1 ∧ RelV row.2.2 u.2.2 := by
    intro xs us p
    induction p with
    | nil => intro i row h; cases h
    | cons r t ih =>
      intro i row h
      cases i with
      | zero => cases h; exact ⟨_, rfl, r.2.1.symm, r.2.2⟩
      | succ i => exact ih i row (by simpa using h)
  obtain ⟨u, hu, k1, k2⟩ := this _ _ h3 i row hr
  refine ⟨entryOfKey (nestedKind X.prog X.w) u, ?_, by show Value.ref u.2.1 = _; rw [k1], k2⟩
  rw [← Array.getElem?_toList, e4, List.getElem?_map, hu]
  rfl
def ItkN (P : Program) (w : World) (d : Addr) (o : Obj) (xs : List NRow) : It :=
  ⟨fun i H => H d = some (.frz o (DictN P w d xs)) ∧ i < xs.length, fun i H x H' => H' = H ∧ ∃ row, xs[i]? = some row ∧ x = .ref row.2.1, fun i H => H d = some (.frz o (DictN P w d xs)) ∧ xs.length ≤ i⟩
theorem turn_keysN {P : Program} {w : World} {K : PySem.W.Frag} {tg : PySem.Expr} {d : Addr} {o : Obj} {es : Array DictEntry} {ep : Nat} {xs : List NRow} (it : Addr) (hod : o.data = .dict es ep) : Turn P w K tg (ItkN P w d o xs) [it] it (fun i h => h.IsKeyIter it d i xs.length ep) where
  mem := List.mem_singleton.mpr rfl
  obj := by
    intro i h st b hb
    cases List.mem_singleton.mp hb
    obtain ⟨x, e, c, dd⟩ := st
    exact ⟨x, e, fun v z => by rw [dd] at z; cases z⟩
  keep := by
    intro i h h' st k
    exact st.at fun x e => k it (List.mem_singleton.mpr rfl) x e
  item := by
    intro X hP hw hK hc i pins s σ H E I hf st hg
    subst hP hw hK
    obtain ⟨hd, hi⟩ := hg
    obtain ⟨z0, z1, z2, z3, z4, z5⟩ := hf it (List.mem_singleton.mpr rfl)
    obtain ⟨hs, hgd, hx, es2, ep2, hdt, hsz, ent⟩ := frzN I hd
    obtain ⟨rfl, rfl⟩ := dict_ep hod hdt
    obtain ⟨row, hrow⟩ : ∃ row, xs[i]? = some row := ⟨_, List.getElem?_eq_getElem hi⟩
    obtain ⟨en, hen, hkey, _⟩ := ent i row hrow
    refine next_key_item st hgd hdt hsz hen fun h' st' sb => ?_
    have J : Inv X pins σ H { s with heap := h' } := I.turned (t' := s.toks) (fun b ob hb e => (sb.2 b hb).trans e) z0 z1 z3 z4 z5
    obtain ⟨x, e, c, dd⟩ := id st'
    exact ⟨en.key, rfl, go_of (s := { s with heap := h' }) e c dd (by decide) ⟨.ref row.2.1, H, J, hkey, ⟨rfl, row, hrow, rfl⟩, st', fun b hb => (hf b hb).1⟩⟩
  done := by
    intro X hP hw hK hc i pins s σ H E I hf st hg
    subst hP hw hK
    obtain ⟨hd, hi⟩ := hg
    obtain ⟨z0, z1, z2, z3, z4, z5⟩ := hf it (List.mem_singleton.mpr rfl)
    obtain ⟨hs, hgd, hx, es2, ep2, hdt, hsz, ent⟩ := frzN I hd
    obtain ⟨rfl, rfl⟩ := dict_ep hod hdt
    exact next_key_end (I.ok.hd hc) st hgd hdt hsz hi fun h' eb => ⟨rfl, I.turned (t' := s.toks) (fun b ob hb e => eb b ob hb e) z0 z1 z3 z4 z5⟩
  self := fun A i s Q E st h => wpAny_pyIter_keyiter st h
def iKeysN (P : Program) (w : World) (td : TE) : TI := fun σ H R => td σ H fun x H1 => ∃ d o xs, x = .ref d ∧ H1 d = some (.frz o (DictN P w d xs)) ∧ R (ItkN P w d o xs) H1
theorem pi_keysN {X : Cx} {tg e : PySem.Expr} {td : TE} (he : PE X e td) : PI X tg e (iKeysN X.prog X.w td) := by
  refine ⟨fun pins s σ H R I h => ?_⟩
  refine thn (he.run pins s σ H _ I h) fun u s1 ⟨x, H1, I1, rx, d, o, xs, ex, hd, q⟩ => ?_
  subst ex
  cases rx
  obtain ⟨hs, hgd, hx, es, ep, hdt, hsz, ent⟩ := frzN I1 hd
  refine iter_keys hs hgd hx hdt (pi_one (tk := s1.toks) I1 _ (turn_keysN _ hdt) ⟨_, Heap.get?_push_size _ rfl, rfl, ?_⟩ q)
  rw [hsz] <;> rfl
theorem walk_keysN {P : Program} {w : World} {d : Addr} {o : Obj} {xs : List NRow} : Walk (ItkN P w d o xs) xs.length (fun H => H d = some (.frz o (DictN P w d xs))) (fun i H x H' => H' = H ∧ ∃ row, xs[i]? = some row ∧ x = .ref row.2.1) :=
  ⟨fun _ _ hi q => ⟨q, hi⟩, fun _ q => ⟨q, Nat.le_refl _⟩, fun _ _ _ _ _ _ y => y⟩
theorem roomN {k : Nat} {A : Around} (r : Room k A) : A.units + 9 < cLine := by have := r.un; omega
theorem call_lenN {X : Cx} : CallR X (.builtin "len") (fun xs H Q => ∃ (a : Addr) (rows : List NRow), xs = [.ref a] ∧ H a = some (DictN X.prog X.w a rows) ∧ RowsN H rows ∧ Q (.int (rows.length : Nat)) H) := by
  intro pins s σ H xs us Q I r h
  obtain ⟨a, rows, rfl, g, gr, q⟩ := h
  have hz : rows.length ≤ sizeLine := by
    obtain ⟨⟨_, h2, _⟩, _, _⟩ := I.hok _ _ g
    exact h2
  cases r with
  | cons r1 r2 =>
    cases r2
    cases r1
    obtain ⟨ha, us, hp, hm⟩ := dictN_of I g gr
    have hl : (pairsH us).length = rows.length := by
      rw [pairsH_length]
      exact (Paired.length hp).symm
    refine PyProof.Rows.call_len_slot (n := (pairsH us).length) hm.typeIs PySem.F.slot_dict_len (fun Q' hq => len_keyed (knd := nestedKind X.prog X.w) ha ⟨us, hm, rfl⟩ hq) (by omega) (by rw [hl]; rw [sizeLine_eq] at hz; omega) ?_
    rw [hl]
    exact ⟨.int _, H, I.tok _, ⟨_, rfl⟩, q⟩

def ItiN (P : Program) (w : World) (d : Addr) (o : Obj) (xs : List NRow) : It :=
  ⟨fun n H => H d = some (.frz o (DictN P w d xs)) ∧ n < xs.length, fun n H v H' => ∃ (p : Addr) (row : NRow), xs[n]? = some row ∧ v = .ref p ∧ H p = none ∧ H' = upd H p (.tup [.ref row.2.1, row.2.2]), fun n H => H d = some (.frz o (DictN P w d xs)) ∧ xs.length ≤ n⟩
theorem turn_itemsN {P : Program} {w : World} {K : PySem.W.Frag} {parts : List PySem.Expr} {many : Nat} {at_ : Pos} {d : Addr} {o : Obj} {es : Array DictEntry} {ep : Nat} {xs : List NRow} (it : Addr) (hod : o.data = .dict es ep) :
    Turn P w K (.Tuple parts many at_) (ItiN P w d o xs) [it] it (fun n h => ∃ x y, IsItemIter h it d n xs.length ep x y) where
  mem := List.mem_singleton.mpr rfl
  obj := by
    rintro n h ⟨x, y, e⟩ b hb
    cases List.mem_singleton.mp hb
    exact ⟨_, e, fun v z => nomatch z⟩
  keep := by
    rintro n h h' ⟨x, y, e⟩ k
    exact ⟨x, y, k it (List.mem_singleton.mpr rfl) _ e⟩
  item := by
    rintro X rfl rfl rfl calm n pins s σ H E I free ⟨x, y, here⟩ ⟨hd, more⟩
    obtain ⟨sys, got, exact_, es2, ep2, hdt, hsz, ent⟩ := frzN I hd
    obtain ⟨rfl, rfl⟩ := dict_ep hod hdt
    obtain ⟨row, hrow⟩ : ∃ row, xs[n]? = some row := ⟨_, List.getElem?_eq_getElem more⟩
    obtain ⟨en, hen, hkey, hval⟩ := ent n row hrow
    rw [← hsz] at here more
    have een : es2[n] = en := by
      have := List.getElem?_eq_some_iff.mp (show es2.toList[n]? = some en by rw [Array.getElem?_toList]; exact hen)
      simpa using this.2
    have low : it < s.heap.objs.size := Heap.lt_size here
    refine DT.nextI here ⟨o, got, exact_, hdt⟩ more fun h1 out tup _ stays => ?_
    refine ⟨_, rfl, wpAny_letOwnedTupleGo_items (s := { s with heap := h1 }) out fun h2 back but => ?_⟩
    rw [een] at tup back
    have tup2 : h2.get? s.heap.objs.size = some { cls := .type "tuple", data := .seq #[en.key, en.val] } := (but.2 _ (Nat.ne_of_gt low)).trans tup
    have made : ObjOk X.prog X.w (upd H s.heap.objs.size (.tup [.ref row.2.1, row.2.2])) h2 s.heap.objs.size (.tup [.ref row.2.1, row.2.2]) :=
      ⟨by show 2 ≤ sizeLine; decide, [en.key, en.val], .cons hkey (.cons hval .nil), _, tup2, rfl, _, rfl⟩
    have J : Inv X pins σ (upd H s.heap.objs.size (.tup [.ref row.2.1, row.2.2])) { s with heap := h2 } :=
      I.turnedNew (t' := s.toks) (ch := [it]) (fun b ob hb e => by
        have ne : b ≠ it := fun z => hb (by rw [z]; exact List.mem_singleton.mpr rfl)
        exact (but.2 b ne).trans (stays b ob ne e)) free (Nat.le_refl _) made
    refine ⟨.ref s.heap.objs.size, _, J, rfl, ⟨_, row, hrow, rfl, I.hok.fresh (Nat.le_refl _), rfl⟩, ⟨en.key, en.val, ?_⟩, fun b hb => ?_⟩
    · rw [← hsz]
      exact back
    · cases List.mem_singleton.mp hb
      rw [upd_ne (Nat.ne_of_lt low)]
      exact (free it (List.mem_singleton.mpr rfl)).1
  done := by
    rintro X rfl rfl rfl calm n pins s σ H E I free ⟨x, y, here⟩ ⟨hd, over⟩
    obtain ⟨z0, z1, z2, z3, z4, z5⟩ := free it (List.mem_singleton.mpr rfl)
    obtain ⟨sys, got, exact_, es2, ep2, hdt, hsz, _⟩ := frzN I hd
    obtain ⟨rfl, rfl⟩ := dict_ep hod hdt
    rw [← hsz] at here over
    exact DT.endI (I.ok.hd calm) here ⟨o, got, exact_, hdt⟩ over fun h' eb => ⟨rfl, I.turned (t' := s.toks) (fun b ob hb e => eb b ob hb e) z0 z1 z3 z4 z5⟩
  self := fun A i s Q E st h => let ⟨_, _, e⟩ := st; PySem.W.kcp_self e h
def iItemsN (P : Program) (w : World) (td : TE) : TI := fun σ H R => td σ H fun x H1 => ∃ d o xs, x = .ref d ∧ H1 d = some (.frz o (DictN P w d xs)) ∧ R (ItiN P w d o xs) H1
theorem pi_itemsN {X : Cx} {e : PySem.Expr} {td : TE} {parts : List PySem.Expr} {many : Nat} {at_ at1 at2 : Pos} (he : PE X e td) (base : attributeBase e "items" X.env (eval e X.env) = eval e X.env := by rfl) (line : (at1.endLine == at2.line) = true := by rfl) :
    PI X (.Tuple parts many at_) (.Call (.Attribute e "items" at1) [] [] at2) (iItemsN X.prog X.w td) := by
  refine ⟨fun pins s σ H R I h => wpAny_Call_method (T := "dict") (id := "dict.items") base rfl line F.plainAttrs_dict F.slot_dict_items F.type_dict_items (thn (he.run pins s σ H _ I h) ?_)⟩
  rintro u s1 ⟨x, H1, I1, rx, d, o, xs, rfl, hd, q⟩
  obtain rfl : u = Value.ref d := rx
  obtain ⟨sys, got, exact_, es, ep, hdt, hsz, _⟩ := frzN I1 hd
  have raw : DT.Raw s1.heap d es ep := ⟨o, got, exact_, hdt⟩
  refine ⟨raw.typeIs, (fun a e => by cases e; exact ⟨o, got, exact_.2.1⟩), ?_⟩
  have I2 : Inv X pins σ H1 { s1 with heap := s1.heap.push { cls := .type "dict_items", data := .fields #[.ref d] } } := I1.kept (t' := s1.toks) fun b ob z => Heap.get?_push_of_some _ z
  have go : wpAny (model X.prog X.w) X.A (pyIter (.ref s1.heap.objs.size)) (PIE X pins σ (.Tuple parts many at_) R) X.xe { s1 with heap := s1.heap.push { cls := .type "dict_items", data := .fields #[.ref d] } } := by
    refine DT.iterI (d := d) (es := es) (ep := ep) ⟨_, Heap.get?_push_size _ rfl, rfl, rfl⟩ (raw.push _) (pi_one (tk := s1.toks) I2 _ (turn_itemsN _ hdt) ⟨.none, .none, ?_⟩ q)
    rw [← hsz]
    exact Heap.get?_push_size _ rfl
  show wpAny _ _ (callWith at2 (.builtin "dict.items") [.ref d] [] []) _ X.xe s1
  exact method_meetsIn F.slot_dict_items F.entry_dict_items rfl (PySem.evalArgs_none ⟨rfl, raw.typeIs, F.args_dict_items_1 _, _, DT.meetsItems (es := es) (ep := ep) sys, raw, go⟩)
theorem walk_itemsN {P : Program} {w : World} {d : Addr} {o : Obj} {xs : List NRow} : Walk (ItiN P w d o xs) xs.length (fun H => H d = some (.frz o (DictN P w d xs))) (fun i H x H' => ∃ (p : Addr) (row : NRow), xs[i]? = some row ∧ x = .ref p ∧ H p = none ∧ H' = upd H p (.tup [.ref row.2.1, row.2.2])) :=
  ⟨fun _ _ hi q => ⟨q, hi⟩, fun _ q => ⟨q, Nat.le_refl _⟩, fun _ _ _ _ _ _ y => y⟩
def rIsN (P : Program) (w : World) (K : PySem.W.Frag) : List V → Hp → VK → Prop := fun xs H Q => ∃ (a : Addr) (rows : List NRow) (y : V) (u : Value) (b : Bool), xs = [.ref a, y] ∧ H a = some (DictN P w a rows) ∧ ClsV y u ∧ PySem.W.kitOne K (.type "dict") u = some b ∧ Q (.bl b) H
theorem call_isN {X : Cx} : CallR X (.builtin "isinstance") (rIsN X.prog X.w X.K) := by
  rintro pins s σ H _ us Q I r ⟨a, rows, y, u, b, rfl, ha, hy, hk, q⟩
  obtain ⟨_, u2, rfl, r1, r2⟩ := vals2 r
  obtain rfl := hy.eq r2
  cases r1
  obtain ⟨⟨_, _, _, _, o, _, _, e1, e2, _⟩, _, _⟩ := I.hok a _ ha
  exact PySem.W.kia_one PySem.W.kitx_dict I.kIn ⟨o, e1, e2.1⟩ hk (fun z => nomatch z) fun tk => ⟨.bl b, H, I.tok tk, rfl, q⟩

abbrev InBlk (X : Cx) (scope : PySem.Scope) (F : Cx → Prop) : Prop := ∀ (s : Shared) (H : Hp) (C : Addr) (cl : List (Str × Addr)) (fp : List Addr), F (X.blk s H scope (compEnvC scope cl C X.env) fp)
def tDcN (P : Program) (w : World) (wi : TI) (g : TG) (tt : TT) (tk tv : TE) (vs : List Nat) : TE := fun σ H Q => wi σ H fun J H1 => ∀ D, H1 D = none → ∃ W : Nat → Nat → Hp → Prop, (∃ m, W 0 m (upd H1 D (DictN P w D []))) ∧ ∀ n m H, W n m H →
  ((J.stop n H ∧ Q (.ref D) H) ∨ (J.go n H ∧ ∃ Nx : Hp → Prop, (∀ H', Nx H' → ∃ less, less < m ∧ W (n + 1) less H') ∧ ∀ x H', J.yld n H x H' → g x (wipe σ vs) H' fun σ2 H2 => wipe σ2 vs = wipe σ vs ∧ tt σ2 H2 fun yes H3 =>
    if yes = true then tk σ2 H3 fun y H4 => tv σ2 H4 fun z H5 => ∃ (xs : List NRow) (k : NestedKey) (b : Addr), y = .ref b ∧ H5 D = some (DictN P w D xs) ∧ RowsN H5 xs ∧ NK H5 k (.ref b) ∧ k.depth ≤ 8 ∧ xs.length < sizeLine ∧ Nx (upd H5 D (DictN P w D (storedN xs k b z))) else Nx H3))
section
variable {X : Cx} {pins : List (Addr × Obj)} {σ : L2.St} {H : Hp} {s : Shared}
theorem put_rowN {D b : Addr} {xs : List NRow} {k : NestedKey} {z : V} {r : Value} {E : Value → Shared → Prop} {Q : Unit → Shared → Prop} (hu : X.A.units + 9 < cLine) (I : Inv X pins σ H s) (hD : H D = some (DictN X.prog X.w D xs)) (hr : RowsN H xs) (hk : NK H k (.ref b)) (hd : k.depth ≤ 8) (hz : xs.length < sizeLine) (rv : RelV z r)
    (h : ∀ s', Inv X pins σ (upd H D (DictN X.prog X.w D (storedN xs k b z))) s' → Q () s') : wpAny (model X.prog X.w) X.A (dictSet D (.ref b) r) Q E s := by
  obtain ⟨hs, us, hp, hm⟩ := dictN_of I hD hr
  have hl : us.length ≤ sizeLine := by rw [← Paired.length hp]; omega
  refine wpAny_dictSet_heap (knd := nestedKind X.prog X.w) (hsz := hl) (show X.A.units + 8 < cLine by omega) ⟨NK.is I hk rfl, hd⟩ hm fun h' hm' but => h _ ?_
  obtain ⟨ob, es, ep, e1, e2, e3, e4, _, e5⟩ := hm'
  have fits : (storedN xs k b z).length ≤ sizeLine := by have := storedN_len xs k b z; omega
  exact d_write I (by rw [hD]; exact True.intro) but ⟨ob, e1⟩ (dictN_ok hs fits (stored_pairs rv hp) ⟨ob, es, ep, e1, e2, e3, e4, e5⟩)
theorem pe_dcN {kx vx tg iter : PySem.Expr} {ifs : List PySem.Expr} {scope : PySem.Scope} {own : List (Str × Nat)} {pos : Pos} {wi : TI} {g : TG} {tt : TT} {tk tv : TE} (hu : X.A.units + 9 < cLine) (calm : X.calm = true) (nd : X.N.Nodup) (hi : PI X tg iter wi) (ok : BlkOk X.N X.env.scope scope own)
    (hg : InBlk X scope fun Y => PG Y tg g) (ht : InBlk X scope fun Y => PTs Y ifs tt) (hk : InBlk X scope fun Y => PE Y kx tk) (he : InBlk X scope fun Y => PE Y vx tv) (plain : ∀ x, foldedSetIterable iter X.env x = pure x := by intro _; rfl) :
    PE X (.DictComp kx vx [⟨tg, iter, ifs, 0⟩] scope pos) (tDcN X.prog X.w wi g tt tk tv (own.map (·.2))) := by
  refine ⟨fun pins s σ H Q I h => ?_⟩
  rw [arm_eval_DictComp]
  have known : ∀ y ∈ scope.names, y.2 = .free → ∃ c, X.env.cells.lookup y.1 = some c := fun y hy e => (ok.free y hy e).elim (fun k => I.ok.has _ (.inl k)) (fun k => I.ok.has _ (.inr k))
  refine wpAny_comprehension_free (use := none) rfl plain (closure_ok known) ok.kind (fun y hy e => by rw [ok.uniq y hy, e]) (thn (hi.run pins s σ H _ I h) fun _ t1 a1 => thn a1 fun _ t2 a2 => ?_)
  obtain ⟨it, fp, tn, J, H2, rfl, I2, T, st2, apart, q⟩ := a2
  refine wpAny_newObj_type (newEnv_comp ?_)
  obtain ⟨W, ⟨m0, w0⟩, turn⟩ := q _ (I2.hok.fresh (Nat.le_refl _))
  have nsys : (t2.heap.objs.size == sysModules) = false := beq_eq_false_iff_ne.mpr (Ne.symm (Nat.ne_of_lt I2.big))
  have I3 : Inv X pins σ (upd H2 t2.heap.objs.size (DictN X.prog X.w t2.heap.objs.size [])) { t2 with heap := t2.heap.push { cls := .type "dict", data := .dict #[] } } :=
    I2.laid (t' := t2.toks) (fun _ _ z => Heap.get?_push_of_some _ z) (Nat.le_refl _) (dictN_ok nsys (Nat.zero_le _) .nil ⟨_, #[], 0, Heap.get?_push_size _ rfl, ⟨rfl, rfl, rfl⟩, rfl, rfl, List.nodup_nil⟩)
  have ahead : ∀ b ∈ fp, b < t2.heap.objs.size := fun b hb => let ⟨_, z, _⟩ := T.obj _ _ st2 b hb; Heap.lt_size z
  generalize e3 : ({ t2 with heap := t2.heap.push { cls := .type "dict", data := .dict #[] } } : Shared) = t3 at I3
  have h3 : t3.heap = t2.heap.push { cls := .type "dict", data := .dict #[] } := by rw [← e3]
  have fp3 : ∀ b ∈ fp, FpOk X pins (upd H2 t2.heap.objs.size (DictN X.prog X.w t2.heap.objs.size [])) b ∧ b < t3.heap.objs.size := fun b hb => by
    refine ⟨⟨?_, (apart b hb).2⟩, ?_⟩
    · rw [upd_ne (Nat.ne_of_lt (ahead b hb))]
      exact (apart b hb).1
    · rw [h3, Heap.size_push]
      exact Nat.lt_succ_of_lt (ahead b hb)
  have st3 : tn 0 t3.heap := T.keep _ _ _ st2 fun b _ o z => by rw [h3]; exact Heap.get?_push_of_some _ z
  have I4 := block_start I3 ok nd fp3
  generalize eD : t2.heap.objs.size = D at *
  generalize eH : upd H2 D (DictN X.prog X.w D []) = H3 at *
  have pg := hg t3 H3 t3.heap.objs.size (cellsFrom (t3.heap.objs.size + 1) scope.names (cloFrom X.env.cells scope.names [])) fp
  have pt := ht t3 H3 t3.heap.objs.size (cellsFrom (t3.heap.objs.size + 1) scope.names (cloFrom X.env.cells scope.names [])) fp
  have pk := hk t3 H3 t3.heap.objs.size (cellsFrom (t3.heap.objs.size + 1) scope.names (cloFrom X.env.cells scope.names [])) fp
  have pv := he t3 H3 t3.heap.objs.size (cellsFrom (t3.heap.objs.size + 1) scope.names (cloFrom X.env.cells scope.names [])) fp
  show codeAny _ _ (.compStart (.DictComp kx vx [⟨tg, iter, ifs, 0⟩] scope pos) 0 (.ref it) (.ref D) (compEnvC scope (cellsFrom (t3.heap.objs.size + 1) scope.names (cloFrom X.env.cells scope.names [])) t3.heap.objs.size X.env)) (compPost (model X.prog X.w) X.A X.xe none (EP X pins σ Q) (.ref D) t3.heap.objs.size) { t3 with heap := pushCells (t3.heap.push { cls := .type "dict", data := .dict #[] }) scope.names }
  have off : ∀ b ∈ fp, H3 b = none := fun b hb => (fp3 b hb).1.1
  generalize eC : compEnvC scope (cellsFrom (t3.heap.objs.size + 1) scope.names (cloFrom X.env.cells scope.names [])) t3.heap.objs.size X.env = ce at I4 pg pt pk pv ⊢
  have place : ce.locals = t3.heap.objs.size := by rw [← eC]; rfl
  generalize e4 : ({ t3 with heap := pushCells (t3.heap.push { cls := .type "dict", data := .dict #[] }) scope.names } : Shared) = t4 at I4 ⊢
  have st4 : tn 0 t4.heap := T.keep _ _ _ st3 fun b _ o z => by rw [← e4]; exact pushCells_keeps _ _ _ _ (Heap.get?_push_of_some _ z)
  have still : ∀ {σ' : L2.St} {H' : Hp} {t : Shared}, Inv (X.blk t3 H3 scope ce fp) [] σ' H' t → (∀ b ∈ fp, H' b = none) → ∀ b ∈ fp, FpOk (X.blk t3 H3 scope ce fp) [] H' b := fun J n b hb =>
    ⟨n b hb, (J.ok.exf b hb).1, J.ok.exfs b hb, .inl hb, fun x c z => (J.ok.exf b hb).2 x c z, fun z hz => absurd (show z ∈ ([] : List (Addr × Obj)) ++ [] from hz) (by simp)⟩
  have main : codeAny (model X.prog X.w) X.A (.compLoop (.DictComp kx vx [⟨tg, iter, ifs, 0⟩] scope pos) 0 (.ref it) (.ref D) ce) (compPost (model X.prog X.w) X.A X.xe none (EP X pins σ Q) (.ref D) t3.heap.objs.size) t4 := by
    refine compLoop_anyD (fun m t => ∃ n Hn, Inv (X.blk t3 H3 scope ce fp) [] (wipe σ (own.map (·.2))) Hn t ∧ tn n t.heap ∧ (∀ b ∈ fp, Hn b = none) ∧ W n m Hn) ?_ m0 ⟨0, H3, I4, st4, off, w0⟩
    rintro m t5 ⟨n, H5, I5, st5, off5, w5⟩
    rcases turn n m H5 w5 with ⟨stop, over⟩ | ⟨go, Nx, lower, step⟩
    · refine thnF (T.done (X.blk t3 H3 scope ce fp) rfl rfl rfl calm n [] t5 _ H5 (fun _ _ => False) I5 (still I5 off5) st5 stop) ?_
      rintro _ t6 ⟨rfl, I6⟩
      have I7 : Inv X pins σ H5 t6 := I3.call' (ch := fp) I6.os I6.base I6.hok I6.bare fun b hb => let z := (fp3 b hb).1.2; ⟨z.2.2.1, z.1, z.2.2.2.1, z.2.2.2.2⟩
      have gone : H5 t3.heap.objs.size = none := by rw [← place]; exact I6.free
      obtain ⟨names, hn, _⟩ := I6.loc
      have hn2 : t6.heap.Ns ce.locals names := hn
      rw [place] at hn2
      obtain ⟨z0, z1, z2, z3, z4, z5⟩ := I3.fpOk (Nat.le_refl _) gone
      exact ⟨names, hn2, fun h7 but => ⟨.ref D, H5, I7.turned (t' := t6.toks) (fun b ob hb z => (but.2 b hb).trans z) z0 z1 z3 z4 z5, rfl, over⟩⟩
    · refine thnF (T.item (X.blk t3 H3 scope ce fp) rfl rfl rfl calm n [] t5 _ H5 (fun _ _ => False) I5 (still I5 off5) st5 go) ?_
      rintro _ t6 ⟨u, rfl, a6⟩
      refine thnF a6 ?_
      rintro _ t7 ⟨x, H7, I7, rx, yx, st7, off7⟩
      refine thnF (pg.run _ t7 _ H7 x u _ (I7.pinned (still I7 off7) (T.obj _ _ st7)) rx (step x H7 yx)) ?_
      rintro _ t8 ⟨σ8, H8, I8, same8, q8⟩
      have close : ∀ {t : Shared} {Hn : Hp}, Inv (X.blk t3 H3 scope ce fp) ([] ++ pinsAt fp t7.heap) σ8 Hn t → Nx Hn → ∃ less, less < m ∧ ∃ n Hn, Inv (X.blk t3 H3 scope ce fp) [] (wipe σ (own.map (·.2))) Hn t ∧ tn n t.heap ∧ (∀ b ∈ fp, Hn b = none) ∧ W n less Hn := fun {t Hn} J nx => by
        obtain ⟨less, hl, wl⟩ := lower Hn nx
        have kept : ∀ b ∈ fp, ∀ o, t7.heap.get? b = some o → t.heap.get? b = some o ∧ Hn b = none := fun b hb o z =>
          let y := J.pin (b, o) (List.mem_append_right _ (List.mem_append_right _ (mem_pinsAt hb z)))
          ⟨y.1, y.2.1⟩
        refine ⟨less, hl, n + 1, Hn, (J.unpinned (pins := [])).weak (by rw [← same8, wipe_length]) fun j v z => ?_, T.keep _ _ _ st7 fun b hb o z => (kept b hb o z).1, fun b hb => ?_, wl⟩
        · rw [← same8] at z
          exact (wipe_some z).1
        · obtain ⟨o, z, _⟩ := T.obj _ _ st7 b hb
          exact (kept b hb o z).2
      refine thnF (pt.run _ t8 σ8 H8 _ I8 q8) ?_
      rintro yes t9 ⟨H9, I9, q9⟩
      cases yes with
      | false => exact close I9 (by simpa using q9)
      | true =>
        simp only [if_true] at q9 ⊢
        refine thnF (pk.run _ t9 σ8 H9 _ I9 q9) ?_
        rintro uk t10 ⟨y, H10, I10, ry, q10⟩
        refine thnF (pv.run _ t10 σ8 H10 _ I10 q10) ?_
        rintro uz t11 ⟨z, H11, I11, rz, xs, k, b, rfl, g1, g2, g3, g4, g5, nx⟩
        cases ry
        exact put_rowN (X := X.blk t3 H3 scope ce fp) hu I11 g1 g2 g3 g4 g5 rz fun t12 I12 => close I12 nx
  exact codeAny_compStart_dict main (T.self X.A 0 _ _ _ st4 main)
end

def Ents : List DictEntry → List (Str × Int) → Prop
  | [], [] => True
  | e :: r, q :: qs => (∃ h t u, e = ⟨h, .str q.1 t, .int q.2 u⟩) ∧ Ents r qs
  | [], _ :: _ => False
  | _ :: _, [] => False
def look : List (Str × Int) → Str → Option V
  | [], _ => none
  | q :: qs, x => if q.1 = x then some (.int q.2) else look qs x
def KTab (K : PySem.W.Frag) (w : World) (a : Addr) (qs : List (Str × Int)) : Prop :=
  (a == sysModules) = false ∧ ∃ es n, K.lookup a = some ⟨.type "dict", none, .dict es n, #[]⟩ ∧ PySem.W.KeysLit w.params es.toList ∧ Ents es.toList qs
def tKGet2 (K : PySem.W.Frag) (w : World) (td ty tx : TE) : TE := fun σ H Q => td σ H fun x H1 => ∃ a qs, x = .ref a ∧ KTab K w a qs ∧ ty σ H1 fun y H2 => tx σ H2 fun z H3 => ∃ s, y = .str s ∧ Q ((look qs s).getD z) H3
theorem ents_find : ∀ {es : List DictEntry} {qs : List (Str × Int)}, Ents es qs → ∀ (x : Str), RelO (look qs x) ((es.find? fun e => Value.isStrOf x e.key).map (·.val))
  | [], [], _, x => True.intro
  | e :: r, q :: qs, h, x => by
    obtain ⟨⟨hh, t, u, rfl⟩, h2⟩ := h
    have ih := ents_find h2 x
    unfold look
    rw [List.find?_cons]
    by_cases hx : q.1 = x
    · rw [if_pos hx]
      have e1 : Value.isStrOf x (Value.str q.1 t) = true := by show (q.1 == x) = true; rw [hx]; exact beq_self_eq_true x
      simp only [e1]
      exact ⟨u, rfl⟩
    · rw [if_neg hx]
      have e1 : Value.isStrOf x (Value.str q.1 t) = false := by show (q.1 == x) = false; exact beq_eq_false_iff_ne.mpr hx
      simp only [e1]
      exact ih
  | [], _ :: _, h, _ => h.elim
  | _ :: _, [], h, _ => h.elim
theorem pe_kget2 {X : Cx} {o e f : Expr} {apos cpos : Pos} {td ty tx : TE} (hc : X.calm = true) (ho : PE X o td) (he : PE X e ty) (hf : PE X f tx) (m : M2 X o "get" apos e f cpos) : PE X (.Call (.Attribute o "get" apos) [e, f] [] cpos) (tKGet2 X.K X.w td ty tx) := by
  refine ⟨fun pins s σ H Q I h => ?_⟩
  refine wpAny_Call_method m.base m.few m.line PySem.F.plainAttrs_dict PySem.F.slot_dict_get PySem.F.type_dict_get (thn (ho.run pins s σ H _ I h) fun u s1 ⟨x, H1, I1, rx, a, qs, ex, ⟨hs, es, n, hl, hk, hE⟩, q1⟩ => ?_)
  subst ex
  obtain rfl : u = Value.ref a := rx
  have hm1 := PySem.W.mapOf_K (prog := X.prog) (w := X.w) I1.kIn hl hk
  refine ⟨hm1.typeIs, fun b q => by cases q; exact ⟨_, I1.kIn _ _ hl, rfl⟩, ?_⟩
  rw [m.trees]
  refine Calls.callWith_builtin rfl (Calls.evalArgs_plain (Calls.spliced_cons (thn (he.run pins s1 σ H1 _ I1 q1) fun iv s2 ⟨y, H2, I2, ry, q2⟩ =>
    Calls.spliced_cons (thn (hf.run pins s2 σ H2 _ I2 q2) fun fv s3 ⟨z, H3, I3, rz, sx, ey, q3⟩ => Calls.spliced_nil ?_))))
  subst ey
  obtain ⟨t, rfl⟩ := (show ∃ t, iv = Value.str sx t from ry)
  have hm3 := PySem.W.mapOf_K (prog := X.prog) (w := X.w) I3.kIn hl hk
  refine call_meetsIn PySem.F.slot_dict_get hm3.typeIs PySem.F.entry_dict_get (PySem.F.args_dict_get_3 _ _ _) (meets_dict_get_default (strKind X.prog X.w) a (strKind_is X.prog X.w sx t) hs fv) ⟨_, hm3, ?_⟩
  refine ⟨_, H3, I3.tok _, ?_, q3⟩
  have r := ents_find hE sx
  have e2 : findBy Value.isStrOf es sx = (es.toList.find? fun e => Value.isStrOf sx e.key).map (·.val) := by
    unfold findBy
    rw [← Array.find?_toList]
  rw [e2]
  exact r.getD rz

def rLcm : List V → Hp → VK → Prop := fun vs H Q => ∃ a b : Nat, vs = [nI a, nI b] ∧ a < 1000 ∧ b < 1000 ∧ Q (nI (a.lcm b)) H
theorem cr_lcm {X : Cx} : CallR X (.builtin "math.lcm") rLcm := by
  intro pins s σ H vs us Q I r ⟨a, b, e, ha, hb, q⟩
  subst e
  obtain ⟨t, u, rfl⟩ := Vals.int2 r
  refine PySem.W.mc_lcm (by rw [Int.natAbs_natCast]; exact Nat.lt_trans ha (by decide)) (by rw [Int.natAbs_natCast]; exact Nat.lt_trans hb (by decide)) fun _ => ⟨nI (a.lcm b), H, I.tok _, ⟨s.toks, ?_⟩, q⟩
  simp

def rNotInT (K : PySem.W.Frag) (w : World) : R2 := fun x y H Q => ∃ (a : Addr) (qs : List (Str × Int)) (u : Str), x = .str u ∧ y = .ref a ∧ KTab K w a qs ∧ Q (.bl (!(look qs u).isSome)) H
theorem op_notInT {X : Cx} : OpR X (compareOp .NotIn) (rNotInT X.K X.w) := by
  intro pins s σ H x y v u Q I rx ry ⟨a, qs, z, e1, e2, ⟨sys, es, n, hl, lit, hE⟩, q⟩
  subst e1 e2
  cases ry
  obtain ⟨t, rfl⟩ := rx
  refine wpAny_notIn_of (strKind_is X.prog X.w z t) sys (PySem.W.mapOf_K (prog := X.prog) (w := X.w) I.kIn hl lit) ⟨.bl (!(look qs z).isSome), H, I.tok _, ?_, q⟩
  have r := ents_find hE z
  have e : findBy Value.isStrOf es z = (es.toList.find? fun e => Value.isStrOf z e.key).map (·.val) := by
    unfold findBy
    rw [← Array.find?_toList]
  rw [e]
  cases h1 : look qs z with
  | none =>
    rw [h1] at r
    cases h2 : (es.toList.find? fun e => Value.isStrOf z e.key).map (·.val) with
    | none => rfl
    | some _ => rw [h2] at r; exact (show False from r).elim
  | some _ =>
    rw [h1] at r
    cases h2 : (es.toList.find? fun e => Value.isStrOf z e.key).map (·.val) with
    | none => rw [h2] at r; exact (show False from r).elim
    | some _ => rfl

theorem lc_outT {K : PySem.W.Frag} {a : Addr} {xs : List V} {Bd : V → Hp → (Hp → Prop) → Prop} {Qd : Hp → Prop} {H0 : Hp} (Pv : Nat → Hp → Prop) (h0 : Pv 0 H0) (hl : ∀ i H, i ≤ xs.length → Pv i H → SqT K H a xs)
    (hs : ∀ i x H, xs[i]? = some x → Pv i H → Bd x H (Pv (i + 1))) (hd : ∀ H, Pv xs.length H → Qd H) :
    ∃ W : Nat → Nat → Hp → Prop, (∃ m, W 0 m H0) ∧ ∀ i m H, W i m H → ((Itt K a).stop i H ∧ Qd H) ∨ ((Itt K a).go i H ∧ ∃ Nx : Hp → Prop, (∀ H', Nx H' → ∃ m', m' < m ∧ W (i + 1) m' H') ∧ ∀ x H', (Itt K a).yld i H x H' → Bd x H' Nx) := by
  refine ⟨fun i m H => m = xs.length - i ∧ i ≤ xs.length ∧ Pv i H, ⟨xs.length, by simp, Nat.zero_le _, h0⟩, ?_⟩
  rintro i m H ⟨rfl, hi, p⟩
  have q := hl i H hi p
  rcases Nat.lt_or_ge i xs.length with lt | ge
  · exact .inr ⟨⟨xs, xs[i], q, by simp [lt]⟩, Pv (i + 1), fun H' p' => ⟨_, by omega, rfl, lt, p'⟩, fun x H' y => by
      obtain ⟨e, y⟩ := y
      subst e
      exact hs i x _ (y xs q) p⟩
  · obtain rfl : i = xs.length := by omega
    exact .inl ⟨⟨xs, q, Nat.le_refl _⟩, hd H p⟩
theorem cut1 {x : V} {r : List V} : cutV (x :: r) (some 1) none = r := by
  have h1 : HT.sIx (x :: r).length 0 (some 1) = 1 := by
    have := HT.sIx_nat (x :: r).length 0 1
    rw [show ((1 : Nat) : Int) = 1 from rfl] at this
    rw [this, List.length_cons]
    omega
  unfold cutV
  rw [h1, HT.sIx_none, List.length_cons, List.drop_succ_cons, List.drop_zero, Nat.add_sub_cancel, List.take_length]
theorem cut1_not {x : V} {r : List V} : ¬ (HT.sIx (x :: r).length 0 (some 1) = 0 ∧ HT.sIx (x :: r).length (x :: r).length none = (x :: r).length) := by
  have h1 : HT.sIx (x :: r).length 0 (some 1) = 1 := by
    have := HT.sIx_nat (x :: r).length 0 1
    rw [show ((1 : Nat) : Int) = 1 from rfl] at this
    rw [this, List.length_cons]
    omega
  rw [h1]
  omega
theorem dtAll_app {ok : Addr → Prop} {H : Hp} : ∀ {xs ys : List V} {ds es : List PyData}, DtAll ok H xs ds → DtAll ok H ys es → DtAll ok H (xs ++ ys) (ds ++ es)
  | _, _, _, _, .nil, y => y
  | _, _, _, _, .cons a b, y => .cons a (dtAll_app b y)
theorem flat_take {α β : Type} (f : α → List β) {l : List α} {i : Nat} {x : α} (h : l[i]? = some x) : (l.take (i + 1)).flatMap f = (l.take i).flatMap f ++ f x := by
  rw [take_succ_of h, List.flatMap_append]
  simp


def Cd.plains : Cd → List Cd
  | .least w b => [.least w b]
  | .turns w m r => [.turns w m r]
  | .neg c => c.plains
  | .both c d => c.plains ++ d.plains
  | .either c d => c.plains ++ d.plains
def made : List (Str × Int) := [(Str.ofString "not", 2), (Str.ofString "both", 3), (Str.ofString "either", 3)]
def sp__plain_ones (n : Nat) : Sp := fun vs H Q _ => ∃ (v : V) (c : Cd) (ok : Addr → Prop), vs = [v] ∧ Dt ok H v c.dat ∧ c.deep ≤ n ∧ n ≤ 5 ∧ ∀ r ws H', Same H H' → H r = none → H' r = some (.lst ws) → DtAll ok H' ws (c.plains.map Cd.dat) → Q (.ref r) H'
theorem plains_len : ∀ c : Cd, c.plains.length ≤ 2 ^ c.deep
  | .least _ _ => by simp [Cd.plains, Cd.deep]
  | .turns _ _ _ => by simp [Cd.plains, Cd.deep]
  | .neg c => by
    have := plains_len c
    simp only [Cd.plains, Cd.deep, Nat.pow_add]
    omega
  | .both c d => by
    have h1 := plains_len c
    have h2 := plains_len d
    have k1 := Nat.pow_le_pow_right (n := 2) (by decide) (Nat.le_max_left c.deep d.deep)
    have k2 := Nat.pow_le_pow_right (n := 2) (by decide) (Nat.le_max_right c.deep d.deep)
    simp only [Cd.plains, Cd.deep, Nat.pow_add, List.length_append]
    omega
  | .either c d => by
    have h1 := plains_len c
    have h2 := plains_len d
    have k1 := Nat.pow_le_pow_right (n := 2) (by decide) (Nat.le_max_left c.deep d.deep)
    have k2 := Nat.pow_le_pow_right (n := 2) (by decide) (Nat.le_max_right c.deep d.deep)
    simp only [Cd.plains, Cd.deep, Nat.pow_add, List.length_append]
    omega
theorem Cd.shape (c : Cd) : (c.plains = [c] ∧ ∃ (x : Str) (ds : List PyData), c.dat = .tuple (.str x :: ds) ∧ (!(look made x).isSome) = true) ∨
    ∃ (x : Str) (cs : List Cd), c.dat = .tuple (.str x :: cs.map Cd.dat) ∧ (!(look made x).isSome) = false ∧ c.plains = cs.flatMap Cd.plains ∧ (∀ d ∈ cs, d.deep < c.deep) ∧ cs.length ≤ 2 := by
  cases c with
  | least w b => exact .inl ⟨rfl, _, _, rfl, by decide +kernel⟩
  | turns w m r => exact .inl ⟨rfl, _, _, rfl, by decide +kernel⟩
  | neg c => exact .inr ⟨_, [c], rfl, by decide +kernel, by simp [Cd.plains], fun d hd => by simp at hd; subst hd; simp only [Cd.deep]; omega, by simp⟩
  | both c d => exact .inr ⟨_, [c, d], rfl, by decide +kernel, by simp [Cd.plains], fun x hx => by simp at hx; rcases hx with rfl | rfl <;> simp only [Cd.deep] <;> omega, by simp⟩
  | either c d => exact .inr ⟨_, [c, d], rfl, by decide +kernel, by simp [Cd.plains], fun x hx => by simp at hx; rcases hx with rfl | rfl <;> simp only [Cd.deep] <;> omega, by simp⟩
section
variable {P : Program} {w : World} {K : PySem.W.Frag} {mg : Str → Option Value} {base : Heap}
theorem ok__plain_ones (T : Txt K mg) (M : KTab K w T.a_MADE_OF_OTHERS made) : ∀ n : Nat, FnOk P w K mg base CX0 n T.f__plain_ones T.d__plain_ones ["condition"] (sp__plain_ones n)
  | 0 => noneOf fun vs H Q E ⟨v, c, ok, _, _, h, _⟩ => by have := c.deep_pos; omega
  | n + 1 => by
    have G__plain_ones : FnOk P w K mg base CX0 n T.f__plain_ones T.d__plain_ones ["condition"] (sp__plain_ones n) := ok__plain_ones T M n
    refine T.F__plain_ones.ok sc__plain_ones (fun vs H Q E h => ?_) (fun cdv A outer s H vs Q E hr h => ?_)
    · obtain ⟨v, c, ok, rfl, _⟩ := h
      rfl
    obtain ⟨v, c, ok, rfl, ht, hn, h5, q⟩ := h
    refine ⟨_, (pss_cons (ps_if (pt_cmpR op_notInT (pe_ix ix_tup (pv 0) pe_int (fun _ _ => rfl)) (pe_glob (v := .ref T.a_MADE_OF_OTHERS) rfl T.g_MADE_OF_OTHERS rfl) (by rfl)) (pss_one (ps_ret (pe_lst (pa_cons (pv 0) pa_nil)))) pss_nil) (pss_one (ps_ret (pe_lc2 (own := [("part", 1), ("plain", 2)]) (vs1 := [2]) (g := gName 1) (g1 := gName 2) (tt := tYes) (tt1 := tYes) (wi1 := iList K (tCall (sp__plain_ones n) [] E0 (tCons (tVar 1) tNil))) rfl sc__plain_ones.nd (pi_tup (pe_slice sl_tup (pv 0) (po_some pe_int) po_none)) (blkOk_by (own := [("part", 1), ("plain", 2)]) (N := ["condition", "part", "plain"]) (sc := (defScope s__plain_ones)) (by decide +kernel)) (by decide) (fun _ _ _ _ _ => (pg_name (i := 1) sc__plain_ones.nd rfl (Or.inl rfl))) (fun _ _ _ _ _ => pts_nil) (fun _ _ _ _ _ => by exact (pi_list (pe_call G__plain_ones (hr.mono (by omega)) (by rfl) T.m__plain_ones T.F__plain_ones.kp T.b__plain_ones .nil pass0 (pa_cons (pv 1) pa_nil)))) (fun _ _ _ _ _ => (pg_name (i := 2) sc__plain_ones.nd rfl (Or.inl rfl))) (fun _ _ _ _ _ => pts_nil) (fun _ _ _ _ _ => (pv 2)))))), ?_⟩
    rcases c.shape with ⟨hp, x, ds, hd, hm⟩ | ⟨x, cs, hd, hm, hp, hdeep, h2⟩
    · have ht0 := ht
      rw [hd] at ht0
      cases ht0 with
      | @tup a xs _ e _ l r =>
      cases r with
      | @cons v0 vs0 d0 ds0 r0 r1 =>
      cases r0
      refine ⟨_, rfl, a, _, 0, _, rfl, rfl, SqT.of e, atI_nat (j := 0) rfl, _, made, x, rfl, rfl, M, _, rfl, ?_⟩
      rw [hm]
      refine iteT ⟨_, rfl, (by show 1 ≤ sizeLine; decide), fun r hr => ?_⟩
      rw [hp] at q
      exact q r _ _ (same_new hr) hr upd_same (.cons (ht.same (same_new hr)) .nil)
    · have ht0 := ht
      rw [hd] at ht0
      cases ht0 with
      | @tup a xs _ e _ l r =>
      cases r with
      | @cons v0 vs0 d0 ds0 r0 r1 =>
      cases r0
      refine ⟨_, rfl, a, _, 0, _, rfl, rfl, SqT.of e, atI_nat (j := 0) rfl, _, made, x, rfl, rfl, M, _, rfl, ?_⟩
      rw [hm]
      refine iteF ⟨_, rfl, 1, rfl, a, _, rfl, SqT.of e, cut1_not, fun p hpn => ?_⟩
      rw [cut1]
      have sp := same_new hpn (o := .tup vs0)
      have kp := upd_same (H := H) (a := p) (o := .tup vs0)
      generalize upd H p (.tup vs0) = H1 at *
      refine ⟨p, rfl, ⟨_, SqT.of kp⟩, fun D hD => ?_⟩
      have lr := r1.len
      rw [List.length_map] at lr
      have hD0 := sp.free hD
      refine lc_outT (xs := vs0) (fun i H2 => ∃ acc, H2 D = some (.lst acc) ∧ acc.length ≤ 100 * i ∧ DtAll (fun b => ok b ∧ b ≠ D) H2 acc (((cs.take i).flatMap Cd.plains).map Cd.dat) ∧ Same H1 H2) ⟨[], upd_same, Nat.le_refl _, .nil, same_new hD⟩ (fun i H2 _ ⟨_, _, _, _, s⟩ => SqT.of (s _ _ kp)) ?_ ?_
      · rintro i y H2 hy ⟨acc, g1, gl, g2, g3⟩
        obtain ⟨dy, hdy, hy2⟩ := r1.getV hy
        rw [List.getElem?_map] at hdy
        cases hc : cs[i]? with
        | none => rw [hc] at hdy; cases hdy
        | some c1 =>
        rw [hc] at hdy
        cases hdy
        have hm1 := List.mem_of_getElem? hc
        have dp1 := hdeep c1 hm1
        have hi := (List.getElem?_eq_some_iff.mp hc).1
        have pl := plains_len c1
        have pl2 : c1.plains.length ≤ 2 ^ 4 := Nat.le_trans pl (Nat.pow_le_pow_right (by decide) (by omega))
        refine ⟨rfl, _, rfl, y, c1, fun b => ok b ∧ b ≠ D, rfl, ((hy2.off hD0).same sp).same g3, by omega, by omega, fun r ws H3 s3 hr3 kr offD => ?_⟩
        have g13 := s3 _ _ g1
        have nrD : r ≠ D := fun z => by rw [z, g1] at hr3; cases hr3
        have lw := offD.len
        rw [List.length_map] at lw
        refine ⟨r, rfl, ⟨_, SqL.of kr⟩, ?_⟩
        refine lc_outer (xs := ws) (fun j H4 => ∃ acc', H4 D = some (.lst (acc ++ ws.take j)) ∧ acc' = acc ∧ DtAll (fun b => ok b ∧ b ≠ D) H4 acc (((cs.take i).flatMap Cd.plains).map Cd.dat) ∧ DtAll (fun b => ok b ∧ b ≠ D) H4 ws (c1.plains.map Cd.dat) ∧ Same H1 H4 ∧ H4 r = some (.lst ws))
          ⟨acc, by simpa using g13, rfl, g2.same s3, offD, g3.trans s3, kr⟩ (fun j H4 _ ⟨_, _, _, _, _, _, h⟩ => SqL.of h) ?_ ?_
        · rintro j z H4 hz ⟨_, k1, _, k2, k3, k4, k5⟩
          have hj := (List.getElem?_eq_some_iff.mp hz).1
          refine ⟨rfl, _, rfl, _, k1, ?_, acc, ?_, rfl, k2.keep (upd_keep fun b h => h.2), k3.keep (upd_keep fun b h => h.2), same_add k4 hD, ?_⟩
          · rw [List.length_append, List.length_take]
            exact Nat.lt_of_le_of_lt (show _ ≤ 1000000 by omega) (by decide)
          · rw [upd_same, take_succ_of hz, List.append_assoc]
          · rw [upd_ne nrD]; exact k5
        · rintro H4 ⟨_, k1, _, k2, k3, k4, k5⟩
          rw [List.take_length] at k1
          refine ⟨acc ++ ws, k1, by rw [List.length_append]; omega, ?_, k4⟩
          rw [flat_take _ hc, List.map_append]
          exact dtAll_app k2 k3
      · rintro H2 ⟨acc, g1, gl, g2, g3⟩
        rw [lr, List.take_length, ← hp] at g2
        exact q D acc H2 (sp.trans g3) hD0 g1 (g2.weak fun b h => h.1)
end
def fewP (f : Nat) : List Cd → Nat
  | [] => f
  | .least _ b :: r => fewP (max f b.toNat) r
  | _ :: r => fewP f r
def turnP (t : Nat) : List Cd → Nat
  | [] => t
  | .turns _ m _ :: r => turnP (t.lcm m.toNat) r
  | _ :: r => turnP t r
def fewC (cs : List Cd) : Nat := fewP 0 (cs.flatMap Cd.plains)
def turnC (cs : List Cd) : Nat := turnP 1 (cs.flatMap Cd.plains)
def isPlain : Cd → Prop
  | .least _ _ => True
  | .turns _ _ _ => True
  | _ => False
theorem plains_plain (n : Nat) : ∀ c : Cd, c.ok n → ∀ p ∈ c.plains, isPlain p ∧ p.ok n
  | .least _ _, h, p, hp => by simp [Cd.plains] at hp; subst hp; exact ⟨trivial, h⟩
  | .turns _ _ _, h, p, hp => by simp [Cd.plains] at hp; subst hp; exact ⟨trivial, h⟩
  | .neg c, h, p, hp => plains_plain n c h p (by simpa [Cd.plains] using hp)
  | .both c d, h, p, hp => by
    simp only [Cd.plains, List.mem_append] at hp
    exact hp.elim (plains_plain n c h.1 p) (plains_plain n d h.2 p)
  | .either c d, h, p, hp => by
    simp only [Cd.plains, List.mem_append] at hp
    exact hp.elim (plains_plain n c h.1 p) (plains_plain n d h.2 p)
theorem fewP_app (f : Nat) : ∀ (a b : List Cd), fewP f (a ++ b) = fewP (fewP f a) b
  | [], _ => rfl
  | c :: r, b => by cases c <;> simp only [List.cons_append, fewP, fewP_app _ r b]
theorem turnP_app (f : Nat) : ∀ (a b : List Cd), turnP f (a ++ b) = turnP (turnP f a) b
  | [], _ => rfl
  | c :: r, b => by cases c <;> simp only [List.cons_append, turnP, turnP_app _ r b]
theorem fewP_le {n : Nat} : ∀ (l : List Cd) (f : Nat), f ≤ 4 → (∀ c ∈ l, c.ok n) → fewP f l ≤ 4
  | [], f, h, _ => h
  | c :: r, f, h, hk => by
    have hr := fun x hx => hk x (List.mem_cons_of_mem _ hx)
    have hc := hk c List.mem_cons_self
    cases c with
    | least w b =>
      obtain ⟨_, b0, b4⟩ := hc
      simp only [fewP]
      exact fewP_le r _ (by omega) hr
    | _ => simp only [fewP]; exact fewP_le r f h hr
theorem lcm12 {t m : Nat} (h : t ∣ 12) (h1 : 1 ≤ m) (h4 : m ≤ 4) : t.lcm m ∣ 12 := by
  refine Nat.lcm_dvd h ?_
  rcases m with _ | _ | _ | _ | _ | m
  · omega
  · exact ⟨12, rfl⟩
  · exact ⟨6, rfl⟩
  · exact ⟨4, rfl⟩
  · exact ⟨3, rfl⟩
  · omega
theorem turnP_12 {n : Nat} : ∀ (l : List Cd) (t : Nat), t ∣ 12 → (∀ c ∈ l, c.ok n) → turnP t l ∣ 12
  | [], t, h, _ => h
  | c :: r, t, h, hk => by
    have hr := fun x hx => hk x (List.mem_cons_of_mem _ hx)
    have hc := hk c List.mem_cons_self
    cases c with
    | turns w m q =>
      obtain ⟨_, m1, m4, _⟩ := hc
      simp only [turnP]
      exact turnP_12 r _ (lcm12 h (by omega) (by omega)) hr
    | _ => simp only [turnP]; exact turnP_12 r t h hr
theorem le12 {t : Nat} (h : t ∣ 12) : 1 ≤ t ∧ t ≤ 12 := ⟨Nat.pos_of_dvd_of_pos h (by decide), Nat.le_of_dvd (by decide) h⟩
def sp__few_and_turn : Sp := fun vs H Q _ => ∃ (a : Addr) (ws : List V) (cs : List Cd) (n : Nat), vs = [.ref a] ∧ H a = some (.lst ws) ∧ DtAll (fun _ => True) H ws (cs.map Cd.dat) ∧ (∀ c ∈ cs, c.ok n ∧ c.deep ≤ 4) ∧ cs.length ≤ 5000 ∧ ∀ p H', Same H H' → H' p = some (.tup [nI (fewC cs), nI (turnC cs)]) → Q (.ref p) H'
section
variable {P : Program} {w : World} {K : PySem.W.Frag} {mg : Str → Option Value} {base : Heap}
theorem ok__few_and_turn (T : Txt K mg) (M : KTab K w T.a_MADE_OF_OTHERS made) : FnOk P w K mg base CX0 5 T.f__few_and_turn T.d__few_and_turn ["conditions"] sp__few_and_turn := by
  have G__plain_ones : FnOk P w K mg base CX0 4 T.f__plain_ones T.d__plain_ones ["condition"] (sp__plain_ones 4) := ok__plain_ones T M 4
  refine T.F__few_and_turn.ok sc__few_and_turn (fun vs H Q E h => ?_) (fun cdv A outer s H vs Q E hr h => ?_)
  · obtain ⟨a, ws, cs, n, rfl, _⟩ := h
    rfl
  obtain ⟨a, ws, cs, n, rfl, ha, hws, hcs, h5, q⟩ := h
  refine ⟨_, (pss_cons (ps_set (i := 1) sc__few_and_turn.nd rfl (Or.inl rfl) pe_int) (pss_cons (ps_set (i := 2) sc__few_and_turn.nd rfl (Or.inl rfl) pe_int) (pss_cons (ps_setLc2 (i := 3) (own := [("condition", 5), ("plain", 6)]) (vs1 := [6]) (g := gName 5) (g1 := gName 6) (tt := tYes) (tt1 := tYes) (wi1 := iList K (tCall (sp__plain_ones 4) [] E0 (tCons (tVar 5) tNil))) rfl sc__few_and_turn.nd rfl rfl (sw_true rfl rfl rfl (by decide +kernel)) (pi_list (pv 0)) (blkOk_by (own := [("condition", 5), ("plain", 6)]) (N := ["conditions", "few", "turn", "plain_ones", "row", "condition", "plain"]) (sc := (defScope s__few_and_turn)) (by decide +kernel)) (by decide) (fun _ _ _ _ _ => (pg_name (i := 5) sc__few_and_turn.nd rfl (Or.inl rfl))) (fun _ _ _ _ _ => pts_nil) (fun _ _ _ _ _ => by exact (pi_list (pe_call G__plain_ones (hr.mono (by omega)) (by rfl) T.m__plain_ones T.F__plain_ones.kp T.b__plain_ones .nil pass0 (pa_cons (pv 5) pa_nil)))) (fun _ _ _ _ _ => (pg_name (i := 6) sc__few_and_turn.nd rfl (Or.inl rfl))) (fun _ _ _ _ _ => pts_nil) (fun _ _ _ _ _ => (pv 6))) (pss_cons (ps_for PassesOwn.never rfl (pi_list (pv 3)) (pg_name (i := 4) sc__few_and_turn.nd rfl (Or.inl rfl)) (pss_one (ps_if (pt_cmpR op_eq (pe_ix ix_tup (pv 4) pe_int (fun _ _ => rfl)) pe_str (nomark _)) (pss_one (ps_set (i := 1) sc__few_and_turn.nd rfl (Or.inl rfl) (pe_callB (call_max2 rfl) (by rfl) T.z_max (by decide +kernel) (pa_cons (pv 1) (pa_cons (pe_ix ix_tup (pv 4) pe_int (fun _ _ => rfl)) pa_nil))))) (pss_one (ps_set (i := 2) sc__few_and_turn.nd rfl (Or.inl rfl) (pe_callBfun cr_lcm (by rfl) T.g_lcm (pa_cons (pv 2) (pa_cons (pe_ix ix_tup (pv 4) pe_int (fun _ _ => rfl)) pa_nil)))))))) (pss_one (ps_ret (pe_tup (pa_cons (pv 1) (pa_cons (pv 2) pa_nil))))))))), ?_⟩
  have lw := hws.len
  rw [List.length_map] at lw
  refine ⟨_, rfl, a, rfl, ⟨_, SqL.of ha⟩, fun D hD => ?_⟩
  refine lc_outer (xs := ws) (fun i H2 => ∃ acc, H2 D = some (.lst acc) ∧ acc.length ≤ 100 * i ∧ DtAll (fun b => b ≠ D) H2 acc (((cs.take i).flatMap Cd.plains).map Cd.dat) ∧ Same H H2) ⟨[], upd_same, Nat.le_refl _, .nil, same_new hD⟩ (fun i H2 _ ⟨_, _, _, _, s⟩ => SqL.of (s _ _ ha)) ?_ ?_
  · rintro i y H2 hy ⟨acc, g1, gl, g2, g3⟩
    obtain ⟨dy, hdy, hy2⟩ := hws.getV hy
    rw [List.getElem?_map] at hdy
    cases hc : cs[i]? with
    | none => rw [hc] at hdy; cases hdy
    | some c1 =>
    rw [hc] at hdy
    cases hdy
    have hi := (List.getElem?_eq_some_iff.mp hc).1
    obtain ⟨co, cd⟩ := hcs c1 (List.mem_of_getElem? hc)
    have pl : c1.plains.length ≤ 2 ^ 4 := Nat.le_trans (plains_len c1) (Nat.pow_le_pow_right (by decide) cd)
    refine ⟨rfl, _, rfl, y, c1, fun b => b ≠ D, rfl, ((hy2.off hD).weak fun b h => h.2).same g3, cd, by decide, fun r us H3 s3 hr3 kr offD => ?_⟩
    have g13 := s3 _ _ g1
    have nrD : r ≠ D := fun z => by rw [z, g1] at hr3; cases hr3
    have lu := offD.len
    rw [List.length_map] at lu
    refine ⟨r, rfl, ⟨_, SqL.of kr⟩, ?_⟩
    refine lc_outer (xs := us) (fun j H4 => H4 D = some (.lst (acc ++ us.take j)) ∧ DtAll (fun b => b ≠ D) H4 acc (((cs.take i).flatMap Cd.plains).map Cd.dat) ∧ DtAll (fun b => b ≠ D) H4 us (c1.plains.map Cd.dat) ∧ Same H H4 ∧ H4 r = some (.lst us))
      ⟨by simpa using g13, g2.same s3, offD, g3.trans s3, kr⟩ (fun j H4 _ ⟨_, _, _, _, h⟩ => SqL.of h) ?_ ?_
    · rintro j z H4 hz ⟨k1, k2, k3, k4, k5⟩
      have hj := (List.getElem?_eq_some_iff.mp hz).1
      refine ⟨rfl, _, rfl, _, k1, ?_, ?_, k2.keep (upd_keep fun b h => h), k3.keep (upd_keep fun b h => h), same_add k4 hD, ?_⟩
      · rw [List.length_append, List.length_take]
        exact Nat.lt_of_le_of_lt (show _ ≤ 1000000 by omega) (by decide)
      · rw [upd_same, take_succ_of hz, List.append_assoc]
      · rw [upd_ne nrD]; exact k5
    · rintro H4 ⟨k1, k2, k3, k4, k5⟩
      rw [List.take_length] at k1
      refine ⟨acc ++ us, k1, by rw [List.length_append]; omega, ?_, k4⟩
      rw [flat_take _ hc, List.map_append]
      exact dtAll_app k2 k3
  · rintro H2 ⟨acc, g1, gl, g2, g3⟩
    rw [lw, List.take_length] at g2
    have pk : ∀ p ∈ cs.flatMap Cd.plains, isPlain p ∧ p.ok n := fun p hp => by
      obtain ⟨c, hc, hp⟩ := List.mem_flatMap.mp hp
      exact plains_plain n c (hcs c hc).1 p hp
    have lg := g2.len
    rw [List.length_map] at lg
    unfold fewC turnC at q
    generalize cs.flatMap Cd.plains = pl at *
    refine ⟨_, rfl, D, rfl, ⟨_, SqL.of g1⟩, for_list (xs := acc) (fun i σ H' => ∃ y4 y5 y6, σ = [some (.ref a), some (nI (fewP 0 (pl.take i))), some (nI (turnP 1 (pl.take i))), some (.ref D), y4, y5, y6] ∧ Same H2 H') ⟨_, _, _, rfl, Same.refl _⟩ (fun i σ H' _ ⟨_, _, _, _, s⟩ => SqL.of (s _ _ g1)) ?_ ?_⟩
    · rintro i x σ H3 hx ⟨y4, y5, y6, rfl, s3⟩
      obtain ⟨dx, hdx, hx2⟩ := g2.getV hx
      rw [List.getElem?_map] at hdx
      cases hc : pl[i]? with
      | none => rw [hc] at hdx; cases hdx
      | some c1 =>
      rw [hc] at hdx
      cases hdx
      obtain ⟨cp, co⟩ := pk c1 (List.mem_of_getElem? hc)
      have fl := fewP_le (n := n) (pl.take i) 0 (by decide) fun c hc => (pk c (List.mem_of_mem_take hc)).2
      obtain ⟨t1, t12⟩ := le12 (turnP_12 (n := n) (pl.take i) 1 (by decide) fun c hc => (pk c (List.mem_of_mem_take hc)).2)
      have hx3 := hx2.same s3
      cases c1 with
      | least w b =>
        cases hx3 with
        | @tup p xs _ e _ l r =>
        cases r with
        | cons r0 r1 =>
        cases r0
        cases r1 with
        | cons r1 r2 =>
        cases r2 with
        | cons r2 r3 =>
        cases r2
        obtain ⟨_, b0, b4⟩ := co
        refine ⟨_, rfl, p, _, 0, _, rfl, rfl, SqT.of e, atI_nat (j := 0) rfl, rfl, _, rfl, ?_⟩
        refine eqT rfl ⟨_, rfl, _, rfl, p, _, 2, _, rfl, rfl, SqT.of e, atI_nat (j := 2) rfl, _, _, rfl, ?_⟩
        refine ⟨some (.ref p), y5, y6, ?_, s3⟩
        have e1 : fewP 0 (pl.take (i + 1)) = max (fewP 0 (pl.take i)) b.toNat := by rw [take_succ_of hc, fewP_app]; rfl
        have e2 : turnP 1 (pl.take (i + 1)) = turnP 1 (pl.take i) := by rw [take_succ_of hc, turnP_app]; rfl
        have e3 : (if b > ((fewP 0 (pl.take i) : Nat) : Int) then b else ((fewP 0 (pl.take i) : Nat) : Int)) = ((max (fewP 0 (pl.take i)) b.toNat : Nat) : Int) := by split <;> omega
        rw [e1, e2]
        show List.set _ 1 (some (V.int (if b > ((fewP 0 (pl.take i) : Nat) : Int) then b else ((fewP 0 (pl.take i) : Nat) : Int)))) = _
        rw [e3]
        rfl
      | turns w m z =>
        cases hx3 with
        | @tup p xs _ e _ l r =>
        cases r with
        | cons r0 r1 =>
        cases r0
        cases r1 with
        | cons r1 r2 =>
        cases r2 with
        | cons r2 r3 =>
        cases r2
        obtain ⟨_, m1, m4, _⟩ := co
        refine ⟨_, rfl, p, _, 0, _, rfl, rfl, SqT.of e, atI_nat (j := 0) rfl, rfl, _, rfl, ?_⟩
        have em : (m : Int) = ((m.toNat : Nat) : Int) := by omega
        refine eqF (sne (by decide +kernel)) ⟨_, rfl, _, rfl, p, _, 2, _, rfl, rfl, SqT.of e, atI_nat (j := 2) rfl, turnP 1 (pl.take i), m.toNat, ?_, by omega, by omega, ?_⟩
        · show [_, V.int m] = [_, V.int _]
          rw [← em]
        refine ⟨some (.ref p), y5, y6, ?_, s3⟩
        have e1 : fewP 0 (pl.take (i + 1)) = fewP 0 (pl.take i) := by rw [take_succ_of hc, fewP_app]; rfl
        have e2 : turnP 1 (pl.take (i + 1)) = (turnP 1 (pl.take i)).lcm m.toNat := by rw [take_succ_of hc, turnP_app]; rfl
        rw [e1, e2]
        rfl
      | _ => exact cp.elim
    · rintro σ H3 ⟨y4, y5, y6, rfl, s3⟩
      rw [show acc.length = pl.length from lg, List.take_length]
      refine ⟨_, rfl, _, rfl, (by show 2 ≤ sizeLine; decide), fun p hp => ?_⟩
      exact q p _ ((g3.trans s3).trans (same_new hp)) upd_same
end


def rowsTo : Nat → Nat → List (List Nat)
  | 0, _ => [[]]
  | n + 1, k => (rowsTo n k).flatMap fun r => (List.range k).map fun x => r ++ [x]
def keysOf (L : Str) (n k : Nat) : List (Nat × List Nat) := L.cps.toList.flatMap fun c => (rowsTo n k).map fun r => (c, r)
def RowsAt (H : Hp) (as : List Addr) (rows : List (List Nat)) : Prop := Paired (fun (a : Addr) (row : List Nat) => H a = some (.tup (row.map nI))) as rows
def KeysAt (H : Hp) (bs : List Addr) (keys : List (Nat × List Nat)) : Prop := Paired (fun (b : Addr) (key : Nat × List Nat) => ∃ a, H b = some (.tup [.str (ch key.1), .ref a]) ∧ H a = some (.tup (key.2.map nI))) bs keys
theorem ext_len (k : Nat) : ∀ l : List (List Nat), (l.flatMap fun r => (List.range k).map fun x => r ++ [x]).length = l.length * k
  | [] => by simp
  | a :: t => by rw [List.flatMap_cons, List.length_append, List.length_map, List.length_range, ext_len k t, List.length_cons, Nat.succ_mul, Nat.add_comm]
theorem rowsTo_len (k : Nat) : ∀ n, (rowsTo n k).length = k ^ n
  | 0 => rfl
  | n + 1 => by rw [rowsTo, ext_len, rowsTo_len k n, Nat.pow_succ]
theorem rowsTo_mem {k : Nat} : ∀ {n : Nat} {r : List Nat}, r ∈ rowsTo n k → r.length = n ∧ ∀ x ∈ r, x < k
  | 0, r, h => by simp [rowsTo] at h; subst h; simp
  | n + 1, r, h => by
    simp only [rowsTo, List.mem_flatMap, List.mem_map, List.mem_range] at h
    obtain ⟨r0, h0, x, hx, rfl⟩ := h
    obtain ⟨a, b⟩ := rowsTo_mem h0
    refine ⟨by simp [a], fun y hy => ?_⟩
    rcases List.mem_append.mp hy with hy | hy
    · exact b y hy
    · rw [List.mem_singleton.mp hy]; exact hx
theorem prd_app {α β : Type} {F : α → β → Prop} : ∀ {as cs : List α} {bs ds : List β}, Paired F as bs → Paired F cs ds → Paired F (as ++ cs) (bs ++ ds)
  | _, _, _, _, .nil, y => y
  | _, _, _, _, .cons r t, y => .cons r (prd_app t y)
theorem prd_at {α β : Type} {F : α → β → Prop} : ∀ {as : List α} {bs : List β} {i : Nat} {a : α}, Paired F as bs → as[i]? = some a → ∃ b, bs[i]? = some b ∧ F a b
  | _, _, 0, _, .cons r _, h => by cases h; exact ⟨_, rfl, r⟩
  | _, _, i + 1, _, .cons _ t, h => by
    rw [List.getElem?_cons_succ] at h
    obtain ⟨b, h1, h2⟩ := prd_at t h
    exact ⟨b, by rw [List.getElem?_cons_succ]; exact h1, h2⟩
theorem RowsAt.keep {H H' : Hp} {as : List Addr} {rows : List (List Nat)} (x : RowsAt H as rows) (h : ∀ b xs, H b = some (.tup xs) → H' b = some (.tup xs)) : RowsAt H' as rows := Paired.mapP x fun _ _ e => h _ _ e
theorem KeysAt.keep {H H' : Hp} {as : List Addr} {ks : List (Nat × List Nat)} (x : KeysAt H as ks) (h : ∀ b xs, H b = some (.tup xs) → H' b = some (.tup xs)) : KeysAt H' as ks := Paired.mapP x fun _ _ ⟨a, e1, e2⟩ => ⟨a, h _ _ e1, h _ _ e2⟩
theorem upd_tup {H : Hp} {D : Addr} {xs : List V} {o : HO} (hD : H D = some (.lst xs)) : ∀ b ys, H b = some (.tup ys) → (upd H D o) b = some (.tup ys) := fun b ys e => by
  rw [upd_ne (fun z => by rw [z, hD] at e; cases e)]
  exact e
theorem lc_walk {J : It} {len : Nat} {G : Hp → Prop} {Y : Nat → Hp → V → Hp → Prop} (wk : Walk J len G Y) {Bd : V → Hp → (Hp → Prop) → Prop} {Qd : Hp → Prop} {H0 : Hp} (Pv : Nat → Hp → Prop) (h0 : Pv 0 H0) (hp : ∀ i H, i ≤ len → Pv i H → G H)
    (hs : ∀ i x H H', i < len → Pv i H → Y i H x H' → Bd x H' (Pv (i + 1))) (hd : ∀ H, Pv len H → Qd H) :
    ∃ W : Nat → Nat → Hp → Prop, (∃ m, W 0 m H0) ∧ ∀ i m H, W i m H → (J.stop i H ∧ Qd H) ∨ (J.go i H ∧ ∃ Nx : Hp → Prop, (∀ H', Nx H' → ∃ m', m' < m ∧ W (i + 1) m' H') ∧ ∀ x H', J.yld i H x H' → Bd x H' Nx) := by
  refine ⟨fun i m H => m = len - i ∧ i ≤ len ∧ Pv i H, ⟨len, by simp, Nat.zero_le _, h0⟩, ?_⟩
  rintro i m H ⟨rfl, hi, p⟩
  have g := hp i H hi p
  rcases Nat.lt_or_ge i len with lt | ge
  · exact .inr ⟨wk.goes i H lt g, Pv (i + 1), fun H' p' => ⟨_, by omega, rfl, lt, p'⟩, fun x H' y => hs i x H H' lt p (wk.yields i H x H' lt g y)⟩
  · obtain rfl : i = len := by omega
    exact .inl ⟨wk.stops H g, hd H p⟩
def sp_tuples_due : Sp := fun vs H Q _ => ∃ (L : Str) (n k : Nat), vs = [.str L, nI n, nI k] ∧ L.length ≤ 26 ∧ n ≤ 6 ∧ k ≤ 20 ∧ Q (nI (L.length * k ^ n)) H
def sp_class_rows : Sp := fun vs H Q _ => ∃ (n k : Nat), vs = [nI n, nI k] ∧ n ≤ 6 ∧ 1 ≤ k ∧ k ≤ 20 ∧ k ^ n ≤ 600 ∧ ∀ r as H', Same H H' → H r = none → H' r = some (.lst (as.map V.ref)) → RowsAt H' as (rowsTo n k) → Q (.ref r) H'
def sp_keys_due : Sp := fun vs H Q _ => ∃ (L : Str) (n k : Nat), vs = [.str L, nI n, nI k] ∧ Lets L ∧ n ≤ 6 ∧ 1 ≤ k ∧ k ≤ 20 ∧ L.length * k ^ n ≤ 600 ∧ ∀ r bs H', Same H H' → H r = none → H' r = some (.lst (bs.map V.ref)) → KeysAt H' bs (keysOf L n k) → Q (.ref r) H'
section
variable {P : Program} {w : World} {K : PySem.W.Frag} {mg : Str → Option Value} {base : Heap}
theorem ok_tuples_due (T : Txt K mg) : FnOk P w K mg base CX0 1 T.f_tuples_due T.d_tuples_due ["letters", "states", "classes"] sp_tuples_due := by
  refine T.F_tuples_due.ok sc_tuples_due (fun vs H Q E h => ?_) (fun cdv A outer s H vs Q E hr h => ?_)
  · obtain ⟨L, n, k, rfl, _⟩ := h
    rfl
  obtain ⟨L, n, k, rfl, hl, h6, k20, q⟩ := h
  refine ⟨_, (pss_cons (ps_set (i := 3) sc_tuples_due.nd rfl (Or.inl rfl) (pe_callB call_len_str (by rfl) T.z_len PySem.boot_len (pa_cons (pv 0) pa_nil))) (pss_cons (ps_for PassesOwn.never rfl (pi_range1 (by rfl) T.z_range (pa_cons (pv 1) pa_nil)) (pg_name (i := 4) sc_tuples_due.nd rfl (Or.inl rfl)) (pss_one (ps_set (i := 3) sc_tuples_due.nd rfl (Or.inl rfl) (pe_op op_mul (pv 3) (pv 2))))) (pss_one (ps_ret (pv 3))))), ?_⟩
  refine ⟨_, rfl, L, rfl, Nat.le_of_lt (Nat.lt_of_le_of_lt (show _ ≤ 1000000 by omega) (by decide)), _, rfl, n, rfl, by omega, by omega, for_range (lo := 0) (n := n) (fun i σ H' => ∃ y4, σ = [some (.str L), some (nI n), some (nI k), some (nI (L.length * k ^ i)), y4] ∧ H' = H) ⟨_, by rw [Nat.pow_zero, Nat.mul_one]; rfl, rfl⟩ ?_ ?_⟩
  · rintro i σ H1 hi ⟨y4, rfl, rfl⟩
    refine ⟨_, rfl, _, rfl, _, _, rfl, rfl, .inr ⟨by omega, by omega⟩, ?_⟩
    refine ⟨some (V.int (0 + (i : Int))), ?_, rfl⟩
    have e : ((L.length * k ^ i : Nat) : Int) * (k : Int) = ((L.length * k ^ (i + 1) : Nat) : Int) := by
      rw [Nat.pow_succ, ← Nat.mul_assoc]
      push_cast
      rfl
    show ([some (V.str L), some (nI n), some (nI k), some (V.int (((L.length * k ^ i : Nat) : Int) * (k : Int))), some (V.int (0 + (i : Int)))] : List (Option V)) = _
    rw [e]
  · rintro σ H1 ⟨y4, rfl, rfl⟩
    exact ⟨_, rfl, q⟩
theorem ok_class_rows (T : Txt K mg) : FnOk P w K mg base CX0 1 T.f_class_rows T.d_class_rows ["states", "classes"] sp_class_rows := by
  refine T.F_class_rows.ok sc_class_rows (fun vs H Q E h => ?_) (fun cdv A outer s H vs Q E hr h => ?_)
  · obtain ⟨n, k, rfl, _⟩ := h
    rfl
  obtain ⟨n, k, rfl, h6, k1, k20, h600, q⟩ := h
  refine ⟨_, (pss_cons (ps_set (i := 2) sc_class_rows.nd rfl (Or.inl rfl) (pe_lst (pa_cons (pe_tup pa_nil) pa_nil))) (pss_cons (ps_for PassesOwn.never rfl (pi_range1 (by rfl) T.z_range (pa_cons (pv 0) pa_nil)) (pg_name (i := 3) sc_class_rows.nd rfl (Or.inl rfl)) (pss_one (ps_setLc2 (i := 2) (own := [("row", 4), ("number", 5)]) (vs1 := [5]) (g := gName 4) (g1 := gName 5) (tt := tYes) (tt1 := tYes) (wi1 := iRng1 (tCons (tVar 1) tNil)) (te := tTup (StX.tStar K (tVar 4) (tCons (tVar 5) tNil))) rfl sc_class_rows.nd rfl rfl (sw_true rfl rfl rfl (by decide +kernel)) (pi_list (pv 2)) (blkOk_by (own := [("row", 4), ("number", 5)]) (N := ["states", "classes", "rows", "_", "row", "number"]) (sc := (defScope s_class_rows)) (by decide +kernel)) (by decide) (fun _ _ _ _ _ => (pg_name (i := 4) sc_class_rows.nd rfl (Or.inl rfl))) (fun _ _ _ _ _ => pts_nil) (fun _ _ _ _ _ => (pi_range1 (by rfl) T.z_range (pa_cons (pv 1) pa_nil))) (fun _ _ _ _ _ => (pg_name (i := 5) sc_class_rows.nd rfl (Or.inl rfl))) (fun _ _ _ _ _ => pts_nil) (fun _ _ _ _ _ => (pe_tup (StX.pa_star (pv 4) (pa_cons (pv 5) pa_nil))))))) (pss_one (ps_ret (pv 2))))), ?_⟩
  refine ⟨(by show 0 ≤ sizeLine; decide), fun p0 hp0 => ⟨(by show 1 ≤ sizeLine; decide), fun r0 hr0 => ?_⟩⟩
  have s0 := (same_new (o := .tup []) hp0).trans (same_new (o := .lst [V.ref p0]) hr0)
  have kp0 := same_new (o := .lst [V.ref p0]) hr0 _ _ (upd_same (H := H) (a := p0) (o := .tup []))
  have kr0 := upd_same (H := upd H p0 (.tup [])) (a := r0) (o := .lst [V.ref p0])
  have fr0 := (same_new (o := .tup []) hp0).free hr0
  generalize upd (upd H p0 (.tup [])) r0 (.lst [V.ref p0]) = H0 at *
  refine ⟨_, rfl, n, rfl, by omega, by omega, for_range (lo := 0) (n := n) (fun i σ H' => ∃ (r : Addr) (as : List Addr) (y3 y4 y5 : Option V), σ = [some (nI n), some (nI k), some (.ref r), y3, y4, y5] ∧ H' r = some (.lst (as.map V.ref)) ∧ RowsAt H' as (rowsTo i k) ∧ Same H H' ∧ H r = none) ⟨r0, [p0], none, none, none, rfl, kr0, .cons kp0 .nil, s0, fr0⟩ ?_ ?_⟩
  · rintro i σ H1 hi ⟨r, as, y3, y4, y5, rfl, hr1, ha, s1, fr1⟩
    have la : as.length = k ^ i := by rw [Paired.length ha, rowsTo_len]
    have pw : k ^ i ≤ 600 := Nat.le_trans (Nat.pow_le_pow_right k1 (by omega)) h600
    refine ⟨_, rfl, r, rfl, ⟨_, SqL.of hr1⟩, fun D hD => ?_⟩
    have nDr : r ≠ D := ne_of_none hr1 hD
    refine lc_outer (xs := as.map V.ref) (fun j H2 => ∃ bs : List Addr, H2 D = some (.lst (bs.map V.ref)) ∧ RowsAt H2 bs (((rowsTo i k).take j).flatMap fun r => (List.range k).map fun x => r ++ [x]) ∧ RowsAt H2 as (rowsTo i k) ∧ H2 r = some (.lst (as.map V.ref)) ∧ Same H1 H2)
      ⟨[], upd_same, .nil, ha.keep fun b xs e => same_new hD _ _ e, same_new hD _ _ hr1, same_new hD⟩ (fun j H2 _ ⟨_, _, _, _, h, _⟩ => SqL.of h) ?_ ?_
    · rintro j x H2 hx ⟨bs, g1, g2, g3, g4, g5⟩
      rw [List.getElem?_map] at hx
      cases haj : as[j]? with
      | none => rw [haj] at hx; cases hx
      | some aj =>
      rw [haj] at hx
      cases hx
      obtain ⟨row, hrow, kaj⟩ := prd_at g3 haj
      have hj := (List.getElem?_eq_some_iff.mp haj).1
      have lb := Paired.length g2
      rw [ext_len, List.length_take, rowsTo_len] at lb
      have lb2 : bs.length ≤ 600 * 20 := by rw [lb]; exact Nat.mul_le_mul (Nat.le_trans (Nat.min_le_right _ _) pw) k20
      refine ⟨rfl, _, rfl, k, rfl, by omega, by omega, ?_⟩
      refine lc_walk (len := k) (walk_range (lo := 0)) (fun m H3 => ∃ cs : List Addr, H3 D = some (.lst ((bs ++ cs).map V.ref)) ∧ RowsAt H3 bs (((rowsTo i k).take j).flatMap fun r => (List.range k).map fun x => r ++ [x]) ∧ RowsAt H3 cs ((List.range m).map fun x => row ++ [x]) ∧ RowsAt H3 as (rowsTo i k) ∧ H3 r = some (.lst (as.map V.ref)) ∧ H3 aj = some (.tup (row.map nI)) ∧ Same H1 H3)
        ⟨[], by simpa using g1, g2, .nil, g3, g4, kaj, g5⟩ (fun _ _ _ _ => trivial) ?_ ?_
      · rintro m z H3 H4 hm ⟨cs, k1', k2, k3, k4, k5, k6, k7⟩ ⟨rfl, rfl⟩
        have lc := Paired.length k3
        rw [List.length_map, List.length_range] at lc
        refine ⟨rfl, _, rfl, aj, _, rfl, .inl (SqT.of k6), _, rfl, ?_, fun b hb => ?_⟩
        · rw [List.length_append, List.length_map, (rowsTo_mem (List.mem_of_getElem? hrow)).1]
          exact Nat.le_of_lt (Nat.lt_of_le_of_lt (show _ ≤ 1000000 by simp; omega) (by decide))
        have sb := same_new (o := .tup (row.map nI ++ [V.int (0 + (m : Int))])) hb
        have kb := upd_same (H := H4) (a := b) (o := .tup (row.map nI ++ [V.int (0 + (m : Int))]))
        generalize upd H4 b (.tup (row.map nI ++ [V.int (0 + (m : Int))])) = H5 at *
        have kD := sb _ _ k1'
        have tk := upd_tup (o := .lst ((bs ++ cs).map V.ref ++ [V.ref b])) kD
        refine ⟨_, kD, ?_, cs ++ [b], ?_, (k2.keep fun b xs e => sb _ _ e).keep tk, ?_, (k4.keep fun b xs e => sb _ _ e).keep tk, ?_, tk _ _ (sb _ _ k6), same_add (k7.trans sb) hD⟩
        · rw [List.length_map, List.length_append, lc]
          exact Nat.lt_of_le_of_lt (show _ ≤ 1000000 by omega) (by decide)
        · rw [upd_same, ← List.append_assoc, List.map_append (l₂ := [b])]
          rfl
        · rw [List.range_succ, List.map_append (f := fun x => row ++ [x])]
          refine prd_app ((RowsAt.keep k3 fun b xs e => sb _ _ e).keep tk) (.cons ?_ .nil)
          have e : row.map nI ++ [V.int (0 + (m : Int))] = (row ++ [m]).map nI := by rw [List.map_append, Int.zero_add]; rfl
          rw [← e]
          exact tk _ _ kb
        · rw [upd_ne nDr]; exact sb _ _ k5
      · rintro H3 ⟨cs, k1', k2, k3, k4, k5, k6, k7⟩
        refine ⟨bs ++ cs, k1', ?_, k4, k5, k7⟩
        rw [flat_take _ hrow]
        exact prd_app k2 k3
    · rintro H2 ⟨bs, g1, g2, g3, g4, g5⟩
      rw [List.length_map, la, ← rowsTo_len k i, List.take_length] at g2
      exact ⟨D, bs, _, _, _, rfl, g1, g2, s1.trans g5, s1.free hD⟩
  · rintro σ H1 ⟨r, as, y3, y4, y5, rfl, hr1, ha, s1, fr1⟩
    exact ⟨_, rfl, q r as H1 s1 fr1 hr1 ha⟩
theorem ok_keys_due (T : Txt K mg) : FnOk P w K mg base CX0 2 T.f_keys_due T.d_keys_due ["letters", "states", "classes"] sp_keys_due := by
  have G_class_rows : FnOk P w K mg base CX0 1 T.f_class_rows T.d_class_rows ["states", "classes"] sp_class_rows := ok_class_rows T
  refine T.F_keys_due.ok sc_keys_due (fun vs H Q E h => ?_) (fun cdv A outer s H vs Q E hr h => ?_)
  · obtain ⟨L, n, k, rfl, _⟩ := h
    rfl
  obtain ⟨L, n, k, rfl, hL, h6, k1, k20, h600, q⟩ := h
  refine ⟨_, (pss_cons (ps_set (i := 3) sc_keys_due.nd rfl (Or.inr rfl) (pe_call G_class_rows (hr.mono (by omega)) (by rfl) T.m_class_rows T.F_class_rows.kp T.b_class_rows .nil pass0 (pa_cons (pv 1) (pa_cons (pv 2) pa_nil)))) (pss_one (ps_ret (pe_lc2 (own := [("letter", 4), ("row", 5)]) (vs1 := [5]) (g := gName 4) (g1 := gName 5) (tt := tYes) (tt1 := tYes) (wi1 := iList K (tVar 3)) (te := tTup (tCons (tVar 4) (tCons (tVar 5) tNil))) rfl sc_keys_due.nd (pi_str (pv 0)) (blkOk_by (own := [("letter", 4), ("row", 5)]) (N := ["letters", "states", "classes", "rows", "letter", "row"]) (sc := (defScope s_keys_due)) (by decide +kernel)) (by decide) (fun _ _ _ _ _ => (pg_name (i := 4) sc_keys_due.nd rfl (Or.inl rfl))) (fun _ _ _ _ _ => pts_nil) (fun _ _ _ _ _ => (pi_list (pv 3))) (fun _ _ _ _ _ => (pg_name (i := 5) sc_keys_due.nd rfl (Or.inl rfl))) (fun _ _ _ _ _ => pts_nil) (fun _ _ _ _ _ => (pe_tup (pa_cons (pv 4) (pa_cons (pv 5) pa_nil)))))))), ?_⟩
  have l1 := hL.1
  have hk : k ^ n ≤ 600 := Nat.le_trans (Nat.le_mul_of_pos_left _ l1) h600
  refine ⟨_, rfl, _, rfl, n, k, rfl, h6, k1, k20, hk, fun r as H1 s1 hr0 hr1 ha => ?_⟩
  refine ⟨_, rfl, L, rfl, fun D hD => ?_⟩
  have la : as.length = k ^ n := by rw [Paired.length ha, rowsTo_len]
  have nDr : r ≠ D := ne_of_none hr1 hD
  have lsz : L.cps.size = L.cps.toList.length := (Array.length_toList).symm
  have l26 : L.cps.toList.length ≤ 26 := by rw [← lsz]; exact hL.2.1
  refine lc_walk (len := L.cps.size) walk_str (fun j H2 => ∃ bs : List Addr, H2 D = some (.lst (bs.map V.ref)) ∧ KeysAt H2 bs ((L.cps.toList.take j).flatMap fun c => (rowsTo n k).map fun r => (c, r)) ∧ RowsAt H2 as (rowsTo n k) ∧ H2 r = some (.lst (as.map V.ref)) ∧ bs.length ≤ 600 * j ∧ Same H1 H2)
    ⟨[], upd_same, .nil, ha.keep fun b xs e => same_new hD _ _ e, same_new hD _ _ hr1, Nat.zero_le _, same_new hD⟩ (fun _ _ _ _ => trivial) ?_ ?_
  · rintro j x H2 H2' hj ⟨bs, g1, g2, g3, g4, g5, g6⟩ ⟨rfl, c, hc, rfl⟩
    have hc2 : L.cps.toList[j]? = some c := by rw [Array.getElem?_toList]; exact hc
    refine ⟨rfl, _, rfl, r, rfl, ⟨_, SqL.of g4⟩, ?_⟩
    refine lc_outer (xs := as.map V.ref) (fun m H3 => ∃ cs : List Addr, H3 D = some (.lst ((bs ++ cs).map V.ref)) ∧ KeysAt H3 bs ((L.cps.toList.take j).flatMap fun c => (rowsTo n k).map fun r => (c, r)) ∧ KeysAt H3 cs (((rowsTo n k).take m).map fun r => (c, r)) ∧ RowsAt H3 as (rowsTo n k) ∧ H3 r = some (.lst (as.map V.ref)) ∧ Same H1 H3)
      ⟨[], by simpa using g1, g2, .nil, g3, g4, g6⟩ (fun m H3 _ ⟨_, _, _, _, _, h, _⟩ => SqL.of h) ?_ ?_
    · rintro m z H3 hz ⟨cs, k1', k2, k3, k4, k5, k7⟩
      rw [List.getElem?_map] at hz
      cases ham : as[m]? with
      | none => rw [ham] at hz; cases hz
      | some am =>
      rw [ham] at hz
      cases hz
      obtain ⟨row, hrow, kam⟩ := prd_at k4 ham
      have lc := Paired.length k3
      rw [List.length_map, List.length_take, rowsTo_len] at lc
      refine ⟨rfl, _, rfl, _, rfl, (by show 2 ≤ sizeLine; decide), fun b hb => ?_⟩
      have sb := same_new (o := .tup [.str ⟨#[c]⟩, V.ref am]) hb
      have kb := upd_same (H := H3) (a := b) (o := .tup [.str ⟨#[c]⟩, V.ref am])
      generalize upd H3 b (.tup [.str ⟨#[c]⟩, V.ref am]) = H5 at *
      have kD := sb _ _ k1'
      have tk := upd_tup (o := .lst ((bs ++ cs).map V.ref ++ [V.ref b])) kD
      refine ⟨_, kD, ?_, cs ++ [b], ?_, (k2.keep fun b xs e => sb _ _ e).keep tk, ?_, (k4.keep fun b xs e => sb _ _ e).keep tk, ?_, same_add (k7.trans sb) hD⟩
      · rw [List.length_map, List.length_append]
        have : j < 26 := by omega
        exact Nat.lt_of_le_of_lt (show _ ≤ 1000000 by omega) (by decide)
      · rw [upd_same, ← List.append_assoc, List.map_append (l₂ := [b])]
        rfl
      · rw [take_succ_of hrow, List.map_append (f := fun r => (c, r))]
        exact prd_app ((KeysAt.keep k3 fun b xs e => sb _ _ e).keep tk) (.cons ⟨am, tk _ _ kb, tk _ _ (sb _ _ kam)⟩ .nil)
      · rw [upd_ne nDr]; exact sb _ _ k5
    · rintro H3 ⟨cs, k1', k2, k3, k4, k5, k7⟩
      rw [List.length_map, la, ← rowsTo_len k n, List.take_length] at k3
      have lc := Paired.length k3
      rw [List.length_map, rowsTo_len] at lc
      refine ⟨bs ++ cs, k1', ?_, k4, k5, by rw [List.length_append]; omega, k7⟩
      rw [flat_take _ hc2]
      exact prd_app k2 k3
  · rintro H2 ⟨bs, g1, g2, g3, g4, g5, g6⟩
    rw [lsz, List.take_length] at g2
    exact q D bs H2 (s1.trans g6) (s1.free hD) g1 g2
end

def keyN (c : Nat) (row : List Nat) : NestedKey := .tup [.text (ch c), .tup (row.map fun x : Nat => .num (x : Int))]
def RowsJ (xs : List NRow) (keys : List (Nat × List Nat)) (fs : Nat → List Nat → Nat) : Prop := Paired (fun (x : NRow) (key : Nat × List Nat) => x.1 = keyN key.1 key.2 ∧ x.2.2 = nI (fs key.1 key.2)) xs keys
def Rises (L : Str) : Prop := L.cps.toList.Pairwise (· < ·)
def sp_at (L : Str) (n : Nat) (fs : Nat → List Nat → Nat) : Sp := fun vs H Q _ => ∃ (c : Nat) (b : Addr) (row : List Nat), vs = [.str (ch c), .ref b] ∧ c ∈ L.cps.toList ∧ row.length = n ∧ H b = some (.tup (row.map nI)) ∧ ∀ H', Same H H' → Q (nI (fs c row)) H'
def sp_table_made (P : Program) (w : World) (K : PySem.W.Frag) (mg : Str → Option Value) (base : Heap) : Sp := fun vs H Q _ => ∃ (L : Str) (n few turn : Nat) (f : Addr) (fs : Nat → List Nat → Nat), vs = [.str L, nI n, nI few, nI turn, .ref f] ∧ Lets L ∧ Rises L ∧ n ≤ 6 ∧ few ≤ 4 ∧ 1 ≤ turn ∧ turn ≤ 4 ∧ L.length * (few + turn) ^ n ≤ 600 ∧
  CalX P w K mg base 8 f (fun H' => Same H H') 2 (sp_at L n fs) ∧ ∀ d xs H', Same H H' → H d = none → H' d = some (DictN P w d xs) → RowsN H' xs → RowsJ xs (keysOf L n (few + turn)) fs → Q (.ref d) H'
theorem ch_inj {a b : Nat} (h : ch a = ch b) : a = b := by
  have := congrArg (fun s : Str => s.cps.toList) h
  simpa [ch] using this
theorem keyN_inj {c c' : Nat} {r r' : List Nat} (h : keyN c r = keyN c' r') : c = c' ∧ r = r' := by
  unfold keyN at h
  injection h with h
  injection h with h1 h2
  injection h1 with h1
  injection h2 with h2
  injection h2 with h2
  refine ⟨ch_inj h1, ?_⟩
  clear h1
  induction r generalizing r' with
  | nil => cases r' with | nil => rfl | cons a b => cases h2
  | cons a b ih => cases r' with
    | nil => cases h2
    | cons a' b' =>
      rw [List.map_cons, List.map_cons] at h2
      injection h2 with e1 e2
      injection e1 with e1
      rw [ih e2, show a = a' by omega]
theorem keyN_depth (c : Nat) (r : List Nat) : (keyN c r).depth ≤ 8 := by
  have : ∀ r : List Nat, NestedKey.depthAll (r.map fun x : Nat => NestedKey.num (x : Int)) ≤ 1 := by
    intro r
    induction r with
    | nil => simp [NestedKey.depthAll]
    | cons a b ih => simp only [List.map_cons, NestedKey.depthAll, NestedKey.depth]; omega
  have := this r
  simp only [keyN, NestedKey.depth, NestedKey.depthAll]
  omega
theorem nk_nums {H : Hp} : ∀ r : List Nat, NKs H (r.map fun x : Nat => .num (x : Int)) (r.map nI)
  | [] => .nil
  | x :: r => .cons (.int _) (nk_nums r)
theorem nk_key {H : Hp} {b a : Addr} {c : Nat} {r : List Nat} (hb : H b = some (.tup [.str (ch c), .ref a])) (ha : H a = some (.tup (r.map nI))) : NK H (keyN c r) (.ref b) := .tup hb (.cons (.text _) (.cons (.tup ha (nk_nums r)) .nil))
theorem rowsTo_nd (k : Nat) : ∀ n, (rowsTo n k).Pairwise (· ≠ ·)
  | 0 => by simp [rowsTo]
  | n + 1 => by
    rw [rowsTo, List.pairwise_flatMap]
    refine ⟨fun r _ => ?_, (rowsTo_nd k n).imp fun {a b} hab x hx y hy e => ?_⟩
    · rw [List.pairwise_map]
      exact List.nodup_range.imp fun h e => h (by simpa using e)
    · simp only [List.mem_map] at hx hy
      obtain ⟨p, _, rfl⟩ := hx
      obtain ⟨q, _, rfl⟩ := hy
      exact hab (List.append_inj' e rfl).1
theorem keysOf_nd {L : Str} (h : Rises L) (n k : Nat) : (keysOf L n k).Pairwise (· ≠ ·) := by
  unfold keysOf
  rw [List.pairwise_flatMap]
  refine ⟨fun c _ => ?_, h.imp fun {a b} hab x hx y hy e => ?_⟩
  · rw [List.pairwise_map]
    exact (rowsTo_nd k n).imp fun h e => h (by simpa using e)
  · simp only [List.mem_map] at hx hy
    obtain ⟨p, _, rfl⟩ := hx
    obtain ⟨q, _, rfl⟩ := hy
    have : a = b := (Prod.mk.inj e).1
    omega
theorem atN_none {xs : List NRow} {k : NestedKey} (h : ∀ x ∈ xs, x.1 ≠ k) : atN xs k = none := by
  unfold atN
  rw [List.find?_eq_none.mpr fun x hx => by simpa using h x hx]
  rfl
theorem storedN_new {xs : List NRow} {k : NestedKey} {b : Addr} {v : V} (h : ∀ x ∈ xs, x.1 ≠ k) : storedN xs k b v = xs ++ [(k, b, v)] := by
  unfold storedN
  rw [atN_none h]
  rfl
theorem prd_mem {α β : Type} {F : α → β → Prop} {as : List α} {bs : List β} {a : α} (p : Paired F as bs) (h : a ∈ as) : ∃ b ∈ bs, F a b := by
  obtain ⟨i, hi⟩ := List.getElem?_of_mem h
  obtain ⟨b, h1, h2⟩ := prd_at p hi
  exact ⟨b, List.mem_of_getElem? h1, h2⟩
theorem ahead_ne {α : Type} {l : List α} {i : Nat} {x : α} (h : l.Pairwise (· ≠ ·)) (hx : l[i]? = some x) : ∀ y ∈ l.take i, y ≠ x := fun y hy e => by
  obtain ⟨j, hj⟩ := List.getElem?_of_mem hy
  have lt := (List.getElem?_eq_some_iff.mp hj).1
  rw [List.length_take] at lt
  rw [List.getElem?_take_of_lt (by omega)] at hj
  have h1 := List.getElem?_eq_some_iff.mp hj
  have h2 := List.getElem?_eq_some_iff.mp hx
  exact (List.pairwise_iff_getElem.mp h) j i h1.1 h2.1 (by omega) (by rw [h1.2, h2.2]; exact e)
theorem dF {p : Prop} {i : Decidable p} {A B : Prop} (h : ¬p) (k : B) : if (@decide p i) = true then A else B := by
  rw [decide_eq_false h]
  exact iteF k
theorem dT {p : Prop} {i : Decidable p} {A B : Prop} (h : p) (k : A) : if (@decide p i) = true then A else B := by
  rw [decide_eq_true h]
  exact iteT k
theorem RowsN.keep {H H' : Hp} {xs : List NRow} (x : RowsN H xs) (h : ∀ b ys, H b = some (.tup ys) → H' b = some (.tup ys)) : RowsN H' xs := fun r hr => ⟨NK.keep h (x r hr).1, (x r hr).2⟩
theorem upd_tupN {H : Hp} {D : Addr} {P : Program} {w : World} {d : Addr} {xs : List NRow} {o : HO} (hD : H D = some (DictN P w d xs)) : ∀ b ys, H b = some (.tup ys) → (upd H D o) b = some (.tup ys) := fun b ys e => by
  rw [upd_ne (fun z => by rw [z, hD] at e; unfold DictN at e; cases e)]
  exact e
theorem upd_lstN {H : Hp} {D : Addr} {P : Program} {w : World} {d : Addr} {xs : List NRow} {o : HO} (hD : H D = some (DictN P w d xs)) : ∀ b ys, H b = some (.lst ys) → (upd H D o) b = some (.lst ys) := fun b ys e => by
  rw [upd_ne (fun z => by rw [z, hD] at e; unfold DictN at e; cases e)]
  exact e
section
variable {P : Program} {w : World} {K : PySem.W.Frag} {mg : Str → Option Value} {base : Heap}
theorem ok_table_made (T : Txt K mg) : FnOk P w K mg base CX0 10 T.f_table_made T.d_table_made ["letters", "states", "few", "turn", "state_at"] (sp_table_made P w K mg base) := by
  have G_tuples_due : FnOk P w K mg base CX0 1 T.f_tuples_due T.d_tuples_due ["letters", "states", "classes"] sp_tuples_due := ok_tuples_due T
  have G_keys_due : FnOk P w K mg base CX0 2 T.f_keys_due T.d_keys_due ["letters", "states", "classes"] sp_keys_due := ok_keys_due T
  refine T.F_table_made.ok sc_table_made (fun vs H Q E h => ?_) (fun cdv A outer s H vs Q E hr h => ?_)
  · obtain ⟨L, n, few, turn, f, fs, rfl, _⟩ := h
    rfl
  obtain ⟨L, n, few, turn, f, fs, rfl, hL, hR, h6, f4, t1, t4, h600, C_state_at, q⟩ := h
  refine ⟨_, (pss_cons (ps_if (pt_cmpR op_gt (pv 3) (pe_glob (v := .int (4)) rfl T.g_MOST_TURN ⟨_, rfl⟩) (nomark _)) (pss_one ps_never) pss_nil) (pss_cons (ps_if (pt_cmpR op_gt (pe_call G_tuples_due (hr.mono (by omega)) (by rfl) T.m_tuples_due T.F_tuples_due.kp T.b_tuples_due .nil pass0 (pa_cons (pv 0) (pa_cons (pv 1) (pa_cons (pe_op op_add (pv 2) (pv 3)) pa_nil)))) (pe_glob (v := .int (600)) rfl T.g_MOST_TUPLES ⟨_, rfl⟩) (nomark _)) (pss_one ps_never) pss_nil) (pss_cons (ps_set (i := 5) sc_table_made.nd rfl (Or.inl rfl) (pe_call G_keys_due (hr.mono (by omega)) (by rfl) T.m_keys_due T.F_keys_due.kp T.b_keys_due .nil pass0 (pa_cons (pv 0) (pa_cons (pv 1) (pa_cons (pe_op op_add (pv 2) (pv 3)) pa_nil))))) (pss_one (ps_ret (pe_dcN (own := [("letter", 6), ("row", 7)]) (tt := tYes) (g := (gTup K 2 (gCons (gName 6) (gCons (gName 7) gNil))))  (roomN hr) rfl sc_table_made.nd (pi_list (pv 5)) (blkOk_by (own := [("letter", 6), ("row", 7)]) (N := ["letters", "states", "few", "turn", "state_at", "keys", "letter", "row"]) (sc := (defScope s_table_made)) (by decide +kernel)) (fun _ _ _ _ _ => (pg_tup rfl (pgs_cons (pg_name (i := 6) sc_table_made.nd rfl (Or.inl rfl)) (pgs_cons (pg_name (i := 7) sc_table_made.nd rfl (Or.inl rfl)) pgs_nil)))) (fun _ _ _ _ _ => pts_nil) (fun _ _ _ _ _ => (pe_tup (pa_cons (pv 6) (pa_cons (pv 7) pa_nil)))) (fun _ _ _ _ _ => (pe_calX (i := 4) C_state_at (hr.mono (by omega)) rfl (.inr (.inl (by rfl))) (pa_cons (pv 6) (pa_cons (pv 7) pa_nil)))))))))), ?_⟩
  refine ⟨_, rfl, _, _, rfl, rfl, _, rfl, dF (by omega) ?_⟩
  refine ⟨_, rfl, _, rfl, _, rfl, _, rfl, _, _, rfl, rfl, L, n, few + turn, rfl, hL.2.1, h6, by omega, _, _, rfl, rfl, _, rfl, dF (by omega) ?_⟩
  refine ⟨_, rfl, _, rfl, _, rfl, _, rfl, _, _, rfl, rfl, L, n, few + turn, rfl, hL, h6, by omega, by omega, h600, fun r bs H1 s1 hr0 hr1 hk => ?_⟩
  refine ⟨_, rfl, r, rfl, ⟨_, SqL.of hr1⟩, fun D hD => ?_⟩
  have nDr : r ≠ D := ne_of_none hr1 hD
  have knd := keysOf_nd hR n (few + turn)
  have kmem : ∀ key ∈ keysOf L n (few + turn), key.1 ∈ L.cps.toList ∧ key.2.length = n := fun key hm => by
    simp only [keysOf, List.mem_flatMap, List.mem_map] at hm
    obtain ⟨c, hc, row, hrow, rfl⟩ := hm
    exact ⟨hc, (rowsTo_mem hrow).1⟩
  have lk : bs.length ≤ 600 := by
    have e : (keysOf L n (few + turn)).length = L.cps.toList.length * (rowsTo n (few + turn)).length := by
      unfold keysOf
      generalize L.cps.toList = l
      induction l with
      | nil => simp
      | cons a t ih => rw [List.flatMap_cons, List.length_append, List.length_map, ih, List.length_cons, Nat.succ_mul, Nat.add_comm]
    rw [Paired.length hk, e, rowsTo_len, show L.cps.toList.length = L.length from Array.length_toList]
    exact h600
  generalize keysOf L n (few + turn) = keys at *
  refine lc_outer (xs := bs.map V.ref) (fun i H2 => ∃ xs : List NRow, H2 D = some (DictN P w D xs) ∧ RowsN H2 xs ∧ RowsJ xs (keys.take i) fs ∧ KeysAt H2 bs keys ∧ H2 r = some (.lst (bs.map V.ref)) ∧ Same H1 H2)
    ⟨[], upd_same, (fun x h => by cases h), .nil, hk.keep fun b xs e => same_new hD _ _ e, same_new hD _ _ hr1, same_new hD⟩ (fun i H2 _ ⟨_, _, _, _, _, h, _⟩ => SqL.of h) ?_ ?_
  · rintro i x H2 hx ⟨xs, g1, g2, g3, g4, g5, g6⟩
    rw [List.getElem?_map] at hx
    cases hb : bs[i]? with
    | none => rw [hb] at hx; cases hx
    | some b =>
    rw [hb] at hx
    cases hx
    obtain ⟨⟨c, row⟩, hkey, a, kb, ka⟩ := prd_at g4 hb
    obtain ⟨hc, hlen⟩ := kmem _ (List.mem_of_getElem? hkey)
    have hi := (List.getElem?_eq_some_iff.mp hb).1
    have lx := Paired.length g3
    rw [List.length_take] at lx
    refine ⟨b, _, rfl, SqT.of kb, rfl, _, _, rfl, _, _, rfl, rfl, rfl, ?_⟩
    refine ⟨_, rfl, _, rfl, (by show 2 ≤ sizeLine; decide), fun b2 hb2 => ?_⟩
    have s2 := same_new (o := .tup [.str (ch c), V.ref a]) hb2
    have kb2 := upd_same (H := H2) (a := b2) (o := .tup [.str (ch c), V.ref a])
    generalize upd H2 b2 (.tup [.str (ch c), V.ref a]) = H3 at *
    have S3 : Same H H3 := (s1.trans g6).trans s2
    refine ⟨rfl, S3, _, rfl, _, rfl, S3, c, a, row, rfl, hc, hlen, s2 _ _ ka, fun H4 s4 => ?_⟩
    have s24 := s2.trans s4
    have kD := s24 _ _ g1
    have tk := fun b ys e => upd_tupN (o := DictN P w D (storedN xs (keyN c row) b2 (nI (fs c row)))) kD b ys (s24 _ _ e)
    refine ⟨xs, keyN c row, b2, rfl, kD, g2.keep fun b ys e => s24 _ _ e, nk_key (s4 _ _ kb2) (s24 _ _ ka), keyN_depth c row, ?_, ?_⟩
    · exact Nat.lt_of_le_of_lt (show _ ≤ 1000000 by omega) (by decide)
    have fresh : ∀ x ∈ xs, x.1 ≠ keyN c row := fun x hx e => by
      obtain ⟨key, hm, e1, _⟩ := prd_mem g3 hx
      rw [e1] at e
      obtain ⟨e2, e3⟩ := keyN_inj e
      exact ahead_ne knd hkey key hm (Prod.ext e2 e3)
    rw [storedN_new fresh] at tk ⊢
    refine ⟨_, upd_same, ?_, ?_, g4.keep tk, upd_lstN kD _ _ (s24 _ _ g5), same_add (g6.trans s24) hD⟩
    · intro x hx
      rcases List.mem_append.mp hx with hx | hx
      · exact (g2.keep tk) x hx
      · rw [List.mem_singleton.mp hx]
        exact ⟨nk_key (upd_tupN kD _ _ (s4 _ _ kb2)) (tk _ _ ka), keyN_depth c row⟩
    · rw [take_succ_of hkey]
      exact prd_app g3 (.cons ⟨rfl, rfl⟩ .nil)
  · rintro H2 ⟨xs, g1, g2, g3, g4, g5, g6⟩
    rw [List.length_map, Paired.length hk, List.take_length] at g3
    exact q D xs H2 (s1.trans g6) (s1.free hD) g1 g2 g3
end


structure TTj {K : PySem.W.Frag} {mg : Str → Option Value} (T : Txt K mg) (TT : List NdefX.NTab) : Prop where
  r1 : (T.P_judge_made, fun _ _ => q_judge_made) ∈ TT
  r2 : ∀ z ∈ TT, z.1 = T.P_judge_made → z.2 = fun _ _ => q_judge_made
def condsOf (R : Rl) : List Cd := R.L.cps.toList.flatMap fun c => ((R.rows.lookup c).getD []).map (·.1)
def fewR (R : Rl) : Nat := fewC (condsOf R)
def turnR (R : Rl) : Nat := turnC (condsOf R)
def sp_judge_made (P : Program) (w : World) (TT : List NdefX.NTab) : Sp := fun vs H Q _ => ∃ (v : V) (R : Rl), vs = [v] ∧ RlAt (fun _ => True) H v R ∧ R.ok ∧ Rises R.L ∧ NdefX.TabsN TT H ∧ turnR R ≤ 4 ∧ R.L.length * (fewR R + turnR R) ^ R.n ≤ 600 ∧
  ∀ j d g xs H', LamX.ExtN H H' → NdefX.TabsN TT H' → H d = none → H g = none → H' j = some (.tup [.str R.L, nI R.n, nI (fewR R), nI (turnR R), .ref d, .ref g]) → H' d = some (DictN P w d xs) → RowsN H' xs → RowsJ xs (keysOf R.L R.n (fewR R + turnR R)) (fsR R) → H' g = some (.lst (R.good.map nI)) → Q (.ref j) H'
def sp_made_lam (R : Rl) (d : Addr) : Sp := fun vs H Q _ => ∃ (c : Nat) (b : Addr) (row : List Nat) (es : List (Key × V)), vs = [.str (ch c), .ref b] ∧ c ∈ R.L.cps.toList ∧ row.length = R.n ∧ H b = some (.tup (row.map nI)) ∧ H d = some (.dK es) ∧ rowsIn (fun _ => True) H es R.rows ∧ ∀ H', Same H H' → Q (nI (fsR R c row)) H'
section
variable {P : Program} {w : World} {K : PySem.W.Frag} {mg : Str → Option Value} {base : Heap}
theorem ok_judge_made (T : Txt K mg) (B : Tbs T base) (M : KTab K w T.a_MADE_OF_OTHERS made) {TT : List NdefX.NTab} (hTT : TTj T TT) : FnOk P w K mg base CX0 15 T.f_judge_made T.d_judge_made ["rules"] (sp_judge_made P w TT) := by
  have G__few_and_turn : FnOk P w K mg base CX0 5 T.f__few_and_turn T.d__few_and_turn ["conditions"] sp__few_and_turn := ok__few_and_turn T M
  have G_table_made : FnOk P w K mg base CX0 10 T.f_table_made T.d_table_made ["letters", "states", "few", "turn", "state_at"] (sp_table_made P w K mg base) := ok_table_made T
  refine okC T.F_judge_made T.h_judge_made sc_judge_made (fun vs H Q E h => ?_) (fun A outer s H vs Q E hr h => ?_)
  · obtain ⟨v, R, rfl, _⟩ := h
    rfl
  obtain ⟨v, R, rfl, hR, hok, hri, hT, ht4, h600, q⟩ := h
  obtain ⟨a, d, g, es, rfl, ha, _, hd, _, hes, hg, _⟩ := hR
  refine ⟨_, (pss_cons (ps_asg (pv 0) (pg_tup rfl (pgs_cons (pg_name (i := 1) sc_judge_made.nd rfl (Or.inl rfl)) (pgs_cons (pg_name (i := 2) sc_judge_made.nd rfl (Or.inl rfl)) (pgs_cons (pg_name (i := 3) sc_judge_made.nd rfl (Or.inr rfl)) (pgs_cons (pg_name (i := 4) sc_judge_made.nd rfl (Or.inl rfl)) pgs_nil)))))) (pss_cons (ps_asg (pe_call G__few_and_turn (hr.mono (by omega)) (by rfl) T.m__few_and_turn T.F__few_and_turn.kp T.b__few_and_turn .nil pass0 (pa_cons (pe_lc2 (own := [("letter", 8), ("condition", 9), ("_", 10)]) (vs1 := [9, 10]) (g := gName 8) (g1 := gTup K 2 (gCons (gName 9) (gCons (gName 10) gNil))) (tt := tYes) (tt1 := tYes) (wi1 := iList K (tDGet (tVar 3) (tVar 8))) (te := tVar 9) rfl sc_judge_made.nd (pi_str (pv 1)) (blkOk_by (own := [("letter", 8), ("condition", 9), ("_", 10)]) (N := ["rules", "letters", "states", "rows", "good", "few", "turn", "table", "letter", "condition", "_"]) (sc := (defScope s_judge_made)) (by decide +kernel)) (by decide) (fun _ _ _ _ _ => (pg_name (i := 8) sc_judge_made.nd rfl (Or.inl rfl))) (fun _ _ _ _ _ => pts_nil) (fun _ _ _ _ _ => (pi_list (pe_dget (hu_of hr) (pv 3) (pv 8) (fun _ _ => rfl)))) (fun _ _ _ _ _ => (pg_tup rfl (pgs_cons (pg_name (i := 9) sc_judge_made.nd rfl (Or.inl rfl)) (pgs_cons (pg_name (i := 10) sc_judge_made.nd rfl (Or.inl rfl)) pgs_nil)))) (fun _ _ _ _ _ => pts_nil) (fun _ _ _ _ _ => (pv 9))) pa_nil)) (pg_tup rfl (pgs_cons (pg_name (i := 5) sc_judge_made.nd rfl (Or.inl rfl)) (pgs_cons (pg_name (i := 6) sc_judge_made.nd rfl (Or.inl rfl)) pgs_nil)))) (pss_cons (ps_set (i := 7) sc_judge_made.nd rfl (Or.inl rfl) (pe_callLd G_table_made (hr.mono (by omega)) (by rfl) T.m_table_made T.F_table_made.kp T.b_table_made (fun _ => rfl) (pa_cons (pv 1) (pa_cons (pv 2) (pa_cons (pv 5) (pa_cons (pv 6) (pa_cons (pe_lamXc B.tb_judge_made rfl (by rfl) (fr := ["rows"]) (by show NdefX.ndefB (defScope s_judge_made) _ _ = true; decide +kernel)) pa_nil))))))) (pss_one (ps_ret (pe_tup (pa_cons (pv 1) (pa_cons (pv 2) (pa_cons (pv 5) (pa_cons (pv 6) (pa_cons (pv 7) (pa_cons (pe_callTy call_list_of (by rfl) T.z_list (by decide +kernel) (pa_cons (pv 4) pa_nil)) pa_nil)))))))))))), ?_⟩
  refine ⟨_, rfl, _, _, rfl, SqT.of ha, rfl, ?_⟩
  refine ⟨_, _, rfl, _, _, rfl, _, _, rfl, _, _, rfl, rfl, ?_⟩
  refine ⟨_, rfl, R.L, rfl, fun D hD => ?_⟩
  have lsz : R.L.cps.size = R.L.cps.toList.length := (Array.length_toList).symm
  have l26 : R.L.cps.toList.length ≤ 26 := by rw [← lsz]; exact hok.L.2.1
  have nDd : d ≠ D := ne_of_none hd hD
  refine lc_walk (len := R.L.cps.size) walk_str (fun j H2 => ∃ ws : List V, H2 D = some (.lst ws) ∧ ws.length ≤ 100 * j ∧ DtAll (fun b => b ≠ D) H2 ws (((R.L.cps.toList.take j).flatMap fun c => ((R.rows.lookup c).getD []).map (·.1)).map Cd.dat) ∧ Same H H2)
    ⟨[], upd_same, Nat.le_refl _, .nil, same_new hD⟩ (fun _ _ _ _ => trivial) ?_ ?_
  · rintro j x H2 H2' hj ⟨ws, g1, g2, g3, g4⟩ ⟨rfl, c, hc, rfl⟩
    have hc2 : R.L.cps.toList[j]? = some c := by rw [Array.getElem?_toList]; exact hc
    obtain ⟨rs, hrs, hro⟩ := hok.at (List.mem_of_getElem? hc2)
    obtain ⟨rv, hv1, hv2⟩ := rows_val hes hrs
    have hv3 := hv2.off hD
    obtain ⟨r100, _, _⟩ := id hro
    cases hv3 with
    | @lst p xs ds hp _ hl r =>
    have lr := r.len
    rw [List.length_map] at lr
    refine ⟨rfl, _, rfl, _, rfl, d, _, rfl, ?_, p, rfl, ⟨_, SqL.of (g4 _ _ hp)⟩, ?_⟩
    · have := DGet.k (k := .inr (ch c)) (g4 _ _ hd)
      rw [hv1] at this
      exact this
    refine lc_outer (xs := xs) (fun m H3 => ∃ us : List V, H3 D = some (.lst (ws ++ us)) ∧ us.length = m ∧ DtAll (fun b => b ≠ D) H3 ws (((R.L.cps.toList.take j).flatMap fun c => ((R.rows.lookup c).getD []).map (·.1)).map Cd.dat) ∧ DtAll (fun b => b ≠ D) H3 us (((rs.take m).map (·.1)).map Cd.dat) ∧ Same H H3)
      ⟨[], by simpa using g1, rfl, g3, .nil, g4⟩ (fun m H3 _ ⟨_, _, _, _, _, s⟩ => SqL.of (s _ _ hp)) ?_ ?_
    · rintro m z H3 hz ⟨us, k1, k2, k3, k4, k5⟩
      obtain ⟨dz, hdz, hz2⟩ := r.getV hz
      rw [List.getElem?_map] at hdz
      cases hcm : rs[m]? with
      | none => rw [hcm] at hdz; cases hdz
      | some r1 =>
      rw [hcm] at hdz
      cases hdz
      have hm := (List.getElem?_eq_some_iff.mp hcm).1
      cases hz2 with
      | @tup pr ys _ hpr _ _ rr =>
      cases rr with
      | @cons cv _ _ _ c1 c2 =>
      cases c2 with
      | cons c2 c3 =>
      cases c2
      cases c3
      refine ⟨pr, _, rfl, SqT.of (k5 _ _ hpr), rfl, _, _, rfl, _, _, rfl, rfl, rfl, _, rfl, _, k1, ?_, us ++ [cv], ?_, by rw [List.length_append, k2]; rfl, k3.keep (upd_keep fun b h => h), ?_, same_add k5 hD⟩
      · rw [List.length_append]
        exact Nat.lt_of_le_of_lt (show _ ≤ 1000000 by omega) (by decide)
      · rw [upd_same, List.append_assoc]
      · rw [take_succ_of hcm, List.map_append, List.map_append]
        exact (dtAll_app k4 (.cons ((c1.weak fun b h => h.2).same k5) .nil)).keep (upd_keep fun b h => h)
    · rintro H3 ⟨us, k1, k2, k3, k4, k5⟩
      refine ⟨ws ++ us, k1, by rw [List.length_append]; omega, ?_, k5⟩
      rw [flat_take _ hc2, List.map_append, hrs]
      rw [lr, List.take_length] at k4
      exact dtAll_app k3 k4
  · rintro H2 ⟨ws, g1, g2, g3, g4⟩
    rw [lsz, List.take_length] at g3
    have cok : ∀ c ∈ condsOf R, c.ok R.n ∧ c.deep ≤ 4 := fun c hc => by
      obtain ⟨l, hl, hc⟩ := List.mem_flatMap.mp hc
      obtain ⟨rs, hrs, hro⟩ := hok.at hl
      rw [hrs] at hc
      obtain ⟨r, hr, rfl⟩ := List.mem_map.mp hc
      obtain ⟨_, h2, _⟩ := hro
      exact ⟨(h2 r hr).1, (h2 r hr).2.1⟩
    have lg := g3.len
    rw [List.length_map] at lg
    refine ⟨D, ws, condsOf R, R.n, rfl, g1, g3.weak fun _ _ => trivial, cok, by show (condsOf R).length ≤ 5000; unfold condsOf; omega, fun p H3 s3 hp => ?_⟩
    have S3 := g4.trans s3
    have pok : ∀ p ∈ (condsOf R).flatMap Cd.plains, p.ok R.n := fun p hp => by
      obtain ⟨c, hc, hp⟩ := List.mem_flatMap.mp hp
      exact (plains_plain R.n c (cok c hc).1 p hp).2
    have few4 : fewR R ≤ 4 := fewP_le _ 0 (by decide) pok
    have turn1 : 1 ≤ turnR R := (le12 (turnP_12 (n := R.n) _ 1 (by decide) pok)).1
    refine ⟨p, _, rfl, SqT.of hp, rfl, _, _, rfl, _, _, rfl, rfl, ?_⟩
    have T3 := hT.ext S3
    refine ⟨_, rfl, _, rfl, _, rfl, _, rfl, NdefX.TabN.to (T3 _ hTT.r1), fun f c H1 f1 n1 T1 hf0 hf hc cs hcs => ?_⟩
    have hnew := hcs.new
    have E1 : LamX.ExtN H3 H1 := extN_of_frP T3 hTT.r1 f1
    have TN1 : NdefX.TabsN TT H1 := tabsN_frP T3 hTT.r1 hTT.r2 f1 T1
    have E01 : LamX.ExtN H H1 := fun b o e n => E1 b o (S3 b o e) n
    have hd1 : H1 d = some (.dK es) := E01 _ _ hd (fun _ z => by cases z)
    have hg1 : H1 g = some (.lst (R.good.map nI)) := E01 _ _ hg (fun _ z => by cases z)
    have hes1 : rowsIn (fun _ => True) H1 es R.rows := Paired.mapP hes fun _ _ k => ⟨k.1, k.2.extN E01⟩
    refine ⟨R.L, R.n, fewR R, turnR R, f, fsR R, rfl, hok.L, hri, hok.n6, few4, turn1, ht4, h600, ?_, fun dd xs H5 e5 hd0 hd5 hrn hrj => ?_⟩
    · refine CalX.imp2 (k := 7 + 1) (calX_lamC (k := 7) (N := ["letter", "row", "rows"]) (ps := ["letter", "row"]) (f := f) (F := _) (sp := sp_made_lam R d) (NdefX.nscope_by (by dsimp only; decide +kernel)) (hcs.got _ ["rows"] [3] (by show NdefX.ndefB (defScope s_judge_made) _ _ = true; decide +kernel) rfl) hcs.cel (fun pm ctv us hl => match us, hl with | [_, _], _ => rfl) (fun vs H Q E h => ?_) (fun A outer s H vs Q E hr h => ?_)) (Nat.le_refl _) (fun vs H Q E h => ?_) (fun H' e => ⟨e _ _ (lend_some hnew hf), e _ _ (lend_some hnew hc), lent_extN (.of e)⟩) (fun vs H' Q E e h => ?_)
      · obtain ⟨c, b, row, es, rfl, _⟩ := h
        rfl
      · obtain ⟨c, b, row, es, rfl, hc, hl, hb, hd', hes', qq⟩ := h
        have G__state_by_rows : FnOk P w K mg base CX0 6 T.f__state_by_rows T.d__state_by_rows ["rows", "numbers"] sp__state_by_rows := ok__state_by_rows T
        refine ⟨_, (pe_call G__state_by_rows (hr.mono (by omega)) (by rfl) T.m__state_by_rows T.F__state_by_rows.kp T.b__state_by_rows .nil pass0 (pa_cons (pe_dget (hu_of hr) (pv 2) (pv 0) (fun _ _ => rfl)) (pa_cons (pe_callTy call_list_of (by rfl) T.z_list (by decide +kernel) (pa_cons (pv 1) pa_nil)) pa_nil))), ?_⟩
        obtain ⟨rs, hrs, hro⟩ := hok.at hc
        obtain ⟨rv, hv1, hv2⟩ := rows_val hes' hrs
        refine ⟨_, rfl, _, rfl, d, rv, rfl, ?_, _, rfl, b, _, rfl, .inr (SqT.of hb), fun lp hlp => ?_⟩
        · have := DGet.k (k := .inr (ch c)) hd'
          rw [hv1] at this
          exact this
        have sl := same_new (o := .lst (row.map nI)) hlp
        refine ⟨rv, lp, rs, row.map (fun x : Nat => (x : Int)), R.n, rfl, hv2.same sl, ?_, hro, by rw [List.length_map]; exact hl, hok.n6, fun s' H2 hs s2 => ?_⟩
        · rw [← nI_map]; exact upd_same
        · have e3 : fsR R c row = s' := by
            unfold fsR
            rw [hrs]
            show (stR rs _).getD 0 = s'
            rw [hs]
            rfl
          rw [← e3]
          exact qq H2 (sl.trans s2)
      · obtain ⟨c, b, row, rfl, _⟩ := h
        rfl
      · obtain ⟨c, b, row, rfl, hc', hl, hb, qq⟩ := h
        have lt : LentAt cs H' := lent_extN (.of e)
        refine ⟨c, b, row, es, rfl, hc', hl, unl_keep lt hb (fun _ z => by cases z), extN_unl hnew (.of e) _ _ hd1 (fun _ z => by cases z), Paired.mapP hes1 fun _ _ k => ⟨k.1, k.2.extN (extN_unl hnew (.of e))⟩, fun H2 s2 => qq _ (same_lend lt s2)⟩
    · have lt : LentAt cs H5 := lent_extN (.of e5)
      refine ⟨lt, ?_⟩
      have free1 : ∀ b, (unl H5 cs) b = none → H b = none := fun b h => S3.free (n1 b (by
        cases e : H1 b with
        | none => rfl
        | some o => rw [unl_out (hnew.out e), e5 _ _ (lend_some hnew e)] at h; cases h))
      have dout : cs.lookup dd = none := by
        cases e : cs.lookup dd with
        | none => rfl
        | some o => rw [lend_in e] at hd0; cases hd0
      have hdd : (unl H5 cs) dd = some (DictN P w dd xs) := by rw [unl_out dout]; exact hd5
      have hd0' : H dd = none := S3.free (n1 dd (by rw [lend_out dout] at hd0; exact hd0))
      have E6 : LamX.ExtN H (unl H5 cs) := E01.trans (extN_unl hnew (.of e5))
      have T6 : NdefX.TabsN TT (unl H5 cs) := tabsN_unl hnew ((TN1.ext (fun b o e => lend_some hnew e)).ext e5) lt hcs.cel
      have hg6 : (unl H5 cs) g = some (.lst (R.good.map nI)) := E6 _ _ hg (fun _ z => by cases z)
      have hrn6 : RowsN (unl H5 cs) xs := hrn.keep fun b ys e => unl_keep lt e (fun _ z => by cases z)
      generalize unl H5 cs = H6 at *
      refine ⟨_, rfl, _, rfl, _, rfl, _, rfl, _, rfl, _, rfl, g, _, rfl, .inl (SqL.of hg6), fun g2 hg2 => ⟨(by show 6 ≤ sizeLine; decide), fun j hj => ?_⟩⟩
      have s7 := same_new (o := .lst (R.good.map nI)) hg2
      have kg2 := upd_same (H := H6) (a := g2) (o := .lst (R.good.map nI))
      generalize upd H6 g2 (.lst (R.good.map nI)) = H7 at *
      have s8 := same_new (o := .tup [V.str R.L, nI R.n, nI (fewC (condsOf R)), nI (turnC (condsOf R)), V.ref dd, V.ref g2]) hj
      have S8 := s7.trans s8
      exact q j dd g2 xs _ (E6.trans (.of S8)) (T6.ext S8) hd0' (free1 g2 hg2) upd_same (S8 _ _ hdd) (hrn6.keep fun b ys e => S8 _ _ e) hrj (s8 _ _ kg2)
end

def ExX (a : Addr) (cls : Value) (d : Option Addr) : HO := .ext fun h => ∃ (o : Obj) (vs : Array Value), h.get? a = some o ∧ Zc cls d o ∧ o.data = .fields vs
theorem exX_ok {P : Program} {w : World} {H : Hp} {h : Heap} {a : Addr} {cls : Value} {d : Option Addr} (x : ∃ (o : Obj) (vs : Array Value), h.get? a = some o ∧ Zc cls d o ∧ o.data = .fields vs) : ObjOk P w H h a (ExX a cls d) :=
  ⟨x, (let ⟨o, _, e, _⟩ := x; ⟨o, e⟩), fun _ _ ⟨o, vs, e, r⟩ k => ⟨o, vs, k o e, r⟩⟩
section
variable {X : Cx} {pins : List (Addr × Obj)} {σ : L2.St} {H : Hp} {sI t : Shared} {B : Heap} {a : Addr} {o : HO}
theorem inv_tracked (I : Inv X pins σ H sI) (gr : ∀ b u, sI.heap.get? b = some u → b ∉ frs X.stack → B.get? b = some u) (st : B.StaysIn t.heap) (up : sI.heap.UpToSlots t.heap) (os : t.os = sI.os) (ag : AllBare t.gens)
    (ha : sI.heap.get? a = none) (na : H a = none) (new : ObjOk X.prog X.w (upd H a o) t.heap a o) : Inv X pins σ (upd H a o) t := by
  have far : ∀ b u, sI.heap.get? b = some u → b ≠ a := fun b u e z => by rw [z, ha] at e; cases e
  have fr : ∀ b u, sI.heap.get? b = some u → b ∈ frs X.stack → ∃ sl, t.heap.get? b = some { u with slots := sl } := fun b u e hb => by
    obtain ⟨_, u2, e2, hd⟩ := I.stack.mem hb
    have := e.symm.trans e2
    cases this
    exact up b u e hd
  have on : ∀ b u, H b = some u → (upd H a o) b = some u := fun b u e => by
    rw [upd_ne (ne_of_none e na)]
    exact e
  refine I.call' (ch := []) os { keep := ?k, slot := ?s, free := ?f, there := ?t, tups := fun b xs e => on b _ e, frzs := fun b u xs e => on b _ e, tbls := fun b ps e => ⟨#[], (on b _ e).trans (by simp)⟩ } (((I.inGround gr).kept st).laidN (fun _ _ e => e) na new) ag (by intro b hb; cases hb)
  case k => intro b u e _ hb _; exact st b u (gr b u e hb)
  case s => intro b u e _ hb _; exact fr b u e hb
  case f => intro b u e n _; rw [upd_ne (far b u e)]; exact n
  case t =>
    intro b u e _
    by_cases hb : b ∈ frs X.stack
    · obtain ⟨sl, q⟩ := fr b u e hb
      exact ⟨_, q⟩
    · exact ⟨u, st b u (gr b u e hb)⟩
theorem inv_suite0 (I : Inv X pins σ H t) (a : Addr) : Inv (X.suite a (X.pn ++ pins)) [] σ H t where
  ok := I.ok.suite _ _
  os := I.os
  bare := I.bare
  base := I.base
  loc := I.loc
  cell := I.cell
  free := I.free
  freeC := I.freeC
  pin := by
    intro p hp
    rw [List.append_nil] at hp
    exact I.pin p hp
  hok := I.hok
  len := I.len
theorem inv_unsuite0 {pn2 : List (Addr × Obj)} (I : Inv (X.suite a (X.pn ++ pins)) pn2 σ H t) (ok : X.Ok) : Inv X pins σ H t where
  ok := ok
  os := I.os
  bare := I.bare
  base := I.base
  loc := I.loc
  cell := I.cell
  free := I.free
  freeC := I.freeC
  pin := by
    intro p hp
    exact I.pin p (List.mem_append_left _ hp)
  hok := I.hok
  len := I.len
end
def wKeep (K : PySem.W.Frag) (c : Value) (i : Nat) (ts : Addr → Value → Option Addr → TS) (D : Ends) : WX := fun cls d σ H =>
  PySem.W.exmOne K cls c = some true ∧ ∀ a, H a = none → ts a cls d ⟨fun σ2 H2 => D.nx (σ2.set i none) H2, D.rt, fun σ2 H2 => D.bk (σ2.set i none) H2, fun σ2 H2 => D.ct (σ2.set i none) H2⟩ (σ.set i (some (.ref a))) (upd H a (ExX a cls d))
section
variable {X : Cx} {x n : Str} {c : Value} {i : Nat} {body more : List Stmt} {st0 : Stmt} {np pos pos2 : Pos} {tb : WX → TS} {ts : Addr → Value → Option Addr → TS}
theorem ps_try_keep (hst : X.stack = X.env :: X.outer) (hfm : X.env.frame = some X.env.locals) (hnd : X.N.Nodup) (hix : X.N[i]? = some n) (hkd : X.env.kindOf n = some .local) (hnm : Names X x c)
    (hbody : ∀ (W : WX) (pn : List (Addr × Obj)) (xe : Value → Shared → Prop), L2.Takes (X.tr pn xe) W → PassesOwn (model X.prog X.w) X.A X.env xe → PSs (X.tr pn xe) body (tb W))
    (hsuite : ∀ (a : Addr) (cls : Value) (d : Option Addr) (pn : List (Addr × Obj)), PSs (X.suite a pn) (st0 :: more) (ts a cls d)) :
    PS X (.Try body [.ExceptHandler (some (.Name x np)) (some n) (st0 :: more) pos2] [] [] pos) (fun D σ H => tb (wKeep X.K c i ts D) D σ H) := by
  refine ⟨fun pins s σ H D I hw => ?_⟩
  have oX := I.ok
  have frA := oX.frames.trans (congrArg some hst)
  have slot_n : Loc X.env.scope n := Or.inl hkd
  refine wpAny_Try_except ?_
  refine wpAny_mono ((hbody (wKeep X.K c i ts D) (X.pn ++ pins) (fun e r1 => wpAny (model X.prog X.w) X.A (noteFrame e X.env) (fun _ r2 => wpAny (model X.prog X.w) X.A (setFlight e none)
    (fun _ r3 => wpAny (model X.prog X.w) X.A (handleBy e X.env [.ExceptHandler (some (.Name x np)) (some n) (st0 :: more) pos2]) (SP X pins D) X.xe r3) X.xe r2) X.xe r1) ?grab PassesOwn.looking).run [] s σ H D (I.toTry _) hw) ?fin fun _ _ z => z
  case fin =>
    intro f r1 hf
    cases f with
    | next => exact let ⟨σ2, H2, J, q⟩ := hf; wpAny_execs_nil ⟨σ2, H2, J.ofTry oX, q⟩
    | brk => exact let ⟨σ2, H2, J, q⟩ := hf; ⟨σ2, H2, J.ofTry oX, q⟩
    | cont => exact let ⟨σ2, H2, J, q⟩ := hf; ⟨σ2, H2, J.ofTry oX, q⟩
    | ret u => exact let ⟨v, σ2, H2, J, r, q⟩ := hf; ⟨v, σ2, H2, J.ofTry oX, r, q⟩
  case grab =>
    rintro u t0 ⟨a, B, sI, pins2, σ2, H2, cls, d, rfl, I2, gr, up, sky, na, os, ag, hkind, hgo⟩
    have J := I2.ofTry oX
    have sky2 := sky
    rw [show (X.tr (X.pn ++ pins) _).stack = X.env :: X.outer from hst] at sky2
    show wpAny (model X.prog X.w) X.A (noteFrame (.ref a) X.env) _ _ _
    refine Sky.land Zc.steady frA hfm sky2 fun h3 fl3 up3 => ?_
    have track : ∀ h, HandSPX.FlyingZ B (X.env :: X.outer) a (Zc cls d) h → sI.heap.UpToSlots h → Inv X pins σ2 (upd H2 a (ExX a cls d)) { t0 with heap := h } := fun h fl u2 => by
      obtain ⟨oe, vs, he, hz, hd⟩ := fl.there
      refine inv_tracked (B := B) J gr fl.1 u2 os ag ?_ na (exX_ok ⟨oe, vs, he, hz, hd⟩)
      cases e : sI.heap.get? a with
      | none => rfl
      | some u3 =>
        exfalso
        by_cases hm : a ∈ frs X.stack
        · rw [hst] at hm
          obtain ⟨_, o4, e4, n4⟩ := fl.2.2.1.mem hm
          have e5 := he.symm.trans e4
          cases e5
          exact n4 _ hd
        · have e4 := gr a u3 e hm
          rw [fl.2.1] at e4
          cases e4
    obtain ⟨oe3, vs3, he3, hz3, _⟩ := fl3.there
    have S3 := inv_suite0 (track h3 fl3 (up.trans up3)) a
    refine wpAny_handleBy_cons (codeAny_handlers_test ?_) (by intro z; cases z)
    have kind3 : PySem.W.Looks (model X.prog X.w) h3 (typeOf (.ref a)) cls := by
      intro A Q E r k q
      refine wpAny_typeOf_ref (k _ _ he3) ?_
      rw [hz3.1]
      exact q
    have hit := PySem.W.exm_one (M := model X.prog X.w) S3.kIn kind3 hkind
    have named : ∀ {Q : Value → Shared → Prop} {E : Value → Shared → Prop}, Q c { t0 with heap := h3 } → wpAny (model X.prog X.w) (X.A.mark (some (.ref a))) (eval (.Name x np) X.env) Q E { t0 with heap := h3 } := fun {Q E} q => by
      rcases hnm with ⟨g1, g2, g3 | ⟨g3, g4, g5⟩⟩
      · exact ld_glob (X := X.suite a (X.pn ++ pins)) S3 g1 g3 q g2
      · exact ld_blt (X := X.suite a (X.pn ++ pins)) S3 g1 g3 g4 q g5 g2
    refine named (hit.here (codeAny_handlers_suite_as (HandSPX.lands_againZ fl3 fun h4 fl4 up4 => ?_)))
    have S4 := inv_suite0 (track h4 fl4 ((up.trans up3).trans up4)) a
    refine store_ok (X := X.suite a (X.pn ++ pins)) (v := .ref a) S4 hnd hix slot_n rfl (fun s5 S5 => ?_) (Or.inr hkd)
    refine wpAny_mono ((hsuite a cls d (X.pn ++ pins)).run [] s5 _ _ _ S5 (hgo a na)) (fun f s6 hf => ?_) fun _ _ z => z.elim
    have close : ∀ {σ6 : L2.St} {H6 : Hp} {Q : Shared → Prop}, Inv (X.suite a (X.pn ++ pins)) [] σ6 H6 s6 → (∀ s7, Inv X pins (σ6.set i none) H6 s7 → Q s7) →
        wpAny (model X.prog X.w) X.A (do bindName X.env n .none; unbindBehindTheSuite X.env n pos2) (fun _ s7 => Q s7) X.xe s6 := fun J6 hq => gone_ok (inv_unsuite0 J6 oX) hnd hix hkd hq
    cases f with
    | next => exact let ⟨σ6, H6, J6, q⟩ := hf; close J6 fun s7 J7 => ⟨_, _, J7, q⟩
    | brk => exact let ⟨σ6, H6, J6, q⟩ := hf; close J6 fun s7 J7 => ⟨_, _, J7, q⟩
    | cont => exact let ⟨σ6, H6, J6, q⟩ := hf; close J6 fun s7 J7 => ⟨_, _, J7, q⟩
    | ret u => exact let ⟨v6, σ6, H6, J6, r6, q⟩ := hf; close J6 fun s7 J7 => ⟨_, _, _, J7, r6, q⟩
def rIsX (K : PySem.W.Frag) (D : Addr) : List V → Hp → VK → Prop := fun xs H Q => ∃ (a : Addr) (y : V) (u : Value) (b : Bool), xs = [.ref a, y] ∧ H a = some (ExX a (.ref D) none) ∧ ClsV y u ∧ PySem.W.kitOne K (.ref D) u = some b ∧ Q (.bl b) H
theorem call_isX {D : Addr} (C : ExcC X.K D) : CallR X (.builtin "isinstance") (rIsX X.K D) := by
  intro pins s σ H xs us Q I r hq
  obtain ⟨a, y, u, b, rfl, ha, hy, hk, q⟩ := hq
  obtain ⟨u1, u2, rfl, r1, r2⟩ := vals2 r
  have e2 := hy.eq r2
  subst e2
  cases (show u1 = Value.ref a from r1)
  obtain ⟨⟨oe, vs, he, hz, hd⟩, _, _⟩ := I.hok a _ ha
  obtain ⟨oc, od, dt, sl⟩ := oe
  obtain ⟨z1, z2⟩ := hz
  dsimp only at z1 z2 hd
  subst z1 z2 hd
  have J : PySem.W.InstAt s.heap a _ D none := ⟨he, rfl, rfl, trivial⟩
  exact PySem.W.kia_one (PySem.W.handS_kitx_exc C.hg C.hk C.hs C.hd C.ha C.hn C.ht C.hm) I.kIn J hk (fun z => nomatch z) fun tk => ⟨.bl b, H, I.tok tk, rfl, q⟩
end
def rIsXT (K : PySem.W.Frag) (D : Addr) : List V → Hp → VK → Prop := fun xs H Q => ∃ (a tp : Addr) (ys : List V) (us : List Value) (b : Bool), xs = [.ref a, .ref tp] ∧ H a = some (ExX a (.ref D) none) ∧ H tp = some (.tup ys) ∧ Paired ClsV ys us ∧ PySem.W.kitAny K (.ref D) us = some b ∧ Q (.bl b) H
theorem call_isXT {X : Cx} {D : Addr} (C : ExcC X.K D) : CallR X (.builtin "isinstance") (rIsXT X.K D) := by
  intro pins s σ H xs us Q I r hq
  obtain ⟨a, tp, ys, cs, b, rfl, ha, ht, hy, hk, q⟩ := hq
  obtain ⟨u1, u2, rfl, r1, r2⟩ := vals2 r
  cases (show u2 = Value.ref tp from r2)
  cases (show u1 = Value.ref a from r1)
  obtain ⟨⟨oe, vs, he, hz, hd⟩, _, _⟩ := I.hok a _ ha
  obtain ⟨oc, od, dt, sl⟩ := oe
  obtain ⟨z1, z2⟩ := hz
  dsimp only at z1 z2 hd
  subst z1 z2 hd
  have J : PySem.W.InstAt s.heap a _ D none := ⟨he, rfl, rfl, trivial⟩
  obtain ⟨_, its, rv, o, h1, h2, n, h3⟩ := (show ObjOk X.prog X.w H s.heap tp (.tup ys) from I.hok tp _ ht)
  have e3 := ClsV.all hy rv
  subst e3
  obtain ⟨tc, td, tdt, tsl⟩ := o
  simp only at h2 h3
  subst h2 h3
  exact PySem.W.kia_tup (PySem.W.handS_kitx_exc C.hg C.hk C.hs C.hd C.ha C.hn C.ht C.hm) I.kIn J h1 hk (fun z => nomatch z) fun tk => ⟨.bl b, H, I.tok tk, rfl, q⟩
theorem kit_own {K : PySem.W.Frag} {C : Addr} {t : Value} {b : Bool} (h1 : PySem.W.hasDictIn K C = true) (h2 : PySem.W.typeIn K (.ref C) = some (.type "type")) (h3 : PySem.W.subIn K t (.ref C) = some b) (h4 : b = true ∨ (t == .ref C) = false) : PySem.W.kitOne K t (.ref C) = some b := by
  obtain ⟨cd, hc, _⟩ := PySem.W.any_some h1
  unfold PySem.W.kitOne
  split
  · rename_i e
    rcases h4 with rfl | h4
    · rfl
    · rw [h4] at e; cases e
  · show (if ((PySem.W.clsIn K C).isSome && PySem.W.typeIn K (.ref C) == some (.type "type")) = true then PySem.W.subIn K t (.ref C) else none) = some b
    rw [if_pos (by rw [hc, h2]; rfl), h3]
theorem kit_val {K : PySem.W.Frag} {D : Addr} (h : PySem.W.subIn K (.ref D) (.type "ValueError") = some true) : PySem.W.kitOne K (.ref D) (.type "ValueError") = some true := by
  have hm : PySem.W.kitMeta "ValueError" = true := by decide +kernel
  show (if (Value.ref D == Value.type "ValueError") = true then some true else if PySem.W.kitMeta "ValueError" = true then PySem.W.subIn K (.ref D) (.type "ValueError") else none) = some true
  rw [if_neg (by intro z; exact absurd (beq_iff_eq.mp z) (by simp)), if_pos hm, h]

theorem okXC {P : Program} {w : World} {K : PySem.W.Frag} {mg : Str → Option Value} {base : Heap} {x qual : Str} {st : Stmt} {f c : Addr} {fd : FuncData} {N ps : List Str} {k : Nat} {sp : Sp} (F : Fun K x qual st f fd) (hc : fd.code = .ref c) (S : FnScope N ps (defScope st))
    (len : ∀ vs H Q E, sp vs H Q E → vs.length = ps.length)
    (hb : ∀ (A : Around) (outer : List Env) (s : Shared) (H : Hp) (vs : List V) (Q : VK) (E : XK), Room k (A.deeper (envOfC qual (defScope st) s.heap.objs.size f (.ref c))) → sp vs H Q E →
      ∃ t, PSs (cxOf (L2.CX P w) P w K mg base N qual (defScope st) f (.ref c) A outer s H E) (defBody st) t ∧ t { nx := fun _ H' => Q .non H', rt := Q } (L2.start N vs) H) : FnOk P w K mg base (L2.CX P w) (k + 1) f fd ps sp := by
  obtain ⟨oc, od, kV, doc, pm, an, cdv, ct, osl, rfl, lk, hcd⟩ := F.ex
  cases hc
  exact fn_of lk hcd S len fun A outer s H vs Q E hr hsp => hb A outer s H vs Q E hr hsp
theorem toX {P : Program} {w : World} {K : PySem.W.Frag} {mg : Str → Option Value} {base : Heap} {CX : CXT} {k : Nat} {f : Addr} {fd : FuncData} {ps : List Str} {sp : Sp} (F : FnOk P w K mg base CX0 k f fd ps sp) : FnOk P w K mg base CX k f fd ps sp :=
  ⟨F.len, fun A outer s H args us vs Q E hr e0 hb r h => codeAny_mono (F.run A outer s H args us vs Q E hr e0 hb r h) fun r s' hq => by
    cases r with
    | error e => exact (show False from hq).elim
    | ok fl => cases fl <;> exact hq⟩

def spB_table_made (C : Addr) : Sp := fun vs H Q E => ∃ (L : Str) (n few turn : Nat) (f : V), vs = [.str L, nI n, nI few, nI turn, f] ∧ L.length ≤ 26 ∧ n ≤ 6 ∧ few + turn ≤ 20 ∧ (4 < turn ∨ 600 < L.length * (few + turn) ^ n) ∧ E (.ref C) none H
def spB_judge_made (C : Addr) (TT : List NdefX.NTab) : Sp := fun vs H Q E => ∃ (v : V) (R : Rl), vs = [v] ∧ RlAt (fun _ => True) H v R ∧ R.ok ∧ NdefX.TabsN TT H ∧ (4 < turnR R ∨ 600 < R.L.length * (fewR R + turnR R) ^ R.n) ∧ ∀ H', LamX.ExtN H H' → NdefX.TabsN TT H' → E (.ref C) none H'
section
variable {P : Program} {w : World} {K : PySem.W.Frag} {mg : Str → Option Value} {base : Heap}
theorem okB_table_made (T : Txt K mg) : FnOk P w K mg base (L2.CX P w) 4 T.f_table_made T.d_table_made ["letters", "states", "few", "turn", "state_at"] (spB_table_made T.C_TooMany) := by
  have G_tuples_due : FnOk P w K mg base CX0 1 T.f_tuples_due T.d_tuples_due ["letters", "states", "classes"] sp_tuples_due := ok_tuples_due T
  have G_keys_due : FnOk P w K mg base CX0 2 T.f_keys_due T.d_keys_due ["letters", "states", "classes"] sp_keys_due := ok_keys_due T
  refine T.F_table_made.okX sc_table_made (fun vs H Q E h => ?_) (fun cdv A outer s H vs Q E hr h => ?_)
  · obtain ⟨L, n, few, turn, f, rfl, _⟩ := h
    rfl
  obtain ⟨L, n, few, turn, f, rfl, h26, h6, h20, hbad, q⟩ := h
  have C_state_at : CalX P w K mg base 1 0 (fun _ => False) 2 (fun _ _ _ _ => False) := ⟨fun _ _ _ _ h => h.elim, fun _ _ _ _ h => h.elim, fun _ _ _ _ _ _ _ _ _ _ h => h.elim⟩
  refine ⟨_, (pss_cons (ps_if (pt_cmpR op_gt (pv 3) (pe_glob (v := .int (4)) rfl T.g_MOST_TURN ⟨_, rfl⟩) (nomark _)) (pss_one (ps_raise rfl (takes_of rfl rfl rfl rfl) (pmk_own PySem.F.excBase_ValueError T.x_TooMany T.g_TooMany T.k_TooMany (raises_own T.b_TooMany T.t_TooMany) rfl))) pss_nil) (pss_cons (ps_if (pt_cmpR op_gt (pe_call G_tuples_due (hr.mono (by omega)) (by rfl) T.m_tuples_due T.F_tuples_due.kp T.b_tuples_due .nil pass0 (pa_cons (pv 0) (pa_cons (pv 1) (pa_cons (pe_op op_add (pv 2) (pv 3)) pa_nil)))) (pe_glob (v := .int (600)) rfl T.g_MOST_TUPLES ⟨_, rfl⟩) (nomark _)) (pss_one (ps_raise rfl (takes_of rfl rfl rfl rfl) (pmk_own PySem.F.excBase_ValueError T.x_TooMany T.g_TooMany T.k_TooMany (raises_own T.b_TooMany T.t_TooMany) rfl))) pss_nil) (pss_cons (ps_set (i := 5) sc_table_made.nd rfl (Or.inl rfl) (pe_call G_keys_due (hr.mono (by omega)) (by rfl) T.m_keys_due T.F_keys_due.kp T.b_keys_due .nil pass0 (pa_cons (pv 0) (pa_cons (pv 1) (pa_cons (pe_op op_add (pv 2) (pv 3)) pa_nil))))) (pss_one (ps_ret (pe_dcN (own := [("letter", 6), ("row", 7)]) (tt := tYes) (g := (gTup K 2 (gCons (gName 6) (gCons (gName 7) gNil))))  (roomN hr) rfl sc_table_made.nd (pi_list (pv 5)) (blkOk_by (own := [("letter", 6), ("row", 7)]) (N := ["letters", "states", "few", "turn", "state_at", "keys", "letter", "row"]) (sc := (defScope s_table_made)) (by decide +kernel)) (fun _ _ _ _ _ => (pg_tup rfl (pgs_cons (pg_name (i := 6) sc_table_made.nd rfl (Or.inl rfl)) (pgs_cons (pg_name (i := 7) sc_table_made.nd rfl (Or.inl rfl)) pgs_nil)))) (fun _ _ _ _ _ => pts_nil) (fun _ _ _ _ _ => (pe_tup (pa_cons (pv 6) (pa_cons (pv 7) pa_nil)))) (fun _ _ _ _ _ => (pe_calX (i := 4) C_state_at (hr.mono (by omega)) rfl (.inr (.inl (by rfl))) (pa_cons (pv 6) (pa_cons (pv 7) pa_nil)))))))))), ?_⟩
  by_cases h4 : 4 < turn
  · exact ⟨_, rfl, _, _, rfl, rfl, _, rfl, dT (by omega) q⟩
  · refine ⟨_, rfl, _, _, rfl, rfl, _, rfl, dF (by omega) ?_⟩
    refine ⟨_, rfl, _, rfl, _, rfl, _, rfl, _, _, rfl, rfl, L, n, few + turn, rfl, h26, h6, h20, _, _, rfl, rfl, _, rfl, dT (by omega) q⟩
theorem okB_judge_made (T : Txt K mg) (B : Tbs T base) (M : KTab K w T.a_MADE_OF_OTHERS made) {TT : List NdefX.NTab} (hTT : TTj T TT) : FnOk P w K mg base (L2.CX P w) 15 T.f_judge_made T.d_judge_made ["rules"] (spB_judge_made T.C_TooMany TT) := by
  have G__few_and_turn : FnOk P w K mg base CX0 5 T.f__few_and_turn T.d__few_and_turn ["conditions"] sp__few_and_turn := ok__few_and_turn T M
  have G_table_made : FnOk P w K mg base (L2.CX P w) 4 T.f_table_made T.d_table_made ["letters", "states", "few", "turn", "state_at"] (spB_table_made T.C_TooMany) := okB_table_made T
  refine okXC T.F_judge_made T.h_judge_made sc_judge_made (fun vs H Q E h => ?_) (fun A outer s H vs Q E hr h => ?_)
  · obtain ⟨v, R, rfl, _⟩ := h
    rfl
  obtain ⟨v, R, rfl, hR, hok, hT, hbad, q⟩ := h
  obtain ⟨a, d, g, es, rfl, ha, _, hd, _, hes, hg, _⟩ := hR
  refine ⟨_, (pss_cons (ps_asg (pv 0) (pg_tup rfl (pgs_cons (pg_name (i := 1) sc_judge_made.nd rfl (Or.inl rfl)) (pgs_cons (pg_name (i := 2) sc_judge_made.nd rfl (Or.inl rfl)) (pgs_cons (pg_name (i := 3) sc_judge_made.nd rfl (Or.inr rfl)) (pgs_cons (pg_name (i := 4) sc_judge_made.nd rfl (Or.inl rfl)) pgs_nil)))))) (pss_cons (ps_asg (pe_call G__few_and_turn (hr.mono (by omega)) (by rfl) T.m__few_and_turn T.F__few_and_turn.kp T.b__few_and_turn .nil pass0 (pa_cons (pe_lc2 (own := [("letter", 8), ("condition", 9), ("_", 10)]) (vs1 := [9, 10]) (g := gName 8) (g1 := gTup K 2 (gCons (gName 9) (gCons (gName 10) gNil))) (tt := tYes) (tt1 := tYes) (wi1 := iList K (tDGet (tVar 3) (tVar 8))) (te := tVar 9) rfl sc_judge_made.nd (pi_str (pv 1)) (blkOk_by (own := [("letter", 8), ("condition", 9), ("_", 10)]) (N := ["rules", "letters", "states", "rows", "good", "few", "turn", "table", "letter", "condition", "_"]) (sc := (defScope s_judge_made)) (by decide +kernel)) (by decide) (fun _ _ _ _ _ => (pg_name (i := 8) sc_judge_made.nd rfl (Or.inl rfl))) (fun _ _ _ _ _ => pts_nil) (fun _ _ _ _ _ => (pi_list (pe_dget (hu_of hr) (pv 3) (pv 8) (fun _ _ => rfl)))) (fun _ _ _ _ _ => (pg_tup rfl (pgs_cons (pg_name (i := 9) sc_judge_made.nd rfl (Or.inl rfl)) (pgs_cons (pg_name (i := 10) sc_judge_made.nd rfl (Or.inl rfl)) pgs_nil)))) (fun _ _ _ _ _ => pts_nil) (fun _ _ _ _ _ => (pv 9))) pa_nil)) (pg_tup rfl (pgs_cons (pg_name (i := 5) sc_judge_made.nd rfl (Or.inl rfl)) (pgs_cons (pg_name (i := 6) sc_judge_made.nd rfl (Or.inl rfl)) pgs_nil)))) (pss_cons (ps_set (i := 7) sc_judge_made.nd rfl (Or.inl rfl) (pe_call G_table_made (hr.mono (by omega)) (by rfl) T.m_table_made T.F_table_made.kp T.b_table_made .nil (passes_call (takes_of rfl rfl rfl rfl) fun _ _ _ _ h => h) (pa_cons (pv 1) (pa_cons (pv 2) (pa_cons (pv 5) (pa_cons (pv 6) (pa_cons (pe_lamXc B.tb_judge_made rfl (by rfl) (fr := ["rows"]) (by show NdefX.ndefB (defScope s_judge_made) _ _ = true; decide +kernel)) pa_nil))))))) (pss_one (ps_ret (pe_tup (pa_cons (pv 1) (pa_cons (pv 2) (pa_cons (pv 5) (pa_cons (pv 6) (pa_cons (pv 7) (pa_cons (pe_callTy call_list_of (by rfl) T.z_list (by decide +kernel) (pa_cons (pv 4) pa_nil)) pa_nil)))))))))))), ?_⟩
  refine ⟨_, rfl, _, _, rfl, SqT.of ha, rfl, ?_⟩
  refine ⟨_, _, rfl, _, _, rfl, _, _, rfl, _, _, rfl, rfl, ?_⟩
  refine ⟨_, rfl, R.L, rfl, fun D hD => ?_⟩
  have lsz : R.L.cps.size = R.L.cps.toList.length := (Array.length_toList).symm
  have l26 : R.L.cps.toList.length ≤ 26 := by rw [← lsz]; exact hok.L.2.1
  have nDd : d ≠ D := ne_of_none hd hD
  refine lc_walk (len := R.L.cps.size) walk_str (fun j H2 => ∃ ws : List V, H2 D = some (.lst ws) ∧ ws.length ≤ 100 * j ∧ DtAll (fun b => b ≠ D) H2 ws (((R.L.cps.toList.take j).flatMap fun c => ((R.rows.lookup c).getD []).map (·.1)).map Cd.dat) ∧ Same H H2)
    ⟨[], upd_same, Nat.le_refl _, .nil, same_new hD⟩ (fun _ _ _ _ => trivial) ?_ ?_
  · rintro j x H2 H2' hj ⟨ws, g1, g2, g3, g4⟩ ⟨rfl, c, hc, rfl⟩
    have hc2 : R.L.cps.toList[j]? = some c := by rw [Array.getElem?_toList]; exact hc
    obtain ⟨rs, hrs, hro⟩ := hok.at (List.mem_of_getElem? hc2)
    obtain ⟨rv, hv1, hv2⟩ := rows_val hes hrs
    have hv3 := hv2.off hD
    obtain ⟨r100, _, _⟩ := id hro
    cases hv3 with
    | @lst p xs ds hp _ hl r =>
    have lr := r.len
    rw [List.length_map] at lr
    refine ⟨rfl, _, rfl, _, rfl, d, _, rfl, ?_, p, rfl, ⟨_, SqL.of (g4 _ _ hp)⟩, ?_⟩
    · have := DGet.k (k := .inr (ch c)) (g4 _ _ hd)
      rw [hv1] at this
      exact this
    refine lc_outer (xs := xs) (fun m H3 => ∃ us : List V, H3 D = some (.lst (ws ++ us)) ∧ us.length = m ∧ DtAll (fun b => b ≠ D) H3 ws (((R.L.cps.toList.take j).flatMap fun c => ((R.rows.lookup c).getD []).map (·.1)).map Cd.dat) ∧ DtAll (fun b => b ≠ D) H3 us (((rs.take m).map (·.1)).map Cd.dat) ∧ Same H H3)
      ⟨[], by simpa using g1, rfl, g3, .nil, g4⟩ (fun m H3 _ ⟨_, _, _, _, _, s⟩ => SqL.of (s _ _ hp)) ?_ ?_
    · rintro m z H3 hz ⟨us, k1, k2, k3, k4, k5⟩
      obtain ⟨dz, hdz, hz2⟩ := r.getV hz
      rw [List.getElem?_map] at hdz
      cases hcm : rs[m]? with
      | none => rw [hcm] at hdz; cases hdz
      | some r1 =>
      rw [hcm] at hdz
      cases hdz
      have hm := (List.getElem?_eq_some_iff.mp hcm).1
      cases hz2 with
      | @tup pr ys _ hpr _ _ rr =>
      cases rr with
      | @cons cv _ _ _ c1 c2 =>
      cases c2 with
      | cons c2 c3 =>
      cases c2
      cases c3
      refine ⟨pr, _, rfl, SqT.of (k5 _ _ hpr), rfl, _, _, rfl, _, _, rfl, rfl, rfl, _, rfl, _, k1, ?_, us ++ [cv], ?_, by rw [List.length_append, k2]; rfl, k3.keep (upd_keep fun b h => h), ?_, same_add k5 hD⟩
      · rw [List.length_append]
        exact Nat.lt_of_le_of_lt (show _ ≤ 1000000 by omega) (by decide)
      · rw [upd_same, List.append_assoc]
      · rw [take_succ_of hcm, List.map_append, List.map_append]
        exact (dtAll_app k4 (.cons ((c1.weak fun b h => h.2).same k5) .nil)).keep (upd_keep fun b h => h)
    · rintro H3 ⟨us, k1, k2, k3, k4, k5⟩
      refine ⟨ws ++ us, k1, by rw [List.length_append]; omega, ?_, k5⟩
      rw [flat_take _ hc2, List.map_append, hrs]
      rw [lr, List.take_length] at k4
      exact dtAll_app k3 k4
  · rintro H2 ⟨ws, g1, g2, g3, g4⟩
    rw [lsz, List.take_length] at g3
    have cok : ∀ c ∈ condsOf R, c.ok R.n ∧ c.deep ≤ 4 := fun c hc => by
      obtain ⟨l, hl, hc⟩ := List.mem_flatMap.mp hc
      obtain ⟨rs, hrs, hro⟩ := hok.at hl
      rw [hrs] at hc
      obtain ⟨r, hr, rfl⟩ := List.mem_map.mp hc
      obtain ⟨_, h2, _⟩ := hro
      exact ⟨(h2 r hr).1, (h2 r hr).2.1⟩
    have lg := g3.len
    rw [List.length_map] at lg
    refine ⟨D, ws, condsOf R, R.n, rfl, g1, g3.weak fun _ _ => trivial, cok, by show (condsOf R).length ≤ 5000; unfold condsOf; omega, fun p H3 s3 hp => ?_⟩
    have S3 := g4.trans s3
    have pok : ∀ p ∈ (condsOf R).flatMap Cd.plains, p.ok R.n := fun p hp => by
      obtain ⟨c, hc, hp⟩ := List.mem_flatMap.mp hp
      exact (plains_plain R.n c (cok c hc).1 p hp).2
    have few4 : fewR R ≤ 4 := fewP_le _ 0 (by decide) pok
    have turn1 : 1 ≤ turnR R := (le12 (turnP_12 (n := R.n) _ 1 (by decide) pok)).1
    refine ⟨p, _, rfl, SqT.of hp, rfl, _, _, rfl, _, _, rfl, rfl, ?_⟩
    have T3 := hT.ext S3
    have t12 : turnR R ≤ 12 := (le12 (turnP_12 (n := R.n) _ 1 (by decide) pok)).2
    refine ⟨_, rfl, _, rfl, _, rfl, _, rfl, NdefX.TabN.to (T3 _ hTT.r1), fun f c H1 f1 n1 T1 hf0 hf hc => ?_⟩
    have E1 : LamX.ExtN H3 H1 := extN_of_frP T3 hTT.r1 f1
    have TN1 : NdefX.TabsN TT H1 := tabsN_frP T3 hTT.r1 hTT.r2 f1 T1
    have E01 : LamX.ExtN H H1 := fun b o e n => E1 b o (S3 b o e) n
    exact ⟨R.L, R.n, fewR R, turnR R, .ref f, rfl, hok.L.2.1, hok.n6, by omega, hbad, q _ E01 TN1⟩
end

def ItzS (x y : Str) : It := ⟨fun n _ => n < x.cps.size ∧ n < y.cps.size,
  fun n H v H' => ∃ (p : Addr) (c d : Nat), v = .ref p ∧ H p = none ∧ H' = upd H p (.tup [.str (ch c), .str (ch d)]) ∧ x.cps[n]? = some c ∧ y.cps[n]? = some d,
  fun n _ => n ≤ x.cps.size ∧ n ≤ y.cps.size ∧ (n = x.cps.size ∨ n = y.cps.size)⟩
theorem five {z TI TO i1 i2 b : Addr} (h : b ∈ [z, TI, TO, i1, i2]) : b = z ∨ b = TI ∨ b = TO ∨ b = i1 ∨ b = i2 := by simpa using h
theorem turn_zipS {P : Program} {w : World} {K : PySem.W.Frag} {parts : List PySem.Expr} {many : Nat} {at_ : Pos} {z TI TO i1 i2 : Addr} (S : ZipSep2 z TI TO i1 i2 [i1] [i2]) (x y : Str) (t u : Tok) :
    Turn P w K (.Tuple parts many at_) (ItzS x y) [z, TI, TO, i1, i2] z (fun n h => IsZip h z TI TO .none ∧ IsTupOf2 h TI (.ref i1) (.ref i2) ∧ (∃ a b, IsTupOf2 h TO a b) ∧ h.IsStrIter i1 (strIterType x) x t n ∧ h.IsStrIter i2 (strIterType y) y u n) where
  mem := List.mem_cons_self
  obj := by
    rintro n h ⟨hz, hTI, ⟨a, b, hTO⟩, ⟨o1, e1, _, d1⟩, ⟨o2, e2, _, d2⟩⟩ c hc
    rcases five hc with rfl | rfl | rfl | rfl | rfl
    · exact ⟨_, hz, fun v q => nomatch q⟩
    · exact ⟨_, hTI, fun v q => nomatch q⟩
    · exact ⟨_, hTO, fun v q => nomatch q⟩
    · exact ⟨o1, e1, fun v q => by rw [d1] at q; cases q⟩
    · exact ⟨o2, e2, fun v q => by rw [d2] at q; cases q⟩
  keep := by
    rintro n h h' ⟨hz, hTI, ⟨a, b, hTO⟩, ⟨o1, e1, r1⟩, ⟨o2, e2, r2⟩⟩ k
    exact ⟨k z (by simp) _ hz, k TI (by simp) _ hTI, ⟨a, b, k TO (by simp) _ hTO⟩, ⟨o1, k i1 (by simp) _ e1, r1⟩, ⟨o2, k i2 (by simp) _ e2, r2⟩⟩
  item := by
    rintro X rfl rfl rfl calm n pins s σ H E I free ⟨hz, hTI, ⟨a, b, hTO⟩, h1, h2⟩ ⟨lt1, lt2⟩
    have D1 := Draws.text (prog := X.prog) (w := X.w) (A := X.A.in1) (I.ok.hd calm) i1 x t
    have D2 := Draws.text (prog := X.prog) (w := X.w) (A := X.A.in1) (I.ok.hd calm) i2 y u
    have low : z < s.heap.objs.size := Heap.lt_size hz
    refine wpAny_pyNext_zipD2_item S D1 D2 hz hTI hTO h1 h2 lt1 lt2 ?_
    rintro _ _ h3 tk ⟨c, tc, hc, rfl⟩ ⟨d, td, hd, rfl⟩ out pair n1 n2 made _ stays
    refine ⟨_, rfl, wpAny_letOwnedTupleGo_zip (s := { s with heap := h3, toks := tk }) out fun h4 back but => ?_⟩
    have made4 : h4.get? s.heap.objs.size = some { cls := .type "tuple", data := .seq #[.str ⟨#[c]⟩ tc, .str ⟨#[d]⟩ td] } := (but.2 _ (Nat.ne_of_gt low)).trans made
    have new : ObjOk X.prog X.w (upd H s.heap.objs.size (.tup [.str (ch c), .str (ch d)])) h4 s.heap.objs.size (.tup [.str (ch c), .str (ch d)]) :=
      ⟨by show 2 ≤ sizeLine; decide, [.str ⟨#[c]⟩ tc, .str ⟨#[d]⟩ td], .cons ⟨_, rfl⟩ (.cons ⟨_, rfl⟩ .nil), _, made4, rfl, _, rfl⟩
    have J : Inv X pins σ (upd H s.heap.objs.size (.tup [.str (ch c), .str (ch d)])) { s with heap := h4, toks := tk } :=
      I.turnedNew (t' := tk) (ch := [z, TI, TO, i1, i2]) (fun b ob hb e => by
        have ne : b ≠ z ∧ b ≠ TO ∧ b ≠ i1 ∧ b ≠ i2 := ⟨fun q => hb (by simp [q]), fun q => hb (by simp [q]), fun q => hb (by simp [q]), fun q => hb (by simp [q])⟩
        exact (but.2 b ne.1).trans (stays b ob ne.1 ne.2.1 ne.2.2.1 ne.2.2.2 e)) free (Nat.le_refl _) new
    refine ⟨.ref s.heap.objs.size, _, J, rfl, ⟨_, c, d, rfl, I.hok.fresh (Nat.le_refl _), rfl, hc, hd⟩, ⟨back, ?_, ⟨_, _, (but.2 _ S.TOz).trans pair⟩, D1.over n1 but S.zf1, D2.over n2 but S.zf2⟩, fun b hb => ?_⟩
    · exact (but.2 _ S.TIz).trans (stays _ _ S.TIz S.TITO S.TIi1 S.TIi2 hTI)
    · have lt : b < s.heap.objs.size := by
        rcases five hb with rfl | rfl | rfl | rfl | rfl
        · exact low
        · exact Heap.lt_size hTI
        · exact Heap.lt_size hTO
        · obtain ⟨_, e, _⟩ := h1; exact Heap.lt_size e
        · obtain ⟨_, e, _⟩ := h2; exact Heap.lt_size e
      rw [upd_ne (Nat.ne_of_lt lt)]
      exact (free b hb).1
  done := by
    rintro X rfl rfl rfl calm n pins s σ H E I free ⟨hz, hTI, ⟨a, b, hTO⟩, h1, h2⟩ ⟨le1, le2, over⟩
    have D1 := Draws.text (prog := X.prog) (w := X.w) (A := X.A.in1) (I.ok.hd calm) i1 x t
    have D2 := Draws.text (prog := X.prog) (w := X.w) (A := X.A.in1) (I.ok.hd calm) i2 y u
    exact wpAny_pyNext_zipD2_end S D1 D2 hz hTI hTO h1 h2 le1 le2 over fun h' tk stays => ⟨rfl, I.turnedL (t' := tk) (ch := [z, TI, TO, i1, i2]) (fun b ob hb e =>
      stays b ob (fun q => hb (by simp [q])) (fun q => hb (by simp [q])) (fun q => hb (by simp [q])) (fun q => hb (by simp [q])) e) free⟩
  self := fun A n s Q E st h => wpAny_pyIter_zip st.1 h
def iZipS (ta : TA) : TI := fun σ H R => ta σ H fun vs H1 => ∃ x y, vs = [.str x, .str y] ∧ R (ItzS x y) H1
theorem sep_new (n : Nat) : ZipSep2 (n + 4) (n + 2) (n + 3) n (n + 1) [n] [n + 1] := by
  constructor <;> simp <;> omega
theorem pi_zipS {X : Cx} {e e2 : PySem.Expr} {ta : TA} {p pos at_ : Pos} {parts : List PySem.Expr} {many : Nat} (hg : Gl X "zip") (hm : X.mg "zip" = none) (ha : PA X [e, e2] ta)
    (hs : starEach [e, e2] X.env = (false, eval e X.env) :: starEach [e2] X.env := by rfl) (hpl : (backTo pos (starEach [e2] X.env)).any (·.1) = false := by rfl) :
    PI X (.Tuple parts many at_) (.Call (.Name "zip" p) [e, e2] [] pos) (iZipS ta) := by
  refine ⟨fun pins s σ H R I h => Call_ (ld_blt I hg hm PyProof.Rows.boot_zip (PyProof.Rows.callWith_type1 (thn (ha.run pos pins s σ H _ I h) ?_) hs hpl))⟩
  rintro us s1 ⟨_, H1, I1, r1, x, y, rfl, q⟩
  obtain ⟨_, _, rfl, ⟨t, rfl⟩, u, rfl⟩ := Vals.two r1
  refine zip_begins2 (begins_text x t) (begins_text y u) trivial trivial fun h' hz hTI hTO g1 g2 _ keep => wpAny_pyIter_zip hz ?_
  refine ⟨s1.heap.objs.size + 4, [s1.heap.objs.size + 4, s1.heap.objs.size + 2, s1.heap.objs.size + 3, s1.heap.objs.size, s1.heap.objs.size + 1], _, _, H1, rfl, I1.kept (t' := s1.toks) keep, turn_zipS (sep_new _) x y t u, ⟨hz, hTI, ⟨_, _, hTO⟩, ⟨_, g1, rfl, rfl⟩, ⟨_, g2, rfl, rfl⟩⟩, fun b hb => ?_, q⟩
  have hle : s1.heap.objs.size ≤ b := by rcases five hb with rfl | rfl | rfl | rfl | rfl <;> omega
  exact I1.fpOk hle (I1.hok.fresh hle)
theorem walk_zipS {x y : Str} {n : Nat} (hn : n = min x.cps.size y.cps.size) : Walk (ItzS x y) n (fun _ => True) (fun i H v H' => ∃ (p : Addr) (c d : Nat), v = .ref p ∧ H p = none ∧ H' = upd H p (.tup [.str (ch c), .str (ch d)]) ∧ x.cps[i]? = some c ∧ y.cps[i]? = some d) :=
  ⟨fun i _ hi _ => ⟨by omega, by omega⟩, fun _ _ => ⟨by omega, by omega, by omega⟩, fun _ _ _ _ _ _ y => y⟩


def sp_is_whole : Sp := fun vs H Q _ => ∃ i : Int, vs = [.int i] ∧ Q (.bl true) H
def sp_is_whole_within : Sp := fun vs H Q _ => ∃ i lo hi : Int, vs = [.int i, .int lo, .int hi] ∧ lo ≤ i ∧ i ≤ hi ∧ Q (.bl true) H
def sp__rises_str : Sp := fun vs H Q _ => ∃ L : Str, vs = [.str L] ∧ Lets L ∧ Rises L ∧ ∀ H', Same H H' → Q (.bl true) H'
def sp__rises_lst (K : PySem.W.Frag) : Sp := fun vs H Q _ => ∃ (a : Addr) (g : List Nat), vs = [.ref a] ∧ H a = some (.lst (g.map nI)) ∧ g.Pairwise (· < ·) ∧ g.length ≤ 100 ∧ ∀ H', Same H H' → Q (.bl true) H'
def sp_are_letters : Sp := fun vs H Q _ => ∃ L : Str, vs = [.str L] ∧ Lets L ∧ Rises L ∧ ∀ H', Same H H' → Q (.bl true) H'
def sp_are_rising_states : Sp := fun vs H Q _ => ∃ (a : Addr) (g : List Nat) (n : Nat), vs = [.ref a, nI n] ∧ H a = some (.lst (g.map nI)) ∧ g.Pairwise (· < ·) ∧ g.length ≤ 100 ∧ (∀ x ∈ g, x < n) ∧ ∀ H', Same H H' → Q (.bl true) H'
theorem rep_succ {α : Type} (n : Nat) (x : α) : List.replicate (n + 1) x = List.replicate n x ++ [x] := by
  rw [List.replicate_succ']
theorem all_rep (n : Nat) : (List.replicate n true).all id = true := by
  rw [List.all_eq_true]
  intro x hx
  rw [List.eq_of_mem_replicate hx]
  rfl
theorem cut_str {L : Str} (h : 1 ≤ L.length) : (cutS L (some 1) none).cps = (L.cps.toList.drop 1).toArray := by
  have h1 : HT.sIx L.length 0 (some 1) = 1 := by
    have := HT.sIx_nat L.length 0 1
    rw [show ((1 : Nat) : Int) = 1 from rfl] at this
    rw [this]
    omega
  unfold cutS
  rw [h1, HT.sIx_none]
  have : (L.cps.toList.drop 1).take (L.length - 1) = L.cps.toList.drop 1 := List.take_of_length_le (by rw [List.length_drop, Array.length_toList]; exact Nat.le_refl _)
  rw [this]
theorem cut_one {L : Str} (h : 1 ≤ L.length) (j : Nat) : (cutS L (some 1) none).cps[j]? = L.cps[j + 1]? := by
  rw [cut_str h, List.getElem?_toArray, List.getElem?_drop, Array.getElem?_toList, Nat.add_comm]
theorem cut_size {L : Str} (h : 1 ≤ L.length) : (cutS L (some 1) none).cps.size = L.cps.size - 1 := by
  rw [cut_str h, List.size_toArray, List.length_drop, Array.length_toList]
section
variable {P : Program} {w : World} {K : PySem.W.Frag} {mg : Str → Option Value} {base : Heap}
theorem ok_is_whole (T : Txt K mg) : FnOk P w K mg base CX0 1 T.f_is_whole T.d_is_whole ["thing"] sp_is_whole := by
  refine T.F_is_whole.ok sc_is_whole (fun vs H Q E h => ?_) (fun cdv A outer s H vs Q E hr h => ?_)
  · obtain ⟨i, rfl, _⟩ := h
    rfl
  obtain ⟨i, rfl, q⟩ := h
  refine ⟨_, (pss_one (ps_ret (pe_and (pe_callB call_isi (by rfl) T.z_isinstance (by decide +kernel) (pa_cons (pv 0) (pa_cons (pe_bltn (v := .ty "int") (by rfl) T.z_int (by decide +kernel) rfl) pa_nil))) (pe_one (pe_not (pe_callB call_isi (by rfl) T.z_isinstance (by decide +kernel) (pa_cons (pv 0) (pa_cons (pe_bltn (v := .ty "bool") (by rfl) T.z_bool (by decide +kernel) rfl) pa_nil)))))))), ?_⟩
  refine ⟨_, rfl, _, _, _, _, true, rfl, .ty "int", .base (.int _), kit_ty (by decide +kernel), _, rfl, iteT ?_⟩
  exact ⟨_, rfl, _, _, _, _, false, rfl, .ty "bool", .base (.int _), kit_ty (by decide +kernel), _, rfl, q⟩
theorem ok_is_whole_within (T : Txt K mg) : FnOk P w K mg base CX0 2 T.f_is_whole_within T.d_is_whole_within ["thing", "low", "high"] sp_is_whole_within := by
  have G_is_whole : FnOk P w K mg base CX0 1 T.f_is_whole T.d_is_whole ["thing"] sp_is_whole := ok_is_whole T
  refine T.F_is_whole_within.ok sc_is_whole_within (fun vs H Q E h => ?_) (fun cdv A outer s H vs Q E hr h => ?_)
  · obtain ⟨i, lo, hi, rfl, _⟩ := h
    rfl
  obtain ⟨i, lo, hi, rfl, h1, h2, q⟩ := h
  refine ⟨_, (pss_one (ps_ret (pe_and (pe_call G_is_whole (hr.mono (by omega)) (by rfl) T.m_is_whole T.F_is_whole.kp T.b_is_whole .nil pass0 (pa_cons (pv 0) pa_nil)) (pe_one (pe_chain op_le op_le (pv 1) (pv 0) (pv 2)))))), ?_⟩
  refine ⟨_, rfl, i, rfl, _, rfl, iteT ?_⟩
  refine ⟨_, rfl, _, rfl, _, _, rfl, rfl, _, rfl, dT h1 ?_⟩
  refine ⟨_, rfl, _, _, rfl, rfl, ?_⟩
  show Q (V.bl (decide (i ≤ hi))) H
  rw [decide_eq_true h2]
  exact q
theorem ok__rises_str (T : Txt K mg) : FnOk P w K mg base CX0 1 T.f__rises T.d__rises ["row"] sp__rises_str := by
  refine T.F__rises.ok sc__rises (fun vs H Q E h => ?_) (fun cdv A outer s H vs Q E hr h => ?_)
  · obtain ⟨L, rfl, _⟩ := h
    rfl
  obtain ⟨L, rfl, hL, hR, q⟩ := h
  refine ⟨_, (pss_one (ps_ret (pe_callB (cr_all rfl) (by rfl) T.z_all (by decide +kernel) (pa_cons (pe_lc (own := [("low", 1), ("high", 2)]) (g := gTup K 2 (gCons (gName 1) (gCons (gName 2) gNil))) (tt := tYes) rfl sc__rises.nd (pi_zipS (by rfl) T.z_zip (pa_cons (pv 0) (pa_cons (pe_slice sl_str (pv 0) (po_some pe_int) po_none) pa_nil))) (blkOk_by (own := [("low", 1), ("high", 2)]) (N := ["row", "low", "high"]) (sc := (defScope s__rises)) (by decide +kernel)) (fun _ _ _ _ _ => (pg_tup rfl (pgs_cons (pg_name (i := 1) sc__rises.nd rfl (Or.inl rfl)) (pgs_cons (pg_name (i := 2) sc__rises.nd rfl (Or.inl rfl)) pgs_nil)))) (fun _ _ _ _ _ => pts_nil) (fun _ _ _ _ _ => (pe_cmpR op_lt_str (pv 1) (pv 2) (nomark _)))) pa_nil)))), ?_⟩
  have lsz : L.cps.size = L.cps.toList.length := (Array.length_toList).symm
  have l26 : L.cps.toList.length ≤ 26 := by rw [← lsz]; exact hL.2.1
  have hcut : ∀ j : Nat, (cutS L (some 1) none).cps[j]? = L.cps[j + 1]? := cut_one hL.1
  have hsz : (cutS L (some 1) none).cps.size = L.cps.size - 1 := cut_size hL.1
  refine ⟨_, rfl, _, rfl, 1, rfl, L, rfl, Nat.le_of_lt (Nat.lt_of_le_of_lt (show _ ≤ 1000000 by have := hL.2.1; omega) (by decide)), L, _, rfl, fun D hD => ?_⟩
  refine lc_it (n := L.cps.size - 1) (walk_zipS (by rw [hsz]; omega)) (fun i H2 => H2 D = some (.lst ((List.replicate i true).map V.bl)) ∧ Same H H2) ⟨upd_same, same_new hD⟩ (fun _ _ _ _ => trivial) ?_ ?_
  · rintro i x H2 H3 hi ⟨g1, g2⟩ ⟨p, c, d, rfl, hp, rfl, hc, hd⟩
    rw [hcut] at hd
    have lt : c < d := by
      have h1 := Array.getElem?_eq_some_iff.mp hc
      have h2 := Array.getElem?_eq_some_iff.mp hd
      have := (List.pairwise_iff_getElem.mp hR) i (i + 1) (by rw [← lsz]; exact h1.1) (by rw [← lsz]; exact h2.1) (by omega)
      simpa [h1.2, h2.2] using this
    have sp := same_new (o := .tup [.str (ch c), .str (ch d)]) hp
    have kp := upd_same (H := H2) (a := p) (o := .tup [.str (ch c), .str (ch d)])
    generalize upd H2 p (.tup [.str (ch c), .str (ch d)]) = H4 at *
    refine ⟨p, _, rfl, SqT.of kp, rfl, _, _, rfl, _, _, rfl, rfl, rfl, _, rfl, _, rfl, _, _, rfl, rfl, ?_⟩
    have e : decide ((ch c).cps.toList < (ch d).cps.toList) = true := decide_eq_true (List.cons_lt_cons_iff.mpr (.inl lt))
    rw [e]
    refine ⟨_, sp _ _ g1, ?_, ?_, same_add (g2.trans sp) hD⟩
    · rw [List.length_map, List.length_replicate]
      exact Nat.lt_of_le_of_lt (show _ ≤ 1000000 by omega) (by decide)
    · rw [upd_same, rep_succ, List.map_append]
      rfl
  · rintro H2 ⟨g1, g2⟩
    refine ⟨D, _, rfl, SqL.of g1, ?_⟩
    rw [all_rep]
    exact q H2 g2
end

theorem tru_str {K : PySem.W.Frag} {H : Hp} {L : Str} (h : 1 ≤ L.length) (h2 : L.length ≤ 26) : TruV K (.str L) H true := by
  refine ⟨Nat.le_of_lt (Nat.lt_of_le_of_lt (show _ ≤ 1000000 by omega) (by decide)), ?_⟩
  have : (L.length : Int) ≠ 0 := by omega
  have h3 : ¬ L.length = 0 := by omega
  simp [h3]
section
variable {P : Program} {w : World} {K : PySem.W.Frag} {mg : Str → Option Value} {base : Heap}
theorem ok__rises_lst (T : Txt K mg) : FnOk P w K mg base CX0 1 T.f__rises T.d__rises ["row"] (sp__rises_lst K) := by
  refine T.F__rises.ok sc__rises (fun vs H Q E h => ?_) (fun cdv A outer s H vs Q E hr h => ?_)
  · obtain ⟨a, g, rfl, _⟩ := h
    rfl
  obtain ⟨a, g, rfl, ha, hR, h100, q⟩ := h
  refine ⟨_, (pss_one (ps_ret (pe_callB (cr_all rfl) (by rfl) T.z_all (by decide +kernel) (pa_cons (pe_lc (own := [("low", 1), ("high", 2)]) (g := gTup K 2 (gCons (gName 1) (gCons (gName 2) gNil))) (tt := tYes) rfl sc__rises.nd (pi_zip (by rfl) T.z_zip (pa_cons (pv 0) (pa_cons (pe_slice sl_list (pv 0) (po_some pe_int) po_none) pa_nil))) (blkOk_by (own := [("low", 1), ("high", 2)]) (N := ["row", "low", "high"]) (sc := (defScope s__rises)) (by decide +kernel)) (fun _ _ _ _ _ => (pg_tup rfl (pgs_cons (pg_name (i := 1) sc__rises.nd rfl (Or.inl rfl)) (pgs_cons (pg_name (i := 2) sc__rises.nd rfl (Or.inl rfl)) pgs_nil)))) (fun _ _ _ _ _ => pts_nil) (fun _ _ _ _ _ => (pe_cmpR op_lt (pv 1) (pv 2) (nomark _)))) pa_nil)))), ?_⟩
  have hcut : cutV (g.map nI) (some 1) none = (g.drop 1).map nI := by
    cases g with
    | nil => rfl
    | cons x r => rw [List.map_cons, cut1]; rfl
  refine ⟨_, rfl, _, rfl, 1, rfl, a, _, rfl, SqL.of ha, fun p hp => ?_⟩
  rw [hcut]
  have sp := same_new (o := .lst ((g.drop 1).map nI)) hp
  have kp := upd_same (H := H) (a := p) (o := .lst ((g.drop 1).map nI))
  have ka := sp _ _ ha
  generalize upd H p (.lst ((g.drop 1).map nI)) = H1 at *
  refine ⟨a, p, _, _, rfl, SqL.of ka, SqL.of kp, fun D hD => ?_⟩
  refine lc_it (n := g.length - 1) (walk_zip (K := K) (a := a) (b := p) (xs := g.map nI) (ys := (g.drop 1).map nI) (by rw [List.length_map, List.length_map, List.length_drop]; omega)) (fun i H2 => H2 D = some (.lst ((List.replicate i true).map V.bl)) ∧ Same H1 H2) ⟨upd_same, same_new hD⟩ (fun i H2 _ h => ⟨SqL.of (h.2 _ _ ka), SqL.of (h.2 _ _ kp)⟩) ?_ ?_
  · rintro i x H2 H3 hi ⟨g1, g2⟩ ⟨T, u, v, rfl, hT, rfl, hu, hv⟩
    dsimp only at hu hv
    rw [List.getElem?_map] at hu hv
    rw [List.getElem?_drop] at hv
    cases hc : g[i]? with
    | none => rw [hc] at hu; cases hu
    | some c =>
    cases hd : g[1 + i]? with
    | none => rw [hd] at hv; cases hv
    | some d =>
    rw [hc] at hu
    rw [hd] at hv
    cases hu
    cases hv
    have lt : c < d := by
      have h1 := List.getElem?_eq_some_iff.mp hc
      have h2 := List.getElem?_eq_some_iff.mp hd
      have := (List.pairwise_iff_getElem.mp hR) i (1 + i) h1.1 h2.1 (by omega)
      simpa [h1.2, h2.2] using this
    have sT := same_new (o := .tup [nI c, nI d]) hT
    have kT := upd_same (H := H2) (a := T) (o := .tup [nI c, nI d])
    generalize upd H2 T (.tup [nI c, nI d]) = H4 at *
    refine ⟨T, _, rfl, SqT.of kT, rfl, _, _, rfl, _, _, rfl, rfl, rfl, _, rfl, _, rfl, _, _, rfl, rfl, ?_⟩
    have e : decide ((c : Int) < (d : Int)) = true := decide_eq_true (by omega)
    refine ⟨_, sT _ _ g1, ?_, ?_, same_add (g2.trans sT) hD⟩
    · rw [List.length_map, List.length_replicate]
      exact Nat.lt_of_le_of_lt (show _ ≤ 1000000 by omega) (by decide)
    · show (upd H4 D (.lst ((List.replicate i true).map V.bl ++ [V.bl (decide ((c : Int) < (d : Int)))]))) D = _
      rw [upd_same, e, rep_succ, List.map_append]
      rfl
  · rintro H2 ⟨g1, g2⟩
    refine ⟨D, _, rfl, SqL.of g1, ?_⟩
    rw [all_rep]
    exact q H2 (sp.trans g2)
theorem ok_are_letters (T : Txt K mg) : FnOk P w K mg base CX0 2 T.f_are_letters T.d_are_letters ["thing"] sp_are_letters := by
  have G_is_letter : FnOk P w K mg base CX0 1 T.f_is_letter T.d_is_letter ["thing"] sp_is_letter := ok_is_letter T
  have G__rises : FnOk P w K mg base CX0 1 T.f__rises T.d__rises ["row"] sp__rises_str := ok__rises_str T
  refine T.F_are_letters.ok sc_are_letters (fun vs H Q E h => ?_) (fun cdv A outer s H vs Q E hr h => ?_)
  · obtain ⟨L, rfl, _⟩ := h
    rfl
  obtain ⟨L, rfl, hL, hR, q⟩ := h
  refine ⟨_, (pss_cons (ps_if (PW.pt (pw_or (pt_not (pt_val (pe_callB call_isi (by rfl) T.z_isinstance (by decide +kernel) (pa_cons (pv 0) (pa_cons (pe_bltn (v := .ty "str") (by rfl) T.z_str (by decide +kernel) rfl) pa_nil))))) (pw_or1 (pt_not (pt_truth (pv 0) (by intro _; rfl)))))) (pss_one (ps_ret pe_bl)) pss_nil) (pss_one (ps_ret (pe_and (pe_callB (cr_all rfl) (by rfl) T.z_all (by decide +kernel) (pa_cons (pe_lc (own := [("sign", 1)]) (g := gName 1) (tt := tYes) rfl sc_are_letters.nd (pi_str (pv 0)) (blkOk_by (own := [("sign", 1)]) (N := ["thing", "sign"]) (sc := (defScope s_are_letters)) (by decide +kernel)) (fun _ _ _ _ _ => (pg_name (i := 1) sc_are_letters.nd rfl (Or.inl rfl))) (fun _ _ _ _ _ => pts_nil) (fun _ _ _ _ _ => (pe_call G_is_letter (hr.mono (by omega)) (by rfl) T.m_is_letter T.F_is_letter.kp T.b_is_letter .nil pass0 (pa_cons (pv 1) pa_nil)))) pa_nil)) (pe_one (pe_call G__rises (hr.mono (by omega)) (by rfl) T.m__rises T.F__rises.kp T.b__rises .nil pass0 (pa_cons (pv 0) pa_nil))))))), ?_⟩
  have lsz : L.cps.size = L.cps.toList.length := (Array.length_toList).symm
  have l26 : L.cps.toList.length ≤ 26 := by rw [← lsz]; exact hL.2.1
  refine ⟨_, rfl, _, _, _, _, true, rfl, .ty "str", .base (.str _), kit_ty (by decide +kernel), _, rfl, iteF ?_⟩
  refine ⟨_, rfl, true, tru_str hL.1 hL.2.1, iteF ?_⟩
  refine ⟨_, rfl, L, rfl, fun D hD => ?_⟩
  refine lc_it (n := L.cps.size) walk_str (fun i H2 => H2 D = some (.lst ((List.replicate i true).map V.bl)) ∧ Same H H2) ⟨upd_same, same_new hD⟩ (fun _ _ _ _ => trivial) ?_ ?_
  · rintro i x H2 H3 hi ⟨g1, g2⟩ ⟨rfl, c, hc, rfl⟩
    have hm := hL.2.2 c (by have := Array.getElem?_eq_some_iff.mp hc; rw [← this.2]; exact Array.mem_toList_iff.mpr (Array.getElem_mem this.1))
    refine ⟨rfl, _, rfl, c, rfl, hm.1, hm.2, _, g1, ?_, ?_, same_add g2 hD⟩
    · rw [List.length_map, List.length_replicate]
      exact Nat.lt_of_le_of_lt (show _ ≤ 1000000 by omega) (by decide)
    · rw [upd_same, rep_succ, List.map_append]
      rfl
  · rintro H2 ⟨g1, g2⟩
    refine ⟨D, _, rfl, SqL.of g1, ?_⟩
    rw [all_rep]
    exact ⟨_, rfl, iteT ⟨_, rfl, L, rfl, hL, hR, fun H3 s3 => q H3 (g2.trans s3)⟩⟩
theorem ok_are_rising_states (T : Txt K mg) : FnOk P w K mg base CX0 3 T.f_are_rising_states T.d_are_rising_states ["thing", "states"] sp_are_rising_states := by
  have G_is_whole_within : FnOk P w K mg base CX0 2 T.f_is_whole_within T.d_is_whole_within ["thing", "low", "high"] sp_is_whole_within := ok_is_whole_within T
  have G__rises : FnOk P w K mg base CX0 1 T.f__rises T.d__rises ["row"] (sp__rises_lst K) := ok__rises_lst T
  refine T.F_are_rising_states.ok sc_are_rising_states (fun vs H Q E h => ?_) (fun cdv A outer s H vs Q E hr h => ?_)
  · obtain ⟨a, g, n, rfl, _⟩ := h
    rfl
  obtain ⟨a, g, n, rfl, ha, hR, h100, hn, q⟩ := h
  refine ⟨_, (pss_cons (ps_if (pt_not (pt_val (pe_callB call_isi (by rfl) T.z_isinstance (by decide +kernel) (pa_cons (pv 0) (pa_cons (pe_bltn (v := .ty "list") (by rfl) T.z_list (by decide +kernel) rfl) pa_nil))))) (pss_one (ps_ret pe_bl)) pss_nil) (pss_one (ps_ret (pe_and (pe_callB (cr_all rfl) (by rfl) T.z_all (by decide +kernel) (pa_cons (pe_lc (own := [("state", 2)]) (g := gName 2) (tt := tYes) rfl sc_are_rising_states.nd (pi_list (pv 0)) (blkOk_by (own := [("state", 2)]) (N := ["thing", "states", "state"]) (sc := (defScope s_are_rising_states)) (by decide +kernel)) (fun _ _ _ _ _ => (pg_name (i := 2) sc_are_rising_states.nd rfl (Or.inl rfl))) (fun _ _ _ _ _ => pts_nil) (fun _ _ _ _ _ => (pe_call G_is_whole_within (hr.mono (by omega)) (by rfl) T.m_is_whole_within T.F_is_whole_within.kp T.b_is_whole_within .nil pass0 (pa_cons (pv 2) (pa_cons pe_int (pa_cons (pe_op op_sub (pv 1) pe_int) pa_nil)))))) pa_nil)) (pe_one (pe_call G__rises (hr.mono (by omega)) (by rfl) T.m__rises T.F__rises.kp T.b__rises .nil pass0 (pa_cons (pv 0) pa_nil))))))), ?_⟩
  refine ⟨_, rfl, _, _, _, _, true, rfl, .ty "list", .base (.lst ha), kit_ty (by decide +kernel), _, rfl, iteF ?_⟩
  refine ⟨_, rfl, a, rfl, ⟨_, SqL.of ha⟩, fun D hD => ?_⟩
  refine lc_list (xs := g.map nI) (fun i H2 => H2 D = some (.lst ((List.replicate i true).map V.bl)) ∧ Same H H2) ⟨upd_same, same_new hD⟩ (fun i H2 _ ⟨_, s⟩ => SqL.of (s _ _ ha)) ?_ ?_
  · rintro i x H2 hx ⟨g1, g2⟩
    rw [List.getElem?_map] at hx
    cases hc : g[i]? with
    | none => rw [hc] at hx; cases hx
    | some z =>
    rw [hc] at hx
    cases hx
    have hz := hn z (List.mem_of_getElem? hc)
    have hi := (List.getElem?_eq_some_iff.mp hc).1
    refine ⟨rfl, _, rfl, _, rfl, _, _, rfl, rfl, z, 0, n - 1, rfl, by omega, by omega, _, g1, ?_, ?_, same_add g2 hD⟩
    · rw [List.length_map, List.length_replicate]
      exact Nat.lt_of_le_of_lt (show _ ≤ 1000000 by omega) (by decide)
    · rw [upd_same, rep_succ, List.map_append]
      rfl
  · rintro H2 ⟨g1, g2⟩
    refine ⟨D, _, rfl, SqL.of g1, ?_⟩
    rw [all_rep]
    exact ⟨_, rfl, iteT ⟨_, rfl, a, g, rfl, g2 _ _ ha, hR, h100, fun H3 s3 => q H3 (g2.trans s3)⟩⟩
end

theorem neS {x y : V} {i : Decidable (x = y)} {A B : Prop} (h : x = y) (k : B) : if (!@decide (x = y) i) = true then A else B := by
  rw [decide_eq_true h]
  exact iteF k
def FrD (d : Addr) (H H' : Hp) : Prop := ∀ b o, b ≠ d → H b = some o → H' b = some o
theorem keysOf_len (L : Str) (n k : Nat) : (keysOf L n k).length = L.length * k ^ n := by
  have e : (keysOf L n k).length = L.cps.toList.length * (rowsTo n k).length := by
    unfold keysOf
    generalize L.cps.toList = l
    induction l with
    | nil => simp
    | cons a t ih => rw [List.flatMap_cons, List.length_append, List.length_map, ih, List.length_cons, Nat.succ_mul, Nat.add_comm]
  rw [e, rowsTo_len, Array.length_toList]
  rfl
theorem keysOf_mem {L : Str} {n k : Nat} {key : Nat × List Nat} (h : key ∈ keysOf L n k) : key.1 ∈ L.cps.toList ∧ key.2.length = n ∧ ∀ x ∈ key.2, x < k := by
  simp only [keysOf, List.mem_flatMap, List.mem_map] at h
  obtain ⟨c, hc, row, hrow, rfl⟩ := h
  exact ⟨hc, rowsTo_mem hrow⟩
theorem nks_nums {H : Hp} : ∀ {r : List Nat} {vs : List V}, NKs H (r.map fun x : Nat => .num (x : Int)) vs → vs = r.map nI
  | [], _, h => by cases h; rfl
  | x :: r, _, h => by
    cases h with
    | cons a b =>
      cases a
      rw [nks_nums b]
      rfl
theorem nk_inv {H : Hp} {b : Addr} {c : Nat} {r : List Nat} (h : NK H (keyN c r) (.ref b)) : ∃ a, H b = some (.tup [.str (ch c), .ref a]) ∧ H a = some (.tup (r.map nI)) := by
  unfold keyN at h
  cases h with
  | tup h1 h2 =>
    cases h2 with
    | cons a1 a2 =>
    cases a1
    cases a2 with
    | cons b1 b2 =>
    cases b2
    cases b1 with
    | tup c1 c2 =>
    rw [nks_nums c2] at c1
    exact ⟨_, h1, c1⟩

/- may_have_table of letters and numbers within a judge's bounds: whether the tuples due are not too many. -/
def sp_may_have_table : Sp := fun vs H Q _ => ∃ (L : Str) (n few turn : Nat), vs = [.str L, nI n, nI few, nI turn] ∧ Lets L ∧ Rises L ∧ 1 ≤ n ∧ n ≤ 6 ∧ few ≤ 4 ∧ 1 ≤ turn ∧ turn ≤ 4 ∧ ∀ H', Same H H' → Q (.bl (decide (L.length * (few + turn) ^ n ≤ 600))) H'
section
variable {P : Program} {w : World} {K : PySem.W.Frag} {mg : Str → Option Value} {base : Heap}
theorem ok_may_have_table (T : Txt K mg) : FnOk P w K mg base CX0 4 T.f_may_have_table T.d_may_have_table ["letters", "states", "few", "turn"] sp_may_have_table := by
  have G_are_letters : FnOk P w K mg base CX0 2 T.f_are_letters T.d_are_letters ["thing"] sp_are_letters := ok_are_letters T
  have G_is_whole_within : FnOk P w K mg base CX0 2 T.f_is_whole_within T.d_is_whole_within ["thing", "low", "high"] sp_is_whole_within := ok_is_whole_within T
  have G_tuples_due : FnOk P w K mg base CX0 1 T.f_tuples_due T.d_tuples_due ["letters", "states", "classes"] sp_tuples_due := ok_tuples_due T
  refine T.F_may_have_table.ok sc_may_have_table (fun vs H Q E h => ?_) (fun cdv A outer s H vs Q E hr h => ?_)
  · obtain ⟨L, n, few, turn, rfl, _⟩ := h
    rfl
  obtain ⟨L, n, few, turn, rfl, hL, hR, n1, n6, f4, t1, t4, q⟩ := h
  refine ⟨_, (pss_cons (ps_if (PW.pt (pw_or (pt_not (pt_val (pe_call G_are_letters (hr.mono (by omega)) (by rfl) T.m_are_letters T.F_are_letters.kp T.b_are_letters .nil pass0 (pa_cons (pv 0) pa_nil)))) (pw_or1 (pt_not (pt_val (pe_call G_is_whole_within (hr.mono (by omega)) (by rfl) T.m_is_whole_within T.F_is_whole_within.kp T.b_is_whole_within .nil pass0 (pa_cons (pv 1) (pa_cons pe_int (pa_cons (pe_glob (v := .int (6)) rfl T.g_MOST_STATES ⟨_, rfl⟩) pa_nil))))))))) (pss_one (ps_ret pe_bl)) pss_nil) (pss_cons (ps_if (PW.pt (pw_or (pt_not (pt_val (pe_call G_is_whole_within (hr.mono (by omega)) (by rfl) T.m_is_whole_within T.F_is_whole_within.kp T.b_is_whole_within .nil pass0 (pa_cons (pv 2) (pa_cons pe_int (pa_cons (pe_glob (v := .int (4)) rfl T.g_MOST_FEW ⟨_, rfl⟩) pa_nil)))))) (pw_or1 (pt_not (pt_val (pe_call G_is_whole_within (hr.mono (by omega)) (by rfl) T.m_is_whole_within T.F_is_whole_within.kp T.b_is_whole_within .nil pass0 (pa_cons (pv 3) (pa_cons pe_int (pa_cons (pe_glob (v := .int (4)) rfl T.g_MOST_TURN ⟨_, rfl⟩) pa_nil))))))))) (pss_one (ps_ret pe_bl)) pss_nil) (pss_one (ps_ret (pe_cmpR op_le (pe_call G_tuples_due (hr.mono (by omega)) (by rfl) T.m_tuples_due T.F_tuples_due.kp T.b_tuples_due .nil pass0 (pa_cons (pv 0) (pa_cons (pv 1) (pa_cons (pe_op op_add (pv 2) (pv 3)) pa_nil)))) (pe_glob (v := .int (600)) rfl T.g_MOST_TUPLES ⟨_, rfl⟩) (nomark _)))))), ?_⟩
  refine ⟨_, rfl, L, rfl, hL, hR, fun H1 s1 => ⟨_, rfl, iteF ?_⟩⟩
  refine ⟨_, rfl, n, 1, 6, rfl, by omega, by omega, _, rfl, iteF ?_⟩
  refine ⟨_, rfl, few, 0, 4, rfl, by omega, by omega, _, rfl, iteF ?_⟩
  refine ⟨_, rfl, turn, 1, 4, rfl, by omega, by omega, _, rfl, iteF ?_⟩
  refine ⟨_, rfl, _, rfl, _, rfl, _, rfl, _, _, rfl, rfl, L, n, few + turn, rfl, hL.2.1, n6, by omega, ?_⟩
  have e : decide (((L.length * (few + turn) ^ n : Nat) : Int) ≤ 600) = decide (L.length * (few + turn) ^ n ≤ 600) := by
    by_cases h : L.length * (few + turn) ^ n ≤ 600
    · rw [decide_eq_true h, decide_eq_true (by omega)]
    · rw [decide_eq_false h, decide_eq_false (by omega)]
  have q1 := q H1 s1
  rw [← e] at q1
  exact ⟨_, _, rfl, rfl, q1⟩
end

def sp__is_key : Sp := fun vs H Q _ => ∃ (b a : Addr) (L : Str) (n k c : Nat) (row : List Nat), vs = [.ref b, .str L, nI n, nI k] ∧ H b = some (.tup [.str (ch c), .ref a]) ∧ H a = some (.tup (row.map nI)) ∧ Lets L ∧ c ∈ L.cps.toList ∧ row.length = n ∧ n ≤ 6 ∧ (∀ x ∈ row, x < k) ∧ ∀ H', Same H H' → Q (.bl true) H'
def sp__is_table (P : Program) (w : World) : Sp := fun vs H Q _ => ∃ (d : Addr) (L : Str) (n k : Nat) (xs : List NRow) (fs : Nat → List Nat → Nat), vs = [.ref d, .str L, nI n, nI k] ∧ H d = some (DictN P w d xs) ∧ RowsN H xs ∧ RowsJ xs (keysOf L n k) fs ∧ Lets L ∧ n ≤ 6 ∧ k ≤ 20 ∧ L.length * k ^ n ≤ 600 ∧ (∀ key ∈ keysOf L n k, fs key.1 key.2 < n) ∧ ∀ H', Same H H' → Q (.bl true) H'
def sp_is_judge (P : Program) (w : World) : Sp := fun vs H Q _ => ∃ (j d g : Addr) (L : Str) (n few turn : Nat) (xs : List NRow) (fs : Nat → List Nat → Nat) (good : List Nat), vs = [.ref j] ∧ H j = some (.tup [.str L, nI n, nI few, nI turn, .ref d, .ref g]) ∧ H d = some (DictN P w d xs) ∧ RowsN H xs ∧ RowsJ xs (keysOf L n (few + turn)) fs ∧ Lets L ∧ Rises L ∧ 1 ≤ n ∧ n ≤ 6 ∧ few ≤ 4 ∧ 1 ≤ turn ∧ turn ≤ 4 ∧ L.length * (few + turn) ^ n ≤ 600 ∧
  (∀ key ∈ keysOf L n (few + turn), fs key.1 key.2 < n) ∧ H g = some (.lst (good.map nI)) ∧ good.Pairwise (· < ·) ∧ good.length ≤ 100 ∧ (∀ x ∈ good, x < n) ∧ ∀ H', Same H H' → Q (.bl true) H'
section
variable {P : Program} {w : World} {K : PySem.W.Frag} {mg : Str → Option Value} {base : Heap}
theorem ok__is_key (T : Txt K mg) : FnOk P w K mg base CX0 3 T.f__is_key T.d__is_key ["thing", "letters", "states", "classes"] sp__is_key := by
  have G_is_letter : FnOk P w K mg base CX0 1 T.f_is_letter T.d_is_letter ["thing"] sp_is_letter := ok_is_letter T
  have G_is_whole_within : FnOk P w K mg base CX0 2 T.f_is_whole_within T.d_is_whole_within ["thing", "low", "high"] sp_is_whole_within := ok_is_whole_within T
  refine T.F__is_key.ok sc__is_key (fun vs H Q E h => ?_) (fun cdv A outer s H vs Q E hr h => ?_)
  · obtain ⟨b, a, L, n, k, c, row, rfl, _⟩ := h
    rfl
  obtain ⟨b, a, L, n, k, c, row, rfl, hb, ha, hL, hc, hl, h6, hk, q⟩ := h
  refine ⟨_, (pss_cons (ps_if (PW.pt (pw_or (pt_not (pt_val (pe_callB call_isi (by rfl) T.z_isinstance (by decide +kernel) (pa_cons (pv 0) (pa_cons (pe_bltn (v := .ty "tuple") (by rfl) T.z_tuple (by decide +kernel) rfl) pa_nil))))) (pw_or1 (pt_cmpR op_ne (pe_callB call_len_seq (by rfl) T.z_len PySem.boot_len (pa_cons (pv 0) pa_nil)) pe_int (nomark _))))) (pss_one (ps_ret pe_bl)) pss_nil) (pss_cons (ps_asg (pv 0) (pg_tup rfl (pgs_cons (pg_name (i := 4) sc__is_key.nd rfl (Or.inl rfl)) (pgs_cons (pg_name (i := 5) sc__is_key.nd rfl (Or.inl rfl)) pgs_nil)))) (pss_cons (ps_if (PW.pt (pw_or (pt_not (pt_val (pe_call G_is_letter (hr.mono (by omega)) (by rfl) T.m_is_letter T.F_is_letter.kp T.b_is_letter .nil pass0 (pa_cons (pv 4) pa_nil)))) (pw_or1 (pt_cmpR op_notInS (pv 4) (pv 1) (by rfl))))) (pss_one (ps_ret pe_bl)) pss_nil) (pss_cons (ps_if (PW.pt (pw_or (pt_not (pt_val (pe_callB call_isi (by rfl) T.z_isinstance (by decide +kernel) (pa_cons (pv 5) (pa_cons (pe_bltn (v := .ty "tuple") (by rfl) T.z_tuple (by decide +kernel) rfl) pa_nil))))) (pw_or1 (pt_cmpR op_ne (pe_callB call_len_seq (by rfl) T.z_len PySem.boot_len (pa_cons (pv 5) pa_nil)) (pv 2) (nomark _))))) (pss_one (ps_ret pe_bl)) pss_nil) (pss_one (ps_ret (pe_callB (cr_all rfl) (by rfl) T.z_all (by decide +kernel) (pa_cons (pe_lc (own := [("number", 6)]) (g := gName 6) (tt := tYes) rfl sc__is_key.nd (pi_tup (pv 5)) (blkOk_by (own := [("number", 6)]) (N := ["thing", "letters", "states", "classes", "letter", "row", "number"]) (sc := (defScope s__is_key)) (by decide +kernel)) (fun _ _ _ _ _ => (pg_name (i := 6) sc__is_key.nd rfl (Or.inl rfl))) (fun _ _ _ _ _ => pts_nil) (fun _ _ _ _ _ => (pe_call G_is_whole_within (hr.mono (by omega)) (by rfl) T.m_is_whole_within T.F_is_whole_within.kp T.b_is_whole_within .nil pass0 (pa_cons (pv 6) (pa_cons pe_int (pa_cons (pe_op op_sub (pv 3) pe_int) pa_nil)))))) pa_nil)))))))), ?_⟩
  have hm := hL.2.2 c hc
  refine ⟨_, rfl, _, _, _, _, true, rfl, .ty "tuple", .base (.tup hb), kit_ty (by decide +kernel), _, rfl, iteF ?_⟩
  refine ⟨_, rfl, b, _, rfl, .inr (SqT.of hb), rfl, _, rfl, neS rfl ?_⟩
  refine ⟨_, rfl, b, _, rfl, SqT.of hb, rfl, _, _, rfl, _, _, rfl, rfl, ?_⟩
  refine ⟨_, rfl, c, rfl, hm.1, hm.2, _, rfl, iteF ?_⟩
  refine ⟨_, rfl, _, rfl, c, L, rfl, rfl, _, rfl, ?_⟩
  rw [decide_eq_true hc]
  refine iteF ?_
  refine ⟨_, rfl, _, _, _, _, true, rfl, .ty "tuple", .base (.tup ha), kit_ty (by decide +kernel), _, rfl, iteF ?_⟩
  refine ⟨_, rfl, a, _, rfl, .inr (SqT.of ha), _, rfl, rfl, _, rfl, neS (by rw [List.length_map, hl]) ?_⟩
  refine ⟨_, rfl, a, rfl, ⟨_, SqT.of ha⟩, fun D hD => ?_⟩
  refine lc_tup (xs := row.map nI) (fun i H2 => H2 D = some (.lst ((List.replicate i true).map V.bl)) ∧ Same H H2) ⟨upd_same, same_new hD⟩ (fun i H2 _ ⟨_, s⟩ => SqT.of (s _ _ ha)) ?_ ?_
  · rintro i x H2 hx ⟨g1, g2⟩
    rw [List.getElem?_map] at hx
    cases hz : row[i]? with
    | none => rw [hz] at hx; cases hx
    | some z =>
    rw [hz] at hx
    cases hx
    have hk1 := hk z (List.mem_of_getElem? hz)
    have hi := (List.getElem?_eq_some_iff.mp hz).1
    refine ⟨rfl, _, rfl, _, rfl, _, _, rfl, rfl, z, 0, k - 1, rfl, by omega, by omega, _, g1, ?_, ?_, same_add g2 hD⟩
    · rw [List.length_map, List.length_replicate]
      exact Nat.lt_of_le_of_lt (show _ ≤ 1000000 by omega) (by decide)
    · rw [upd_same, rep_succ, List.map_append]
      rfl
  · rintro H2 ⟨g1, g2⟩
    refine ⟨D, _, rfl, SqL.of g1, ?_⟩
    rw [all_rep]
    exact q H2 g2
theorem ok__is_table (T : Txt K mg) : FnOk P w K mg base CX0 4 T.f__is_table T.d__is_table ["thing", "letters", "states", "classes"] (sp__is_table P w) := by
  have G_tuples_due : FnOk P w K mg base CX0 1 T.f_tuples_due T.d_tuples_due ["letters", "states", "classes"] sp_tuples_due := ok_tuples_due T
  have G__is_key : FnOk P w K mg base CX0 3 T.f__is_key T.d__is_key ["thing", "letters", "states", "classes"] sp__is_key := ok__is_key T
  have G_is_whole_within : FnOk P w K mg base CX0 2 T.f_is_whole_within T.d_is_whole_within ["thing", "low", "high"] sp_is_whole_within := ok_is_whole_within T
  refine T.F__is_table.ok sc__is_table (fun vs H Q E h => ?_) (fun cdv A outer s H vs Q E hr h => ?_)
  · obtain ⟨d, L, n, k, xs, fs, rfl, _⟩ := h
    rfl
  obtain ⟨d, L, n, k, xs, fs, rfl, hd, hrn, hrj, hL, h6, k20, h600, hfs, q⟩ := h
  refine ⟨_, (pss_cons (ps_if (PW.pt (pw_or (pt_not (pt_val (pe_callB call_isN (by rfl) T.z_isinstance (by decide +kernel) (pa_cons (pv 0) (pa_cons (pe_bltn (v := .ty "dict") (by rfl) T.z_dict (by decide +kernel) rfl) pa_nil))))) (pw_or1 (pt_cmpR op_ne (pe_callB call_lenN (by rfl) T.z_len PySem.boot_len (pa_cons (pv 0) pa_nil)) (pe_call G_tuples_due (hr.mono (by omega)) (by rfl) T.m_tuples_due T.F_tuples_due.kp T.b_tuples_due .nil pass0 (pa_cons (pv 1) (pa_cons (pv 2) (pa_cons (pv 3) pa_nil)))) (nomark _))))) (pss_one (ps_ret pe_bl)) pss_nil) (pss_cons (ps_lock (ps_for PassesOwn.never rfl (pi_itemsN (pv 0)) (pg_tup rfl (pgs_cons (pg_name (i := 4) sc__is_table.nd rfl (Or.inl rfl)) (pgs_cons (pg_name (i := 5) sc__is_table.nd rfl (Or.inl rfl)) pgs_nil))) (pss_one (ps_if (PW.pt (pw_or (pt_not (pt_val (pe_call G__is_key (hr.mono (by omega)) (by rfl) T.m__is_key T.F__is_key.kp T.b__is_key .nil pass0 (pa_cons (pv 4) (pa_cons (pv 1) (pa_cons (pv 2) (pa_cons (pv 3) pa_nil))))))) (pw_or1 (pt_not (pt_val (pe_call G_is_whole_within (hr.mono (by omega)) (by rfl) T.m_is_whole_within T.F_is_whole_within.kp T.b_is_whole_within .nil pass0 (pa_cons (pv 5) (pa_cons pe_int (pa_cons (pe_op op_sub (pv 2) pe_int) pa_nil))))))))) (pss_one (ps_ret pe_bl)) pss_nil)))) (pss_one (ps_ret pe_bl)))), ?_⟩
  have lk : xs.length = L.length * k ^ n := by rw [Paired.length hrj, keysOf_len]
  refine ⟨_, rfl, d, xs, _, _, true, rfl, hd, .ty "dict", kit_ty (by decide +kernel), _, rfl, iteF ?_⟩
  refine ⟨_, rfl, d, xs, rfl, hd, hrn, _, rfl, _, rfl, _, rfl, L, n, k, rfl, hL.2.1, h6, k20, rfl, _, rfl, neS (by rw [lk]) ?_⟩
  refine ⟨d, _, hd, trivial, fun od => ?_⟩
  refine ⟨_, rfl, d, od, xs, rfl, upd_same, ?_⟩
  have base0 : FrD d H (upd H d (.frz od (DictN P w d xs))) := fun b o ne e => by rw [upd_ne ne]; exact e
  refine for_it walk_itemsN (fun i σ H' => (∃ y5 y6, σ = [some (.ref d), some (.str L), some (nI n), some (nI k), y5, y6]) ∧ H' d = some (.frz od (DictN P w d xs)) ∧ FrD d H H') ⟨⟨_, _, rfl⟩, upd_same, base0⟩ (fun i σ H' _ h => h.2.1) ?_ ?_
  · rintro i x σ H2 H3 hi ⟨⟨y5, y6, rfl⟩, g1, g2⟩ ⟨p, row, hrow, rfl, hp, rfl⟩
    obtain ⟨⟨c, rw0⟩, hkey, e1, e2⟩ := prd_at hrj hrow
    have hm := List.mem_of_getElem? hkey
    obtain ⟨hc, hlen, hkk⟩ := keysOf_mem hm
    have hv : fs c rw0 < n := hfs _ hm
    obtain ⟨hn1, _⟩ := hrn row (List.mem_of_getElem? hrow)
    rw [e1] at hn1
    obtain ⟨a, kb, ka⟩ := nk_inv hn1
    have ntup : ∀ (q : Addr) (ys : List V), H q = some (.tup ys) → q ≠ d := fun q ys e z => by rw [z, hd] at e; unfold DictN at e; cases e
    have sp := same_new (o := .tup [.ref row.2.1, row.2.2]) hp
    have kp := upd_same (H := H2) (a := p) (o := .tup [.ref row.2.1, row.2.2])
    have g1' := sp _ _ g1
    generalize upd H2 p (.tup [.ref row.2.1, row.2.2]) = H4 at *
    rw [e2] at kp
    refine ⟨p, _, rfl, SqT.of kp, rfl, _, _, rfl, _, _, rfl, rfl, ?_⟩
    have G4 : FrD d H H4 := fun b o ne e => sp _ _ (g2 b o ne e)
    refine ⟨_, rfl, _, rfl, _, rfl, _, rfl, row.2.1, a, L, n, k, c, rw0, rfl, G4 _ _ (ntup _ _ kb) kb, G4 _ _ (ntup _ _ ka) ka, hL, hc, hlen, h6, hkk, fun H5 s5 => ⟨_, rfl, iteF ?_⟩⟩
    refine ⟨_, rfl, _, rfl, _, _, rfl, rfl, fs c rw0, 0, n - 1, rfl, by omega, by omega, _, rfl, iteF ?_⟩
    exact ⟨⟨_, _, rfl⟩, s5 _ _ g1', fun b o ne e => s5 _ _ (G4 b o ne e)⟩
  · rintro σ H2 ⟨⟨y5, y6, rfl⟩, g1, g2⟩
    refine ⟨g1, q _ fun b o e => ?_⟩
    by_cases hb : b = d
    · rw [hb, upd_same, ← e, hb]; exact hd.symm
    · rw [upd_ne hb]; exact g2 b o hb e
theorem ok_is_judge (T : Txt K mg) : FnOk P w K mg base CX0 5 T.f_is_judge T.d_is_judge ["thing"] (sp_is_judge P w) := by
  have G_may_have_table : FnOk P w K mg base CX0 4 T.f_may_have_table T.d_may_have_table ["letters", "states", "few", "turn"] sp_may_have_table := ok_may_have_table T
  have G__is_table : FnOk P w K mg base CX0 4 T.f__is_table T.d__is_table ["thing", "letters", "states", "classes"] (sp__is_table P w) := ok__is_table T
  have G_are_rising_states : FnOk P w K mg base CX0 3 T.f_are_rising_states T.d_are_rising_states ["thing", "states"] sp_are_rising_states := ok_are_rising_states T
  refine T.F_is_judge.ok sc_is_judge (fun vs H Q E h => ?_) (fun cdv A outer s H vs Q E hr h => ?_)
  · obtain ⟨j, d, g, L, n, few, turn, xs, fs, good, rfl, _⟩ := h
    rfl
  obtain ⟨j, d, g, L, n, few, turn, xs, fs, good, rfl, hj, hd, hrn, hrj, hL, hR, n1, n6, f4, t1, t4, h600, hfs, hg, hup, h100, hgn, q⟩ := h
  refine ⟨_, (pss_cons (ps_if (PW.pt (pw_or (pt_not (pt_val (pe_callB call_isi (by rfl) T.z_isinstance (by decide +kernel) (pa_cons (pv 0) (pa_cons (pe_bltn (v := .ty "tuple") (by rfl) T.z_tuple (by decide +kernel) rfl) pa_nil))))) (pw_or1 (pt_cmpR op_ne (pe_callB call_len_seq (by rfl) T.z_len PySem.boot_len (pa_cons (pv 0) pa_nil)) pe_int (nomark _))))) (pss_one (ps_ret pe_bl)) pss_nil) (pss_cons (ps_asg (pv 0) (pg_tup rfl (pgs_cons (pg_name (i := 1) sc_is_judge.nd rfl (Or.inl rfl)) (pgs_cons (pg_name (i := 2) sc_is_judge.nd rfl (Or.inl rfl)) (pgs_cons (pg_name (i := 3) sc_is_judge.nd rfl (Or.inl rfl)) (pgs_cons (pg_name (i := 4) sc_is_judge.nd rfl (Or.inl rfl)) (pgs_cons (pg_name (i := 5) sc_is_judge.nd rfl (Or.inl rfl)) (pgs_cons (pg_name (i := 6) sc_is_judge.nd rfl (Or.inl rfl)) pgs_nil)))))))) (pss_cons (ps_if (pt_not (pt_val (pe_call G_may_have_table (hr.mono (by omega)) (by rfl) T.m_may_have_table T.F_may_have_table.kp T.b_may_have_table .nil pass0 (pa_cons (pv 1) (pa_cons (pv 2) (pa_cons (pv 3) (pa_cons (pv 4) pa_nil))))))) (pss_one (ps_ret pe_bl)) pss_nil) (pss_one (ps_ret (pe_and (pe_call G__is_table (hr.mono (by omega)) (by rfl) T.m__is_table T.F__is_table.kp T.b__is_table .nil pass0 (pa_cons (pv 5) (pa_cons (pv 1) (pa_cons (pv 2) (pa_cons (pe_op op_add (pv 3) (pv 4)) pa_nil))))) (pe_one (pe_call G_are_rising_states (hr.mono (by omega)) (by rfl) T.m_are_rising_states T.F_are_rising_states.kp T.b_are_rising_states .nil pass0 (pa_cons (pv 6) (pa_cons (pv 2) pa_nil)))))))))), ?_⟩
  refine ⟨_, rfl, _, _, _, _, true, rfl, .ty "tuple", .base (.tup hj), kit_ty (by decide +kernel), _, rfl, iteF ?_⟩
  refine ⟨_, rfl, j, _, rfl, .inr (SqT.of hj), rfl, _, rfl, neS rfl ?_⟩
  refine ⟨_, rfl, j, _, rfl, SqT.of hj, rfl, _, _, rfl, _, _, rfl, _, _, rfl, _, _, rfl, _, _, rfl, _, _, rfl, rfl, ?_⟩
  refine ⟨_, rfl, _, rfl, _, rfl, _, rfl, L, n, few, turn, rfl, hL, hR, n1, n6, f4, t1, t4, fun H1 s1 => ?_⟩
  rw [decide_eq_true h600]
  refine ⟨_, rfl, iteF ?_⟩
  refine ⟨_, rfl, _, rfl, _, rfl, _, rfl, _, rfl, _, _, rfl, rfl, d, L, n, few + turn, xs, fs, rfl, s1 _ _ hd, hrn.keep fun b ys e => s1 _ _ e, hrj, hL, n6, by omega, h600, hfs, fun H2 s2 => ⟨_, rfl, iteT ?_⟩⟩
  have s12 := s1.trans s2
  exact ⟨_, rfl, _, rfl, g, good, n, rfl, s12 _ _ hg, hup, h100, hgn, fun H3 s3 => q H3 (s12.trans s3)⟩
end

theorem fewP_iff : ∀ (l : List Cd) (f x : Nat), fewP f l ≤ x ↔ f ≤ x ∧ ∀ w b, Cd.least w b ∈ l → b.toNat ≤ x
  | [], f, x => by simp [fewP]
  | c :: r, f, x => by
    cases c with
    | least w b =>
      simp only [fewP, fewP_iff r, List.mem_cons, Cd.least.injEq]
      constructor
      · rintro ⟨h1, h2⟩
        refine ⟨by omega, fun w' b' h => ?_⟩
        rcases h with ⟨rfl, rfl⟩ | h
        · omega
        · exact h2 _ _ h
      · rintro ⟨h1, h2⟩
        have := h2 w b (.inl ⟨rfl, rfl⟩)
        exact ⟨by omega, fun w' b' h => h2 _ _ (.inr h)⟩
    | _ => simp [fewP, fewP_iff r]
theorem turnP_iff : ∀ (l : List Cd) (t x : Nat), turnP t l ∣ x ↔ t ∣ x ∧ ∀ w m q, Cd.turns w m q ∈ l → m.toNat ∣ x
  | [], t, x => by simp [turnP]
  | c :: r, t, x => by
    cases c with
    | turns w m q =>
      simp only [turnP, turnP_iff r, List.mem_cons, Cd.turns.injEq]
      constructor
      · rintro ⟨h1, h2⟩
        refine ⟨Nat.dvd_trans (Nat.dvd_lcm_left t m.toNat) h1, fun w' m' q' h => ?_⟩
        rcases h with ⟨rfl, rfl, rfl⟩ | h
        · exact Nat.dvd_trans (Nat.dvd_lcm_right t m'.toNat) h1
        · exact h2 _ _ _ h
      · rintro ⟨h1, h2⟩
        exact ⟨Nat.lcm_dvd h1 (h2 w m q (.inl ⟨rfl, rfl, rfl⟩)), fun w' m' q' h => h2 _ _ _ (.inr h)⟩
    | _ => simp [turnP, turnP_iff r]
theorem pl_ok {R : Rl} (h : R.ok) : ∀ p ∈ (condsOf R).flatMap Cd.plains, p.ok R.n := fun p hp => by
  obtain ⟨c, hc, hp⟩ := List.mem_flatMap.mp hp
  obtain ⟨l, hl, hc⟩ := List.mem_flatMap.mp hc
  obtain ⟨rs, hrs, hro⟩ := h.at hl
  rw [hrs] at hc
  obtain ⟨r, hr, rfl⟩ := List.mem_map.mp hc
  exact (plains_plain R.n r.1 (hro.2.1 r hr).1 p hp).2

def clsN (few turn x : Nat) : Nat := if x < few + turn then x else few + (x - few) % turn
theorem clsN_lt {few turn : Nat} (h : 1 ≤ turn) (x : Nat) : clsN few turn x < few + turn := by
  unfold clsN
  split
  · assumption
  · have := Nat.mod_lt (x - few) (show turn > 0 by omega)
    omega
theorem clsN_low {few turn x : Nat} (h : x < few + turn) : clsN few turn x = x := by
  unfold clsN
  rw [if_pos h]
theorem clsN_few {few turn x : Nat} (h : few ≤ x) : few ≤ clsN few turn x := by
  unfold clsN
  split <;> omega
theorem clsN_dvd {few turn m : Nat} (hm : m ∣ turn) (x : Nat) : ((clsN few turn x : Nat) : Int) % (m : Int) = ((x : Nat) : Int) % (m : Int) := by
  unfold clsN
  split
  · rfl
  · obtain ⟨q, rfl⟩ := hm
    have e := Nat.div_add_mod (x - few) (m * q)
    have e2 : x = (few + (x - few) % (m * q)) + m * (q * ((x - few) / (m * q))) := by
      rw [← Nat.mul_assoc]
      omega
    have e3 : ((x : Nat) : Int) = ((few + (x - few) % (m * q) : Nat) : Int) + (m : Int) * ((q * ((x - few) / (m * q)) : Nat) : Int) := by
      rw [← Int.natCast_mul, ← Int.natCast_add, ← e2]
    rw [e3, Int.add_mul_emod_self_left]

abbrev intsN (xs : List Nat) : List Int := xs.map fun x : Nat => (x : Int)
theorem dot_cons (a : Int) (w : List Int) (x : Int) (ns : List Int) : dot (a :: w) (x :: ns) = a * x + dot w ns := by
  unfold dot prods
  rw [List.zip_cons_cons, List.map_cons, List.sum_cons]
theorem dot_nil1 (ns : List Int) : dot [] ns = 0 := by simp [dot, prods]
theorem dot_nil2 (w : List Int) : dot w [] = 0 := by simp [dot, prods]
theorem dot_nn : ∀ {w : List Int} {xs : List Nat}, (∀ a ∈ w, 0 ≤ a) → 0 ≤ dot w (intsN xs)
  | [], _, _ => by rw [dot_nil1]; exact Int.le_refl _
  | _ :: _, [], _ => by rw [show intsN [] = [] from rfl, dot_nil2]; exact Int.le_refl _
  | a :: w, x :: xs, h => by
    rw [show intsN (x :: xs) = (x : Int) :: intsN xs from rfl, dot_cons]
    have h1 := dot_nn (w := w) (xs := xs) fun b hb => h b (List.mem_cons_of_mem _ hb)
    have h2 := Int.mul_nonneg (h a List.mem_cons_self) (Int.natCast_nonneg x)
    omega
theorem dot_mod {few turn m : Nat} (hm : m ∣ turn) : ∀ (w : List Int) (xs : List Nat), dot w (intsN (xs.map (clsN few turn))) % (m : Int) = dot w (intsN xs) % (m : Int)
  | [], _ => by rw [dot_nil1, dot_nil1]
  | _ :: _, [] => rfl
  | a :: w, x :: xs => by
    show dot (a :: w) (((clsN few turn x : Nat) : Int) :: intsN (xs.map (clsN few turn))) % _ = dot (a :: w) ((x : Int) :: intsN xs) % _
    rw [dot_cons, dot_cons, Int.add_emod, Int.mul_emod, clsN_dvd hm, dot_mod hm w xs, ← Int.mul_emod, ← Int.add_emod]
theorem dot_least {few turn : Nat} : ∀ (w : List Int) (xs : List Nat), (∀ a ∈ w, 0 ≤ a) → dot w (intsN (xs.map (clsN few turn))) = dot w (intsN xs) ∨ ((few : Int) ≤ dot w (intsN (xs.map (clsN few turn))) ∧ (few : Int) ≤ dot w (intsN xs))
  | [], _, _ => .inl (by rw [dot_nil1, dot_nil1])
  | _ :: _, [], _ => .inl rfl
  | a :: w, x :: xs, h => by
    show dot (a :: w) (((clsN few turn x : Nat) : Int) :: intsN (xs.map (clsN few turn))) = dot (a :: w) ((x : Int) :: intsN xs) ∨ ((few : Int) ≤ dot (a :: w) (((clsN few turn x : Nat) : Int) :: intsN (xs.map (clsN few turn))) ∧ (few : Int) ≤ dot (a :: w) ((x : Int) :: intsN xs))
    rw [dot_cons, dot_cons]
    have hw : ∀ b ∈ w, 0 ≤ b := fun b hb => h b (List.mem_cons_of_mem _ hb)
    have ha := h a List.mem_cons_self
    have n1 := dot_nn (xs := xs.map (clsN few turn)) hw
    have n2 := dot_nn (xs := xs) hw
    have p1 := Int.mul_nonneg ha (Int.natCast_nonneg (clsN few turn x))
    have p2 := Int.mul_nonneg ha (Int.natCast_nonneg x)
    by_cases hx : x < few
    · rw [clsN_low (show x < few + turn by omega)]
      rcases dot_least w xs hw with e | ⟨e1, e2⟩
      · exact .inl (by rw [e])
      · exact .inr ⟨by omega, by omega⟩
    · by_cases h0 : a = 0
      · subst h0
        rw [Int.zero_mul, Int.zero_mul, Int.zero_add, Int.zero_add]
        exact dot_least w xs hw
      · have a1 : 1 ≤ a := by omega
        have k1 := clsN_few (turn := turn) (Nat.le_of_not_lt hx)
        have m1 : (1 : Int) * ((clsN few turn x : Nat) : Int) ≤ a * ((clsN few turn x : Nat) : Int) := Int.mul_le_mul_of_nonneg_right a1 (Int.natCast_nonneg _)
        have m2 : (1 : Int) * (x : Int) ≤ a * (x : Int) := Int.mul_le_mul_of_nonneg_right a1 (Int.natCast_nonneg _)
        exact .inr ⟨by omega, by omega⟩
theorem Cd.val_cls {n few turn : Nat} {xs : List Nat} : ∀ {c : Cd}, c.ok n → (∀ w b, Cd.least w b ∈ c.plains → b.toNat ≤ few) → (∀ w m q, Cd.turns w m q ∈ c.plains → m.toNat ∣ turn) → c.val (intsN (xs.map (clsN few turn))) = c.val (intsN xs)
  | .least w b, h, hf, _ => by
    have hb := hf w b (by simp [Cd.plains])
    have b0 := h.2.1
    have e := dot_least (few := few) (turn := turn) w xs fun a ha => (h.1.2 a ha).1
    simp only [Cd.val, decide_eq_decide]
    omega
  | .turns w m r, h, _, ht => by
    have hm := ht w m r (by simp [Cd.plains])
    have m1 := h.2.1
    have e := dot_mod (few := few) hm w xs
    rw [show ((m.toNat : Nat) : Int) = m by omega] at e
    simp only [Cd.val, e]
  | .neg c, h, hf, ht => by
    simp only [Cd.val]
    rw [Cd.val_cls (c := c) h hf ht]
  | .both c d, h, hf, ht => by
    simp only [Cd.val]
    rw [Cd.val_cls (c := c) h.1 (fun w b hm => hf w b (by simp [Cd.plains, hm])) (fun w m q hm => ht w m q (by simp [Cd.plains, hm])), Cd.val_cls (c := d) h.2 (fun w b hm => hf w b (by simp [Cd.plains, hm])) (fun w m q hm => ht w m q (by simp [Cd.plains, hm]))]
  | .either c d, h, hf, ht => by
    simp only [Cd.val]
    rw [Cd.val_cls (c := c) h.1 (fun w b hm => hf w b (by simp [Cd.plains, hm])) (fun w m q hm => ht w m q (by simp [Cd.plains, hm])), Cd.val_cls (c := d) h.2 (fun w b hm => hf w b (by simp [Cd.plains, hm])) (fun w m q hm => ht w m q (by simp [Cd.plains, hm]))]
theorem fsR_cls {R : Rl} (h : R.ok) {c : Nat} (hc : c ∈ R.L.cps.toList) (xs : List Nat) : fsR R c (xs.map (clsN (fewR R) (turnR R))) = fsR R c xs := by
  obtain ⟨rs, hrs, hro⟩ := h.at hc
  have few_ok := (fewP_iff ((condsOf R).flatMap Cd.plains) 0 (fewR R)).mp (Nat.le_refl _)
  have turn_ok := (turnP_iff ((condsOf R).flatMap Cd.plains) 1 (turnR R)).mp (Nat.dvd_refl _)
  have inC : ∀ r ∈ rs, ∀ p ∈ r.1.plains, p ∈ (condsOf R).flatMap Cd.plains := fun r hr p hp => by
    refine List.mem_flatMap.mpr ⟨r.1, List.mem_flatMap.mpr ⟨c, hc, ?_⟩, hp⟩
    rw [hrs]
    exact List.mem_map.mpr ⟨r, hr, rfl⟩
  have each : ∀ r ∈ rs, r.1.val (intsN (xs.map (clsN (fewR R) (turnR R)))) = r.1.val (intsN xs) := fun r hr =>
    Cd.val_cls (hro.2.1 r hr).1 (fun w b hm => few_ok.2 w b (inC r hr _ hm)) fun w m q hm => turn_ok.2 w m q (inC r hr _ hm)
  have same : ∀ l : RR, (∀ r ∈ l, r ∈ rs) → l.find? (fun r => r.1.val (intsN (xs.map (clsN (fewR R) (turnR R))))) = l.find? fun r => r.1.val (intsN xs) := by
    intro l hl
    induction l with
    | nil => rfl
    | cons a t ih =>
      rw [List.find?_cons, List.find?_cons, each a (hl a List.mem_cons_self), ih fun r hr => hl r (List.mem_cons_of_mem _ hr)]
  unfold fsR
  rw [hrs]
  show (stR rs (intsN (xs.map (clsN (fewR R) (turnR R))))).getD 0 = (stR rs (intsN xs)).getD 0
  unfold stR
  rw [same rs fun _ h => h]

theorem atN_rows {c : Nat} {row : List Nat} {fs : Nat → List Nat → Nat} : ∀ {xs : List NRow} {keys : List (Nat × List Nat)}, RowsJ xs keys fs → (c, row) ∈ keys → atN xs (keyN c row) = some (nI (fs c row))
  | _, _, .nil, h => by cases h
  | x :: xs, (c', row') :: keys, .cons r t, h => by
    obtain ⟨e1, e2⟩ := r
    by_cases e : (c', row') = (c, row)
    · cases e
      simp [atN, e1, e2]
    · have hm : (c, row) ∈ keys := (List.mem_cons.mp h).resolve_left fun z => e z.symm
      have ne : ¬ x.1 = keyN c row := fun z => e (by
        obtain ⟨a, b⟩ := keyN_inj (e1.symm.trans z)
        dsimp only at a b
        rw [a, b])
      have : atN (x :: xs) (keyN c row) = atN xs (keyN c row) := by simp [atN, List.find?_cons, ne]
      rw [this]
      exact atN_rows t hm


structure JD where
  L : Str
  n : Nat
  few : Nat
  turn : Nat
  fs : Nat → List Nat → Nat
  good : List Nat
def JD.keys (J : JD) : List (Nat × List Nat) := keysOf J.L J.n (J.few + J.turn)
def JD.sf (J : JD) (c : Nat) (row : List Nat) : Nat := J.fs c (row.map (clsN J.few J.turn))
structure JD.ok (J : JD) : Prop where
  L : Lets J.L
  n1 : 1 ≤ J.n
  n6 : J.n ≤ 6
  f4 : J.few ≤ 4
  t1 : 1 ≤ J.turn
  t4 : J.turn ≤ 4
  h600 : J.L.length * (J.few + J.turn) ^ J.n ≤ 600
  lt : ∀ key ∈ J.keys, J.fs key.1 key.2 < J.n
  g6 : J.good.length ≤ 6
  gn : ∀ g ∈ J.good, g < J.n
def JAt (P : Program) (w : World) (H : Hp) (v : V) (J : JD) : Prop := ∃ (j d g : Addr) (xs : List NRow) (keys : List (Nat × List Nat)), v = .ref j ∧ H j = some (.tup [.str J.L, nI J.n, nI J.few, nI J.turn, .ref d, .ref g]) ∧ H d = some (DictN P w d xs) ∧ RowsN H xs ∧ RowsJ xs keys J.fs ∧ keys.Perm J.keys ∧ H g = some (.lst (J.good.map nI))
theorem not_tbl {P : Program} {w : World} {d : Addr} {xs : List NRow} : ∀ ps, DictN P w d xs ≠ .tbl ps := fun ps z => by unfold DictN at z; cases z
theorem JAt.extN {P : Program} {w : World} {H H' : Hp} {v : V} {J : JD} (x : JAt P w H v J) (f : LamX.ExtN H H') : JAt P w H' v J := by
  obtain ⟨j, d, g, xs, keys, rfl, h1, h2, h3, h4, h5, h6⟩ := x
  exact ⟨j, d, g, xs, keys, rfl, f _ _ h1 (fun _ z => by cases z), f _ _ h2 not_tbl, h3.keep fun b ys e => f _ _ e (fun _ z => by cases z), h4, h5, f _ _ h6 (fun _ z => by cases z)⟩
theorem JAt.same {P : Program} {w : World} {H H' : Hp} {v : V} {J : JD} (x : JAt P w H v J) (f : Same H H') : JAt P w H' v J := x.extN (.of f)
theorem rowsTo_all {k : Nat} : ∀ {n : Nat} {r : List Nat}, r.length = n → (∀ x ∈ r, x < k) → r ∈ rowsTo n k
  | 0, r, h, _ => by
    rw [List.length_eq_zero_iff] at h
    subst h
    simp [rowsTo]
  | n + 1, r, h, hx => by
    obtain ⟨a, b, rfl⟩ := concat_of (l := r) (by intro z; rw [z] at h; cases h)
    rw [List.length_append, List.length_singleton] at h
    simp only [rowsTo, List.mem_flatMap, List.mem_map, List.mem_range]
    exact ⟨a, rowsTo_all (by omega) fun x hm => hx x (List.mem_append_left _ hm), b, hx b (List.mem_append_right _ (List.mem_singleton.mpr rfl)), rfl⟩
theorem keysOf_all {L : Str} {n k c : Nat} {row : List Nat} (hc : c ∈ L.cps.toList) (hl : row.length = n) (hx : ∀ x ∈ row, x < k) : (c, row) ∈ keysOf L n k :=
  List.mem_flatMap.mpr ⟨c, hc, List.mem_map.mpr ⟨row, rowsTo_all hl hx, rfl⟩⟩
theorem JD.ok.key {J : JD} (h : J.ok) {c : Nat} {row : List Nat} (hc : c ∈ J.L.cps.toList) (hl : row.length = J.n) : (c, row.map (clsN J.few J.turn)) ∈ J.keys :=
  keysOf_all hc (by rw [List.length_map, hl]) fun x hx => by
    obtain ⟨y, _, rfl⟩ := List.mem_map.mp hx
    exact clsN_lt h.t1 y
theorem JD.ok.sf_lt {J : JD} (h : J.ok) {c : Nat} {row : List Nat} (hc : c ∈ J.L.cps.toList) (hl : row.length = J.n) : J.sf c row < J.n := h.lt _ (h.key hc hl)
def NewN (H : Hp) (r : Addr) : Prop := ∀ o, H r = some o → ∃ ps, o = .tbl ps
def sp_class_of : Sp := fun vs H Q _ => ∃ x few turn : Nat, vs = [nI x, nI few, nI turn] ∧ 1 ≤ turn ∧ Q (nI (clsN few turn x)) H
def sp_state_by_numbers (P : Program) (w : World) : Sp := fun vs H Q _ => ∃ (v : V) (J : JD) (c : Nat) (b : Addr) (row : List Nat), vs = [v, .str (ch c), .ref b] ∧ JAt P w H v J ∧ J.ok ∧ c ∈ J.L.cps.toList ∧ row.length = J.n ∧ H b = some (.lst (row.map nI)) ∧ ∀ H', Same H H' → Q (nI (J.sf c row)) H'
def sp_part_states (P : Program) (w : World) (TT : List NdefX.NTab) : Sp := fun vs H Q _ => ∃ (v u : V) (J : JD) (t : Tr), vs = [v, u] ∧ JAt P w H v J ∧ J.ok ∧ TrAt (fun _ => True) H u t ∧ t.size ≤ 1000000 ∧ t.lets (fun c => c ∈ J.L.cps.toList) ∧ NdefX.TabsN TT H ∧
  ∀ r H', LamX.ExtN H H' → NdefX.TabsN TT H' → NewN H r → H' r = some (.lst ((t.post.map (St J.sf J.n)).map nI)) → Q (.ref r) H'
def sp_state_of (P : Program) (w : World) (TT : List NdefX.NTab) : Sp := fun vs H Q _ => ∃ (v u : V) (J : JD) (t : Tr), vs = [v, u] ∧ JAt P w H v J ∧ J.ok ∧ TrAt (fun _ => True) H u t ∧ t.size ≤ 1000000 ∧ t.lets (fun c => c ∈ J.L.cps.toList) ∧ NdefX.TabsN TT H ∧
  ∀ H', LamX.ExtN H H' → NdefX.TabsN TT H' → Q (nI (St J.sf J.n t)) H'
def sp_lets_by (P : Program) (w : World) (TT : List NdefX.NTab) : Sp := fun vs H Q _ => ∃ (v u : V) (J : JD) (t : Tr), vs = [v, u] ∧ JAt P w H v J ∧ J.ok ∧ TrAt (fun _ => True) H u t ∧ t.size ≤ 1000000 ∧ t.lets (fun c => c ∈ J.L.cps.toList) ∧ NdefX.TabsN TT H ∧
  ∀ H', LamX.ExtN H H' → NdefX.TabsN TT H' → Q (.bl (decide (St J.sf J.n t ∈ J.good))) H'
structure TTp {K : PySem.W.Frag} {mg : Str → Option Value} (T : Txt K mg) (TT : List NdefX.NTab) : Prop where
  s1 : (T.P_states_upward, fun _ _ => q_states_upward) ∈ TT
  s2 : ∀ z ∈ TT, z.1 = T.P_states_upward → z.2 = fun _ _ => q_states_upward
  r1 : (T.P_part_states, fun _ _ => q_part_states) ∈ TT
  r2 : ∀ z ∈ TT, z.1 = T.P_part_states → z.2 = fun _ _ => q_part_states
section
variable {P : Program} {w : World} {K : PySem.W.Frag} {mg : Str → Option Value} {base : Heap}
theorem ok_class_of (T : Txt K mg) : FnOk P w K mg base CX0 1 T.f_class_of T.d_class_of ["number", "few", "turn"] sp_class_of := by
  refine T.F_class_of.ok sc_class_of (fun vs H Q E h => ?_) (fun cdv A outer s H vs Q E hr h => ?_)
  · obtain ⟨x, few, turn, rfl, _⟩ := h
    rfl
  obtain ⟨x, few, turn, rfl, ht, q⟩ := h
  refine ⟨_, (pss_cons (ps_if (pt_cmpR op_lt (pv 0) (pe_op op_add (pv 1) (pv 2)) (nomark _)) (pss_one (ps_ret (pv 0))) pss_nil) (pss_one (ps_ret (pe_op op_add (pv 1) (pe_op op_mod (pe_op op_sub (pv 0) (pv 1)) (pv 2)))))), ?_⟩
  refine ⟨_, rfl, _, rfl, _, rfl, _, _, rfl, rfl, _, _, rfl, rfl, _, rfl, ?_⟩
  by_cases hx : x < few + turn
  · rw [clsN_low hx] at q
    exact dT (by omega) ⟨_, rfl, q⟩
  · refine dF (by omega) ⟨_, rfl, _, rfl, _, rfl, _, _, rfl, rfl, _, rfl, _, _, rfl, rfl, by omega, _, _, rfl, rfl, ?_⟩
    have e : (few : Int) + ((x : Int) - (few : Int)) % (turn : Int) = ((clsN few turn x : Nat) : Int) := by
      unfold clsN
      rw [if_neg hx]
      have : ((x : Int) - (few : Int)) = ((x - few : Nat) : Int) := by omega
      rw [this]
      push_cast
      rfl
    show Q (V.int ((few : Int) + ((x : Int) - (few : Int)) % (turn : Int))) H
    rw [e]
    exact q
theorem ok_state_by_numbers (T : Txt K mg) : FnOk P w K mg base CX0 2 T.f_state_by_numbers T.d_state_by_numbers ["judge", "letter", "numbers"] (sp_state_by_numbers P w) := by
  have G_class_of : FnOk P w K mg base CX0 1 T.f_class_of T.d_class_of ["number", "few", "turn"] sp_class_of := ok_class_of T
  refine T.F_state_by_numbers.ok sc_state_by_numbers (fun vs H Q E h => ?_) (fun cdv A outer s H vs Q E hr h => ?_)
  · obtain ⟨v, J, c, b, row, rfl, _⟩ := h
    rfl
  obtain ⟨v, J, c, b, row, rfl, hJ, hok, hc, hl, hb, q⟩ := h
  refine ⟨_, (pss_cons (ps_setLc (i := 3) (own := [("number", 4)]) (g := gName 4) (te := tCall sp_class_of [] E0 (tCons (tVar 4) (tCons (tOp (rIxT K) (tVar 0) (tC (.int 2))) (tCons (tOp (rIxT K) (tVar 0) (tC (.int 3))) tNil)))) (tt := tYes) rfl sc_state_by_numbers.nd rfl rfl (sw_true rfl rfl rfl (by decide +kernel)) (pi_list (pv 2)) (blkOk_by (own := [("number", 4)]) (N := ["judge", "letter", "numbers", "row", "number"]) (sc := (defScope s_state_by_numbers)) (by decide +kernel)) (fun _ _ _ _ _ => (pg_name (i := 4) sc_state_by_numbers.nd rfl (Or.inl rfl))) (fun _ _ _ _ _ => pts_nil) (fun _ _ _ _ _ => (pe_call G_class_of (hr.mono (by omega)) (by rfl) T.m_class_of T.F_class_of.kp T.b_class_of .nil pass0 (pa_cons (pv 4) (pa_cons (pe_ix ix_tup (pv 0) pe_int (fun _ _ => rfl)) (pa_cons (pe_ix ix_tup (pv 0) pe_int (fun _ _ => rfl)) pa_nil)))))) (pss_one (ps_ret (pe_dgetN (roomN hr) (pe_ix ix_tup (pv 0) pe_int (fun _ _ => rfl)) (pe_tup (pa_cons (pv 1) (pa_cons (pe_callTy call_tuple_of (by rfl) T.z_tuple (by decide +kernel) (pa_cons (pv 3) pa_nil)) pa_nil))) (fun _ _ => rfl))))), ?_⟩
  have hkey := hok.key hc hl
  have l6 : row.length ≤ 6 := by rw [hl]; exact hok.n6
  obtain ⟨j, d, g, xs, keys, rfl, hj, hd, hrn, hrj, hper, hg⟩ := hJ
  have hat := atN_rows hrj (hper.mem_iff.mpr hkey)
  refine ⟨_, rfl, b, rfl, ⟨_, SqL.of hb⟩, fun D hD => ?_⟩
  refine lc_list (xs := row.map nI) (fun i H2 => H2 D = some (.lst (((row.take i).map (clsN J.few J.turn)).map nI)) ∧ Same H H2) ⟨upd_same, same_new hD⟩ (fun i H2 _ ⟨_, s⟩ => SqL.of (s _ _ hb)) ?_ ?_
  · rintro i x H2 hx ⟨g1, g2⟩
    rw [List.getElem?_map] at hx
    cases hz : row[i]? with
    | none => rw [hz] at hx; cases hx
    | some z =>
    rw [hz] at hx
    cases hx
    refine ⟨rfl, _, rfl, _, rfl, j, _, 2, _, rfl, rfl, SqT.of (g2 _ _ hj), atI_nat (j := 2) rfl, _, rfl, j, _, 3, _, rfl, rfl, SqT.of (g2 _ _ hj), atI_nat (j := 3) rfl, z, J.few, J.turn, rfl, hok.t1, _, g1, ?_, ?_, same_add g2 hD⟩
    · rw [List.length_map, List.length_map, List.length_take]
      exact Nat.lt_of_le_of_lt (show _ ≤ 1000000 by omega) (by decide)
    · rw [upd_same, take_succ_of hz, List.map_append, List.map_append]
      rfl
  · rintro H2 ⟨g1, g2⟩
    rw [List.length_map, List.take_length] at g1
    refine ⟨_, rfl, j, _, 4, .ref d, rfl, rfl, SqT.of (g2 _ _ hj), atI_nat (j := 4) rfl, _, rfl, _, rfl, D, _, rfl, .inl ⟨SqL.of g1, fun t ht => ?_⟩⟩
    have s3 := same_new ht (o := .tup ((row.map (clsN J.few J.turn)).map nI))
    have k3 := upd_same (H := H2) (a := t) (o := .tup ((row.map (clsN J.few J.turn)).map nI))
    generalize upd H2 t (.tup ((row.map (clsN J.few J.turn)).map nI)) = H3 at *
    refine ⟨(by show 2 ≤ sizeLine; decide), fun b2 hb2 => ?_⟩
    have s4 := same_new hb2 (o := .tup [.str (ch c), .ref t])
    have k4 := upd_same (H := H3) (a := b2) (o := .tup [.str (ch c), .ref t])
    generalize upd H3 b2 (.tup [.str (ch c), .ref t]) = H4 at *
    have S := (g2.trans s3).trans s4
    exact ⟨d, b2, xs, keyN c (row.map (clsN J.few J.turn)), _, rfl, rfl, S _ _ hd, hrn.keep fun b ys e => S _ _ e, nk_key k4 (s4 _ _ k3), keyN_depth _ _, hat, q H4 S⟩
def sp_judge_lam (P : Program) (w : World) (J : JD) (v : V) : Sp := fun vs H Q _ => ∃ (c : Nat) (b : Addr) (cs : List Nat), vs = [.str (ch c), .ref b] ∧ c ∈ J.L.cps.toList ∧ cs.length = J.n ∧ H b = some (.lst (cs.map nI)) ∧ JAt P w H v J ∧ ∀ H', Same H H' → Q (nI (J.sf c cs)) H'
theorem ok_part_states (T : Txt K mg) (B : Tbs T base) {TT : List NdefX.NTab} (hTT : TTp T TT) : FnOk P w K mg base CX0 15 T.f_part_states T.d_part_states ["judge", "tree"] (sp_part_states P w TT) := by
  have G_states_upward : FnOk P w K mg base CX0 14 T.f_states_upward T.d_states_upward ["tree", "letters", "states", "state_at"] (sp_states_upward P w K mg base TT) := ok_states_upward T B TT hTT.s1 hTT.s2
  refine okC T.F_part_states T.h_part_states sc_part_states (fun vs H Q E h => ?_) (fun A outer s H vs Q E hr h => ?_)
  · obtain ⟨v, u, J, t, rfl, _⟩ := h
    rfl
  obtain ⟨v, u, J, t, rfl, hJ, hok, ht, hz, hL, hT, q⟩ := h
  refine ⟨_, (pss_one (ps_ret (pe_callLd G_states_upward (hr.mono (by omega)) (by rfl) T.m_states_upward T.F_states_upward.kp T.b_states_upward (fun _ => rfl) (pa_cons (pv 1) (pa_cons (pe_ix ix_tup (pv 0) pe_int (fun _ _ => rfl)) (pa_cons (pe_ix ix_tup (pv 0) pe_int (fun _ _ => rfl)) (pa_cons (pe_lamXc B.tb_part_states rfl (by rfl) (fr := ["judge"]) (by show NdefX.ndefB (defScope s_part_states) _ _ = true; decide +kernel)) pa_nil))))))), ?_⟩
  have hJ0 := hJ
  obtain ⟨j, d, g, xs, keys, rfl, hj, hd, hrn, hrj, hper, hg⟩ := hJ0
  refine ⟨_, rfl, _, rfl, j, _, 0, _, rfl, rfl, SqT.of hj, atI_nat (j := 0) rfl, _, rfl, j, _, 1, _, rfl, rfl, SqT.of hj, atI_nat (j := 1) rfl, NdefX.TabN.to (hT _ hTT.r1), fun f c H1 f1 n1 T1 hf0 hf hc cs hcs => ?_⟩
  have hnew := hcs.new
  have E1 : LamX.ExtN H H1 := extN_of_frP hT hTT.r1 f1
  have TN1 : NdefX.TabsN TT H1 := tabsN_frP hT hTT.r1 hTT.r2 f1 T1
  have hJ1 := hJ.extN E1
  refine ⟨u, t, J.L, J.n, f, J.sf, rfl, (ht.extN1 E1).same (lend_same hnew), hz, hL, Nat.le_trans hok.n6 (by decide), TN1.ext (fun b o e => lend_some hnew e), ?_, fun r H2 e2 T2 hr0 hr2 => ⟨lent_extN e2, ?_⟩⟩
  · refine CalX.imp2 (k := 9 + 1) (calX_lamC (k := 9) (N := ["letter", "numbers", "judge"]) (ps := ["letter", "numbers"]) (f := f) (F := _) (sp := sp_judge_lam P w J (.ref j)) (NdefX.nscope_by (by dsimp only; decide +kernel)) (hcs.got _ ["judge"] [0] (by show NdefX.ndefB (defScope s_part_states) _ _ = true; decide +kernel) rfl) hcs.cel (fun pm ctv us hl => match us, hl with | [_, _], _ => rfl) (fun vs H Q E h => ?_) (fun A outer s H vs Q E hr h => ?_)) (Nat.le_refl _) (fun vs H Q E h => ?_) (fun H' e => ⟨e _ _ (lend_some hnew hf) (fun ps z => by unfold LamO at z; cases z), e _ _ (lend_some hnew hc) (fun ps z => by unfold LamX.CodeO at z; cases z), lent_extN e⟩) (fun vs H' Q E e h => ?_)
    · obtain ⟨c, b, cs, rfl, _⟩ := h
      rfl
    · obtain ⟨c, b, cs, rfl, hc, hl, hb, hJ', qq⟩ := h
      have G_state_by_numbers : FnOk P w K mg base CX0 2 T.f_state_by_numbers T.d_state_by_numbers ["judge", "letter", "numbers"] (sp_state_by_numbers P w) := ok_state_by_numbers T
      refine ⟨_, (pe_call G_state_by_numbers (hr.mono (by omega)) (by rfl) T.m_state_by_numbers T.F_state_by_numbers.kp T.b_state_by_numbers .nil pass0 (pa_cons (pv 2) (pa_cons (pv 0) (pa_cons (pv 1) pa_nil)))), ?_⟩
      exact ⟨_, rfl, _, rfl, _, rfl, _, J, c, b, cs, rfl, hJ', hok, hc, hl, hb, fun H2 s2 => qq H2 s2⟩
    · obtain ⟨c, b, cs, rfl, _⟩ := h
      rfl
    · obtain ⟨c, b, ds, rfl, hc', hl, _, hb, qq⟩ := h
      have lt := lent_extN e
      exact ⟨c, b, ds, rfl, hc', hl, unl_keep lt hb (fun _ z => by cases z), hJ1.extN (extN_unl hnew e), fun H2 s2 => qq _ (same_lend lt s2)⟩
  · have lt := lent_extN e2
    have hr3 := unl_keep lt hr2 (fun _ z => by cases z)
    refine q r _ (E1.trans (extN_unl hnew e2)) (tabsN_unl hnew T2 lt hcs.cel) (fun o hh => Classical.byContradiction fun ht => ?_) hr3
    have := E1 _ _ hh fun ps z => ht ⟨ps, z⟩
    rw [lend_some hnew this] at hr0
    cases hr0
theorem ok_state_of (T : Txt K mg) (B : Tbs T base) {TT : List NdefX.NTab} (hTT : TTp T TT) : FnOk P w K mg base CX0 16 T.f_state_of T.d_state_of ["judge", "tree"] (sp_state_of P w TT) := by
  have G_part_states : FnOk P w K mg base CX0 15 T.f_part_states T.d_part_states ["judge", "tree"] (sp_part_states P w TT) := ok_part_states T B hTT
  refine T.F_state_of.ok sc_state_of (fun vs H Q E h => ?_) (fun cdv A outer s H vs Q E hr h => ?_)
  · obtain ⟨v, u, J, t, rfl, _⟩ := h
    rfl
  obtain ⟨v, u, J, t, rfl, hJ, hok, ht, hz, hL, hT, q⟩ := h
  refine ⟨_, (pss_one (ps_ret (pe_ix ix_list (pe_call G_part_states (hr.mono (by omega)) (by rfl) T.m_part_states T.F_part_states.kp T.b_part_states .nil pass0 (pa_cons (pv 0) (pa_cons (pv 1) pa_nil))) (pe_un un_neg pe_int) (fun _ _ => rfl)))), ?_⟩
  refine ⟨_, rfl, _, rfl, v, u, J, t, rfl, hJ, hok, ht, hz, hL, hT, fun r H2 e2 T2 hr0 hr2 => ?_⟩
  obtain ⟨l, hl⟩ := post_last t
  rw [hl, List.map_append, List.map_append] at hr2
  exact ⟨1, rfl, r, _, -1, _, rfl, rfl, SqL.of hr2, atI_last _ _, q _ e2 T2⟩
theorem ok_lets_by (T : Txt K mg) (B : Tbs T base) {TT : List NdefX.NTab} (hTT : TTp T TT) : FnOk P w K mg base CX0 17 T.f_lets_by T.d_lets_by ["judge", "tree"] (sp_lets_by P w TT) := by
  have G_state_of : FnOk P w K mg base CX0 16 T.f_state_of T.d_state_of ["judge", "tree"] (sp_state_of P w TT) := ok_state_of T B hTT
  refine T.F_lets_by.ok sc_lets_by (fun vs H Q E h => ?_) (fun cdv A outer s H vs Q E hr h => ?_)
  · obtain ⟨v, u, J, t, rfl, _⟩ := h
    rfl
  obtain ⟨v, u, J, t, rfl, hJ, hok, ht, hz, hL, hT, q⟩ := h
  refine ⟨_, (pss_one (ps_ret (pe_cmpR op_in_seq (pe_call G_state_of (hr.mono (by omega)) (by rfl) T.m_state_of T.F_state_of.kp T.b_state_of .nil pass0 (pa_cons (pv 0) (pa_cons (pv 1) pa_nil))) (pe_ix ix_tup (pv 0) pe_int (fun _ _ => rfl)) (by rfl)))), ?_⟩
  refine ⟨_, rfl, _, rfl, v, u, J, t, rfl, hJ, hok, ht, hz, hL, hT, fun H2 e2 T2 => ?_⟩
  obtain ⟨j, d, g, xs, keys, rfl, hj, hd, hrn, hrj, hper, hg⟩ := hJ.extN e2
  exact ⟨_, rfl, j, _, 5, _, rfl, rfl, SqT.of hj, atI_nat (j := 5) rfl, g, _, rfl, .inl (SqL.of hg), rfl, flat_nI _, by rw [if_neg (by decide), inV_nI]; exact q H2 e2 T2⟩
end

def revS (z : Str) : Str := ⟨z.cps.toList.reverse.toArray⟩
def tRevS (te : TE) : TE := fun σ H Q => te σ H fun x H1 => ∃ z : Str, x = .str z ∧ z.length ≤ sizeLine ∧ Q (.str (revS z)) H1
theorem pe_revS {X : Cx} {e : PySem.Expr} {te : TE} {k : Nat} {p1 p2 p3 pos : Pos} (he : PE X e te) : PE X (.Subscript e (.Slice none none (some (.UnaryOp .USub (.Constant (.int 1) k p1) p2)) p3) pos) (tRevS te) := by
  refine ⟨fun pins s σ H Q I h => ?_⟩
  refine Subscript_ (thn (he.run pins s σ H _ I h) fun v s1 ⟨x, H1, I1, r1, z, ex, hz, q⟩ => ?_)
  subst ex
  obtain ⟨t, rfl⟩ := r1
  have step : PO X (some (.UnaryOp .USub (.Constant (.int 1) k p1) p2)) (tPart (tUn (rU fun i => .int (-i)) (tC (.int 1)))) := po_some (pe_un un_neg pe_int)
  refine wpAny_Slice (thn (po_none.run pins s1 σ H1 (fun o H2 => o = none ∧ H2 = H1) I1 ⟨rfl, rfl⟩) fun v1 s2 ⟨o1, H2, I2, g1, f1, f2⟩ => ?_)
  subst f1 f2
  refine thn (po_none.run pins s2 σ H2 (fun o H3 => o = none ∧ H3 = H2) I2 ⟨rfl, rfl⟩) fun v2 s3 ⟨o2, H3, I3, g2, f3, f4⟩ => ?_
  subst f3 f4
  refine thn (step.run pins s3 σ H3 (fun o H4 => o = some (-1) ∧ H4 = H3) I3 ⟨1, rfl, -1, rfl, rfl, rfl⟩) fun v3 s4 ⟨o3, H4, I4, g3, f5, f6⟩ => ?_
  subst f5 f6
  obtain ⟨l, rfl, el⟩ := IsPart.raw g1
  obtain ⟨u, rfl, eu⟩ := IsPart.raw g2
  obtain ⟨st, rfl, es⟩ := IsPart.raw g3
  have I5 : Inv X pins σ H4 { s4 with heap := s4.heap.push { cls := .type "slice", data := .fields #[partValue l, partValue u, partValue st] } } := I4.kept (t' := s4.toks) fun b ob q => Heap.get?_push_of_some _ q
  show wpAny (model X.prog X.w) X.A (subscriptTail e (.Slice none none (some (.UnaryOp .USub (.Constant (.int 1) k p1) p2)) p3) (.str z t) (.ref s4.heap.objs.size)) (EP X pins σ Q) X.xe { s4 with heap := s4.heap.push { cls := .type "slice", data := .fields #[partValue l, partValue u, partValue st] } }
  refine tail_any (ops := [.str z t, .ref s4.heap.objs.size]) (typeIs_str _ _ _) PySem.F.slot_str_getitem.lookup ?_ (by with_unfolding_all rfl)
  refine wpAny_getItem_str_slice (l := l) (u := u) (st := st) ⟨_, Heap.get?_push_size _ rfl, rfl, rfl⟩ (by rw [es]; rfl) ?_
  have ep : slicePicked z l u st = (List.range z.length).reverse := by
    unfold slicePicked
    rw [el, eu, es]
    show Builtin.Str.strSliceIndices none none (-1) z.length = _
    rw [PyProof.Rows.picked_rev, PySem.W.krv_range]
  have em : sliceMade z t l u st = .str (revS z) := by
    unfold sliceMade
    rw [es, ep, if_neg (by simp), List.filterMap_reverse]
    have e : (List.range z.length).filterMap (z.cps[·]?) = z.cps.toList := PySem.W.krv_all z.cps
    rw [e]
    rfl
  rw [em]
  have hl : (revS z).length ≤ sizeLine := by
    show (z.cps.toList.reverse.toArray).size ≤ sizeLine
    rw [List.size_toArray, List.length_reverse, Array.length_toList]
    exact hz
  exact ⟨hl, .str _, H4, I5.tok _, ⟨_, rfl⟩, q⟩

def IteS (x : Str) : It := ⟨fun i _ => i < x.cps.size, fun i H v H' => ∃ (T : Addr) (c : Nat), v = .ref T ∧ H T = none ∧ H' = upd H T (.tup [.int (i : Nat), .str (ch c)]) ∧ x.cps[i]? = some c, fun i _ => x.cps.size = i⟩
theorem drawsS {prog : Program} {w : World} {A : Around} (hh : A.handled = none) (it : Addr) (x : Str) (t : Tok) :
    Draws prog w A it [it] x.cps.size (fun i v => ∃ c u, x.cps[i]? = some c ∧ v = .str ⟨#[c]⟩ u) (fun i h => h.IsStrIter it (strIterType x) x t i) := by
  unfold strIterType
  split
  · exact Draws.strAscii hh it x t
  · exact Draws.strWide hh it x t
theorem turn_enumS {P : Program} {w : World} {K : PySem.W.Frag} {elts : List PySem.Expr} {kk : Nat} {tpos : Pos} (x : Str) (t : Tok) (en it : Addr) :
    Turn P w K (.Tuple elts kk tpos) (IteS x) [en, it] en (fun i h => (∃ old, IsEnum h en it ((i : Nat) : Int) old) ∧ h.IsStrIter it (strIterType x) x t i ∧ en ≠ it) where
  mem := by simp
  obj := fun i h st b hb => by
    obtain ⟨⟨old, h1⟩, ⟨o, ho, _, hd⟩, _⟩ := st
    rcases (by simpa using hb : b = en ∨ b = it) with z | z
    · subst z; exact ⟨_, h1, fun v q => nomatch q⟩
    · subst z; exact ⟨o, ho, fun v q => by rw [hd] at q; cases q⟩
  keep := fun i h h' st k => by
    obtain ⟨⟨old, h1⟩, ⟨o, ho, r⟩, ne⟩ := st
    exact ⟨⟨old, k en (by simp) _ h1⟩, ⟨o, k it (by simp) _ ho, r⟩, ne⟩
  item := by
    intro X e1 e2 e3 hc i pins s σ H E I hf st hg
    subst e1 e2 e3
    obtain ⟨⟨old, h1⟩, h2, ne⟩ := st
    have D := drawsS (prog := X.prog) (w := X.w) (A := X.A.in1) (I.ok.hd hc) it x t
    have hel : en < s.heap.objs.size := Heap.lt_size h1
    have hil : it < s.heap.objs.size := by obtain ⟨_, q⟩ := D.live _ _ h2; exact Heap.lt_size q
    refine wpAny_pyNext_enum_itemD D h1 h2 hg ne (fun z => ne (List.mem_singleton.mp z)) fun u h' tk hP ho hit' hT hsz hk => ?_
    obtain ⟨c, tu, hcx, rfl⟩ := hP
    refine ⟨_, rfl, wpAny_letOwnedTupleGo_enum (s := { s with heap := h', toks := tk + 1 }) ho fun h'' he' sb => ?_⟩
    have hT2 : h''.get? s.heap.objs.size = some { cls := .type "tuple", data := .seq #[.int i tk, .str ⟨#[c]⟩ tu] } := (sb.2 _ (Nat.ne_of_gt hel)).trans hT
    have nw : ObjOk X.prog X.w (upd H s.heap.objs.size (.tup [.int (i : Nat), .str (ch c)])) h'' s.heap.objs.size (.tup [.int (i : Nat), .str (ch c)]) :=
      ⟨(show 2 ≤ sizeLine by decide), [.int i tk, .str ⟨#[c]⟩ tu], .cons ⟨_, rfl⟩ (.cons ⟨_, rfl⟩ .nil), _, hT2, rfl, _, rfl⟩
    have I1 : Inv X pins σ (upd H s.heap.objs.size (.tup [.int (i : Nat), .str (ch c)])) { s with heap := h'', toks := tk + 1 } :=
      I.turnedNew (ch := [en, it]) (fun b ob hb q => (sb.2 b (fun z => hb (by simp [z]))).trans (hk b ob (fun z => hb (by simp [z])) (fun z => hb (by simp [z])) q)) hf (Nat.le_refl _) nw
    refine ⟨.ref s.heap.objs.size, _, I1, rfl, ⟨_, c, rfl, I.hok.fresh (Nat.le_refl _), rfl, hcx⟩, ⟨⟨.str ⟨#[c]⟩ tu, ?_⟩, D.frame (i + 1) h' h'' hit' (fun b hb o q => (sb.2 b (fun z => ne (by rw [← z]; exact List.mem_singleton.mp hb))).trans q), ne⟩, fun b hb => ?_⟩
    · have e9 : ((i + 1 : Nat) : Int) = (i : Int) + 1 := by omega
      rw [e9]; exact he'
    · have hb' : b < s.heap.objs.size := by
        rcases (by simpa using hb : b = en ∨ b = it) with z | z
        · rw [z]; exact hel
        · rw [z]; exact hil
      rw [upd_ne (Nat.ne_of_lt hb')]
      exact (hf b hb).1
  done := by
    intro X e1 e2 e3 hc i pins s σ H E I hf st hg
    subst e1 e2 e3
    obtain ⟨⟨old, h1⟩, h2, ne⟩ := st
    obtain ⟨f0, f1, f2, f3, f4, f5⟩ := hf it (by simp)
    have D := drawsS (prog := X.prog) (w := X.w) (A := X.A.in1) (I.ok.hd hc) it x t
    have hg' : x.cps.size = i := hg
    subst hg'
    exact wpAny_pyNext_enum_endD D h1 h2 fun h' eb => ⟨rfl, I.turned (t' := s.toks) (fun b o hb q => eb b o hb q) f0 f1 f3 f4 f5⟩
  self := fun A i s Q E st h => let ⟨⟨_, h1⟩, _⟩ := st; wpAny_pyIter_enum h1 h
def iEnumS (ta : TA) : TI := fun σ H R => ta σ H fun vs H1 => ∃ x, vs = [.str x] ∧ R (IteS x) H1
theorem pi_enumS {X : Cx} {e : PySem.Expr} {ta : TA} {p pos tpos : Pos} {elts : List PySem.Expr} {kk : Nat} (hg : Gl X "enumerate") (hm : X.mg "enumerate" = none) (ha : PA X [e] ta) (hs : starEach [e] X.env = [(false, eval e X.env)] := by rfl) :
    PI X (.Tuple elts kk tpos) (.Call (.Name "enumerate" p) [e] [] pos) (iEnumS ta) := by
  refine ⟨fun pins s σ H R I h => ?_⟩
  refine Call_ (ld_blt I hg hm boot_enumerate (PyProof.Rows.callWith_type1 (thn (ha.run pos pins s σ H _ I h) fun us s1 ⟨vs, H1, I1, r1, q1⟩ => ?_) hs rfl))
  obtain ⟨x, ex, q⟩ := q1
  subst ex
  obtain ⟨u, rfl, ru⟩ := r1.one
  obtain ⟨t, rfl⟩ := ru
  refine call_enumerate_str fun h' he hit hsz hk => wpAny_pyIter_enum he ?_
  have I2 : Inv X pins σ H1 { s1 with heap := h' } := I1.kept (t' := s1.toks) hk
  refine ⟨s1.heap.objs.size + 1, [s1.heap.objs.size + 1, s1.heap.objs.size], _, _, H1, rfl, I2, turn_enumS x t (s1.heap.objs.size + 1) s1.heap.objs.size, ⟨⟨.none, he⟩, hit, Nat.succ_ne_self _⟩, fun b hb => ?_, q⟩
  have hle : s1.heap.objs.size ≤ b := by
    rcases (by simpa using hb : b = s1.heap.objs.size + 1 ∨ b = s1.heap.objs.size) with z | z
    · rw [z]; exact Nat.le_add_right _ _
    · rw [z]; exact Nat.le_refl _
  exact I1.fpOk hle (I1.hok.fresh hle)
theorem walk_enumS {x : Str} : Walk (IteS x) x.cps.size (fun _ => True) (fun i H v H' => ∃ (T : Addr) (c : Nat), v = .ref T ∧ H T = none ∧ H' = upd H T (.tup [.int (i : Nat), .str (ch c)]) ∧ x.cps[i]? = some c) :=
  ⟨fun _ _ hi _ => hi, fun _ _ => rfl, fun _ _ _ _ _ _ y => y⟩


theorem join_goc (g : Str) (hg : g.cps = #[]) : ∀ (cs : List Nat) (a : Array Nat), (cs.map ch).foldl (fun acc p => acc ++ g.cps ++ p.cps) a = a ++ cs.toArray
  | [], a => by simp
  | c :: r, a => by
    rw [List.map_cons, List.foldl_cons, join_goc g hg r, hg]
    show a ++ #[] ++ #[c] ++ r.toArray = a ++ (c :: r).toArray
    simp
theorem join_chs : ∀ cs : List Nat, Txt.join (Str.ofString "") (cs.map ch) = ⟨cs.toArray⟩
  | [] => rfl
  | c :: r => by
    show Str.mk ((r.map ch).foldl (fun acc p => acc ++ (Str.ofString "").cps ++ p.cps) (ch c).cps) = _
    rw [join_goc _ (by decide +kernel)]
    show Str.mk (#[c] ++ r.toArray) = _
    simp
def subL (a : List Int) (i : Nat) : List Nat := ((List.range i).filter fun j : Nat => decide ((j : Int) ∈ a)).map fun j => 97 + j
theorem subL_succ (a : List Int) (i : Nat) : subL a (i + 1) = subL a i ++ (if (i : Int) ∈ a then [97 + i] else []) := by
  unfold subL
  rw [List.range_succ, List.filter_append, List.map_append]
  by_cases h : (i : Int) ∈ a
  · rw [if_pos h]; simp [h]
  · rw [if_neg h]; simp [h]
theorem subL_mem {a : List Int} {i c : Nat} (h : c ∈ subL a i) : 97 ≤ c ∧ c < 97 + i := by
  unfold subL at h
  obtain ⟨j, hj, rfl⟩ := List.mem_map.mp h
  have := List.mem_range.mp (List.mem_filter.mp hj).1
  omega
theorem subL_nd (a : List Int) (i : Nat) : (subL a i).Nodup := by
  unfold subL
  have h1 : ((List.range i).filter fun j : Nat => decide ((j : Int) ∈ a)).Nodup := List.nodup_range.sublist List.filter_sublist
  generalize (List.range i).filter (fun j : Nat => decide ((j : Int) ∈ a)) = l at h1
  induction l with
  | nil => exact List.nodup_nil
  | cons x r ih =>
    rw [List.map_cons, List.nodup_cons]
    obtain ⟨n1, n2⟩ := List.nodup_cons.mp h1
    refine ⟨fun hm => ?_, ih n2⟩
    obtain ⟨y, hy, e⟩ := List.mem_map.mp hm
    have : y = x := by omega
    exact n1 (this ▸ hy)
theorem subL_len (a : List Int) (i : Nat) : (subL a i).length ≤ i := by
  unfold subL
  rw [List.length_map]
  have := List.length_filter_le (fun j : Nat => decide ((j : Int) ∈ a)) (List.range i)
  rw [List.length_range] at this
  exact this
def LetsN (L : Str) : Prop := Lets L ∧ L.cps.toList.Nodup
theorem subL_lets {a : List Int} (h : ∃ x ∈ a, 0 ≤ x ∧ x < 26) : LetsN ⟨(subL a 26).toArray⟩ := by
  obtain ⟨x, hx, h0, h1⟩ := h
  have hm : 97 + x.toNat ∈ subL a 26 := by
    unfold subL
    refine List.mem_map.mpr ⟨x.toNat, List.mem_filter.mpr ⟨List.mem_range.mpr (by omega), ?_⟩, rfl⟩
    rw [show ((x.toNat : Nat) : Int) = x by omega]
    simpa using hx
  refine ⟨⟨?_, ?_, fun c hc => ?_⟩, ?_⟩
  · show 1 ≤ (subL a 26).toArray.size
    rw [List.size_toArray]
    exact List.length_pos_of_mem hm
  · show (subL a 26).toArray.size ≤ 26
    rw [List.size_toArray]
    exact subL_len a 26
  · have := subL_mem (show c ∈ subL a 26 by simpa using hc)
    omega
  · simpa using subL_nd a 26
theorem inV_int (x : Int) : ∀ g : List Int, inV (.int x) (g.map V.int) = decide (x ∈ g)
  | [] => rfl
  | y :: r => by
    have ih := inV_int x r
    unfold inV at ih ⊢
    rw [List.map_cons, List.any_cons, ih]
    have e : eqV (.int y) (.int x) = decide (x = y) := by
      show (y == x) = _
      rw [Bool.eq_iff_iff]
      simp
      exact eq_comm
    rw [e]
    simp
theorem flat_int : ∀ g : List Int, (g.map V.int).all flatV = true
  | [] => rfl
  | y :: r => by rw [List.map_cons, List.all_cons, flat_int r]; rfl
theorem alpha_at : ∀ i, i < 26 → (Str.ofString "abcdefghijklmnopqrstuvwxyz").cps[i]? = some (97 + i) := by decide +kernel
theorem look_of_mem {α β : Type} [BEq α] [LawfulBEq α] {a : α} : ∀ {l : List (α × β)}, a ∈ l.map (·.1) → ∃ b, l.lookup a = some b
  | (x, y) :: r, h => by
    by_cases e : a = x
    · subst e
      exact ⟨y, by simp [List.lookup]⟩
    · rw [List.map_cons] at h
      have h2 := (List.mem_cons.mp h).resolve_left e
      obtain ⟨b, hb⟩ := look_of_mem h2
      refine ⟨b, ?_⟩
      have : (a == x) = false := by simpa using e
      simp [List.lookup, this, hb]
theorem LetsN.rev {L : Str} (h : LetsN L) : ∀ {c : Nat}, c ∈ (revS L).cps.toList ↔ c ∈ L.cps.toList := by
  intro c
  unfold revS
  simp
theorem keys_new {ok : Addr → Prop} {H : Hp} {es : List (Key × V)} {kvs : List (Nat × RR)} {c : Nat} (h : rowsIn ok H es kvs) (hc : c ∉ kvs.map (·.1)) : valV es (.inr (ch c)) = none := by
  unfold valV
  rw [Option.map_eq_none_iff, List.find?_eq_none]
  intro e he
  have : ∀ (es : List (Key × V)) (kvs : List (Nat × RR)), rowsIn ok H es kvs → ∀ e ∈ es, ∃ kv ∈ kvs, e.1 = .inr (ch kv.1) := by
    intro es kvs p
    induction p with
    | nil => intro e he; cases he
    | cons r t ih =>
      intro e he
      rcases List.mem_cons.mp he with rfl | he
      · exact ⟨_, List.mem_cons_self, r.1⟩
      · obtain ⟨kv, h1, h2⟩ := ih e he
        exact ⟨kv, List.mem_cons_of_mem _ h1, h2⟩
  obtain ⟨kv, h1, h2⟩ := this _ _ h e he
  intro z
  have z1 := of_decide_eq_true z
  rw [h2] at z1
  have z2 := congrArg (fun s : Str => s.cps.toList) (Sum.inr.inj z1)
  simp [ch] at z2
  exact hc (List.mem_map.mpr ⟨kv, h1, z2⟩)
theorem rowsIn_snoc {ok : Addr → Prop} {H : Hp} {es : List (Key × V)} {kvs : List (Nat × RR)} {k : Key} {v : V} {kv : Nat × RR} (h : rowsIn ok H es kvs) (h1 : k = .inr (ch kv.1)) (h2 : Dt ok H v (rowsD kv.2)) : rowsIn ok H (es ++ [(k, v)]) (kvs ++ [kv]) := by
  unfold rowsIn at h ⊢
  induction h with
  | nil => exact .cons ⟨h1, h2⟩ .nil
  | cons r t ih => exact .cons r ih
theorem rowsIn.same {ok : Addr → Prop} {H H' : Hp} {es : List (Key × V)} {kvs : List (Nat × RR)} (x : rowsIn ok H es kvs) (s : Same H H') : rowsIn ok H' es kvs := x.keep fun b o _ e => s b o e
theorem rep0 (n : Nat) : (List.replicate n [V.int 0]).flatten = (List.replicate n (0 : Int)).map V.int := by
  induction n with
  | zero => rfl
  | succ k ih => rw [List.replicate_succ, List.flatten_cons, ih]; rfl

theorem filt_one (x : Int) : ∀ {l : List Nat}, l.Nodup → (l.filter fun j : Nat => decide ((j : Int) = x)).length ≤ 1
  | [], _ => by simp
  | y :: r, h => by
    obtain ⟨h1, h2⟩ := List.nodup_cons.mp h
    by_cases e : (y : Int) = x
    · have : r.filter (fun j : Nat => decide ((j : Int) = x)) = [] := List.filter_eq_nil_iff.mpr fun z hz => by
        simp only [decide_eq_true_eq]
        intro e2
        exact h1 ((show y = z by omega) ▸ hz)
      simp [e, this]
    · simp only [List.filter_cons, e, decide_false, Bool.false_eq_true, if_false]
      exact filt_one x h2
theorem filt_or (p q : Nat → Bool) : ∀ l : List Nat, (l.filter fun j => p j || q j).length ≤ (l.filter p).length + (l.filter q).length
  | [] => by simp
  | y :: r => by
    have := filt_or p q r
    simp only [List.filter_cons]
    cases p y <;> cases q y <;> simp <;> omega
theorem subL_few (i : Nat) : ∀ a : List Int, (subL a i).length ≤ a.length
  | [] => by simp [subL]
  | x :: r => by
    have ih := subL_few i r
    unfold subL at ih ⊢
    rw [List.length_map] at ih ⊢
    have e : (fun j : Nat => decide ((j : Int) ∈ x :: r)) = fun j : Nat => decide ((j : Int) = x) || decide ((j : Int) ∈ r) := by
      funext j
      simp [List.mem_cons]
    rw [e]
    have h1 := filt_or (fun j : Nat => decide ((j : Int) = x)) (fun j : Nat => decide ((j : Int) ∈ r)) (List.range i)
    have h2 := filt_one x (List.nodup_range (n := i))
    rw [List.length_cons]
    omega

def LetsR (L : Str) : Prop := LetsN L ∧ Rises L ∧ L.length ≤ 7
theorem subL_rises (a : List Int) (i : Nat) : (subL a i).Pairwise (· < ·) := by
  unfold subL
  rw [List.pairwise_map]
  exact (List.pairwise_lt_range.sublist List.filter_sublist).imp fun h => by omega
theorem subL_letsR {a : List Int} (h : ∃ x ∈ a, 0 ≤ x ∧ x < 26) (h3 : a.length ≤ 3) : LetsR ⟨(subL a 26).toArray⟩ := ⟨subL_lets h, by simpa [Rises] using subL_rises a 26, by show (subL a 26).toArray.size ≤ 7; rw [List.size_toArray]; have := subL_few 26 a; omega⟩
def sp__law_rules : Sp := fun vs H Q _ => ∃ (p : Addr) (m : Int), vs = [.ref p, .int m] ∧ Dk H p ∧ 1 ≤ m ∧ m ≤ 6 ∧ ∀ v (R : Rl) H', R.ok → Rises R.L → R.L.length ≤ 7 → R.good.Pairwise (· < ·) → (R.n : Int) ≤ m → Fr p H H' → Dk H' p → RlAt (fun b => b ≠ p) H' v R → Q v H'
section
variable {P : Program} {w : World} {K : PySem.W.Frag} {mg : Str → Option Value} {base : Heap}
theorem ok__law_rules (T : Txt K mg) : FnOk P w K mg base CX0 8 T.f__law_rules T.d__law_rules ["deck", "most"] sp__law_rules := by
  have G__law_take : FnOk P w K mg base CX0 1 T.f__law_take T.d__law_take ["deck", "many"] sp__law_take := ok__law_take T
  have G__law_condition : FnOk P w K mg base CX0 6 T.f__law_condition T.d__law_condition ["deck", "s", "deep"] (sp__law_condition 4) := ok__law_condition T 4
  refine T.F__law_rules.ok sc__law_rules (fun vs H Q E h => ?_) (fun cdv A outer s H vs Q E hr h => ?_)
  · obtain ⟨p, m, rfl, _⟩ := h
    rfl
  obtain ⟨p, m, rfl, hp, h1, h6, q⟩ := h
  refine ⟨_, (pss_cons (ps_set (i := 2) sc__law_rules.nd rfl (Or.inl rfl) (pe_ix ix_list (pe_lst (pa_cons pe_str (pa_cons pe_str (pa_cons pe_str (pa_cons pe_str (pa_cons pe_str (pa_cons pe_str pa_nil))))))) (pe_call G__law_take (hr.mono (by omega)) (by rfl) T.m__law_take T.F__law_take.kp T.b__law_take .nil pass0 (pa_cons (pv 0) (pa_cons pe_int pa_nil))) (fun _ _ => rfl))) (C8.pss_cut (ps_if (pt_cmpR op_eq (pe_call G__law_take (hr.mono (by omega)) (by rfl) T.m__law_take T.F__law_take.kp T.b__law_take .nil pass0 (pa_cons (pv 0) (pa_cons pe_int pa_nil))) pe_int (nomark _)) (pss_cons (ps_set (i := 3) sc__law_rules.nd rfl (Or.inr rfl) (pe_lc (own := [("k", 9)]) (g := gName 9) (tt := tYes) rfl sc__law_rules.nd (pi_range1 (by rfl) T.z_range (pa_cons (pe_op op_add pe_int (pe_call G__law_take (hr.mono (by omega)) (by rfl) T.m__law_take T.F__law_take.kp T.b__law_take .nil pass0 (pa_cons (pv 0) (pa_cons pe_int pa_nil)))) pa_nil)) (blkOk_by (own := [("k", 9)]) (N := ["deck", "most", "letters", "some", "letter", "states", "rows", "deep", "many", "k", "condition"]) (sc := (defScope s__law_rules)) (by decide +kernel)) (fun _ _ _ _ _ => (pg_name (i := 9) sc__law_rules.nd rfl (Or.inl rfl))) (fun _ _ _ _ _ => pts_nil) (fun _ _ _ _ _ => (pe_call G__law_take (hr.mono (by omega)) (by rfl) T.m__law_take T.F__law_take.kp T.b__law_take .nil pass0 (pa_cons (pv 0) (pa_cons pe_int pa_nil)))))) (pss_one (ps_set (i := 2) sc__law_rules.nd rfl (Or.inl rfl) (pe_join pe_str (pe_lc (own := [("k", 9), ("letter", 4)]) (g := gTup K 2 (gCons (gName 9) (gCons (gName 4) gNil))) (tt := tTest (tOp (rIn K false) (tVar 9) (tVar 3))) rfl sc__law_rules.nd (pi_enumS (by rfl) T.z_enumerate (pa_cons pe_str pa_nil)) (blkOk_by (own := [("k", 9), ("letter", 4)]) (N := ["deck", "most", "letters", "some", "letter", "states", "rows", "deep", "many", "k", "condition"]) (sc := (defScope s__law_rules)) (by decide +kernel)) (fun _ _ _ _ _ => (pg_tup rfl (pgs_cons (pg_name (i := 9) sc__law_rules.nd rfl (Or.inl rfl)) (pgs_cons (pg_name (i := 4) sc__law_rules.nd rfl (Or.inl rfl)) pgs_nil)))) (fun _ _ _ _ _ => pts_one (pt_cmpR op_in_seq (pv 9) (pv 3) (by rfl))) (fun _ _ _ _ _ => (pv 4))))))) pss_nil) (pss_cons (ps_set (i := 5) sc__law_rules.nd rfl (Or.inr rfl) (pe_op op_add pe_int (pe_call G__law_take (hr.mono (by omega)) (by rfl) T.m__law_take T.F__law_take.kp T.b__law_take .nil pass0 (pa_cons (pv 0) (pa_cons (pv 1) pa_nil))))) (pss_cons (ps_set (i := 6) sc__law_rules.nd rfl (Or.inl rfl) pe_dnewK) (pss_cons (ps_for PassesOwn.never rfl (pi_str (pe_ix ix_list (pe_lst (pa_cons (pv 2) (pa_cons (pe_revS (pv 2)) pa_nil))) (pe_call G__law_take (hr.mono (by omega)) (by rfl) T.m__law_take T.F__law_take.kp T.b__law_take .nil pass0 (pa_cons (pv 0) (pa_cons pe_int pa_nil))) (fun _ _ => rfl))) (pg_name (i := 4) sc__law_rules.nd rfl (Or.inl rfl)) (pss_cons (ps_set (i := 7) sc__law_rules.nd rfl (Or.inr rfl) (pe_ix ix_list (pe_lst (pa_cons pe_int (pa_cons pe_int (pa_cons pe_int (pa_cons pe_int pa_nil))))) (pe_call G__law_take (hr.mono (by omega)) (by rfl) T.m__law_take T.F__law_take.kp T.b__law_take .nil pass0 (pa_cons (pv 0) (pa_cons pe_int pa_nil))) (fun _ _ => rfl))) (pss_cons (ps_set (i := 8) sc__law_rules.nd rfl (Or.inl rfl) (pe_call G__law_take (hr.mono (by omega)) (by rfl) T.m__law_take T.F__law_take.kp T.b__law_take .nil pass0 (pa_cons (pv 0) (pa_cons pe_int pa_nil)))) (C8.pss_cut (ps_if (pt_cmpR op_eq (pe_call G__law_take (hr.mono (by omega)) (by rfl) T.m__law_take T.F__law_take.kp T.b__law_take .nil pass0 (pa_cons (pv 0) (pa_cons pe_int pa_nil))) pe_int (nomark _)) (pss_one (ps_asg (pe_tup (pa_cons pe_int (pa_cons (pe_op op_add pe_int (pe_call G__law_take (hr.mono (by omega)) (by rfl) T.m__law_take T.F__law_take.kp T.b__law_take .nil pass0 (pa_cons (pv 0) (pa_cons pe_int pa_nil)))) pa_nil))) (pg_tup rfl (pgs_cons (pg_name (i := 7) sc__law_rules.nd rfl (Or.inr rfl)) (pgs_cons (pg_name (i := 8) sc__law_rules.nd rfl (Or.inl rfl)) pgs_nil))))) pss_nil) (pss_cons (ps_set (i := 3) sc__law_rules.nd rfl (Or.inr rfl) (pe_lc (own := [("k", 9)]) (g := gName 9) (tt := tYes) rfl sc__law_rules.nd (pi_range1 (by rfl) T.z_range (pa_cons (pv 8) pa_nil)) (blkOk_by (own := [("k", 9)]) (N := ["deck", "most", "letters", "some", "letter", "states", "rows", "deep", "many", "k", "condition"]) (sc := (defScope s__law_rules)) (by decide +kernel)) (fun _ _ _ _ _ => (pg_name (i := 9) sc__law_rules.nd rfl (Or.inl rfl))) (fun _ _ _ _ _ => pts_nil) (fun _ _ _ _ _ => (pe_call G__law_condition (hr.mono (by omega)) (by rfl) T.m__law_condition T.F__law_condition.kp T.b__law_condition .nil pass0 (pa_cons (pv 0) (pa_cons (pv 5) (pa_cons (pv 7) pa_nil))))))) (pss_cons (ps_set (i := 3) sc__law_rules.nd rfl (Or.inr rfl) (pe_lc (own := [("condition", 10)]) (g := gName 10) (tt := tYes) rfl sc__law_rules.nd (pi_list (pv 3)) (blkOk_by (own := [("condition", 10)]) (N := ["deck", "most", "letters", "some", "letter", "states", "rows", "deep", "many", "k", "condition"]) (sc := (defScope s__law_rules)) (by decide +kernel)) (fun _ _ _ _ _ => (pg_name (i := 10) sc__law_rules.nd rfl (Or.inl rfl))) (fun _ _ _ _ _ => pts_nil) (fun _ _ _ _ _ => (pe_tup (pa_cons (pv 10) (pa_cons (pe_call G__law_take (hr.mono (by omega)) (by rfl) T.m__law_take T.F__law_take.kp T.b__law_take .nil pass0 (pa_cons (pv 0) (pa_cons (pv 5) pa_nil))) pa_nil)))))) (pss_one (ps_dput (hu_of hr) (pv 6) (pv 4) (pe_op op_cat (pv 3) (pe_lst (pa_cons (pe_tup (pa_cons (pe_tup (pa_cons pe_str (pa_cons (pe_op op_rep (pe_lst (pa_cons pe_int pa_nil)) (pv 5)) (pa_cons pe_int pa_nil)))) (pa_cons (pe_call G__law_take (hr.mono (by omega)) (by rfl) T.m__law_take T.F__law_take.kp T.b__law_take .nil pass0 (pa_cons (pv 0) (pa_cons (pv 5) pa_nil))) pa_nil))) pa_nil))) rfl)))))))) (pss_one (ps_ret (pe_tup (pa_cons (pv 2) (pa_cons (pv 5) (pa_cons (pv 6) (pa_cons (pe_lc (own := [("k", 9)]) (g := gName 9) rfl sc__law_rules.nd (pi_range1 (by rfl) T.z_range (pa_cons (pv 5) pa_nil)) (blkOk_by (own := [("k", 9)]) (N := ["deck", "most", "letters", "some", "letter", "states", "rows", "deep", "many", "k", "condition"]) (sc := (defScope s__law_rules)) (by decide +kernel)) (fun _ _ _ _ _ => (pg_name (i := 9) sc__law_rules.nd rfl (Or.inl rfl))) (fun _ _ _ _ _ => pts_one (pt_cmpR op_eq (pe_call G__law_take (hr.mono (by omega)) (by rfl) T.m__law_take T.F__law_take.kp T.b__law_take .nil pass0 (pa_cons (pv 0) (pa_cons pe_int pa_nil))) pe_int (nomark _))) (fun _ _ _ _ _ => (pv 9))) pa_nil)))))))))))), ?_⟩
  refine ⟨(by show 6 ≤ sizeLine; decide), fun l hl => ?_⟩
  have sl := same_new hl (o := .lst [.str (Str.ofString "a"), .str (Str.ofString "ab"), .str (Str.ofString "bx"), .str (Str.ofString "ace"), .str (Str.ofString "xyz"), .str (Str.ofString "bdfhkmp")])
  refine ⟨_, rfl, p, 6, rfl, hp.keep sl, by decide, fun r0 H1 r00 r01 f1 d1 => ?_⟩
  have hl1 := f1 l _ (hp.ne hl) upd_same
  have F1 : Fr p H H1 := (Fr.same sl).trans f1
  obtain ⟨L0, hL0, hLn0⟩ : ∃ L0 : Str, atI [V.str (Str.ofString "a"), .str (Str.ofString "ab"), .str (Str.ofString "bx"), .str (Str.ofString "ace"), .str (Str.ofString "xyz"), .str (Str.ofString "bdfhkmp")] r0 = some (V.str L0) ∧ LetsR L0 := by
    have mk : ∀ L : Str, 1 ≤ L.length → L.length ≤ 26 → (∀ c ∈ L.cps.toList, 97 ≤ c ∧ c ≤ 122) → L.cps.toList.Nodup → L.cps.toList.Pairwise (· < ·) → L.length ≤ 7 → LetsR L := fun L a b c d e f => ⟨⟨⟨a, b, c⟩, d⟩, e, f⟩
    rcases (by omega : r0 = 0 ∨ r0 = 1 ∨ r0 = 2 ∨ r0 = 3 ∨ r0 = 4 ∨ r0 = 5) with rfl | rfl | rfl | rfl | rfl | rfl
    · exact ⟨_, atI_nat (j := 0) rfl, mk _ (by decide +kernel) (by decide +kernel) (by decide +kernel) (by decide +kernel) (by decide +kernel) (by decide +kernel)⟩
    · exact ⟨_, atI_nat (j := 1) rfl, mk _ (by decide +kernel) (by decide +kernel) (by decide +kernel) (by decide +kernel) (by decide +kernel) (by decide +kernel)⟩
    · exact ⟨_, atI_nat (j := 2) rfl, mk _ (by decide +kernel) (by decide +kernel) (by decide +kernel) (by decide +kernel) (by decide +kernel) (by decide +kernel)⟩
    · exact ⟨_, atI_nat (j := 3) rfl, mk _ (by decide +kernel) (by decide +kernel) (by decide +kernel) (by decide +kernel) (by decide +kernel) (by decide +kernel)⟩
    · exact ⟨_, atI_nat (j := 4) rfl, mk _ (by decide +kernel) (by decide +kernel) (by decide +kernel) (by decide +kernel) (by decide +kernel) (by decide +kernel)⟩
    · exact ⟨_, atI_nat (j := 5) rfl, mk _ (by decide +kernel) (by decide +kernel) (by decide +kernel) (by decide +kernel) (by decide +kernel) (by decide +kernel)⟩
  refine ⟨l, _, r0, V.str L0, rfl, rfl, SqL.of hl1, hL0, ?_⟩
  refine ⟨fun σ H' => ∃ L y3 y4 y9, σ = [some (.ref p), some (.int m), some (.str L), y3, y4, none, none, none, none, y9, none] ∧ LetsR L ∧ Fr p H H' ∧ Dk H' p, ?_, ?_⟩
  · refine ⟨_, rfl, p, 4, rfl, d1, by decide, fun r1 H2 r10 r11 f2 d2 => ⟨rfl, _, rfl, ?_⟩⟩
    have F2 := F1.trans f2
    refine ite2 (fun _ => ?_) (fun _ => ⟨L0, _, _, _, rfl, hLn0, F2, d2⟩)
    refine ⟨_, rfl, p, 3, rfl, d2, by decide, fun r3 H3 r30 r31 f3 d3 => ⟨1, r3, rfl, rfl, 1 + r3, rfl, by omega, by omega, fun D hD => ?_⟩⟩
    have F3 := F2.trans f3
    have hD0 : H D = none := F3.free d3.some hD
    refine lc_range (lo := 0) (n := (1 + r3).toNat) (fun i H4 => ∃ a : List Int, a.length = i ∧ (∀ x ∈ a, 0 ≤ x ∧ x < 26) ∧ H4 D = some (.lst (a.map V.int)) ∧ Fr p H H4 ∧ Dk H4 p)
      ⟨[], rfl, (fun _ h => by cases h), upd_same, F3.new hD0, d3.keep (same_new hD)⟩ ?_ ?_
    · rintro i H4 hi ⟨a, g1, g2, g3, g4, g5⟩
      have nD : D ≠ p := d3.ne hD
      refine ⟨rfl, _, rfl, p, 26, rfl, g5, by decide, fun x H5 x0 x1 f5 d5 => ⟨_, f5 _ _ nD g3, ?_, a ++ [x], by simp [g1], fun y hy => ?_, by rw [upd_same, List.map_append]; rfl, (g4.trans f5).new hD0, d5.upd nD⟩⟩
      · rw [List.length_map]
        exact Nat.lt_of_le_of_lt (show _ ≤ 1000000 by omega) (by decide)
      · rcases List.mem_append.mp hy with hy | hy
        · exact g2 y hy
        · rw [List.mem_singleton.mp hy]; exact ⟨x0, x1⟩
    rintro H4 ⟨a, g1, g2, g3, g4, g5⟩
    have nD : D ≠ p := d3.ne hD
    refine ⟨⟨_, rfl⟩, _, rfl, fun D2 hD2 => ?_⟩
    have nDD : D ≠ D2 := ne_of_none g3 hD2
    have hD20 : H D2 = none := g4.free g5.some hD2
    have nD2 : D2 ≠ p := g5.ne hD2
    refine lc_it (walk_enumS (x := Str.ofString "abcdefghijklmnopqrstuvwxyz")) (fun i H5 => H5 D2 = some (.lst (((subL a i).map ch).map V.str)) ∧ H5 D = some (.lst (a.map V.int)) ∧ Fr p H H5 ∧ Dk H5 p)
      ⟨upd_same, by rw [upd_ne nDD]; exact g3, g4.new hD20, g5.keep (same_new hD2)⟩ (fun _ _ _ _ => trivial) ?_ ?_
    · rintro i x H5 H6 hi ⟨k1, k2, k3, k4⟩ ⟨Tt, c, rfl, hT, rfl, hc⟩
      have hi26 : i < 26 := hi
      rw [alpha_at i hi26] at hc
      cases hc
      have sT := same_new hT (o := .tup [.int (i : Nat), .str (ch (97 + i))])
      have k1' := sT _ _ k1
      have k2' := sT _ _ k2
      have k3' : Fr p H (upd H5 Tt (.tup [.int (i : Nat), .str (ch (97 + i))])) := k3.trans (Fr.same sT)
      have k4' := k4.keep sT
      refine ⟨_, _, rfl, SqT.of upd_same, rfl, _, _, rfl, _, _, rfl, rfl, rfl, ?_⟩
      generalize upd H5 Tt (.tup [.int (i : Nat), .str (ch (97 + i))]) = H6 at *
      refine ⟨_, rfl, _, rfl, D, _, rfl, .inl (SqL.of k2'), rfl, flat_int _, _, rfl, ?_⟩
      rw [if_neg (by decide), inV_int]
      refine ite2 (fun hh => ?_) (fun hh => ?_)
      · have hin : (i : Int) ∈ a := of_decide_eq_true hh
        refine ⟨_, rfl, _, k1', ?_, ?_, by rw [upd_ne nDD]; exact k2', k3'.new hD20, k4'.upd nD2⟩
        · rw [List.length_map, List.length_map]
          exact Nat.lt_of_le_of_lt (show (subL a i).length ≤ 26 from Nat.le_trans (subL_len a i) (Nat.le_of_lt hi26)) (by decide)
        · rw [upd_same, subL_succ, if_pos hin, List.map_append, List.map_append]
          rfl
      · have hin : ¬ (i : Int) ∈ a := fun z => hh (decide_eq_true z)
        exact ⟨by rw [subL_succ, if_neg hin, List.append_nil]; exact k1', k2', k3', k4'⟩
    · rintro H5 ⟨k1, k2, k3, k4⟩
      refine ⟨Str.ofString "", D2, (subL a 26).map ch, rfl, rfl, .inl (SqL.of k1), ?_, ?_⟩
      · have e1 : (((subL a 26).map ch).map fun x : Str => x.length).sum ≤ 26 := by
          have : ∀ l : List Nat, ((l.map ch).map fun x : Str => x.length).sum = l.length := by
            intro l
            induction l with
            | nil => rfl
            | cons c r ih =>
              rw [List.map_cons, List.map_cons, List.sum_cons, ih]
              show 1 + r.length = _
              rw [List.length_cons]
              omega
          rw [this]
          exact subL_len a 26
        have e2 : (Str.ofString "").length = 0 := by decide +kernel
        rw [e2]
        omega
      · rw [join_chs]
        refine ⟨_, _, _, _, rfl, subL_letsR ?_ (by omega), k3, k4⟩
        cases a with
        | nil => simp at g1; omega
        | cons x r => exact ⟨x, List.mem_cons_self, g2 x List.mem_cons_self⟩
  rintro σ H1b ⟨L, y3, y4, y9, rfl, ⟨hL, hLr, hL7⟩, F1b, d1b⟩
  refine ⟨_, rfl, _, rfl, p, m, rfl, d1b, by omega, fun r5 H2 r50 r51 f2 d2 => ⟨1, r5, rfl, rfl, ?_⟩⟩
  have F2 := F1b.trans f2
  obtain ⟨n, hn⟩ : ∃ n : Nat, 1 + r5 = (n : Int) := ⟨(1 + r5).toNat, by omega⟩
  have hn1 : 1 ≤ n := by omega
  have hn6 : n ≤ 6 := by omega
  have hnm : (n : Int) ≤ m := by omega
  show gName 5 (.int (1 + r5)) _ _ _
  rw [hn]
  refine fun d hd => ?_
  have nd : d ≠ p := d2.ne hd
  have hd0 : H d = none := F2.free d2.some hd
  have F3 : Fr p H (upd H2 d (.dK [])) := F2.new hd0
  have d3 := d2.keep (same_new (o := .dK []) hd)
  have hd3 := upd_same (H := H2) (a := d) (o := .dK [])
  generalize upd H2 d (.dK []) = H3 at *
  have hLlen : L.length ≤ sizeLine := Nat.le_trans hL.1.2.1 (by decide)
  refine ⟨_, rfl, _, rfl, L, rfl, hLlen, (by show 2 ≤ sizeLine; decide), fun l2 hl2 => ?_⟩
  have s4 := same_new (o := .lst [.str L, .str (revS L)]) hl2
  have l2x := upd_same (H := H3) (a := l2) (o := .lst [.str L, .str (revS L)])
  have nl2 := d3.ne hl2
  have d4 := d3.keep s4
  have F4 := F3.trans (Fr.same s4)
  have hd4 := s4 _ _ hd3
  generalize upd H3 l2 (.lst [.str L, .str (revS L)]) = H4 at *
  refine ⟨_, rfl, p, 2, rfl, d4, by decide, fun r6 H5 r60 r61 f5 d5 => ?_⟩
  obtain ⟨LL, hLL, hLm, hLnd, hLen⟩ : ∃ LL : Str, atI [V.str L, .str (revS L)] r6 = some (V.str LL) ∧ (∀ c, c ∈ LL.cps.toList ↔ c ∈ L.cps.toList) ∧ LL.cps.toList.Nodup ∧ LL.cps.size ≤ 26 := by
    rcases (by omega : r6 = 0 ∨ r6 = 1) with rfl | rfl
    · exact ⟨L, atI_nat (j := 0) rfl, fun _ => Iff.rfl, hL.2, hL.1.2.1⟩
    · refine ⟨revS L, atI_nat (j := 1) rfl, fun c => hL.rev, ?_, ?_⟩
      · unfold revS
        rw [List.toList_toArray]
        exact List.pairwise_reverse.mpr (List.Pairwise.imp (fun h e => h e.symm) hL.2)
      · unfold revS
        have := hL.1.2.1
        rw [show L.length = L.cps.size from rfl] at this
        simpa using this
  have F5 := F4.trans f5
  have hd5 := f5 _ _ nd hd4
  refine ⟨l2, _, r6, V.str LL, rfl, rfl, SqL.of (f5 _ _ nl2 l2x), hLL, LL, rfl, ?_⟩
  clear hd3 hd4 l2x s4 f5 hLL
  refine for_it (walk_str (z := LL)) (fun i σ H' => ∃ y3 y4 y7 y8 y9 y10 es kvs, σ = [some (.ref p), some (.int m), some (.str L), y3, y4, some (nI n), some (.ref d), y7, y8, y9, y10] ∧ H' d = some (.dK es) ∧ rowsIn (fun b => b ≠ p ∧ b ≠ d) H' es kvs ∧ kvs.map (·.1) = LL.cps.toList.take i ∧ (∀ kv ∈ kvs, rsOk n kv.2) ∧ Fr p H H' ∧ Dk H' p)
    ⟨_, _, _, _, _, _, [], [], rfl, hd5, .nil, rfl, (fun _ h => by cases h), F5, d5⟩ (fun _ _ _ _ _ => trivial) ?_ ?_
  · rintro i x σ Hq Hk hi ⟨y3, y4, y7, y8, y9, y10, es, kvs, rfl, ge, gr, gk, go, gF, gd⟩ ⟨rfl, c, hc, rfl⟩
    have hcL : LL.cps.toList[i]? = some c := by rw [Array.getElem?_toList]; exact hc
    have hlen : kvs.length ≤ 26 := by
      have := congrArg List.length gk
      have e0 : LL.cps.toList.length = LL.cps.size := Array.length_toList
      simp only [List.length_map, List.length_take] at this
      omega
    have hcn : c ∉ kvs.map (·.1) := by
      rw [gk]
      intro hm
      obtain ⟨j, hj⟩ := List.getElem?_of_mem hm
      have hji : j < i := by
        have := (List.getElem?_eq_some_iff.mp hj).1
        rw [List.length_take] at this
        omega
      rw [List.getElem?_take_of_lt hji] at hj
      have := (List.getElem?_inj (by
        have := (List.getElem?_eq_some_iff.mp hj).1
        exact this) hLnd).mp (hj.trans hcL.symm)
      omega
    refine ⟨(by show 4 ≤ sizeLine; decide), fun l3 hl3 => ?_⟩
    have s1 := same_new (o := .lst [.int 2, .int 3, .int 4, .int 4]) hl3
    refine ⟨_, rfl, p, 4, rfl, gd.keep s1, by decide, fun r7 H6 r70 r71 f6 d6 => ?_⟩
    have hl36 := f6 l3 _ (gd.ne hl3) upd_same
    obtain ⟨dv, hdv, dv1, dv4⟩ : ∃ dv : Int, atI [V.int 2, .int 3, .int 4, .int 4] r7 = some (V.int dv) ∧ 1 ≤ dv ∧ dv ≤ 4 := by
      rcases (by omega : r7 = 0 ∨ r7 = 1 ∨ r7 = 2 ∨ r7 = 3) with rfl | rfl | rfl | rfl
      · exact ⟨2, atI_nat (j := 0) rfl, by decide, by decide⟩
      · exact ⟨3, atI_nat (j := 1) rfl, by decide, by decide⟩
      · exact ⟨4, atI_nat (j := 2) rfl, by decide, by decide⟩
      · exact ⟨4, atI_nat (j := 3) rfl, by decide, by decide⟩
    refine ⟨l3, _, r7, V.int dv, rfl, rfl, SqL.of hl36, hdv, ?_⟩
    have K6 : Fr p Hk H6 := (Fr.same s1).trans f6
    refine ⟨_, rfl, p, 4, rfl, d6, by decide, fun r8 H7 r80 r81 f7 d7 => ?_⟩
    have K7 := K6.trans f7
    refine ⟨fun σ H' => ∃ dv mv : Int, ∃ y3 y9 y10, σ = [some (.ref p), some (.int m), some (.str L), y3, some (.str (ch c)), some (nI n), some (.ref d), some (.int dv), some (.int mv), y9, y10] ∧ 1 ≤ dv ∧ dv ≤ 4 ∧ 0 ≤ mv ∧ mv ≤ 8 ∧ Fr p Hk H' ∧ Dk H' p, ?_, ?_⟩
    · refine ⟨_, rfl, p, 8, rfl, d7, by decide, fun r9 H8 r90 r91 f8 d8 => ⟨rfl, _, rfl, ?_⟩⟩
      have K8 := K7.trans f8
      refine ite2 (fun _ => ?_) (fun _ => ⟨dv, r8, _, _, _, rfl, dv1, dv4, r80, by omega, K8, d8⟩)
      refine ⟨_, rfl, p, 5, rfl, d8, by decide, fun r10 H9 r100 r101 f9 d9 => ⟨4, r10, rfl, rfl, (by show 2 ≤ sizeLine; decide), fun tt htt => ?_⟩⟩
      have st := same_new (o := .tup [.int 2, .int (4 + r10)]) htt
      refine ⟨_, _, rfl, SqT.of upd_same, rfl, _, _, rfl, _, _, rfl, rfl, 2, 4 + r10, _, _, _, rfl, by decide, by decide, by omega, by omega, (K8.trans f9).trans (Fr.same st), d9.keep st⟩
    clear hl36 hdv dv1 dv4 r80 r81 f7 d7 K7 K6 d6 f6 s1 hl3
    rintro σ Hm ⟨dv, mv, y3, y9, y10, rfl, dv1, dv4, mv0, mv8, Km, dm⟩
    refine ⟨_, rfl, mv, rfl, by omega, by omega, fun D1 hD1 => ?_⟩
    have hD10 : Hk D1 = none := Km.free dm.some hD1
    have nD1 : D1 ≠ p := dm.ne hD1
    refine lc_range (lo := 0) (n := mv.toNat) (fun i H4 => ∃ (acc : List V) (cds : List Cd), cds.length = i ∧ H4 D1 = some (.lst acc) ∧ DtAll (fun b => Hk b = none ∧ b ≠ D1) H4 acc (cds.map Cd.dat) ∧ (∀ c ∈ cds, c.ok n ∧ c.deep ≤ 4) ∧ Fr p Hk H4 ∧ Dk H4 p)
      ⟨[], [], rfl, upd_same, .nil, (fun _ h => by cases h), Km.new hD10, dm.keep (same_new hD1)⟩ ?_ ?_
    · rintro j H4 hj ⟨acc, cds, g1, g2, g3, g4, g5, g6⟩
      have ga := g3.len
      rw [List.length_map] at ga
      refine ⟨rfl, _, rfl, _, rfl, _, rfl, p, n, dv, rfl, g6, by omega, by omega, by omega, by omega, fun v cd H5 f5 d5 hv hok hdp => ⟨acc, f5 _ _ nD1 g2, ?_, acc ++ [v], cds ++ [cd], by simp [g1], upd_same, ?_, fun y hy => ?_, (g5.trans f5).new hD10, d5.upd nD1⟩⟩
      · exact Nat.lt_of_le_of_lt (show acc.length ≤ 1000000 by omega) (by decide)
      · rw [List.map_append]
        have gp : ∀ b, Hk b = none → b ≠ p := fun b h e => gd.some (by rw [← e]; exact h)
        have a1 : DtAll (fun b => Hk b = none ∧ b ≠ D1) H5 acc (cds.map Cd.dat) := g3.keep fun b o h e => f5 b o (gp b h.1) e
        have a2 : Dt (fun b => Hk b = none ∧ b ≠ D1) H5 v cd.dat := hv.weak fun b h => ⟨g5.free g6.some h.2, fun e => by rw [e, g2] at h; cases h.2⟩
        exact (a1.snoc a2).keep (upd_keep fun b h => h.2)
      · rcases List.mem_append.mp hy with hy | hy
        · exact g4 y hy
        · rw [List.mem_singleton.mp hy]
          exact ⟨by simpa using hok, by omega⟩
    rintro H4 ⟨acc, cds, g1, g2, g3, g4, g5, g6⟩
    have gp : ∀ b, Hk b = none → b ≠ p := fun b h e => gd.some (by rw [← e]; exact h)
    have ga := g3.len
    rw [List.length_map] at ga
    refine ⟨_, rfl, D1, rfl, ⟨_, SqL.of g2⟩, fun D2 hD2 => ?_⟩
    have hD20 : Hk D2 = none := g5.free g6.some hD2
    have nD2 : D2 ≠ p := g6.ne hD2
    have nDD : D1 ≠ D2 := ne_of_none g2 hD2
    have g3' : DtAll (fun b => Hk b = none ∧ b ≠ D1 ∧ b ≠ D2) H4 acc (cds.map Cd.dat) := g3.imp (fun b o h e => ⟨h.1, h.2, ne_of_none e hD2⟩) fun _ _ _ e => e
    refine lc_list (xs := acc) (fun i H5 => ∃ (acc2 : List V) (rs : RR), rs.map (·.1) = cds.take i ∧ H5 D2 = some (.lst acc2) ∧ DtAll (fun b => Hk b = none ∧ b ≠ D2) H5 acc2 (rs.map rowD) ∧ (∀ r ∈ rs, r.2 < n) ∧ Fr p Hk H5 ∧ Dk H5 p ∧ H5 D1 = some (.lst acc) ∧ DtAll (fun b => Hk b = none ∧ b ≠ D1 ∧ b ≠ D2) H5 acc (cds.map Cd.dat))
      ⟨[], [], rfl, upd_same, .nil, (fun _ h => by cases h), g5.new hD20, g6.keep (same_new hD2), by rw [upd_ne nDD]; exact g2, g3'.same (same_new hD2)⟩ (fun _ _ _ ⟨_, _, _, _, _, _, _, _, h, _⟩ => SqL.of h) ?_ ?_
    · rintro j x H5 hx ⟨acc2, rs, k1, k2, k3, k4, k5, k6, k7, k8⟩
      obtain ⟨dx, hdx, hx2⟩ := k8.getV hx
      rw [List.getElem?_map] at hdx
      cases hcd : cds[j]? with
      | none => rw [hcd] at hdx; cases hdx
      | some cd =>
      rw [hcd] at hdx
      cases hdx
      have ka := k3.len
      rw [List.length_map] at ka
      have kl := congrArg List.length k1
      rw [List.length_map, List.length_take] at kl
      refine ⟨rfl, _, rfl, _, rfl, _, rfl, p, n, rfl, k6, by omega, fun r11 H6 r110 r111 f6 d6 => ⟨(by show 2 ≤ sizeLine; decide), fun tt htt => ?_⟩⟩
      have st := same_new (o := .tup [x, .int r11]) htt
      have tt0 : Hk tt = none := (k5.trans f6).free d6.some htt
      have k26 := f6 _ _ nD2 k2
      have ntD : tt ≠ D2 := fun e => by rw [e, k26] at htt; cases htt
      refine ⟨acc2, st _ _ k26, ?_, acc2 ++ [.ref tt], rs ++ [(cd, r11.toNat)], ?_, upd_same, ?_, fun y hy => ?_, (((k5.trans f6).trans (Fr.same st)).new hD20), (d6.keep st).upd nD2, ?_, ?_⟩
      · exact Nat.lt_of_le_of_lt (show acc2.length ≤ 1000000 by omega) (by decide)
      · rw [List.map_append, k1, take_succ_of hcd]
        rfl
      · rw [List.map_append]
        have a1 : DtAll (fun b => Hk b = none ∧ b ≠ D2) (upd H6 tt (.tup [x, .int r11])) acc2 (rs.map rowD) := (k3.keep fun b o h e => f6 b o (gp b h.1) e).same st
        have a2 : Dt (fun b => Hk b = none ∧ b ≠ D2) (upd H6 tt (.tup [x, .int r11])) (.ref tt) (rowD (cd, r11.toNat)) := by
          unfold rowD
          rw [show ((r11.toNat : Nat) : Int) = r11 by omega]
          exact .tup upd_same ⟨tt0, ntD⟩ (by simp) (.cons (((hx2.keep fun b o h e => f6 b o (gp b h.1) e).same st).weak fun b h => ⟨h.1, h.2.2⟩) (.cons (.int _) .nil))
        exact (a1.snoc a2).keep (upd_keep fun b h => h.2)
      · rcases List.mem_append.mp hy with hy | hy
        · exact k4 y hy
        · rw [List.mem_singleton.mp hy]
          show r11.toNat < n
          omega
      · rw [upd_ne nDD]
        exact st _ _ (f6 _ _ nD1 k7)
      · exact ((k8.keep fun b o h e => f6 b o (gp b h.1) e).same st).keep (upd_keep fun b h => h.2.2)
    rintro H5 ⟨acc2, rs, k1, k2, k3, k4, k5, k6, k7, k8⟩
    rw [ga, List.take_length] at k1
    have nk : ∀ b, Hk b = none → b ≠ p ∧ b ≠ d := fun b h => ⟨gp b h, fun e => by rw [e, ge] at h; cases h⟩
    have k5' : ∀ b o, b ≠ p → Hk b = some o → H5 b = some o := fun b o n e => k5 b o n e
    refine ⟨_, rfl, (by show 1 ≤ sizeLine; decide), fun z hz => ⟨_, rfl, z, n, _, rfl, rfl, upd_same, by omega, by omega, ?_, fun pz hpz => ⟨(by show 3 ≤ sizeLine; decide), fun t1 ht1 => ?_⟩⟩⟩
    · rw [List.length_singleton]
      exact Nat.le_of_lt (Nat.lt_of_le_of_lt (show _ ≤ 1000000 by omega) (by decide))
    rw [Int.toNat_natCast, rep0] at ht1 ⊢
    have sz1 := same_new hz (o := .lst [V.int 0])
    have sz2 := same_new hpz (o := .lst ((List.replicate n (0 : Int)).map V.int))
    have sz3 := same_new ht1 (o := .tup [.str (Str.ofString "least"), .ref pz, .int 0])
    have pzx := sz3 _ _ (upd_same (H := upd H5 z (.lst [V.int 0])) (a := pz) (o := .lst ((List.replicate n (0 : Int)).map V.int)))
    have t1x := upd_same (H := upd (upd H5 z (.lst [V.int 0])) pz (.lst ((List.replicate n (0 : Int)).map V.int))) (a := t1) (o := .tup [.str (Str.ofString "least"), .ref pz, .int 0])
    have hpz0 : Hk pz = none := k5.free k6.some (sz1.free hpz)
    have ht10 : Hk t1 = none := k5.free k6.some ((sz1.trans sz2).free ht1)
    have S6 := (sz1.trans sz2).trans sz3
    generalize upd (upd (upd H5 z (.lst [V.int 0])) pz (.lst ((List.replicate n (0 : Int)).map V.int))) t1 (.tup [.str (Str.ofString "least"), .ref pz, .int 0]) = H6 at *
    refine ⟨_, rfl, _, rfl, p, n, rfl, k6.keep S6, by omega, fun r12 H7 r120 r121 f7 d7 => ⟨(by show 2 ≤ sizeLine; decide), fun t2 ht2 => ⟨(by show 1 ≤ sizeLine; decide), fun l4 hl4 => ?_⟩⟩⟩
    have K7 : Fr p Hk H7 := (k5.trans (Fr.same S6)).trans f7
    have st1 := same_new ht2 (o := .tup [.ref t1, .int r12])
    have st2 := same_new hl4 (o := .lst [V.ref t2])
    have ht20 : Hk t2 = none := K7.free d7.some ht2
    have t2x := st2 _ _ (upd_same (H := H7) (a := t2) (o := .tup [.ref t1, .int r12]))
    have l4x := upd_same (H := upd H7 t2 (.tup [.ref t1, .int r12])) (a := l4) (o := .lst [V.ref t2])
    have S8 := st1.trans st2
    generalize upd (upd H7 t2 (.tup [.ref t1, .int r12])) l4 (.lst [V.ref t2]) = H8 at *
    have D2x : H8 D2 = some (.lst acc2) := S8 _ _ (f7 _ _ nD2 (S6 _ _ k2))
    have ka := k3.len
    rw [List.length_map] at ka
    have kl := congrArg List.length k1
    rw [List.length_map] at kl
    have K8 : Fr p Hk H8 := K7.trans (Fr.same S8)
    have d8 := d7.keep S8
    refine ⟨D2, l4, _, _, rfl, rfl, D2x, l4x, ?_, fun D3 hD3 => ?_⟩
    · exact Nat.le_trans (show acc2.length + 1 ≤ 1000000 by omega) (by decide)
    have st3 := same_new hD3 (o := .lst (acc2 ++ [V.ref t2]))
    have hD30 : Hk D3 = none := K8.free d8.some hD3
    have D3x := upd_same (H := H8) (a := D3) (o := .lst (acc2 ++ [V.ref t2]))
    have S9 : Same H7 (upd H8 D3 (.lst (acc2 ++ [V.ref t2]))) := S8.trans st3
    have t2y := st3 _ _ t2x
    generalize upd H8 D3 (.lst (acc2 ++ [V.ref t2])) = H9 at *
    have K9 : Fr p Hk H9 := K8.trans (Fr.same st3)
    have d9 := d8.keep st3
    have hd9 : H9 d = some (.dK es) := K9 _ _ nd ge
    have np5 : ∀ b, H5 b = none → b ≠ p := fun b h => k6.ne h
    have hv : Dt (fun b => b ≠ p ∧ b ≠ d) H9 (.ref D3) (rowsD (rs ++ [(Cd.least (List.replicate n 0) 0, r12.toNat)])) := by
      unfold rowsD
      refine .lst D3x (nk _ hD30) (by rw [List.length_append, List.length_singleton]; omega) ?_
      rw [List.map_append]
      have a1 : DtAll (fun b => b ≠ p ∧ b ≠ d) H9 acc2 (rs.map rowD) := (((k3.same S6).keep fun b o h e => f7 b o (gp b h.1) e).same S9).weak fun b h => nk b h.1
      refine a1.snoc ?_
      unfold rowD
      rw [show ((r12.toNat : Nat) : Int) = r12 by omega]
      exact .tup t2y (nk _ ht20) (by simp) (.cons (.tup (S9 _ _ (f7 _ _ (gp _ ht10) t1x)) (nk _ ht10) (by simp) (.cons (.str _) (.cons (dt_intsL (S9 _ _ (f7 _ _ (gp _ hpz0) pzx)) (nk _ hpz0) (by rw [List.length_replicate]; omega)) (.cons (.int _) .nil)))) (.cons (.int _) .nil))
    refine ⟨_, rfl, _, rfl, d, _, rfl, DPut.k (k := .inr (ch c)) hd9 ?_, ?_⟩
    · have := Paired.length gr
      exact Nat.lt_of_le_of_lt (show es.length ≤ 1000000 by omega) (by decide)
    rw [putK_new _ (keys_new gr hcn)]
    refine ⟨_, _, _, _, _, _, _, kvs ++ [(c, rs ++ [(Cd.least (List.replicate n 0) 0, r12.toNat)])], rfl, upd_same, ?_, ?_, fun kv hkv => ?_, ?_, d9.upd nd⟩
    · refine rowsIn.keep (rowsIn_snoc ?_ rfl hv) (upd_keep fun b h => h.2)
      exact gr.keep fun b o h e => K9 b o h.1 e
    · rw [List.map_append, gk, take_succ_of hcL]
      rfl
    · rcases List.mem_append.mp hkv with hkv | hkv
      · exact go kv hkv
      · rw [List.mem_singleton.mp hkv]
        refine ⟨?_, fun r hr => ?_, rs, r12.toNat, rfl⟩
        · show (rs ++ [_]).length ≤ 100
          rw [List.length_append, List.length_singleton]
          omega
        · rcases List.mem_append.mp hr with hr | hr
          · have hm : r.1 ∈ cds := by rw [← k1]; exact List.mem_map.mpr ⟨r, hr, rfl⟩
            exact ⟨(g4 _ hm).1, (g4 _ hm).2, k4 r hr⟩
          · rw [List.mem_singleton.mp hr]
            refine ⟨⟨⟨List.length_replicate, fun x hx => ?_⟩, by decide, by decide⟩, by simp [Cd.deep], by show r12.toNat < n; omega⟩
            rw [List.eq_of_mem_replicate hx]
            decide
    · exact (gF.trans K9).new hd0
  · rintro σ H' ⟨y3, y4, y7, y8, y9, y10, es, kvs, rfl, ge, gr, gk, go, gF, gd⟩
    have e0 : LL.cps.toList.length = LL.cps.size := Array.length_toList
    rw [show LL.cps.size = LL.cps.toList.length from e0.symm, List.take_length] at gk
    have hk26 : kvs.length ≤ 26 := by
      have := congrArg List.length gk
      rw [List.length_map] at this
      omega
    refine ⟨_, rfl, _, rfl, _, rfl, _, rfl, n, rfl, by omega, by omega, fun D hD => ?_⟩
    have nD : D ≠ p := gd.ne hD
    have hD0 : H D = none := gF.free gd.some hD
    have ndD : d ≠ D := ne_of_none ge hD
    have gr' : rowsIn (fun b => b ≠ p ∧ b ≠ D) H' es kvs := Paired.mapP gr fun e kv k => ⟨k.1, k.2.imp (fun b o h e => ⟨h.1, ne_of_none e hD⟩) fun _ _ _ e => e⟩
    refine lc_range (lo := 0) (n := n) (fun i H4 => ∃ gs : List Nat, gs.length ≤ i ∧ (∀ g ∈ gs, g < i) ∧ gs.Pairwise (· < ·) ∧ H4 D = some (.lst (gs.map nI)) ∧ Fr p H' H4 ∧ Dk H4 p)
      ⟨[], Nat.le_refl _, (fun _ h => by cases h), .nil, upd_same, (Fr.refl p H').new hD, gd.keep (same_new hD)⟩ ?_ ?_
    · rintro i H4 hi ⟨gs, g1, g2, gu, g3, g4, g5⟩
      refine ⟨rfl, _, rfl, p, 2, rfl, g5, by decide, fun r13 H5 _ _ f5 d5 => ⟨rfl, _, rfl, ?_⟩⟩
      refine ite2 (fun _ => ?_) (fun _ => ⟨gs, by omega, fun g hg => Nat.lt_succ_of_lt (g2 g hg), gu, f5 _ _ nD g3, g4.trans f5, d5⟩)
      refine ⟨_, rfl, _, f5 _ _ nD g3, ?_, gs ++ [i], by simp; exact g1, fun g hg => ?_, List.pairwise_append.mpr ⟨gu, List.pairwise_singleton _ _, fun x hx y hy => by rw [List.mem_singleton.mp hy]; exact g2 x hx⟩, ?_, (g4.trans f5).new hD, d5.upd nD⟩
      · rw [List.length_map]
        exact Nat.lt_of_le_of_lt (show gs.length ≤ 1000000 by omega) (by decide)
      · rcases List.mem_append.mp hg with hg | hg
        · exact Nat.lt_succ_of_lt (g2 g hg)
        · rw [List.mem_singleton.mp hg]; exact Nat.lt_succ_self _
      · rw [upd_same, List.map_append, List.map_cons, List.map_nil]
        show some (HO.lst (gs.map nI ++ [V.int ((0 : Int) + (i : Int))])) = _
        rw [Int.zero_add]
    · rintro H4 ⟨gs, g1, g2, gu, g3, g4, g5⟩
      refine ⟨(by show 4 ≤ sizeLine; decide), fun tt htt => ?_⟩
      have st := same_new (o := .tup [.str L, nI n, .ref d, .ref D]) htt
      refine q (.ref tt) ⟨L, n, kvs, gs⟩ _ ⟨hL.1, hn1, hn6, fun c hc => look_of_mem (by rw [gk]; exact (hLm c).mpr hc), fun kv hkv => ⟨go kv hkv, (hLm _).mp (by rw [← gk]; exact List.mem_map.mpr ⟨kv, hkv, rfl⟩)⟩, by rw [gk]; exact hLnd, by show gs.length ≤ 6; omega, g2, hk26⟩ hLr hL7 gu hnm ((gF.trans g4).trans (Fr.same st)) (g5.keep st) ?_
      exact ⟨tt, d, D, es, rfl, upd_same, g5.ne htt, st _ _ (g4 _ _ nd ge), nd, ((gr'.keep fun b o h e => g4 b o h.1 e).same st).weak fun b h => h.1, st _ _ g3, nD⟩
end



def rowOf (par : Nat → Nat) (k i : Nat) : List Nat := (List.range k).filter fun j => decide (1 ≤ j ∧ par j = i)
def setF {α : Type} (f : Nat → α) (k : Nat) (v : α) : Nat → α := fun j => if j = k then v else f j
theorem setF_same {α : Type} {f : Nat → α} {k : Nat} {v : α} : setF f k v k = v := if_pos rfl
theorem setF_ne {α : Type} {f : Nat → α} {k j : Nat} {v : α} (h : j ≠ k) : setF f k v j = f j := if_neg h
theorem rng_set {α β : Type} (G : α → β) (f : Nat → α) (k : Nat) (v : α) : ((List.range (k + 1)).map fun j => G (setF f k v j)) = ((List.range k).map fun j => G (f j)) ++ [G v] := by
  rw [List.range_succ, List.map_append]
  refine congr (congrArg _ (List.map_congr_left fun j hj => ?_)) ?_
  · rw [setF_ne (Nat.ne_of_lt (List.mem_range.mp hj))]
  · show [G (setF f k v k)] = [G v]
    rw [setF_same]
theorem rng_get {α : Type} (F : Nat → α) {k j : Nat} (h : j < k) : ((List.range k).map F)[j]? = some (F j) := by
  rw [List.getElem?_map, List.getElem?_range h]
  rfl
theorem row_succ (par : Nat → Nat) (k h i : Nat) (hk : 1 ≤ k) : rowOf (setF par k h) (k + 1) i = rowOf par k i ++ (if i = h then [k] else []) := by
  unfold rowOf
  rw [List.range_succ, List.filter_append]
  refine congr (congrArg _ (List.filter_congr fun j hj => ?_)) ?_
  · rw [setF_ne (Nat.ne_of_lt (List.mem_range.mp hj))]
  · rw [List.filter_cons, List.filter_nil, setF_same]
    by_cases e : i = h
    · subst e
      rw [if_pos rfl, if_pos (by simpa using hk)]
    · rw [if_neg e, if_neg (by simp; intro _ z; exact e z.symm)]
theorem row_out (par : Nat → Nat) (k i : Nat) (h : ∀ j, 1 ≤ j → j < k → par j < j) (hi : k ≤ i) : rowOf par k i = [] := by
  unfold rowOf
  rw [List.filter_eq_nil_iff]
  intro j hj e
  have e' := of_decide_eq_true e
  have hj' := List.mem_range.mp hj
  have := h j e'.1 hj'
  omega
theorem row_mem {par : Nat → Nat} {k i j : Nat} (h : j ∈ rowOf par k i) : 1 ≤ j ∧ par j = i ∧ j < k := by
  unfold rowOf at h
  have a := List.mem_filter.mp h
  have b := of_decide_eq_true a.2
  exact ⟨b.1, b.2, List.mem_range.mp a.1⟩
theorem row_len (par : Nat → Nat) (k i : Nat) : (rowOf par k i).length ≤ k := by
  have := List.length_filter_le (fun j => decide (1 ≤ j ∧ par j = i)) (List.range k)
  rw [List.length_range] at this
  exact this
def tot (par f : Nat → Nat) (s : Nat) : Nat → Nat
  | 0 => 0
  | m + 1 => tot par f s m + if s ≤ m ∧ (m = 0 ∨ par m < s) then f m else 0
def rowSum (par f : Nat → Nat) (i : Nat) : Nat → Nat
  | 0 => 0
  | m + 1 => rowSum par f i m + if 1 ≤ m ∧ par m = i then f m else 0
theorem rowSum_eq (par f : Nat → Nat) (i : Nat) : ∀ m, ((rowOf par m i).map f).sum = rowSum par f i m
  | 0 => rfl
  | m + 1 => by
    have ih := rowSum_eq par f i m
    unfold rowOf at ih ⊢
    rw [List.range_succ, List.filter_append, List.map_append, List.sum_append, ih, List.filter_cons, List.filter_nil]
    by_cases e : 1 ≤ m ∧ par m = i
    · rw [if_pos (decide_eq_true e)]
      simp only [rowSum, if_pos e, List.map_cons, List.map_nil, List.sum_cons, List.sum_nil, Nat.add_zero]
    · rw [if_neg (by simpa using e)]
      simp only [rowSum, if_neg e, List.map_nil, List.sum_nil]
theorem tot_step (par f : Nat → Nat) (s g : Nat) : ∀ m, (∀ j, 1 ≤ j → j < m → par j < j) → tot par (setF f s g) s m + rowSum par f s m = tot par f (s + 1) m + if s < m then g else 0
  | 0, _ => by simp [tot, rowSum]
  | m + 1, h => by
    have ih := tot_step par f s g m fun j a b => h j a (by omega)
    have hm := h m
    simp only [tot, rowSum]
    by_cases e : m = s
    · subst e
      rw [setF_same, if_pos (show m ≤ m ∧ (m = 0 ∨ par m < m) by omega), if_neg (show ¬ (1 ≤ m ∧ par m = m) by omega), if_neg (show ¬ (m + 1 ≤ m ∧ (m = 0 ∨ par m < m + 1)) by omega), if_pos (show m < m + 1 by omega)]
      rw [if_neg (show ¬ m < m by omega)] at ih
      omega
    · rw [setF_ne e]
      split <;> split <;> split <;> split <;> (split at ih) <;> omega
theorem tot_top (par f : Nat → Nat) : ∀ m, tot par f 0 (m + 1) = f 0
  | 0 => by simp [tot]
  | m + 1 => by
    have ih := tot_top par f m
    rw [tot, ih, if_neg (by omega)]
    rfl
theorem tot_none (par f : Nat → Nat) (s : Nat) : ∀ m, m ≤ s → tot par f s m = 0
  | 0, _ => rfl
  | m + 1, h => by
    rw [tot, tot_none par f s m (by omega), if_neg (by omega)]
theorem perm_map {α β : Type} (f : α → β) {l ws : List β} (p : l.Perm ws) : ∀ {xs : List α}, l = xs.map f → ∃ us, xs.Perm us ∧ ws = us.map f := by
  induction p with
  | nil =>
    intro xs e
    exact ⟨xs, .refl _, e⟩
  | cons x _ ih =>
    intro xs e
    cases xs with
    | nil => cases e
    | cons a r =>
      rw [List.map_cons] at e
      injection e with e1 e2
      obtain ⟨us, h1, h2⟩ := ih e2
      exact ⟨a :: us, h1.cons a, by rw [h2, e1, List.map_cons]⟩
  | swap x y l =>
    intro xs e
    match xs, e with
    | a :: b :: r, e =>
      simp only [List.map_cons, List.cons.injEq] at e
      exact ⟨b :: a :: r, .swap _ _ _, by simp only [List.map_cons, e.1, e.2.1, e.2.2]⟩
  | trans _ _ ih1 ih2 =>
    intro xs e
    obtain ⟨us, h1, h2⟩ := ih1 e
    obtain ⟨ws, h3, h4⟩ := ih2 h2
    exact ⟨ws, h1.trans h3, h4⟩
theorem trs_map {ok : Addr → Prop} {H : Hp} (tv : Nat → V) (tt : Nat → Tr) : ∀ {us : List Nat}, (∀ c ∈ us, TrAt ok H (tv c) (tt c)) → TrsAt ok H (us.map tv) (us.map tt)
  | [], _ => .nil
  | c :: r, h => .cons (h c List.mem_cons_self) (trs_map tv tt fun d hd => h d (List.mem_cons_of_mem _ hd))
theorem sizes_map (tt : Nat → Tr) : ∀ us : List Nat, sizes (us.map tt) = (us.map fun c => (tt c).size).sum
  | [] => rfl
  | c :: r => by simp only [List.map_cons, sizes, List.sum_cons, sizes_map tt r]
theorem depths_map (tt : Nat → Tr) (b : Nat) : ∀ us : List Nat, (∀ c ∈ us, (tt c).depth ≤ b) → depths (us.map tt) ≤ b
  | [], _ => Nat.zero_le _
  | c :: r, h => by
    have h1 := h c List.mem_cons_self
    have h2 := depths_map tt b r fun d hd => h d (List.mem_cons_of_mem _ hd)
    simp only [List.map_cons, depths]
    omega
theorem letss_map {p : Nat → Prop} (tt : Nat → Tr) : ∀ us : List Nat, (∀ c ∈ us, (tt c).lets p) → letss p (us.map tt)
  | [], _ => trivial
  | c :: r, h => by
    simp only [List.map_cons, letss]
    exact ⟨h c List.mem_cons_self, letss_map tt r fun d hd => h d (List.mem_cons_of_mem _ hd)⟩
theorem sum_perm {a b : List Nat} (p : a.Perm b) : a.sum = b.sum := by
  induction p with
  | nil => rfl
  | cons x _ ih => simp only [List.sum_cons, ih]
  | swap x y l => simp only [List.sum_cons]; omega
  | trans _ _ h1 h2 => exact h1.trans h2
theorem rep_rng {α : Type} (x : α) : ∀ k : Nat, (List.replicate k [x]).flatten = (List.range k).map fun _ => x
  | 0 => rfl
  | k + 1 => by
    rw [List.replicate_succ', List.flatten_append, rep_rng x k, List.range_succ, List.map_append]
    rfl
theorem ixN_nat {n k : Nat} (h : k < n) : ixN n (k : Int) = some k := by
  unfold ixN
  rw [if_pos (by omega), if_pos (by omega)]
  simp
theorem set_rng {α : Type} {F F' : Nat → α} {n k : Nat} {v : α} (h : ∀ j, j < n → j ≠ k → F j = F' j) (hk : F' k = v) : ((List.range n).map F).set k v = (List.range n).map F' := by
  refine List.ext_getElem? fun j => ?_
  rw [List.getElem?_set]
  by_cases hj : j < n
  · by_cases e : k = j
    · subst e
      rw [if_pos rfl, if_pos (by rw [List.length_map, List.length_range]; exact hj), rng_get _ hj, hk]
    · rw [if_neg e, rng_get _ hj, rng_get _ hj, h j hj (fun z => e z.symm)]
  · have o1 : ((List.range n).map F)[j]? = none := List.getElem?_eq_none_iff.mpr (by rw [List.length_map, List.length_range]; omega)
    have o2 : ((List.range n).map F')[j]? = none := List.getElem?_eq_none_iff.mpr (by rw [List.length_map, List.length_range]; omega)
    rw [o1, o2]
    split
    · rw [if_neg (by rw [List.length_map, List.length_range]; omega)]
    · rfl
theorem setF_size (tt : Nat → Tr) (k : Nat) (u : Tr) : (fun j => (setF tt k u j).size) = setF (fun j => (tt j).size) k u.size := by
  funext j
  unfold setF
  split <;> rfl

def trF (par lt : Nat → Nat) (k : Nat) : Nat → Nat → Tr
  | 0, j => .node (lt j) []
  | f + 1, j => .node (lt j) ((rowOf par k j).map (trF par lt k f))
section
variable {par dep lt : Nat → Nat} {k : Nat}
theorem trF_more (hp : ∀ j, 1 ≤ j → j < k → par j < j) : ∀ (f g j : Nat), k - j < f → k - j < g → trF par lt k f j = trF par lt k g j
  | 0, _, _, h, _ => by omega
  | _ + 1, 0, _, _, h => by omega
  | f + 1, g + 1, j, h1, h2 => by
    simp only [trF]
    refine congrArg _ (List.map_congr_left fun i hi => ?_)
    obtain ⟨m1, m2, m3⟩ := row_mem hi
    have := hp i m1 m3
    exact trF_more hp f g i (by omega) (by omega)
theorem trF_size (hp : ∀ j, 1 ≤ j → j < k → par j < j) (j : Nat) : (trF par lt k (k + 1) j).size = 1 + rowSum par (fun i => (trF par lt k (k + 1) i).size) j k := by
  have e : trF par lt k (k + 1) j = .node (lt j) ((rowOf par k j).map (trF par lt k (k + 1))) := by
    have e1 : trF par lt k (k + 1) j = .node (lt j) ((rowOf par k j).map (trF par lt k k)) := rfl
    rw [e1]
    refine congrArg _ (List.map_congr_left fun i hi => ?_)
    obtain ⟨m1, m2, m3⟩ := row_mem hi
    exact trF_more (lt := lt) hp k (k + 1) i (by omega) (by omega)
  rw [e, ← rowSum_eq]
  simp only [Tr.size, sizes_map]
theorem trF_tot (hp : ∀ j, 1 ≤ j → j < k → par j < j) (hk : 0 < k) : ∀ d, d ≤ k → tot par (fun i => (trF par lt k (k + 1) i).size) (k - d) k = d
  | 0, _ => tot_none _ _ _ _ (by omega)
  | d + 1, hd => by
    have ih := trF_tot hp hk d (by omega)
    have st := tot_step par (fun i => (trF par lt k (k + 1) i).size) (k - (d + 1)) (trF par lt k (k + 1) (k - (d + 1))).size k hp
    have e : setF (fun i => (trF par lt k (k + 1) i).size) (k - (d + 1)) (trF par lt k (k + 1) (k - (d + 1))).size = fun i => (trF par lt k (k + 1) i).size := by
      funext i
      unfold setF
      split
      · rename_i h; rw [h]
      · rfl
    rw [e, if_pos (by omega), show k - (d + 1) + 1 = k - d by omega, ih] at st
    have sz := trF_size (lt := lt) hp (k - (d + 1))
    omega
theorem trF_size0 (hp : ∀ j, 1 ≤ j → j < k → par j < j) (hk : 0 < k) : (trF par lt k (k + 1) 0).size = k := by
  have := trF_tot (lt := lt) hp hk k (Nat.le_refl _)
  rw [Nat.sub_self] at this
  obtain ⟨m, rfl⟩ : ∃ m, k = m + 1 := ⟨k - 1, by omega⟩
  rw [tot_top] at this
  exact this
theorem trF_depth (hp : ∀ j, 1 ≤ j → j < k → par j < j ∧ dep j = dep (par j) + 1) (hd : ∀ j, j < k → dep j ≤ 30) : ∀ (f j : Nat), j < k → (trF par lt k f j).depth ≤ 31 - dep j
  | 0, j, hj => by
    have := hd j hj
    simp only [trF, Tr.depth, depths]
    omega
  | f + 1, j, hj => by
    have h1 := hd j hj
    have := depths_map (trF par lt k f) (30 - dep j) (rowOf par k j) fun i hi => by
      obtain ⟨m1, m2, m3⟩ := row_mem hi
      have h2 := trF_depth hp hd f i m3
      have h3 := (hp i m1 m3).2
      rw [m2] at h3
      omega
    simp only [trF, Tr.depth]
    omega
theorem trF_lets {q : Nat → Prop} (hl : ∀ j, j < k → q (lt j)) : ∀ (f j : Nat), j < k → (trF par lt k f j).lets q
  | 0, j, hj => by simp only [trF, Tr.lets, letss]; exact ⟨hl j hj, trivial⟩
  | f + 1, j, hj => by
    simp only [trF, Tr.lets]
    exact ⟨hl j hj, letss_map _ _ fun i hi => trF_lets hl f i (row_mem hi).2.2⟩
end

structure Grw (H0 H' : Hp) (p tr de : Addr) (L : Str) (k : Nat) (par dep lt : Nat → Nat) (ad cl : Nat → Addr) : Prop where
  fr : Fr p H0 H'
  dk : Dk H' p
  tr_ : H' tr = some (.lst ((List.range k).map fun j => V.ref (ad j)))
  de_ : H' de = some (.lst ((List.range k).map fun j => V.int (dep j : Nat)))
  nod : ∀ j, j < k → H' (ad j) = some (.tup [.str (ch (lt j)), .ref (cl j)])
  row : ∀ j, j < k → H' (cl j) = some (.lst ((rowOf par k j).map fun i => V.ref (ad i)))
  new : H0 tr = none ∧ H0 de = none ∧ tr ≠ de
  off : ∀ j, j < k → H0 (ad j) = none ∧ H0 (cl j) = none ∧ cl j ≠ tr ∧ cl j ≠ de
  inj : ∀ i j, i < k → j < k → cl i = cl j → i = j
  lts : ∀ j, j < k → lt j ∈ L.cps.toList
  par_ : ∀ j, 1 ≤ j → j < k → par j < j ∧ dep j = dep (par j) + 1
  dep_ : ∀ j, j < k → 1 ≤ dep j ∧ dep j ≤ 30
  dep0 : dep 0 = 1
section
variable {H0 H' H2 : Hp} {p tr de : Addr} {L : Str} {k : Nat} {par dep lt : Nat → Nat} {ad cl : Nat → Addr}
theorem Grw.go (R : Grw H0 H' p tr de L k par dep lt ad cl) (hp : H0 p ≠ none) (f : Fr p H' H2) (d : Dk H2 p) : Grw H0 H2 p tr de L k par dep lt ad cl := by
  have np : ∀ b, H0 b = none → b ≠ p := fun b h e => hp (by rw [← e]; exact h)
  exact ⟨R.fr.trans f, d, f _ _ (np _ R.new.1) R.tr_, f _ _ (np _ R.new.2.1) R.de_, fun j hj => f _ _ (np _ (R.off j hj).1) (R.nod j hj), fun j hj => f _ _ (np _ (R.off j hj).2.1) (R.row j hj), R.new, R.off, R.inj, R.lts, R.par_, R.dep_, R.dep0⟩
theorem Grw.step {a b : Addr} {h c : Nat} (R : Grw H0 H' p tr de L k par dep lt ad cl) (hp : H0 p ≠ none) (hk : 1 ≤ k) (hh : h < k) (hd : dep h ≤ 29) (hc : c ∈ L.cps.toList) (hb : H' b = none) (ha : (upd H' b (.lst [])) a = none) :
    Grw H0 (upd (upd (upd (upd (upd H' b (.lst [])) a (.tup [.str (ch c), .ref b])) tr (.lst (((List.range k).map fun j => V.ref (ad j)) ++ [V.ref a]))) de (.lst (((List.range k).map fun j => V.int (dep j : Nat)) ++ [V.int ((dep h + 1 : Nat) : Int)]))) (cl h) (.lst (((rowOf par k h).map fun i => V.ref (ad i)) ++ [V.ref a])))
      p tr de L (k + 1) (setF par k h) (setF dep k (dep h + 1)) (setF lt k c) (setF ad k a) (setF cl k b) := by
  have np : ∀ b, H0 b = none → b ≠ p := fun b h e => hp (by rw [← e]; exact h)
  obtain ⟨n1, n2, n3⟩ := R.new
  obtain ⟨o1, o2, o3, o4⟩ := R.off h hh
  have nab : a ≠ b := fun e => by rw [e, upd_same] at ha; cases ha
  have ha' : H' a = none := by rw [upd_ne nab] at ha; exact ha
  have hb0 : H0 b = none := R.fr.free R.dk.some hb
  have ha0 : H0 a = none := R.fr.free R.dk.some ha'
  have nbt : b ≠ tr := fun e => by rw [e, R.tr_] at hb; cases hb
  have nbd : b ≠ de := fun e => by rw [e, R.de_] at hb; cases hb
  have nat' : a ≠ tr := fun e => by rw [e, R.tr_] at ha'; cases ha'
  have nad : a ≠ de := fun e => by rw [e, R.de_] at ha'; cases ha'
  have nbc : ∀ j, j < k → b ≠ cl j := fun j hj e => by rw [e, R.row j hj] at hb; cases hb
  have nac : ∀ j, j < k → a ≠ cl j := fun j hj e => by rw [e, R.row j hj] at ha'; cases ha'
  have nba : ∀ j, j < k → b ≠ ad j := fun j hj e => by rw [e, R.nod j hj] at hb; cases hb
  have naa : ∀ j, j < k → a ≠ ad j := fun j hj e => by rw [e, R.nod j hj] at ha'; cases ha'
  have adk : ∀ j, j < k → ad j ≠ tr ∧ ad j ≠ de ∧ ∀ i, i < k → ad j ≠ cl i := fun j hj => by
    have g := R.nod j hj
    exact ⟨(fun e => by rw [e, R.tr_] at g; cases g), (fun e => by rw [e, R.de_] at g; cases g), (fun i hi e => by rw [e, R.row i hi] at g; cases g)⟩
  have rowE : ∀ j, j ≤ k → (rowOf (setF par k h) (k + 1) j).map (fun i => V.ref (setF ad k a i)) = (rowOf par k j).map (fun i => V.ref (ad i)) ++ (if j = h then [V.ref a] else []) := fun j hj => by
    rw [row_succ _ _ _ _ hk, List.map_append]
    refine congr (congrArg _ (List.map_congr_left fun i hi => ?_)) ?_
    · rw [setF_ne (Nat.ne_of_lt (row_mem hi).2.2)]
    · by_cases e : j = h
      · rw [if_pos e, if_pos e]; simp [setF_same]
      · rw [if_neg e, if_neg e]; rfl
  refine ⟨?_, ?_, ?_, ?_, fun j hj => ?_, fun j hj => ?_, R.new, fun j hj => ?_, fun i j hi hj e => ?_, fun j hj => ?_, fun j h1 hj => ?_, fun j hj => ?_, by rw [setF_ne (by omega)]; exact R.dep0⟩
  · intro x o hx e
    rw [upd_ne (ne_of_none e o2), upd_ne (ne_of_none e n2), upd_ne (ne_of_none e n1), upd_ne (ne_of_none e ha0), upd_ne (ne_of_none e hb0)]
    exact R.fr x o hx e
  · exact ((((R.dk.upd (np _ hb0)).upd (np _ ha0)).upd (np _ n1)).upd (np _ n2)).upd (np _ o2)
  · rw [upd_ne (fun e => o3 e.symm), upd_ne n3, upd_same, rng_set V.ref]
  · rw [upd_ne (fun e => o4 e.symm), upd_same, rng_set (fun d : Nat => V.int (d : Nat))]
  · by_cases e : j = k
    · subst e
      rw [setF_same, setF_same, setF_same, upd_ne (nac h hh), upd_ne nad, upd_ne nat', upd_same]
    · have hj' : j < k := by omega
      obtain ⟨q1, q2, q3⟩ := adk j hj'
      rw [setF_ne e, setF_ne e, setF_ne e, upd_ne (q3 h hh), upd_ne q2, upd_ne q1, upd_ne (naa j hj').symm, upd_ne (nba j hj').symm]
      exact R.nod j hj'
  · rw [rowE j (by omega)]
    by_cases e : j = k
    · subst e
      rw [setF_same, upd_ne (nbc h hh), upd_ne nbd, upd_ne nbt, upd_ne nab.symm, upd_same, row_out par j j (fun i a c => (R.par_ i a c).1) (Nat.le_refl _), if_neg (by omega)]
      rfl
    · have hj' : j < k := by omega
      obtain ⟨q1, q2, q3, q4⟩ := R.off j hj'
      rw [setF_ne e]
      by_cases ej : j = h
      · subst ej
        rw [upd_same, if_pos rfl]
      · rw [if_neg ej, List.append_nil, upd_ne (fun z => ej (R.inj j h hj' hh z)), upd_ne q4, upd_ne q3, upd_ne (nac j hj').symm, upd_ne (nbc j hj').symm]
        exact R.row j hj'
  · by_cases e : j = k
    · subst e
      rw [setF_same, setF_same]
      exact ⟨ha0, hb0, nbt, nbd⟩
    · rw [setF_ne e, setF_ne e]
      exact R.off j (by omega)
  · by_cases e1 : i = k
    · by_cases e2 : j = k
      · omega
      · rw [e1, setF_same, setF_ne e2] at e
        exact absurd e (nbc j (by omega))
    · by_cases e2 : j = k
      · rw [e2, setF_same, setF_ne e1] at e
        exact absurd e.symm (nbc i (by omega))
      · rw [setF_ne e1, setF_ne e2] at e
        exact R.inj i j (by omega) (by omega) e
  · by_cases e : j = k
    · subst e; rw [setF_same]; exact hc
    · rw [setF_ne e]; exact R.lts j (by omega)
  · by_cases e : j = k
    · subst e
      rw [setF_same, setF_same, setF_ne (by omega)]
      exact ⟨hh, rfl⟩
    · have g := R.par_ j h1 (by omega)
      rw [setF_ne e, setF_ne e, setF_ne (by omega)]
      exact g
  · by_cases e : j = k
    · subst e; rw [setF_same]; omega
    · rw [setF_ne e]; exact R.dep_ j (by omega)
theorem Grw.tree (R : Grw H0 H' p tr de L k par dep lt ad cl) (hL : ∀ c ∈ L.cps.toList, 97 ≤ c ∧ c ≤ 122) : ∀ (f j : Nat), j < k → k - j ≤ f → TrAt (fun b => H0 b = none) H' (.ref (ad j)) (trF par lt k f j)
  | 0, j, h1, h2 => by omega
  | f + 1, j, h1, h2 => by
    obtain ⟨o1, o2, _⟩ := R.off j h1
    have c2 := hL _ (R.lts j h1)
    simp only [trF]
    refine .node (R.nod j h1) (R.row j h1) o1 o2 c2.1 c2.2 (trs_map (fun i => V.ref (ad i)) (trF par lt k f) fun i hi => ?_)
    obtain ⟨m1, m2, m3⟩ := row_mem hi
    have := (R.par_ i m1 m3).1
    exact R.tree hL f i m3 (by omega)
end
def sp__law_tree : Sp := fun vs H Q _ => ∃ (p : Addr) (L : Str) (m : Int), vs = [.ref p, .str L, .int m] ∧ Dk H p ∧ Lets L ∧ 1 ≤ m ∧ m ≤ 60 ∧ ∀ v t H', Fr p H H' → Dk H' p → TrAt (fun b => H b = none) H' v t → (t.size : Int) ≤ m → t.depth ≤ 30 → t.lets (fun c => c ∈ L.cps.toList) → Q v H'
section
variable {P : Program} {w : World} {K : PySem.W.Frag} {mg : Str → Option Value} {base : Heap}
theorem ok__law_tree (T : Txt K mg) : FnOk P w K mg base CX0 2 T.f__law_tree T.d__law_tree ["deck", "letters", "most"] sp__law_tree := by
  have G__law_take : FnOk P w K mg base CX0 1 T.f__law_take T.d__law_take ["deck", "many"] sp__law_take := ok__law_take T
  refine T.F__law_tree.ok sc__law_tree (fun vs H Q E h => ?_) (fun cdv A outer s H vs Q E hr h => ?_)
  · obtain ⟨p, L, m, rfl, _⟩ := h
    rfl
  obtain ⟨p, L, m, rfl, hp, hL, h1, h60, q⟩ := h
  refine ⟨_, (pss_cons (ps_set (i := 3) sc__law_tree.nd rfl (Or.inl rfl) (pe_op op_add pe_int (pe_call G__law_take (hr.mono (by omega)) (by rfl) T.m__law_take T.F__law_take.kp T.b__law_take .nil pass0 (pa_cons (pv 0) (pa_cons (pv 2) pa_nil))))) (pss_cons (ps_set (i := 4) sc__law_tree.nd rfl (Or.inl rfl) (pe_call G__law_take (hr.mono (by omega)) (by rfl) T.m__law_take T.F__law_take.kp T.b__law_take .nil pass0 (pa_cons (pv 0) (pa_cons pe_int pa_nil)))) (pss_cons (ps_set (i := 5) sc__law_tree.nd rfl (Or.inl rfl) (pe_lst (pa_cons (pe_tup (pa_cons (pe_ix ix_str (pv 1) (pe_call G__law_take (hr.mono (by omega)) (by rfl) T.m__law_take T.F__law_take.kp T.b__law_take .nil pass0 (pa_cons (pv 0) (pa_cons (pe_callB call_len_str (by rfl) T.z_len PySem.boot_len (pa_cons (pv 1) pa_nil)) pa_nil))) (fun _ _ => rfl)) (pa_cons (pe_lst pa_nil) pa_nil))) pa_nil))) (pss_cons (ps_set (i := 6) sc__law_tree.nd rfl (Or.inl rfl) (pe_lst (pa_cons pe_int pa_nil))) (pss_cons (ps_for PassesOwn.never rfl (pi_range2 (by rfl) T.z_range (pa_cons pe_int (pa_cons (pv 3) pa_nil))) (pg_name (i := 7) sc__law_tree.nd rfl (Or.inl rfl)) (pss_cons (ps_set (i := 8) sc__law_tree.nd rfl (Or.inl rfl) (pe_ix ix_list (pe_lst (pa_cons (pe_call G__law_take (hr.mono (by omega)) (by rfl) T.m__law_take T.F__law_take.kp T.b__law_take .nil pass0 (pa_cons (pv 0) (pa_cons (pv 7) pa_nil))) (pa_cons (pe_call G__law_take (hr.mono (by omega)) (by rfl) T.m__law_take T.F__law_take.kp T.b__law_take .nil pass0 (pa_cons (pv 0) (pa_cons (pe_callB (call_min2 rfl) (by rfl) T.z_min (by decide +kernel) (pa_cons (pv 7) (pa_cons pe_int pa_nil))) pa_nil))) (pa_cons (pe_op op_sub (pv 7) pe_int) (pa_cons pe_int pa_nil))))) (pv 4) (fun _ _ => rfl))) (C8.pss_cut (ps_if (pt_cmpR op_gt (pe_ix ix_list (pv 6) (pv 8) (fun _ _ => rfl)) pe_int (nomark _)) (pss_one (ps_set (i := 8) sc__law_tree.nd rfl (Or.inl rfl) pe_int)) pss_nil) (pss_cons (ps_expr (pe_bm PySem.F.plainAttrs_list PySem.F.slot_list_append PySem.F.type_list_append mt_append (pv 5) (pa_cons (pe_tup (pa_cons (pe_ix ix_str (pv 1) (pe_call G__law_take (hr.mono (by omega)) (by rfl) T.m__law_take T.F__law_take.kp T.b__law_take .nil pass0 (pa_cons (pv 0) (pa_cons (pe_callB call_len_str (by rfl) T.z_len PySem.boot_len (pa_cons (pv 1) pa_nil)) pa_nil))) (fun _ _ => rfl)) (pa_cons (pe_lst pa_nil) pa_nil))) pa_nil))) (pss_cons (ps_expr (pe_bm PySem.F.plainAttrs_list PySem.F.slot_list_append PySem.F.type_list_append mt_append (pv 6) (pa_cons (pe_op op_add (pe_ix ix_list (pv 6) (pv 8) (fun _ _ => rfl)) pe_int) pa_nil))) (pss_one (ps_expr (pe_bm PySem.F.plainAttrs_list PySem.F.slot_list_append PySem.F.type_list_append mt_append (pe_ix ix_tup (pe_ix ix_list (pv 5) (pv 8) (fun _ _ => rfl)) pe_int (fun _ _ => rfl)) (pa_cons (pe_ix ix_list (pv 5) (pv 7) (fun _ _ => rfl)) pa_nil))))))))) (pss_one (ps_ret (pe_ix ix_list (pv 5) pe_int (fun _ _ => rfl))))))))), ?_⟩
  have hps : H p ≠ none := hp.some
  have np : ∀ b, H b = none → b ≠ p := fun b h e => hps (by rw [← e]; exact h)
  have hLs : L.cps.toList.length = L.length := by
    show L.cps.toList.length = L.cps.size
    exact Array.length_toList
  have hLz : L.length ≤ sizeLine := Nat.le_trans hL.2.1 (by decide)
  have hL1 := hL.1
  have letter : ∀ r : Int, 0 ≤ r → r < (L.length : Nat) → ∃ (rn c : Nat), r = (rn : Int) ∧ L.cps.toList[rn]? = some c ∧ c ∈ L.cps.toList := fun r r0 r1 => by
    have h : r.toNat < L.cps.toList.length := by rw [hLs]; omega
    exact ⟨r.toNat, L.cps.toList[r.toNat], by omega, List.getElem?_eq_getElem h, List.getElem_mem h⟩
  refine ⟨_, rfl, _, rfl, p, m, rfl, hp, by omega, fun r0 H1 r00 r01 f1 d1 => ⟨1, r0, rfl, rfl, ?_⟩⟩
  obtain ⟨many, hmany⟩ : ∃ many : Nat, 1 + r0 = (many : Int) := ⟨(1 + r0).toNat, by omega⟩
  show gName 3 (.int (1 + r0)) _ _ _
  rw [hmany]
  refine ⟨_, rfl, p, 4, rfl, d1, by decide, fun way H2 w0 w1 f2 d2 => ?_⟩
  refine ⟨_, rfl, _, rfl, _, rfl, L, rfl, hLz, p, (L.length : Nat), rfl, d2, by omega, fun r H3 r0' r1' f3 d3 => ?_⟩
  obtain ⟨rn, c0, rfl, hc0, hc0L⟩ := letter r r0' r1'
  have F3 : Fr p H H3 := (f1.trans f2).trans f3
  refine ⟨L, rn, c0, rfl, rfl, hLz, atI_nat hc0, (by show 0 ≤ sizeLine; decide), fun b hb => ⟨(by show 2 ≤ sizeLine; decide), fun a ha => ⟨(by show 1 ≤ sizeLine; decide), fun tr htr => ⟨(by show 1 ≤ sizeLine; decide), fun de hde => ?_⟩⟩⟩⟩
  have s1 := same_new (o := .lst []) hb
  have s2 := same_new (o := .tup [.str ⟨#[c0]⟩, .ref b]) ha
  have s3 := same_new (o := .lst [.ref a]) htr
  have s4 := same_new (o := .lst [.int 1]) hde
  have hb0 : H b = none := F3.free d3.some hb
  have ha0 : H a = none := F3.free d3.some (s1.free ha)
  have htr0 : H tr = none := F3.free d3.some ((s1.trans s2).free htr)
  have hde0 : H de = none := F3.free d3.some (((s1.trans s2).trans s3).free hde)
  have bx := s4 _ _ (s3 _ _ (s2 _ _ (upd_same (H := H3) (a := b) (o := .lst []))))
  have ax := s4 _ _ (s3 _ _ (upd_same (H := upd H3 b (.lst [])) (a := a) (o := .tup [.str ⟨#[c0]⟩, .ref b])))
  have trx := s4 _ _ (upd_same (H := upd (upd H3 b (.lst [])) a (.tup [.str ⟨#[c0]⟩, .ref b])) (a := tr) (o := .lst [.ref a]))
  have dex := upd_same (H := upd (upd (upd H3 b (.lst [])) a (.tup [.str ⟨#[c0]⟩, .ref b])) tr (.lst [.ref a])) (a := de) (o := .lst [.int 1])
  have ntd : tr ≠ de := ne_of_none (upd_same (H := upd (upd H3 b (.lst [])) a (.tup [.str ⟨#[c0]⟩, .ref b])) (a := tr) (o := .lst [.ref a])) hde
  have nbt : b ≠ tr := ne_of_none (s2 _ _ (upd_same (H := H3) (a := b) (o := .lst []))) htr
  have nbd : b ≠ de := ne_of_none (s3 _ _ (s2 _ _ (upd_same (H := H3) (a := b) (o := .lst [])))) hde
  have S4 := ((s1.trans s2).trans s3).trans s4
  have R0 : Grw H (upd (upd (upd (upd H3 b (.lst [])) a (.tup [.str ⟨#[c0]⟩, .ref b])) tr (.lst [.ref a])) de (.lst [.int 1])) p tr de L 1 (fun _ => 0) (fun _ => 1) (fun _ => c0) (fun _ => a) (fun _ => b) :=
    ⟨F3.trans (Fr.same S4), d3.keep S4, trx, dex, fun j _ => ax, fun j hj => by rw [bx, show j = 0 by omega]; rfl, ⟨htr0, hde0, ntd⟩, fun j _ => ⟨ha0, hb0, nbt, nbd⟩, fun i j h1 h2 _ => by omega, fun j _ => hc0L, fun j h1 h2 => by omega, fun j _ => ⟨Nat.le_refl 1, by decide⟩, rfl⟩
  generalize upd (upd (upd (upd H3 b (.lst [])) a (.tup [.str ⟨#[c0]⟩, .ref b])) tr (.lst [.ref a])) de (.lst [.int 1]) = H4 at R0
  have hm1 : 1 ≤ many := by omega
  have hm60 : many ≤ 60 := by omega
  refine ⟨_, rfl, 1, many, rfl, ⟨by decide, by decide, by omega, by omega⟩, for_range (lo := 1) (n := ((many : Int) - 1).toNat)
    (fun i σ H' => ∃ par dep lt ad cl y7 y8, σ = [some (.ref p), some (.str L), some (.int m), some (.int many), some (.int way), some (.ref tr), some (.ref de), y7, y8] ∧ Grw H H' p tr de L (1 + i) par dep lt ad cl)
    ⟨_, _, _, _, _, none, none, rfl, R0⟩ ?_ ?_⟩
  · rintro i σ H5 hi ⟨par, dep, lt, ad, cl, y7, y8, rfl, R⟩
    have hk : 1 + i < many := by omega
    rw [show (1 : Int) + (i : Int) = ((1 + i : Nat) : Int) by omega]
    refine ⟨_, rfl, _, rfl, p, ((1 + i : Nat) : Int), rfl, R.dk, by omega, fun s1 H6 a0 a1 f6 d6 => ⟨_, rfl, _, rfl, _, 3, rfl, p, _, rfl, d6, ?_, fun s2 H7 b0 b1 f7 d7 => ⟨_, rfl, _, 1, rfl, rfl, (by show 4 ≤ sizeLine; decide), fun e he => ?_⟩⟩⟩
    · split <;> omega
    have F7 : Fr p H5 H7 := f6.trans f7
    have R7 := R.go hps F7 d7
    have se := same_new (o := .lst [.int s1, .int s2, .int (((1 + i : Nat) : Int) - 1), .int 0]) he
    have ex := upd_same (H := H7) (a := e) (o := .lst [.int s1, .int s2, .int (((1 + i : Nat) : Int) - 1), .int 0])
    have R8 := R7.go hps (Fr.same se) (d7.keep se)
    have d8 := d7.keep se
    generalize upd H7 e (.lst [.int s1, .int s2, .int (((1 + i : Nat) : Int) - 1), .int 0]) = H8 at R8 ex d8
    obtain ⟨hd, hdk, hdv⟩ : ∃ hd : Nat, hd < 1 + i ∧ atI [V.int s1, V.int s2, V.int (((1 + i : Nat) : Int) - 1), V.int 0] way = some (.int (hd : Nat)) := by
      have b1' : s2 < ((1 + i : Nat) : Int) := by
        have := b1
        split at this <;> omega
      obtain rfl | rfl | rfl | rfl : way = 0 ∨ way = 1 ∨ way = 2 ∨ way = 3 := by omega
      · exact ⟨s1.toNat, by omega, at_of (j := 0) rfl (congrArg (fun z => some (V.int z)) (show s1 = ((s1.toNat : Nat) : Int) by omega))⟩
      · exact ⟨s2.toNat, by omega, at_of (j := 1) rfl (congrArg (fun z => some (V.int z)) (show s2 = ((s2.toNat : Nat) : Int) by omega))⟩
      · exact ⟨i, by omega, at_of (j := 2) rfl (congrArg (fun z => some (V.int z)) (show ((1 + i : Nat) : Int) - 1 = (i : Int) by omega))⟩
      · exact ⟨0, by omega, at_of (j := 3) rfl rfl⟩
    refine ⟨_, rfl, e, _, way, _, rfl, rfl, SqL.of ex, hdv, ?_⟩
    have lde : ∀ {X : Hp} {j : Nat}, j < 1 + i → X de = some (.lst ((List.range (1 + i)).map fun j => V.int (dep j : Nat))) → atI ((List.range (1 + i)).map fun j => V.int (dep j : Nat)) (j : Int) = some (.int (dep j : Nat)) := fun hj _ => atI_nat (rng_get _ hj)
    refine ⟨fun σ H' => ∃ h : Nat, σ = [some (.ref p), some (.str L), some (.int m), some (.int many), some (.int way), some (.ref tr), some (.ref de), some (.int ((1 + i : Nat) : Int)), some (.int (h : Nat))] ∧ h < 1 + i ∧ dep h ≤ 29 ∧ Grw H H' p tr de L (1 + i) par dep lt ad cl, ?_, ?_⟩
    · refine ⟨_, rfl, _, rfl, de, _, hd, _, rfl, rfl, SqL.of R8.de_, lde hdk R8.de_, _, 29, rfl, rfl, _, rfl, ?_⟩
      refine ite2 (fun hh => ?_) (fun hh => ?_)
      · exact ⟨0, rfl, by omega, by rw [R8.dep0]; decide, R8⟩
      · have h2 : ¬ ((29 : Int) < ((dep hd : Nat) : Int)) := fun z => hh (decide_eq_true z)
        exact ⟨hd, rfl, hdk, by omega, R8⟩
    clear R8 R7 ex d8 hdv he se
    rintro σ H9 ⟨h, rfl, hh, hd29, R9⟩
    refine ⟨_, rfl, .inl ⟨rfl, _, SqL.of R9.tr_⟩, _, rfl, _, rfl, _, rfl, L, rfl, hLz, p, (L.length : Nat), rfl, R9.dk, by omega, fun r H10 r0' r1' f10 d10 => ?_⟩
    obtain ⟨rn, c, rfl, hcr, hcL⟩ := letter r r0' r1'
    have R10 := R9.go hps f10 d10
    refine ⟨L, rn, c, rfl, rfl, hLz, atI_nat hcr, (by show 0 ≤ sizeLine; decide), fun b hb => ⟨(by show 2 ≤ sizeLine; decide), fun a ha => ?_⟩⟩
    have R11 := R10.step hps (by omega) hh hd29 hcL hb ha
    have sb := same_new (o := .lst []) hb
    have sa := same_new (o := .tup [.str ⟨#[c]⟩, .ref b]) ha
    have S := sb.trans sa
    have trx := S _ _ R10.tr_
    have dex := S _ _ R10.de_
    have adx := S _ _ (R10.nod h hh)
    have clx := S _ _ (R10.row h hh)
    obtain ⟨o1, o2, o3, o4⟩ := R10.off h hh
    obtain ⟨n1, n2, n3⟩ := R10.new
    have adt : ad h ≠ tr := fun e => by have g := R10.nod h hh; rw [e, R10.tr_] at g; cases g
    have add : ad h ≠ de := fun e => by have g := R10.nod h hh; rw [e, R10.de_] at g; cases g
    have fit : ∀ {α : Type} (f : Nat → α), ((List.range (1 + i)).map f).length < sizeLine := fun f => by
      rw [List.length_map, List.length_range]
      exact Nat.lt_of_le_of_lt (show 1 + i ≤ 1000000 by omega) (by decide)
    refine ⟨tr, _, _, rfl, rfl, trx, fit _, ?_⟩
    have dex2 : ∀ o, (upd (upd (upd H10 b (.lst [])) a (.tup [.str ⟨#[c]⟩, .ref b])) tr o) de = some (HO.lst ((List.range (1 + i)).map fun j => V.int (dep j : Nat))) := fun o => by rw [upd_ne n3.symm]; exact dex
    refine ⟨_, rfl, .inl ⟨rfl, _, SqL.of (dex2 _)⟩, _, rfl, _, rfl, de, _, h, _, rfl, rfl, SqL.of (dex2 _), lde hh R10.de_, _, 1, rfl, rfl, de, _, _, rfl, rfl, dex2 _, fit _, ?_⟩
    have trx3 : ∀ o o', (upd (upd (upd (upd H10 b (.lst [])) a (.tup [.str ⟨#[c]⟩, .ref b])) tr o) de o') tr = some o := fun o o' => by rw [upd_ne n3, upd_same]
    have adx3 : ∀ o o', (upd (upd (upd (upd H10 b (.lst [])) a (.tup [.str ⟨#[c]⟩, .ref b])) tr o) de o') (ad h) = some (HO.tup [.str (ch (lt h)), .ref (cl h)]) := fun o o' => by rw [upd_ne add, upd_ne adt]; exact adx
    have clx3 : ∀ o o', (upd (upd (upd (upd H10 b (.lst [])) a (.tup [.str ⟨#[c]⟩, .ref b])) tr o) de o') (cl h) = some (HO.lst ((rowOf par (1 + i) h).map fun i => V.ref (ad i))) := fun o o' => by rw [upd_ne o4, upd_ne o3]; exact clx
    have at1 : atI (((List.range (1 + i)).map fun j => V.ref (ad j)) ++ [V.ref a]) (h : Int) = some (.ref (ad h)) := atI_nat (by rw [List.getElem?_append_left (by rw [List.length_map, List.length_range]; exact hh)]; exact rng_get _ hh)
    have at2 : atI (((List.range (1 + i)).map fun j => V.ref (ad j)) ++ [V.ref a]) ((1 + i : Nat) : Int) = some (.ref a) := atI_nat (by rw [List.getElem?_append_right (by rw [List.length_map, List.length_range]; exact Nat.le_refl _), List.length_map, List.length_range, Nat.sub_self]; rfl)
    refine ⟨_, rfl, _, rfl, tr, _, h, .ref (ad h), rfl, rfl, SqL.of (trx3 _ _), at1, ad h, _, 1, .ref (cl h), rfl, rfl, SqT.of (adx3 _ _), atI_nat (j := 1) rfl, .inl ⟨rfl, _, SqL.of (clx3 _ _)⟩, _, rfl, _, rfl, tr, _, _, .ref a, rfl, rfl, SqL.of (trx3 _ _), at2, cl h, _, _, rfl, rfl, clx3 _ _, ?_, _, _, _, _, _, _, _, rfl, R11⟩
    rw [List.length_map]
    exact Nat.lt_of_le_of_lt (Nat.le_trans (row_len par (1 + i) h) (show 1 + i ≤ 1000000 by omega)) (by decide)
  · rintro σ H5 ⟨par, dep, lt, ad, cl, y7, y8, rfl, R⟩
    have e1 : 1 + ((many : Int) - 1).toNat = many := by omega
    rw [e1] at R
    refine ⟨_, rfl, tr, _, 0, .ref (ad 0), rfl, rfl, SqL.of R.tr_, at_of (j := 0) rfl (rng_get _ (by omega)), ?_⟩
    have hpar : ∀ j, 1 ≤ j → j < many → par j < j := fun j a b => (R.par_ j a b).1
    refine q _ (trF par lt many (many + 1) 0) _ R.fr R.dk (R.tree hL.2.2 (many + 1) 0 (by omega) (by omega)) ?_ ?_ (trF_lets R.lts _ 0 (by omega))
    · rw [trF_size0 hpar (by omega)]; omega
    · have h1 := trF_depth (lt := lt) R.par_ (fun j hj => (R.dep_ j hj).2) (many + 1) 0 (by omega)
      have h2 := (R.dep_ 0 (by omega)).1
      omega
end

theorem depth_pos1 : ∀ t : Tr, 1 ≤ t.depth
  | .node c ks => by simp only [Tr.depth]; omega
theorem cnts_len (n : Nat) (xs : List Nat) : (cnts n xs).length = n := by unfold cnts; rw [List.length_map, List.length_range]
theorem cnts_nil (n : Nat) : cnts n [] = List.replicate n 0 := by
  unfold cnts
  refine List.ext_getElem (by simp) fun i h1 h2 => by simp
theorem cnts_at {n s : Nat} (xs : List Nat) (h : s < n) : (cnts n xs)[s]? = some (xs.count s) := by
  unfold cnts
  rw [List.getElem?_map, List.getElem?_range h]
  rfl
theorem cnts_set {n s : Nat} (xs : List Nat) (h : s < n) : (cnts n xs).set s (xs.count s + 1) = cnts n (xs ++ [s]) := by
  refine List.ext_getElem? fun j => ?_
  rw [List.getElem?_set]
  by_cases hj : j < n
  · rw [cnts_at _ hj]
    by_cases e : s = j
    · subst e
      rw [if_pos rfl, if_pos (by rw [cnts_len]; exact hj), cnts_at _ hj, List.count_append]
      simp
    · rw [if_neg e, cnts_at _ hj, List.count_append, List.count_singleton]
      have : (s == j) = false := by simpa using e
      simp [this]
  · have o1 : (cnts n xs)[j]? = none := List.getElem?_eq_none (by rw [cnts_len]; omega)
    have o2 : (cnts n (xs ++ [s]))[j]? = none := List.getElem?_eq_none (by rw [cnts_len]; omega)
    rw [o1, o2]
    split
    · rw [if_neg (by rw [cnts_len]; omega)]
    · rfl
theorem set_nI {xs : List Nat} {i x : Nat} : (xs.map nI).set i (nI x) = (xs.set i x).map nI := by
  rw [List.map_set]

theorem St_ltJ {J : JD} (hok : J.ok) : ∀ t : Tr, t.lets (fun c => c ∈ J.L.cps.toList) → St J.sf J.n t < J.n
  | .node c ks, h => by
    simp only [Tr.lets] at h
    simp only [St]
    exact hok.sf_lt h.1 (cnts_len _ _)


theorem clsN_sub {few turn y : Nat} (h : few + turn ≤ y) : clsN few turn (y - turn) = clsN few turn y := by
  unfold clsN
  rw [if_neg (show ¬ y < few + turn by omega)]
  have e : y - few = (y - turn - few) + turn := by omega
  split
  · rw [e, Nat.add_mod_right, Nat.mod_eq_of_lt (by omega)]
    omega
  · rw [e, Nat.add_mod_right]
def sp__law_judged (P : Program) (w : World) (d : Nat) : Sp := fun vs H Q _ => ∃ (v u : V) (J : JD) (t : Tr), vs = [v, u] ∧ JAt P w H v J ∧ J.ok ∧ TrAt (fun _ => True) H u t ∧ t.depth ≤ d ∧ t.size ≤ 1000 ∧ t.lets (fun c => c ∈ J.L.cps.toList) ∧ ∀ H', Same H H' → Q (nI (St J.sf J.n t)) H'
section
variable {P : Program} {w : World} {K : PySem.W.Frag} {mg : Str → Option Value} {base : Heap}
theorem ok__law_judged (T : Txt K mg) : ∀ d : Nat, FnOk P w K mg base CX0 d T.f__law_judged T.d__law_judged ["judge", "tree"] (sp__law_judged P w d)
  | 0 => noneOf fun vs H Q E ⟨v, u, J, t, _, _, _, _, h, _⟩ => by have := depth_pos1 t; omega
  | d + 1 => by
    have G__law_judged : FnOk P w K mg base CX0 d T.f__law_judged T.d__law_judged ["judge", "tree"] (sp__law_judged P w d) := ok__law_judged T d
    refine T.F__law_judged.ok sc__law_judged (fun vs H Q E h => ?_) (fun cdv A outer s H vs Q E hr h => ?_)
    · obtain ⟨v, u, J, t, rfl, _⟩ := h
      rfl
    obtain ⟨v, u, J, t, rfl, hJ, hok, ht, hdp, hz, hL, q⟩ := h
    refine ⟨_, (pss_cons (ps_asg (pv 0) (pg_tup rfl (pgs_cons (pg_name (i := 2) sc__law_judged.nd rfl (Or.inl rfl)) (pgs_cons (pg_name (i := 3) sc__law_judged.nd rfl (Or.inl rfl)) (pgs_cons (pg_name (i := 4) sc__law_judged.nd rfl (Or.inl rfl)) (pgs_cons (pg_name (i := 5) sc__law_judged.nd rfl (Or.inl rfl)) (pgs_cons (pg_name (i := 6) sc__law_judged.nd rfl (Or.inl rfl)) (pgs_cons (pg_name (i := 7) sc__law_judged.nd rfl (Or.inl rfl)) pgs_nil)))))))) (pss_cons (ps_set (i := 8) sc__law_judged.nd rfl (Or.inl rfl) (pe_op op_rep (pe_lst (pa_cons pe_int pa_nil)) (pv 3))) (pss_cons (ps_for PassesOwn.never rfl (pi_list (pe_ix ix_tup (pv 1) pe_int (fun _ _ => rfl))) (pg_name (i := 9) sc__law_judged.nd rfl (Or.inl rfl)) (pss_cons (ps_set (i := 10) sc__law_judged.nd rfl (Or.inl rfl) (pe_call G__law_judged (hr.mono (by omega)) (by rfl) T.m__law_judged T.F__law_judged.kp T.b__law_judged .nil pass0 (pa_cons (pv 0) (pa_cons (pv 9) pa_nil)))) (pss_one (ps_asg (pe_op op_add (pe_ix ix_list (pv 8) (pv 10) (fun _ _ => rfl)) pe_int) (pg_sub (pv 8) (pv 10) set_list))))) (pss_cons (ps_set (i := 11) sc__law_judged.nd rfl (Or.inl rfl) (pe_lst pa_nil)) (pss_cons (ps_for PassesOwn.never rfl (pi_list (pv 8)) (pg_name (i := 12) sc__law_judged.nd rfl (Or.inl rfl)) (pss_cons (ps_while PassesOwn.never (pt_cmpR op_ge (pv 12) (pe_op op_add (pv 4) (pv 5)) (nomark _)) (pss_one (ps_set (i := 12) sc__law_judged.nd rfl (Or.inl rfl) (pe_op op_sub (pv 12) (pv 5))))) (pss_one (ps_expr (pe_bm PySem.F.plainAttrs_list PySem.F.slot_list_append PySem.F.type_list_append mt_append (pv 11) (pa_cons (pv 12) pa_nil)))))) (pss_one (ps_ret (pe_dgetN (roomN hr) (pv 6) (pe_tup (pa_cons (pe_ix ix_tup (pv 1) pe_int (fun _ _ => rfl)) (pa_cons (pe_callTy call_tuple_of (by rfl) T.z_tuple (by decide +kernel) (pa_cons (pv 11) pa_nil)) pa_nil))) (fun _ _ => rfl))))))))), ?_⟩
    have hJ0 := hJ
    obtain ⟨j, dd, g, xs, keys, rfl, hj, hd, hrn, hrj, hper, hg⟩ := hJ0
    cases ht with
    | node h1 h2 _ _ c1 c2 rr =>
    rename_i ta tl vs c ks _ _
    simp only [Tr.depth] at hdp
    simp only [Tr.size] at hz
    simp only [Tr.lets] at hL
    have hn6 := hok.n6
    have lk := len_sizes ks
    have lr := rr.len
    refine ⟨_, rfl, j, _, rfl, SqT.of hj, rfl, _, _, rfl, _, _, rfl, _, _, rfl, _, _, rfl, _, _, rfl, _, _, rfl, rfl, ?_⟩
    refine ⟨(by show 1 ≤ sizeLine; decide), fun z hz1 => ⟨_, rfl, z, J.n, _, rfl, rfl, upd_same, by omega, by omega, ?_, fun p hp => ?_⟩⟩
    · rw [List.length_singleton]
      exact Nat.le_of_lt (Nat.lt_of_le_of_lt (show _ ≤ 1000000 by omega) (by decide))
    have sz := same_new hz1 (o := .lst [V.int 0])
    have ez : (List.replicate (J.n : Int).toNat [V.int 0]).flatten = (cnts J.n []).map nI := by
      rw [Int.toNat_natCast, rep0, cnts_nil, List.map_replicate, List.map_replicate]
      rfl
    rw [ez]
    have sp := same_new hp (o := .lst ((cnts J.n []).map nI))
    have px := upd_same (H := upd H z (.lst [V.int 0])) (a := p) (o := .lst ((cnts J.n []).map nI))
    have hp0 : H p = none := sz.free hp
    have S1 := sz.trans sp
    generalize upd (upd H z (.lst [V.int 0])) p (.lst ((cnts J.n []).map nI)) = H1 at *
    refine ⟨_, rfl, ta, _, 1, .ref tl, rfl, rfl, SqT.of (S1 _ _ h1), atI_nat (j := 1) rfl, tl, rfl, ⟨_, SqL.of (S1 _ _ h2)⟩, for_list (xs := vs) (fun i σ H2 => ∃ y9 y10, σ = [some (.ref j), some (.ref ta), some (.str J.L), some (nI J.n), some (nI J.few), some (nI J.turn), some (.ref dd), some (.ref g), some (.ref p), y9, y10, none, none] ∧ H2 p = some (.lst ((cnts J.n ((ks.take i).map (St J.sf J.n))).map nI)) ∧ Same H H2)
      ⟨_, _, rfl, px, S1⟩ (fun i σ H2 _ ⟨_, _, _, _, s⟩ => SqL.of (s _ _ h2)) ?_ ?_⟩
    · rintro i x σ H2 hx ⟨y9, y10, rfl, hp2, s2⟩
      obtain ⟨t1, ht1, hx2⟩ := rr.getV hx
      have hm := List.mem_of_getElem? ht1
      have d1 := depths_mem hm
      have z1 := sizes_mem hm
      have l1 := letss_mem hL.2 hm
      refine ⟨_, rfl, _, rfl, .ref j, x, J, t1, rfl, hJ.same s2, hok, hx2.same s2, by omega, by omega, l1, fun H3 s3 => ?_⟩
      have hlt := St_ltJ hok t1 l1
      have hp3 := s3 _ _ hp2
      refine ⟨_, rfl, _, rfl, p, _, _, nI (((ks.take i).map (St J.sf J.n)).count (St J.sf J.n t1)), rfl, rfl, SqL.of hp3, ?_, _, 1, rfl, rfl, _, rfl, _, rfl, p, _, _, St J.sf J.n t1, rfl, rfl, hp3, ixN_nat (by rw [List.length_map, cnts_len]; exact hlt), ?_⟩
      · exact atI_nat (by rw [List.getElem?_map, cnts_at _ hlt]; rfl)
      · refine ⟨_, _, rfl, ?_, fun b o e => ?_⟩
        · rw [upd_same, take_succ_of ht1, List.map_append, List.map_cons, List.map_nil, ← cnts_set _ hlt, ← set_nI]
          rfl
        · rw [upd_ne (ne_of_none e hp0)]
          exact s3 _ _ (s2 _ _ e)
    · rintro σ H2 ⟨y9, y10, rfl, hp2, s2⟩
      rw [lr, List.take_length, ← Sts_map] at hp2
      have hnl : (cnts J.n (Sts J.sf J.n ks)).length = J.n := cnts_len _ _
      have hkey := hok.key hL.1 hnl
      have hat := atN_rows hrj (hper.mem_iff.mpr hkey)
      have qq : ∀ H', Same H H' → Q (nI (J.fs c ((cnts J.n (Sts J.sf J.n ks)).map (clsN J.few J.turn)))) H' := fun H' s => by
        have := q H' s
        simp only [St] at this
        exact this
      generalize cnts J.n (Sts J.sf J.n ks) = cs at *
      refine ⟨(by show 0 ≤ sizeLine; decide), fun cl hcl => ?_⟩
      have s3 := same_new hcl (o := .lst [])
      have k3 := upd_same (H := H2) (a := cl) (o := .lst [])
      generalize upd H2 cl (.lst []) = H3 at *
      refine ⟨_, rfl, p, rfl, ⟨_, SqL.of (s3 _ _ hp2)⟩, for_list (xs := cs.map nI) (fun i σ H4 => ∃ y12, σ = [some (.ref j), some (.ref ta), some (.str J.L), some (nI J.n), some (nI J.few), some (nI J.turn), some (.ref dd), some (.ref g), some (.ref p), y9, y10, some (.ref cl), y12] ∧ H4 cl = some (.lst (((cs.take i).map (clsN J.few J.turn)).map nI)) ∧ Same H2 H4) ⟨_, rfl, k3, s3⟩ (fun i σ H4 _ ⟨_, _, _, s⟩ => SqL.of (s _ _ hp2)) ?_ ?_⟩
      · rintro i x σ H4 hx ⟨y12, rfl, g1, g2⟩
        rw [List.getElem?_map] at hx
        cases hz2 : cs[i]? with
        | none => rw [hz2] at hx; cases hx
        | some y0 =>
        rw [hz2] at hx
        cases hx
        have hi := (List.getElem?_eq_some_iff.mp hz2).1
        refine ⟨fun m σ H' => ∃ (y : Nat) (yi : Int), yi = (y : Int) ∧ σ = [some (.ref j), some (.ref ta), some (.str J.L), some (nI J.n), some (nI J.few), some (nI J.turn), some (.ref dd), some (.ref g), some (.ref p), y9, y10, some (.ref cl), some (.int yi)] ∧ clsN J.few J.turn y = clsN J.few J.turn y0 ∧ m = y ∧ H' = H4, ⟨y0, y0, _, rfl, rfl, rfl, rfl, rfl⟩, ?_⟩
        rintro y σ H5 ⟨_, _, rfl, rfl, hy, rfl, rfl⟩
        refine ⟨_, rfl, _, rfl, _, rfl, _, _, rfl, rfl, _, _, rfl, rfl, _, rfl, ?_⟩
        by_cases hge : J.few + J.turn ≤ y
        · have t1 := hok.t1
          refine dT (by omega) ⟨fun σ2 H2 => ∃ (yi : Int), yi = ((y - J.turn : Nat) : Int) ∧ σ2 = [some (.ref j), some (.ref ta), some (.str J.L), some (nI J.n), some (nI J.few), some (nI J.turn), some (.ref dd), some (.ref g), some (.ref p), y9, y10, some (.ref cl), some (.int yi)] ∧ H2 = H5, fun σ2 H2 ⟨yi, e1, e2, e3⟩ => ⟨y - J.turn, by omega, y - J.turn, yi, e1, e2, (clsN_sub hge).trans hy, rfl, e3⟩, ?_⟩
          exact ⟨_, rfl, _, rfl, _, _, rfl, rfl, _, (by omega), rfl, rfl⟩
        · refine dF (by omega) ?_
          refine ⟨_, rfl, .inl ⟨rfl, _, SqL.of g1⟩, _, rfl, cl, _, _, rfl, rfl, g1, ?_, _, rfl, ?_, same_add g2 hcl⟩
          · rw [List.length_map, List.length_map, List.length_take]
            exact Nat.lt_of_le_of_lt (show _ ≤ 1000000 by omega) (by decide)
          · rw [upd_same, take_succ_of hz2, List.map_append, List.map_append, show List.map nI (List.map (clsN J.few J.turn) [y0]) = [nI (clsN J.few J.turn y0)] from rfl, ← hy, clsN_low (by omega)]
      · rintro σ H4 ⟨y12, rfl, g1, g2⟩
        rw [List.length_map, List.take_length] at g1
        have S4 := s2.trans g2
        refine ⟨_, rfl, _, rfl, ta, _, 0, .str (ch c), rfl, rfl, SqT.of (S4 _ _ h1), atI_nat (j := 0) rfl, _, rfl, cl, _, rfl, .inl ⟨SqL.of g1, fun t ht => ?_⟩⟩
        have s5 := same_new ht (o := .tup ((cs.map (clsN J.few J.turn)).map nI))
        have k5 := upd_same (H := H4) (a := t) (o := .tup ((cs.map (clsN J.few J.turn)).map nI))
        generalize upd H4 t (.tup ((cs.map (clsN J.few J.turn)).map nI)) = H5 at *
        refine ⟨(by show 2 ≤ sizeLine; decide), fun b2 hb2 => ?_⟩
        have s6 := same_new hb2 (o := .tup [.str (ch c), .ref t])
        have k6 := upd_same (H := H5) (a := b2) (o := .tup [.str (ch c), .ref t])
        generalize upd H5 b2 (.tup [.str (ch c), .ref t]) = H6 at *
        have S := (S4.trans s5).trans s6
        exact ⟨dd, b2, xs, keyN c (cs.map (clsN J.few J.turn)), _, rfl, rfl, S _ _ hd, hrn.keep fun b ys e => S _ _ e, nk_key k6 (s6 _ _ k5), keyN_depth _ _, hat, qq H6 S⟩
end


theorem takes_never {X : Cx} : L2.Takes X (fun _ _ _ _ => False) := fun u s' ⟨a, B, sI, pins, σ, H, cls, d, e, I, nb, up, sky, na, os, ag, w⟩ => w.elim
def Jof (R : Rl) : JD := ⟨R.L, R.n, fewR R, turnR R, fsR R, R.good⟩
def fitR (R : Rl) : Prop := turnR R ≤ 4 ∧ R.L.length * (fewR R + turnR R) ^ R.n ≤ 600
theorem Jof_ok {R : Rl} (h : R.ok) (f : fitR R) : (Jof R).ok := ⟨h.L, h.n1, h.n6, fewP_le _ 0 (by decide) (pl_ok h), (le12 (turnP_12 (n := R.n) _ 1 (by decide) (pl_ok h))).1, f.1, f.2, fun key hk => fsR_lt h (keysOf_mem hk).1 _, h.g6, h.gn⟩
mutual
theorem St_congr {f g : Nat → List Nat → Nat} {q : Nat → Prop} {n : Nat} (h : ∀ c, q c → ∀ row, f c row = g c row) : ∀ t : Tr, t.lets q → St f n t = St g n t
  | .node c ks, hl => by
    simp only [Tr.lets] at hl
    simp only [St]
    rw [Sts_congr h ks hl.2, h c hl.1]
theorem Sts_congr {f g : Nat → List Nat → Nat} {q : Nat → Prop} {n : Nat} (h : ∀ c, q c → ∀ row, f c row = g c row) : ∀ ts : List Tr, letss q ts → Sts f n ts = Sts g n ts
  | [], _ => rfl
  | t :: r, hl => by
    simp only [letss] at hl
    simp only [Sts]
    rw [St_congr h t hl.1, Sts_congr h r hl.2]
end
theorem St_Jof {R : Rl} (h : R.ok) (t : Tr) (hl : t.lets (fun c => c ∈ R.L.cps.toList)) : St (Jof R).sf (Jof R).n t = St (fsR R) R.n t := St_congr (fun c hc row => fsR_cls h hc row) t hl
def JudR (P : Program) (w : World) (ok : Addr → Prop) (H : Hp) (v : V) (R : Rl) : Prop := fitR R ∧ ∃ (j d g : Addr) (xs : List NRow), v = .ref j ∧ H j = some (.tup [.str R.L, nI R.n, nI (fewR R), nI (turnR R), .ref d, .ref g]) ∧ H d = some (DictN P w d xs) ∧ RowsN H xs ∧ RowsJ xs (keysOf R.L R.n (fewR R + turnR R)) (fsR R) ∧ H g = some (.lst (R.good.map nI)) ∧ ok g
theorem JudR.extN {P : Program} {w : World} {ok : Addr → Prop} {H H' : Hp} {v : V} {R : Rl} (x : JudR P w ok H v R) (f : LamX.ExtN H H') : JudR P w ok H' v R := by
  obtain ⟨f0, j, d, g, xs, rfl, h1, h2, h3, h4, h6, h7⟩ := x
  exact ⟨f0, j, d, g, xs, rfl, f _ _ h1 (fun _ z => by cases z), f _ _ h2 not_tbl, h3.keep fun b ys e => f _ _ e (fun _ z => by cases z), h4, f _ _ h6 (fun _ z => by cases z), h7⟩
theorem JudR.weak {P : Program} {w : World} {ok ok' : Addr → Prop} {H : Hp} {v : V} {R : Rl} (x : JudR P w ok H v R) (h : ∀ b, ok b → ok' b) : JudR P w ok' H v R := by
  obtain ⟨f0, j, d, g, xs, rfl, h1, h2, h3, h4, h6, h7⟩ := x
  exact ⟨f0, j, d, g, xs, rfl, h1, h2, h3, h4, h6, h _ h7⟩
theorem JudR.fr {P : Program} {w : World} {H H' : Hp} {v : V} {R : Rl} {p : Addr} (x : JudR P w (fun b => b ≠ p) H v R) (D : Dk H p) (f : Fr p H H') : JudR P w (fun b => b ≠ p) H' v R := by
  obtain ⟨f0, j, d, g, xs, rfl, h1, h2, h3, h4, h6, h7⟩ := x
  obtain ⟨ys, hp⟩ := D
  exact ⟨f0, j, d, g, xs, rfl, f _ _ (fun e => by rw [e, hp] at h1; cases h1) h1, f _ _ (fun e => by rw [e, hp] at h2; unfold DictN at h2; cases h2) h2, h3.keep fun b zs e => f _ _ (fun z => by rw [z, hp] at e; cases e) e, h4, f _ _ h7 h6, h7⟩
theorem JudR.at {P : Program} {w : World} {ok : Addr → Prop} {H : Hp} {v : V} {R : Rl} (x : JudR P w ok H v R) : JAt P w H v (Jof R) := by
  obtain ⟨f0, j, d, g, xs, rfl, h1, h2, h3, h4, h6, _⟩ := x
  exact ⟨j, d, g, xs, _, rfl, h1, h2, h3, h4, List.Perm.refl _, h6⟩
def sp_made_yes (P : Program) (w : World) (TT : List NdefX.NTab) : Sp := fun vs H Q _ => ∃ (v : V) (R : Rl), vs = [v] ∧ RlAt (fun _ => True) H v R ∧ R.ok ∧ Rises R.L ∧ fitR R ∧ NdefX.TabsN TT H ∧ ∀ jv H', LamX.ExtN H H' → NdefX.TabsN TT H' → JudR P w (fun b => H b = none) H' jv R → Q jv H'
def sp_made_no (TT : List NdefX.NTab) : Sp := fun vs H Q _ => ∃ (v : V) (R : Rl), vs = [v] ∧ RlAt (fun _ => True) H v R ∧ R.ok ∧ ¬ fitR R ∧ NdefX.TabsN TT H ∧ ∀ H', LamX.ExtN H H' → NdefX.TabsN TT H' → Q .non H'
def sp__law_made (P : Program) (w : World) (TT : List NdefX.NTab) : Sp := fun vs H Q _ => ∃ (v : V) (R : Rl), vs = [v] ∧ RlAt (fun _ => True) H v R ∧ R.ok ∧ Rises R.L ∧ NdefX.TabsN TT H ∧ ∀ jv H', LamX.ExtN H H' → NdefX.TabsN TT H' → (jv = .non ∨ JudR P w (fun b => H b = none) H' jv R) → Q jv H'
def sp__law_agrees (P : Program) (w : World) (TT : List NdefX.NTab) : Sp := fun vs H Q _ => ∃ (v u : V) (J : JD) (t : Tr), vs = [v, u, nI (St J.sf J.n t), .bl (decide (St J.sf J.n t ∈ J.good))] ∧ JAt P w H v J ∧ J.ok ∧ TrAt (fun _ => True) H u t ∧ t.depth ≤ 31 ∧ t.size ≤ 1000 ∧ t.lets (fun c => c ∈ J.L.cps.toList) ∧ NdefX.TabsN TT H ∧ ∀ H', LamX.ExtN H H' → NdefX.TabsN TT H' → Q (.bl true) H'
section
variable {P : Program} {w : World} {K : PySem.W.Frag} {mg : Str → Option Value} {base : Heap}
theorem ok_madeJ (T : Txt K mg) (B : Tbs T base) (M : KTab K w T.a_MADE_OF_OTHERS made) {TT : List NdefX.NTab} (hTT : TTj T TT) : FnOk P w K mg base CX0 17 T.f__law_made T.d__law_made ["rules"] (sp_made_yes P w TT) := by
  have G_judge_made : FnOk P w K mg base (L2.CX P w) 15 T.f_judge_made T.d_judge_made ["rules"] (sp_judge_made P w TT) := toX (ok_judge_made T B M hTT)
  refine T.F__law_made.ok sc__law_made (fun vs H Q E h => ?_) (fun cdv A outer s H vs Q E hr h => ?_)
  · obtain ⟨v, R, rfl, _⟩ := h
    rfl
  obtain ⟨v, R, rfl, hR, hok, hri, hfit, hT, q⟩ := h
  refine ⟨_, (pss_cons (ps_set (i := 1) sc__law_made.nd rfl (Or.inl rfl) pe_non) (pss_cons (ps_try_only rfl rfl ⟨rfl, by decide, .inl T.g_TooMany⟩ takes_never (fun W pn xe tk _ => (pss_one (ps_set (i := 1) sc__law_made.nd rfl (Or.inl rfl) (pe_callS G_judge_made (hr.mono (by omega)) (by rfl) T.m_judge_made T.F_judge_made.kp T.b_judge_made (fun σ => passAt tk σ) (pa_cons (pv 0) pa_nil))))) (fun a oe cls d pn _ _ => (pss_one (ps_set (i := 1) sc__law_made.nd rfl (Or.inl rfl) pe_non)))) (pss_one (ps_ret (pv 1))))), ?_⟩
  refine ⟨_, rfl, v, R, rfl, hR, hok, hri, hT, hfit.1, hfit.2, fun j d g xs H1 e1 T1 hd0 hg0 hj hd hx hrow hg => ?_⟩
  exact ⟨_, rfl, q _ _ e1 T1 ⟨hfit, j, d, g, xs, rfl, hj, hd, hx, hrow, hg, hg0⟩⟩
theorem ok_madeM (T : Txt K mg) (B : Tbs T base) (M : KTab K w T.a_MADE_OF_OTHERS made) {TT : List NdefX.NTab} (hTT : TTj T TT) : FnOk P w K mg base CX0 17 T.f__law_made T.d__law_made ["rules"] (sp_made_no TT) := by
  have G_judge_made : FnOk P w K mg base (L2.CX P w) 15 T.f_judge_made T.d_judge_made ["rules"] (spB_judge_made T.C_TooMany TT) := okB_judge_made T B M hTT
  refine T.F__law_made.ok sc__law_made (fun vs H Q E h => ?_) (fun cdv A outer s H vs Q E hr h => ?_)
  · obtain ⟨v, R, rfl, _⟩ := h
    rfl
  obtain ⟨v, R, rfl, hR, hok, hfit, hT, q⟩ := h
  refine ⟨_, (pss_cons (ps_set (i := 1) sc__law_made.nd rfl (Or.inl rfl) pe_non) (pss_cons (ps_try_only rfl rfl ⟨rfl, by decide, .inl T.g_TooMany⟩ takes_never (fun W pn xe tk _ => (pss_one (ps_set (i := 1) sc__law_made.nd rfl (Or.inl rfl) (pe_callS G_judge_made (hr.mono (by omega)) (by rfl) T.m_judge_made T.F_judge_made.kp T.b_judge_made (fun σ => passAt tk σ) (pa_cons (pv 0) pa_nil))))) (fun a oe cls d pn _ _ => (pss_one (ps_set (i := 1) sc__law_made.nd rfl (Or.inl rfl) pe_non)))) (pss_one (ps_ret (pv 1))))), ?_⟩
  have hB : 4 < turnR R ∨ 600 < R.L.length * (fewR R + turnR R) ^ R.n := by
    rcases Nat.lt_or_ge 4 (turnR R) with z | z
    · exact .inl z
    · rcases Nat.lt_or_ge 600 (R.L.length * (fewR R + turnR R) ^ R.n) with y | y
      · exact .inr y
      · exact absurd ⟨z, y⟩ hfit
  refine ⟨_, rfl, v, R, rfl, hR, hok, hT, hB, fun H1 e1 T1 => ⟨true, T.em_TooMany_TooMany, fun _ a ha => ?_, fun h => by cases h⟩⟩
  exact ⟨_, rfl, q _ e1 T1⟩
theorem ok__law_made (T : Txt K mg) (B : Tbs T base) (M : KTab K w T.a_MADE_OF_OTHERS made) {TT : List NdefX.NTab} (hTT : TTj T TT) : FnOk P w K mg base CX0 17 T.f__law_made T.d__law_made ["rules"] (sp__law_made P w TT) := by
  have F1 := ok_madeJ (P := P) (w := w) T B M hTT
  have F2 := ok_madeM (P := P) (w := w) T B M hTT
  have turn : ∀ vs H Q E, sp__law_made P w TT vs H Q E → sp_made_yes P w TT vs H Q E ∨ sp_made_no TT vs H Q E := fun vs H Q E ⟨v, R, e, hR, hok, hri, hT, q⟩ => by
    by_cases hf : fitR R
    · exact .inl ⟨v, R, e, hR, hok, hri, hf, hT, fun jv H' a b c => q jv H' a b (.inr c)⟩
    · exact .inr ⟨v, R, e, hR, hok, hf, hT, fun H' a b => q .non H' a b (.inl rfl)⟩
  exact ⟨fun vs H Q E h => (turn vs H Q E h).elim (F1.len vs H Q E) (F2.len vs H Q E), fun A outer s H args us vs Q E hr e0 hb r h => (turn vs H Q E h).elim (F1.run A outer s H args us vs Q E hr e0 hb r) (F2.run A outer s H args us vs Q E hr e0 hb r)⟩
theorem ok__law_agrees (T : Txt K mg) (B : Tbs T base) {TT : List NdefX.NTab} (hTT : TTp T TT) : FnOk P w K mg base CX0 32 T.f__law_agrees T.d__law_agrees ["judge", "tree", "state", "good"] (sp__law_agrees P w TT) := by
  have G_state_of : FnOk P w K mg base CX0 16 T.f_state_of T.d_state_of ["judge", "tree"] (sp_state_of P w TT) := ok_state_of T B hTT
  have G_lets_by : FnOk P w K mg base CX0 17 T.f_lets_by T.d_lets_by ["judge", "tree"] (sp_lets_by P w TT) := ok_lets_by T B hTT
  have G__law_judged : FnOk P w K mg base CX0 31 T.f__law_judged T.d__law_judged ["judge", "tree"] (sp__law_judged P w 31) := ok__law_judged T 31
  refine T.F__law_agrees.ok sc__law_agrees (fun vs H Q E h => ?_) (fun cdv A outer s H vs Q E hr h => ?_)
  · obtain ⟨v, u, J, t, rfl, _⟩ := h
    rfl
  obtain ⟨v, u, J, t, rfl, hJ, hok, ht, hd, hz, hL, hT, q⟩ := h
  refine ⟨_, (pss_cons (ps_if (PW.pt (pw_or (pt_cmpR op_ne (pe_call G_state_of (hr.mono (by omega)) (by rfl) T.m_state_of T.F_state_of.kp T.b_state_of .nil pass0 (pa_cons (pv 0) (pa_cons (pv 1) pa_nil))) (pv 2) (nomark _)) (pw_or1 (pt_cmpR op_ne (pe_call G__law_judged (hr.mono (by omega)) (by rfl) T.m__law_judged T.F__law_judged.kp T.b__law_judged .nil pass0 (pa_cons (pv 0) (pa_cons (pv 1) pa_nil))) (pv 2) (nomark _))))) (pss_one (ps_ret pe_bl)) pss_nil) (pss_one (ps_ret (pe_cmpR op_eq (pe_call G_lets_by (hr.mono (by omega)) (by rfl) T.m_lets_by T.F_lets_by.kp T.b_lets_by .nil pass0 (pa_cons (pv 0) (pa_cons (pv 1) pa_nil))) (pv 3) (nomark _))))), ?_⟩
  have hz6 : t.size ≤ 1000000 := Nat.le_trans hz (by decide)
  refine ⟨_, rfl, _, rfl, v, u, J, t, rfl, hJ, hok, ht, hz6, hL, hT, fun H1 e1 T1 => ⟨_, rfl, rfl, _, rfl, neS rfl ?_⟩⟩
  have ht1 := ht.extN1 e1
  refine ⟨_, rfl, _, rfl, v, u, J, t, rfl, hJ.extN e1, hok, ht1, hd, hz, hL, fun H2 s2 => ⟨_, rfl, rfl, _, rfl, neS rfl ?_⟩⟩
  refine ⟨_, rfl, _, rfl, v, u, J, t, rfl, (hJ.extN e1).same s2, hok, ht1.same s2, hz6, hL, T1.ext s2, fun H3 e3 T3 => ⟨_, rfl, rfl, ?_⟩⟩
  rw [decide_eq_true rfl]
  exact q _ ((e1.trans (.of s2)).trans e3) T3
end

theorem TrsAt.rep {ok : Addr → Prop} {H : Hp} {v : V} {t : Tr} (x : TrAt ok H v t) : ∀ n, TrsAt ok H (List.replicate n v) (List.replicate n t)
  | 0 => .nil
  | n + 1 => .cons x (TrsAt.rep x n)


theorem flat_one {α : Type} (x : α) : ∀ k : Nat, (List.replicate k [x]).flatten = List.replicate k x
  | 0 => rfl
  | k + 1 => by rw [List.replicate_succ, List.flatten_cons, flat_one x k, List.replicate_succ]; rfl
theorem sizes_rep (t : Tr) : ∀ k : Nat, sizes (List.replicate k t) = k * t.size
  | 0 => by simp [sizes]
  | k + 1 => by rw [List.replicate_succ, sizes, sizes_rep t k, Nat.succ_mul, Nat.add_comm]
theorem depths_le {d : Nat} : ∀ {ts : List Tr}, (∀ t ∈ ts, t.depth ≤ d) → depths ts ≤ d
  | [], _ => by simp [depths]
  | t :: r, h => by
    have h1 := h t List.mem_cons_self
    have h2 := depths_le fun x hx => h x (List.mem_cons_of_mem t hx)
    simp only [depths]
    omega
theorem letss_all {q : Nat → Prop} : ∀ {ts : List Tr}, (∀ t ∈ ts, t.lets q) → letss q ts
  | [], _ => by simp [letss]
  | t :: r, h => by
    simp only [letss]
    exact ⟨h t List.mem_cons_self, letss_all fun x hx => h x (List.mem_cons_of_mem t hx)⟩
theorem sizes_le {m : Nat} : ∀ {ts : List Tr}, (∀ t ∈ ts, t.size ≤ m) → sizes ts ≤ ts.length * m
  | [], _ => by simp [sizes]
  | t :: r, h => by
    have h1 := h t List.mem_cons_self
    have h2 := sizes_le fun x hx => h x (List.mem_cons_of_mem t hx)
    simp only [sizes, List.length_cons, Nat.succ_mul]
    omega
def sp__law_wide : Sp := fun vs H Q _ => ∃ (p : Addr) (L : Str), vs = [.ref p, .str L] ∧ Dk H p ∧ Lets L ∧ ∀ v t H', Fr p H H' → Dk H' p → TrAt (fun b => b ≠ p) H' v t → t.size ≤ 100 → t.depth ≤ 31 → t.lets (fun c => c ∈ L.cps.toList) → Q v H'
section
variable {P : Program} {w : World} {K : PySem.W.Frag} {mg : Str → Option Value} {base : Heap}
theorem ok__law_wide (T : Txt K mg) : FnOk P w K mg base CX0 3 T.f__law_wide T.d__law_wide ["deck", "letters"] sp__law_wide := by
  have G__law_take : FnOk P w K mg base CX0 1 T.f__law_take T.d__law_take ["deck", "many"] sp__law_take := ok__law_take T
  have G__law_tree : FnOk P w K mg base CX0 2 T.f__law_tree T.d__law_tree ["deck", "letters", "most"] sp__law_tree := ok__law_tree T
  refine T.F__law_wide.ok sc__law_wide (fun vs H Q E h => ?_) (fun cdv A outer s H vs Q E hr h => ?_)
  · obtain ⟨p, L, rfl, _⟩ := h
    rfl
  obtain ⟨p, L, rfl, hp, hL, q⟩ := h
  refine ⟨_, (pss_cons (ps_set (i := 2) sc__law_wide.nd rfl (Or.inl rfl) (pe_call G__law_tree (hr.mono (by omega)) (by rfl) T.m__law_tree T.F__law_tree.kp T.b__law_tree .nil pass0 (pa_cons (pv 0) (pa_cons (pv 1) (pa_cons pe_int pa_nil))))) (pss_cons (ps_setLc (i := 3) (own := [("k", 5)]) (g := gName 5) (tt := tYes) rfl sc__law_wide.nd rfl rfl (sw_true rfl rfl rfl (by decide +kernel)) (pi_range1 (by rfl) T.z_range (pa_cons (pe_call G__law_take (hr.mono (by omega)) (by rfl) T.m__law_take T.F__law_take.kp T.b__law_take .nil pass0 (pa_cons (pv 0) (pa_cons pe_int pa_nil))) pa_nil)) (blkOk_by (own := [("k", 5)]) (N := ["deck", "letters", "one", "more", "many", "k"]) (sc := (defScope s__law_wide)) (by decide +kernel)) (fun _ _ _ _ _ => (pg_name (i := 5) sc__law_wide.nd rfl (Or.inl rfl))) (fun _ _ _ _ _ => pts_nil) (fun _ _ _ _ _ => (pe_call G__law_tree (hr.mono (by omega)) (by rfl) T.m__law_tree T.F__law_tree.kp T.b__law_tree .nil pass0 (pa_cons (pv 0) (pa_cons (pv 1) (pa_cons pe_int pa_nil)))))) (pss_cons (ps_set (i := 4) sc__law_wide.nd rfl (Or.inl rfl) (pe_ix ix_list (pe_lst (pa_cons (pe_call G__law_take (hr.mono (by omega)) (by rfl) T.m__law_take T.F__law_take.kp T.b__law_take .nil pass0 (pa_cons (pv 0) (pa_cons pe_int pa_nil))) (pa_cons (pe_call G__law_take (hr.mono (by omega)) (by rfl) T.m__law_take T.F__law_take.kp T.b__law_take .nil pass0 (pa_cons (pv 0) (pa_cons pe_int pa_nil))) pa_nil))) (pe_call G__law_take (hr.mono (by omega)) (by rfl) T.m__law_take T.F__law_take.kp T.b__law_take .nil pass0 (pa_cons (pv 0) (pa_cons pe_int pa_nil))) (fun _ _ => rfl))) (pss_one (ps_ret (pe_tup (pa_cons (pe_ix ix_str (pv 1) (pe_call G__law_take (hr.mono (by omega)) (by rfl) T.m__law_take T.F__law_take.kp T.b__law_take .nil pass0 (pa_cons (pv 0) (pa_cons (pe_callB call_len_str (by rfl) T.z_len PySem.boot_len (pa_cons (pv 1) pa_nil)) pa_nil))) (fun _ _ => rfl)) (pa_cons (pe_op op_cat (pe_op op_rep (pe_lst (pa_cons (pv 2) pa_nil)) (pv 4)) (pv 3)) pa_nil)))))))), ?_⟩
  have off : ∀ {H1 : Hp}, Dk H1 p → ∀ b, H1 b = none → b ≠ p := fun D b h e => D.some (by rw [← e]; exact h)
  have hLs : L.cps.toList.length = L.length := by
    show L.cps.toList.length = L.cps.size
    exact Array.length_toList
  have hLz : L.length ≤ sizeLine := Nat.le_trans hL.2.1 (by decide)
  have hL1 := hL.1
  have letter : ∀ r : Int, 0 ≤ r → r < (L.length : Nat) → ∃ (rn c : Nat), r = (rn : Int) ∧ L.cps.toList[rn]? = some c ∧ c ∈ L.cps.toList := fun r r0 r1 => by
    have h : r.toNat < L.cps.toList.length := by rw [hLs]; omega
    exact ⟨r.toNat, L.cps.toList[r.toNat], by omega, List.getElem?_eq_getElem h, List.getElem_mem h⟩
  refine ⟨_, rfl, _, rfl, p, L, 3, rfl, hp, hL, by decide, by decide, fun v1 t1 H1 f1 D1 ht1 z1 d1 l1 => ?_⟩
  have ht1 : TrAt (fun b => b ≠ p) H1 v1 t1 := ht1.weak (off hp)
  refine ⟨_, rfl, p, 4, rfl, D1, by decide, fun r H2 r0 r4 f2 D2 => ⟨r, rfl, by omega, by omega, fun D hD => ?_⟩⟩
  have nD : D ≠ p := D2.ne hD
  refine lc_range (lo := 0) (n := r.toNat) (fun i H3 => ∃ ws ts, H3 D = some (.lst ws) ∧ TrsAt (fun b => b ≠ p ∧ b ≠ D) H3 ws ts ∧ ts.length = i ∧ (∀ t ∈ ts, t.size ≤ 2 ∧ t.depth ≤ 30 ∧ t.lets (fun c => c ∈ L.cps.toList)) ∧ Fr p H2 H3 ∧ Dk H3 p) ⟨[], [], upd_same, .nil, rfl, (fun _ h => by cases h), (Fr.refl p H2).new hD, D2.keep (same_new hD)⟩ ?_ ?_
  · rintro i H3 hi ⟨ws, ts, g1, g2, g3, g4, g5, g6⟩
    have lw := g2.len
    refine ⟨rfl, _, rfl, _, rfl, p, L, 2, rfl, g6, hL, by decide, by decide, fun v t H4 f4 D4 ht z d l => ⟨ws, f4 _ _ nD g1, ?_, ws ++ [v], ts ++ [t], upd_same, ?_, by rw [List.length_append, g3]; rfl, ?_, (g5.trans f4).new hD, D4.upd nD⟩⟩
    · exact Nat.lt_of_le_of_lt (show ws.length ≤ 1000000 by omega) (by decide)
    · have new : TrAt (fun b => b ≠ p ∧ b ≠ D) H4 v t := ht.weak fun b h => ⟨off g6 b h, fun e => by rw [e, g1] at h; cases h⟩
      exact (TrsAt.append (g2.keep fun b o h e => f4 b o h.1 e) (.cons new .nil)).keep (upd_keep fun b h => h.2)
    · intro x hx
      rcases List.mem_append.mp hx with hx | hx
      · exact g4 x hx
      · rw [List.mem_singleton.mp hx]
        exact ⟨by omega, d, l⟩
  · rintro H3 ⟨ws, ts, g1, g2, g3, g4, g5, g6⟩
    have lw := g2.len
    refine ⟨_, rfl, p, 8, rfl, g6, by decide, fun x1 H4 a0 a1 f4 D4 => ⟨_, rfl, p, 18, rfl, D4, by decide, fun x2 H5 b0 b1 f5 D5 => ⟨(by show 2 ≤ sizeLine; decide), fun l hl => ?_⟩⟩⟩
    refine ⟨_, rfl, p, 2, rfl, D5.keep (same_new hl), by decide, fun x3 H6 c0 c1 f6 D6 => ?_⟩
    have hl6 := f6 l _ (D5.ne hl) upd_same
    obtain ⟨m, hm, m0, m18⟩ : ∃ m : Int, atI [V.int x1, V.int x2] x3 = some (V.int m) ∧ 0 ≤ m ∧ m < 18 := by
      rcases (by omega : x3 = 0 ∨ x3 = 1) with rfl | rfl
      · exact ⟨x1, at_of (j := 0) rfl rfl, a0, by omega⟩
      · exact ⟨x2, at_of (j := 1) rfl rfl, b0, b1⟩
    refine ⟨l, _, x3, V.int m, rfl, rfl, SqL.of hl6, hm, ?_⟩
    have F36 : Fr p H3 H6 := ((f4.trans f5).trans (Fr.same (same_new hl))).trans f6
    refine ⟨_, rfl, _, rfl, _, rfl, L, rfl, hLz, p, (L.length : Nat), rfl, D6, by omega, fun r3 H7 r30 r31 f7 D7 => ?_⟩
    obtain ⟨rn, c, rfl, hc, hcL⟩ := letter r3 r30 r31
    have F37 := F36.trans f7
    have F27 := g5.trans F37
    have kD := F37 D _ nD g1
    have k2 : TrsAt (fun b => b ≠ p) H7 ws ts := (g2.weak fun b h => h.1).keep fun b o h e => F37 b o h e
    have k1 : TrAt (fun b => b ≠ p) H7 v1 t1 := ht1.keep fun b o h e => (f2.trans F27) b o h e
    refine ⟨L, rn, c, rfl, rfl, hLz, atI_nat hc, ?_⟩
    refine ⟨_, rfl, (by show 1 ≤ sizeLine; decide), fun o1 ho1 => ⟨_, rfl, o1, m, _, rfl, rfl, upd_same, by omega, by omega, ?_, fun o2 ho2 => ?_⟩⟩
    · rw [List.length_singleton]
      exact Nat.le_of_lt (Nat.lt_of_le_of_lt (show _ ≤ 1000000 by omega) (by decide))
    have s1 := same_new ho1 (o := .lst [v1])
    rw [flat_one]
    have s2 := same_new ho2 (o := .lst (List.replicate m.toNat v1))
    have ko2 := upd_same (H := upd H7 o1 (.lst [v1])) (a := o2) (o := .lst (List.replicate m.toNat v1))
    have S9 := s1.trans s2
    generalize upd (upd H7 o1 (.lst [v1])) o2 (.lst (List.replicate m.toNat v1)) = H9 at *
    have no2 : o2 ≠ p := fun e => by
      obtain ⟨ys, hy⟩ := D7
      have := s1 _ _ hy
      rw [← e, ho2] at this
      cases this
    refine ⟨_, rfl, o2, D, _, _, rfl, rfl, ko2, S9 _ _ kD, ?_, fun f hf => ⟨(by show 2 ≤ sizeLine; decide), fun a ha => ?_⟩⟩
    · rw [List.length_replicate]
      exact Nat.le_of_lt (Nat.lt_of_le_of_lt (show _ ≤ 1000000 by omega) (by decide))
    have s3 := same_new hf (o := .lst (List.replicate m.toNat v1 ++ ws))
    have kf := same_new ha (o := .tup [.str ⟨#[c]⟩, .ref f]) _ _ (upd_same (H := H9) (a := f) (o := .lst (List.replicate m.toNat v1 ++ ws)))
    have s4 := same_new ha (o := .tup [.str ⟨#[c]⟩, .ref f])
    have ka := upd_same (H := upd H9 f (.lst (List.replicate m.toNat v1 ++ ws))) (a := a) (o := .tup [.str ⟨#[c]⟩, .ref f])
    have S := (S9.trans s3).trans s4
    have nf : f ≠ p := off (D7.keep S9) f hf
    have na : a ≠ p := off ((D7.keep S9).keep s3) a ha
    generalize upd (upd H9 f (.lst (List.replicate m.toNat v1 ++ ws))) a (.tup [.str ⟨#[c]⟩, .ref f]) = H10 at *
    have cb := hL.2.2 c hcL
    have all : ∀ t ∈ List.replicate m.toNat t1 ++ ts, t.depth ≤ 30 ∧ t.lets (fun c => c ∈ L.cps.toList) := fun t ht => by
      rcases List.mem_append.mp ht with ht | ht
      · rw [List.eq_of_mem_replicate ht]
        exact ⟨d1, l1⟩
      · exact ⟨(g4 t ht).2.1, (g4 t ht).2.2⟩
    refine q (.ref a) (.node c (List.replicate m.toNat t1 ++ ts)) H10 (((f1.trans f2).trans F27).trans (Fr.same S)) (D7.keep S) (.node ka kf na nf cb.1 cb.2 (TrsAt.append ((TrsAt.rep (k1.same S) _)) (k2.same S))) ?_ ?_ ?_
    · have e1 := sizes_rep t1 m.toNat
      have e2 := sizes_le (m := 2) fun t ht => (g4 t ht).1
      simp only [Tr.size, sizes_append, e1]
      have e3 : m.toNat * t1.size ≤ 17 * 3 := Nat.mul_le_mul (by omega) (by omega)
      omega
    · simp only [Tr.depth]
      have := depths_le fun t ht => (all t ht).1
      omega
    · simp only [Tr.lets]
      exact ⟨hcL, letss_all fun t ht => (all t ht).2⟩
end

section
variable {ok : Addr → Prop} {H H' : Hp}
theorem DtAll.take : ∀ {vs : List V} {ds : List PyData} (n : Nat), DtAll ok H vs ds → DtAll ok H (vs.take n) (ds.take n)
  | _, _, 0, _ => .nil
  | _, _, n + 1, .nil => .nil
  | _, _, n + 1, .cons a b => .cons a (DtAll.take n b)
theorem DtAll.drop : ∀ {vs : List V} {ds : List PyData} (n : Nat), DtAll ok H vs ds → DtAll ok H (vs.drop n) (ds.drop n)
  | _, _, 0, h => h
  | _, _, n + 1, .nil => .nil
  | _, _, n + 1, .cons a b => DtAll.drop n b
theorem DtAll.app : ∀ {vs us : List V} {ds es : List PyData}, DtAll ok H vs ds → DtAll ok H us es → DtAll ok H (vs ++ us) (ds ++ es)
  | _, _, _, _, .nil, y => y
  | _, _, _, _, .cons a b, y => .cons a (DtAll.app b y)
theorem DtAll.at {vs : List V} {ds : List PyData} {r : Int} (h : DtAll ok H vs ds) (h0 : 0 ≤ r) (h1 : r < ds.length) : ∃ v d, atI vs r = some v ∧ ds[r.toNat]? = some d ∧ Dt ok H v d := by
  have hl := h.len
  have hn : r.toNat < vs.length := by omega
  obtain ⟨d, hd, hv⟩ := h.getV (List.getElem?_eq_getElem hn)
  exact ⟨_, d, at_of (j := r.toNat) (by omega) (List.getElem?_eq_getElem hn), hd, hv⟩
end
theorem cut_hi {xs : List V} {k : Nat} (h : k ≤ xs.length) : cutV xs none (some (k : Int)) = xs.take k := by
  unfold cutV
  rw [HT.sIx_none, HT.sIx_nat, List.drop_zero, Nat.sub_zero, Nat.min_eq_left h]
theorem cut_lo {xs : List V} {k : Nat} (h : k ≤ xs.length) : cutV xs (some (k : Int)) none = xs.drop k := by
  unfold cutV
  rw [HT.sIx_nat, HT.sIx_none, Nat.min_eq_left h, List.take_of_length_le (by rw [List.length_drop]; omega)]
theorem cut_m1 {xs : List V} : cutV xs none (some (-1)) = xs.take (xs.length - 1) := by
  have h : HT.sIx xs.length xs.length (some (-1)) = xs.length - 1 := by
    show (if (-1 : Int) < 0 then ((-1 : Int) + (xs.length : Int)).toNat else min (-1 : Int).toNat xs.length) = xs.length - 1
    rw [if_pos (by decide)]
    omega
  unfold cutV
  rw [HT.sIx_none, h, List.drop_zero, Nat.sub_zero]
theorem cut_whole {xs : List V} {lo hi : Option Int} (h : HT.sIx xs.length 0 lo = 0 ∧ HT.sIx xs.length xs.length hi = xs.length) : cutV xs lo hi = xs := by
  unfold cutV
  rw [h.1, h.2, List.drop_zero, Nat.sub_zero, List.take_length]
theorem slA {K : PySem.W.Frag} {H : Hp} {a : Addr} {xs : List V} {lo hi : Option Int} {Q : VK} (hx : H a = some (.tup xs))
    (q : ∀ t H', Same H H' → H' t = some (.tup (cutV xs lo hi)) → (t = a ∨ H t = none) → Q (.ref t) H') : rSlA K (.ref a) lo hi H Q :=
  ⟨a, xs, rfl, SqT.of hx, fun hw => q a H (Same.refl _) (by rw [cut_whole hw]; exact hx) (.inl rfl), fun _ p hp => q p _ (same_new hp) upd_same (.inr hp)⟩
theorem catA {K : PySem.W.Frag} {H : Hp} {a b : Addr} {xs ys : List V} {Q : VK} (ha : H a = some (.tup xs)) (hb : H b = some (.tup ys)) (hz : xs.length + ys.length ≤ 3000)
    (q : ∀ t H', Same H H' → H' t = some (.tup (xs ++ ys)) → (t = a ∨ t = b ∨ H t = none) → Q (.ref t) H') : rCatA K (.ref a) (.ref b) H Q :=
  ⟨a, b, xs, ys, rfl, rfl, SqT.of ha, SqT.of hb, Nat.le_trans hz (by decide), fun e => q b H (Same.refl _) (by rw [e]; exact hb) (.inr (.inl rfl)), fun _ e => q a H (Same.refl _) (by rw [e, List.append_nil]; exact ha) (.inl rfl),
    fun _ _ p hp => q p _ (same_new hp) upd_same (.inr (.inr hp))⟩

theorem look_nd {α β : Type} [BEq α] [LawfulBEq α] {a : α} {b : β} : ∀ {l : List (α × β)}, (l.map (·.1)).Nodup → (a, b) ∈ l → l.lookup a = some b
  | (x, y) :: r, nd, h => by
    rw [List.map_cons, List.nodup_cons] at nd
    rcases List.mem_cons.mp h with h | h
    · cases h
      simp [List.lookup]
    · have ne : ¬ a = x := fun e => nd.1 (by rw [← e]; exact List.mem_map.mpr ⟨_, h, rfl⟩)
      have : (a == x) = false := by simpa using ne
      simp only [List.lookup, this]
      exact look_nd nd.2 h

mutual
theorem Dt.offD {ok : Addr → Prop} {H : Hp} {a : Addr} {es : List (Key × V)} (ha : H a = some (.dK es)) (hne : es ≠ []) : ∀ {v : V} {d : PyData}, Dt ok H v d → Dt (fun b => ok b ∧ b ≠ a) H v d
  | _, _, .non => .non
  | _, _, .bl b => .bl b
  | _, _, .int i => .int i
  | _, _, .str x => .str x
  | _, _, .dic e k => .dic e ⟨k, fun z => by rw [z, ha] at e; cases e; exact hne rfl⟩
  | _, _, .lst e k l r => .lst e ⟨k, fun z => by rw [z, ha] at e; cases e⟩ l (DtAll.offD ha hne r)
  | _, _, .tup e k l r => .tup e ⟨k, fun z => by rw [z, ha] at e; cases e⟩ l (DtAll.offD ha hne r)
theorem DtAll.offD {ok : Addr → Prop} {H : Hp} {a : Addr} {es : List (Key × V)} (ha : H a = some (.dK es)) (hne : es ≠ []) : ∀ {vs : List V} {ds : List PyData}, DtAll ok H vs ds → DtAll (fun b => ok b ∧ b ≠ a) H vs ds
  | _, _, .nil => .nil
  | _, _, .cons a b => .cons (Dt.offD ha hne a) (DtAll.offD ha hne b)
end
theorem rows_at {ok : Addr → Prop} {H : Hp} : ∀ {es : List (Key × V)} {kvs : List (Nat × RR)} {i : Nat} {k : Key} {v : V}, rowsIn ok H es kvs → es[i]? = some (k, v) → ∃ c rs, kvs[i]? = some (c, rs) ∧ k = .inr (ch c)
  | _, _, 0, _, _, .cons r _, h => by cases h; exact ⟨_, _, rfl, r.1⟩
  | _, _, i + 1, _, _, .cons _ t, h => by
    rw [List.getElem?_cons_succ] at h
    obtain ⟨c, rs, h1, h2⟩ := rows_at t h
    exact ⟨c, rs, by rw [List.getElem?_cons_succ]; exact h1, h2⟩
theorem depth_rowsD {n : Nat} {rs : RR} (h : rsOk n rs) : (rowsD rs).depth ≤ 7 := by
  have : ∀ l : RR, (∀ r ∈ l, r.1.deep ≤ 4) → PyData.depthAll (l.map rowD) ≤ 6 := by
    intro l
    induction l with
    | nil => intro _; simp [PyData.depthAll]
    | cons r t ih =>
      intro hl
      have h1 := ih fun x hx => hl x (List.mem_cons_of_mem _ hx)
      have h2 := hl r List.mem_cons_self
      have h3 := r.1.dat_depth
      simp only [List.map_cons, PyData.depthAll, rowD, PyData.depth]
      omega
  have := this rs fun r hr => (h.2.1 r hr).2.1
  simp only [rowsD, PyData.depth]
  omega


def lessC (most : Int) : Cd → Cd
  | .least w b => .least w (if b < 1 then b else 1)
  | .turns w m r => .turns w (1 + m % most) (r % (1 + m % most))
  | .neg c => .neg (lessC most c)
  | .both c d => .both (lessC most c) (lessC most d)
  | .either c d => .either (lessC most c) (lessC most d)
theorem lessC_deep (most : Int) : ∀ c : Cd, (lessC most c).deep = c.deep
  | .least _ _ => rfl
  | .turns _ _ _ => rfl
  | .neg c => by simp only [lessC, Cd.deep, lessC_deep most c]
  | .both c d => by simp only [lessC, Cd.deep, lessC_deep most c, lessC_deep most d]
  | .either c d => by simp only [lessC, Cd.deep, lessC_deep most c, lessC_deep most d]
theorem lessC_ok {most : Int} (h1 : 1 ≤ most) (h2 : most ≤ 2) {s : Nat} : ∀ {c : Cd}, c.ok s → (lessC most c).ok s
  | .least w b, ⟨h, a, b4⟩ => by
    refine ⟨h, ?_, ?_⟩ <;> split <;> omega
  | .turns w m r, ⟨h, a, b, c, d⟩ => by
    have m0 := Int.emod_nonneg m (show most ≠ 0 by omega)
    have m1 := Int.emod_lt_of_pos m (show 0 < most by omega)
    have r0 := Int.emod_nonneg r (show 1 + m % most ≠ 0 by omega)
    have r1 := Int.emod_lt_of_pos r (show 0 < 1 + m % most by omega)
    exact ⟨h, by omega, by omega, r0, r1⟩
  | .neg c, h => lessC_ok h1 h2 (c := c) h
  | .both c d, h => ⟨lessC_ok h1 h2 h.1, lessC_ok h1 h2 h.2⟩
  | .either c d, h => ⟨lessC_ok h1 h2 h.1, lessC_ok h1 h2 h.2⟩
theorem lessC_plains {most : Int} (h1 : 1 ≤ most) (h2 : most ≤ 2) : ∀ {c p : Cd}, p ∈ (lessC most c).plains → (∀ w b, p = .least w b → b ≤ 1) ∧ ∀ w m r, p = .turns w m r → 1 ≤ m ∧ m ≤ most
  | .least w b, p, h => by
    simp only [lessC, Cd.plains, List.mem_singleton] at h
    subst h
    exact ⟨fun w' b' e => (by cases e; split <;> omega), fun w' m' r' e => (by cases e)⟩
  | .turns w m r, p, h => by
    simp only [lessC, Cd.plains, List.mem_singleton] at h
    subst h
    have m0 := Int.emod_nonneg m (show most ≠ 0 by omega)
    have m1 := Int.emod_lt_of_pos m (show 0 < most by omega)
    exact ⟨fun w' b' e => (by cases e), fun w' m' r' e => (by cases e; omega)⟩
  | .neg c, p, h => lessC_plains h1 h2 (c := c) (by simpa only [lessC, Cd.plains] using h)
  | .both c d, p, h => by
    simp only [lessC, Cd.plains, List.mem_append] at h
    exact h.elim (lessC_plains h1 h2) (lessC_plains h1 h2)
  | .either c d, p, h => by
    simp only [lessC, Cd.plains, List.mem_append] at h
    exact h.elim (lessC_plains h1 h2) (lessC_plains h1 h2)
theorem Cd.shape3 (most : Int) (s : Nat) (c : Cd) : (∃ w b, c = .least w b) ∨ (∃ w m r, c = .turns w m r) ∨ ∃ (x : Str) (cs : List Cd), c.dat = .tuple (.str x :: cs.map Cd.dat) ∧ x ≠ Str.ofString "least" ∧ x ≠ Str.ofString "turns" ∧ (lessC most c).dat = .tuple (.str x :: (cs.map (lessC most)).map Cd.dat) ∧ (∀ d ∈ cs, d.deep < c.deep ∧ (c.ok s → d.ok s)) ∧ 1 ≤ cs.length ∧ cs.length ≤ 2 := by
  cases c with
  | least w b => exact .inl ⟨w, b, rfl⟩
  | turns w m r => exact .inr (.inl ⟨w, m, r, rfl⟩)
  | neg c => exact .inr (.inr ⟨_, [c], rfl, by decide +kernel, by decide +kernel, rfl, fun d hd => by simp at hd; subst hd; exact ⟨by simp only [Cd.deep]; omega, fun h => h⟩, by simp, by simp⟩)
  | both c d => exact .inr (.inr ⟨_, [c, d], rfl, by decide +kernel, by decide +kernel, rfl, fun x hx => by simp at hx; rcases hx with rfl | rfl <;> exact ⟨by simp only [Cd.deep]; omega, fun h => by first | exact h.1 | exact h.2⟩, by simp, by simp⟩)
  | either c d => exact .inr (.inr ⟨_, [c, d], rfl, by decide +kernel, by decide +kernel, rfl, fun x hx => by simp at hx; rcases hx with rfl | rfl <;> exact ⟨by simp only [Cd.deep]; omega, fun h => by first | exact h.1 | exact h.2⟩, by simp, by simp⟩)
def sp__law_lesser (n : Nat) : Sp := fun vs H Q _ => ∃ (v : V) (most : Int) (c : Cd) (s : Nat) (ok : Addr → Prop), vs = [v, .int most] ∧ Dt ok H v c.dat ∧ c.ok s ∧ 1 ≤ most ∧ most ≤ 2 ∧ c.deep ≤ n ∧ ∀ r H', Same H H' → Dt (fun b => ok b ∨ H b = none) H' r (lessC most c).dat → Q r H'
section
variable {P : Program} {w : World} {K : PySem.W.Frag} {mg : Str → Option Value} {base : Heap}
theorem ok__law_lesser (T : Txt K mg) : ∀ n : Nat, FnOk P w K mg base CX0 n T.f__law_lesser T.d__law_lesser ["condition", "most"] (sp__law_lesser n)
  | 0 => noneOf fun vs H Q E ⟨v, m, c, s, ok, _, _, _, _, _, h, _⟩ => by have := c.deep_pos; omega
  | n + 1 => by
    have G__law_lesser : FnOk P w K mg base CX0 n T.f__law_lesser T.d__law_lesser ["condition", "most"] (sp__law_lesser n) := ok__law_lesser T n
    refine T.F__law_lesser.ok sc__law_lesser (fun vs H Q E h => ?_) (fun cdv A outer s H vs Q E hr h => ?_)
    · obtain ⟨v, m, c, s, ok, rfl, _⟩ := h
      rfl
    obtain ⟨v, most, c, s0, ok, rfl, ht, hc, m1, m2, hn, q⟩ := h
    refine ⟨_, (pss_cons (ps_if (pt_cmpR op_eq (pe_ix ix_tup (pv 0) pe_int (fun _ _ => rfl)) pe_str (nomark _)) (pss_one (ps_ret (pe_tup (pa_cons pe_str (pa_cons (pe_ix ix_tup (pv 0) pe_int (fun _ _ => rfl)) (pa_cons (pe_callB (call_min2 rfl) (by rfl) T.z_min (by decide +kernel) (pa_cons pe_int (pa_cons (pe_ix ix_tup (pv 0) pe_int (fun _ _ => rfl)) pa_nil))) pa_nil)))))) pss_nil) (pss_cons (ps_if (pt_cmpR op_eq (pe_ix ix_tup (pv 0) pe_int (fun _ _ => rfl)) pe_str (nomark _)) (pss_cons (ps_set (i := 2) sc__law_lesser.nd rfl (Or.inl rfl) (pe_op op_add pe_int (pe_op op_mod (pe_ix ix_tup (pv 0) pe_int (fun _ _ => rfl)) (pv 1)))) (pss_one (ps_ret (pe_tup (pa_cons pe_str (pa_cons (pe_ix ix_tup (pv 0) pe_int (fun _ _ => rfl)) (pa_cons (pv 2) (pa_cons (pe_op op_mod (pe_ix ix_tup (pv 0) pe_int (fun _ _ => rfl)) (pv 2)) pa_nil)))))))) pss_nil) (pss_one (ps_ret (pe_op op_catT (pe_slice sl_tup (pv 0) po_none (po_some pe_int)) (pe_callTy call_tuple_of (by rfl) T.z_tuple (by decide +kernel) (pa_cons (pe_lc (own := [("one", 3)]) (g := gName 3) (tt := tYes) rfl sc__law_lesser.nd (pi_tup (pe_slice sl_tup (pv 0) (po_some pe_int) po_none)) (blkOk_by (own := [("one", 3)]) (N := ["condition", "most", "m", "one"]) (sc := (defScope s__law_lesser)) (by decide +kernel)) (fun _ _ _ _ _ => (pg_name (i := 3) sc__law_lesser.nd rfl (Or.inl rfl))) (fun _ _ _ _ _ => pts_nil) (fun _ _ _ _ _ => (pe_call G__law_lesser (hr.mono (by omega)) (by rfl) T.m__law_lesser T.F__law_lesser.kp T.b__law_lesser .nil pass0 (pa_cons (pv 3) (pa_cons (pv 1) pa_nil))))) pa_nil))))))), ?_⟩
    rcases c.shape3 most s0 with ⟨ww, b, rfl⟩ | ⟨ww, m, rm, rfl⟩ | ⟨x, cs, hd, x1, x2, hd2, hdeep, l1, l2⟩
    · cases ht with
      | @tup a xs cds e _ _ r =>
      cases r with
      | cons r0 r =>
      cases r with
      | cons r1 r =>
      cases r with
      | cons r2 r =>
      cases r
      cases r0
      cases r2
      refine ⟨_, rfl, _, _, 0, _, rfl, rfl, SqT.of e, atI_nat (j := 0) rfl, rfl, _, rfl, eqT rfl ?_⟩
      refine ⟨_, rfl, _, _, 1, _, rfl, rfl, SqT.of e, atI_nat (j := 1) rfl, _, rfl, _, _, 2, _, rfl, rfl, SqT.of e, atI_nat (j := 2) rfl, _, _, rfl, (by show 3 ≤ sizeLine; decide), fun t ht2 => ?_⟩
      have st := fun o => same_new (o := o) ht2
      exact q _ _ (st _) (.tup upd_same (.inr ht2) (by simp) (.cons (.str _) (.cons ((r1.same (st _)).weak fun _ h => .inl h) (.cons (.int _) .nil))))
    · cases ht with
      | @tup a xs cds e _ _ rr =>
      cases rr with
      | cons r0 rr =>
      cases rr with
      | cons r1 rr =>
      cases rr with
      | cons r2 rr =>
      cases rr with
      | cons r3 rr =>
      cases rr
      cases r0
      cases r2
      cases r3
      have m0 := Int.emod_nonneg m (show most ≠ 0 by omega)
      refine ⟨_, rfl, _, _, 0, _, rfl, rfl, SqT.of e, atI_nat (j := 0) rfl, rfl, _, rfl, eqF (sne (by decide +kernel)) ?_⟩
      refine ⟨_, rfl, _, _, 0, _, rfl, rfl, SqT.of e, atI_nat (j := 0) rfl, rfl, _, rfl, eqT rfl ?_⟩
      refine ⟨_, rfl, _, _, 2, _, rfl, rfl, SqT.of e, atI_nat (j := 2) rfl, _, rfl, _, _, rfl, rfl, (by omega), _, _, rfl, rfl, ?_⟩
      refine ⟨_, rfl, _, _, 1, _, rfl, rfl, SqT.of e, atI_nat (j := 1) rfl, _, rfl, _, rfl, _, _, 3, _, rfl, rfl, SqT.of e, atI_nat (j := 3) rfl, _, rfl, _, _, rfl, rfl, (by show 0 < 1 + m % most; omega), (by show 4 ≤ sizeLine; decide), fun t ht2 => ?_⟩
      have st := fun o => same_new (o := o) ht2
      exact q _ _ (st _) (.tup upd_same (.inr ht2) (by simp) (.cons (.str _) (.cons ((r1.same (st _)).weak fun _ h => .inl h) (.cons (.int _) (.cons (.int _) .nil)))))
    · have ht0 := ht
      rw [hd] at ht0
      cases ht0 with
      | @tup a xs _ e _ l r =>
      cases r with
      | @cons v0 vs0 d0 ds0 r0 r1 =>
      cases r0
      have lr := r1.len
      rw [List.length_map] at lr
      refine ⟨_, rfl, _, _, 0, _, rfl, rfl, SqT.of e, atI_nat (j := 0) rfl, rfl, _, rfl, eqF (sne x1) ?_⟩
      refine ⟨_, rfl, _, _, 0, _, rfl, rfl, SqT.of e, atI_nat (j := 0) rfl, rfl, _, rfl, eqF (sne x2) ?_⟩
      refine ⟨_, rfl, 1, rfl, a, _, rfl, SqT.of e, ?_, fun p hp => ?_⟩
      · intro h
        have h2 := h.2
        have := HT.sIx_nat (V.str x :: vs0).length (V.str x :: vs0).length 1
        rw [show ((1 : Nat) : Int) = 1 from rfl] at this
        rw [this, List.length_cons] at h2
        omega
      have c1 : cutV (V.str x :: vs0) none (some 1) = [V.str x] := cut_hi (xs := V.str x :: vs0) (k := 1) (by simp)
      rw [c1]
      have sp1 := same_new hp (o := .tup [V.str x])
      have kp1 := upd_same (H := H) (a := p) (o := .tup [V.str x])
      generalize upd H p (.tup [V.str x]) = H1 at *
      refine ⟨_, rfl, 1, rfl, a, _, rfl, SqT.of (sp1 _ _ e), cut1_not, fun p2 hp2 => ?_⟩
      rw [cut1]
      have s2 := same_new hp2 (o := .tup vs0)
      have k2 := upd_same (H := H1) (a := p2) (o := .tup vs0)
      generalize upd H1 p2 (.tup vs0) = H2 at *
      have S2 := sp1.trans s2
      refine ⟨p2, rfl, ⟨_, SqT.of k2⟩, fun D hD => ?_⟩
      refine lc_tup (xs := vs0) (fun i H' => ∃ acc, H' D = some (.lst acc) ∧ DtAll (fun b => (ok b ∨ H b = none) ∧ b ≠ D) H' acc (((cs.take i).map (lessC most)).map Cd.dat) ∧ Same H2 H') ⟨[], upd_same, .nil, same_new hD⟩ (fun i H' _ ⟨_, _, _, s⟩ => SqT.of (s _ _ k2)) ?_ ?_
      · rintro i y H6 hy ⟨acc, g1, g2, g3⟩
        obtain ⟨dy, hdy, hy2⟩ := r1.getV hy
        rw [List.getElem?_map] at hdy
        cases hc1 : cs[i]? with
        | none => rw [hc1] at hdy; cases hdy
        | some c1 =>
        rw [hc1] at hdy
        cases hdy
        have la := g2.len
        rw [List.length_map, List.length_map, List.length_take] at la
        have hd1 := hdeep c1 (List.mem_of_getElem? hc1)
        refine ⟨rfl, _, rfl, _, rfl, y, most, c1, s0, fun b => ok b ∧ b ≠ D, rfl, ((hy2.same S2).off hD).same g3, hd1.2 hc, m1, m2, by omega, fun r H7 s7 hr7 => ⟨acc, s7 _ _ g1, ?_, acc ++ [r], upd_same, ?_, same_add (g3.trans s7) hD⟩⟩
        · exact Nat.lt_of_le_of_lt (show acc.length ≤ 1000000 by omega) (by decide)
        · rw [take_succ_of hc1, List.map_append, List.map_append]
          have r7 : Dt (fun b => (ok b ∨ H b = none) ∧ b ≠ D) H7 r (lessC most c1).dat := hr7.weak fun b h => h.elim (fun h => ⟨.inl h.1, h.2⟩) fun h => ⟨.inr ((S2.trans g3).free h), fun e => by rw [e, g1] at h; cases h⟩
          exact ((g2.same s7).snoc r7).keep (upd_keep fun b h => h.2)
      · rintro H6 ⟨acc, g1, g2, g3⟩
        rw [lr, List.take_length] at g2
        have la := g2.len
        rw [List.length_map, List.length_map] at la
        have S6 := S2.trans g3
        refine ⟨D, acc, rfl, .inl ⟨SqL.of g1, fun t2 ht2 => ?_⟩⟩
        have s7 := same_new ht2 (o := .tup acc)
        refine ⟨p, t2, _, _, rfl, rfl, SqT.of (s7 _ _ (g3 _ _ (s2 _ _ kp1))), SqT.of upd_same, by simp, ?_, fun h => ?_, fun _ t3 ht3 => ?_⟩
        · exact Nat.le_trans (show [V.str x].length + acc.length ≤ 1000000 by simp; omega) (by decide)
        · rw [h] at la
          simp at la
          omega
        · have s8 := same_new ht3 (o := .tup ([V.str x] ++ acc))
          have S8 := (S6.trans s7).trans s8
          refine q _ _ S8 ?_
          rw [hd2]
          exact .tup upd_same (.inr ((S6.trans s7).free ht3)) (by simp; omega) (.cons (.str _) (((g2.same s7).same s8).weak fun _ h => h.1))
end

def mostR (R : Rl) : Int := 1 + (if R.n < 5 then 1 else 0)
def lessRs (most : Int) (rs : RR) : RR := rs.map fun r => (lessC most r.1, r.2)
def lessR (R : Rl) : Rl := { R with rows := R.rows.map fun kv => (kv.1, lessRs (mostR R) kv.2) }
theorem mostR_12 (R : Rl) : 1 ≤ mostR R ∧ mostR R ≤ 2 := by
  unfold mostR
  split <;> omega
theorem look_map {f : RR → RR} {c : Nat} : ∀ l : List (Nat × RR), (l.map fun kv => (kv.1, f kv.2)).lookup c = (l.lookup c).map f
  | [] => rfl
  | (a, b) :: r => by
    rw [List.map_cons, List.lookup_cons, List.lookup_cons]
    cases c == a with
    | true => rfl
    | false => exact look_map r
theorem lessR_ok {R : Rl} (h : R.ok) : (lessR R).ok where
  L := h.L
  n1 := h.n1
  n6 := h.n6
  has c hc := by
    obtain ⟨rs, e⟩ := h.has c hc
    exact ⟨lessRs (mostR R) rs, by show List.lookup c (R.rows.map fun kv => (kv.1, lessRs (mostR R) kv.2)) = _; rw [look_map, e]; rfl⟩
  rs kv hm := by
    obtain ⟨⟨c, rs⟩, h0, rfl⟩ := List.mem_map.mp hm
    obtain ⟨⟨a, b, init, s, e⟩, m⟩ := h.rs _ h0
    dsimp only at a b e m ⊢
    refine ⟨⟨by unfold lessRs; rw [List.length_map]; exact a, fun r hr => ?_, lessRs (mostR R) init, s, ?_⟩, m⟩
    · obtain ⟨r0, hr0, rfl⟩ := List.mem_map.mp hr
      obtain ⟨b1, b2, b3⟩ := b r0 hr0
      exact ⟨lessC_ok (mostR_12 R).1 (mostR_12 R).2 b1, by rw [lessC_deep]; exact b2, b3⟩
    · rw [e]
      unfold lessRs
      rw [List.map_append]
      rfl
  nd := by
    have e : ((lessR R).rows.map (·.1)) = R.rows.map (·.1) := by
      show (R.rows.map fun kv => (kv.1, lessRs (mostR R) kv.2)).map (·.1) = _
      rw [List.map_map]
      rfl
    rw [e]
    exact h.nd
  g6 := h.g6
  gn := h.gn
  r26 := by
    show (R.rows.map fun kv => (kv.1, lessRs (mostR R) kv.2)).length ≤ 26
    rw [List.length_map]
    exact h.r26
theorem lessR_plains {R : Rl} {p : Cd} (h : p ∈ (condsOf (lessR R)).flatMap Cd.plains) : (∀ w b, p = .least w b → b ≤ 1) ∧ ∀ w m r, p = .turns w m r → 1 ≤ m ∧ m ≤ mostR R := by
  obtain ⟨c, hc, hp⟩ := List.mem_flatMap.mp h
  obtain ⟨l, _, hc⟩ := List.mem_flatMap.mp hc
  have e : (lessR R).rows.lookup l = (R.rows.lookup l).map (lessRs (mostR R)) := look_map R.rows
  rw [e] at hc
  cases hl : R.rows.lookup l with
  | none => rw [hl] at hc; cases hc
  | some rs =>
    rw [hl] at hc
    simp only [Option.map_some, Option.getD_some, lessRs, List.map_map, List.mem_map] at hc
    obtain ⟨r, _, rfl⟩ := hc
    exact lessC_plains (mostR_12 R).1 (mostR_12 R).2 hp
theorem lessR_fits {R : Rl} (h : R.ok) (h7 : R.L.length ≤ 7) : turnR (lessR R) ≤ 4 ∧ (lessR R).L.length * (fewR (lessR R) + turnR (lessR R)) ^ (lessR R).n ≤ 600 := by
  have few1 : fewR (lessR R) ≤ 1 := (fewP_iff _ 0 1).mpr ⟨by omega, fun w b hm => by have := (lessR_plains hm).1 w b rfl; omega⟩
  have td : turnR (lessR R) ∣ (mostR R).toNat := (turnP_iff _ 1 _).mpr ⟨Nat.one_dvd _, fun w m q hm => by
    obtain ⟨a, b⟩ := (lessR_plains hm).2 w m q rfl
    obtain ⟨m1, m2⟩ := mostR_12 R
    generalize mostR R = most at *
    obtain rfl | ⟨rfl, rfl⟩ | ⟨rfl, rfl⟩ : m = 1 ∨ (m = 2 ∧ most = 2) ∨ (m = 1 ∧ most = 1) := by omega
    · exact Nat.one_dvd _
    · exact Nat.dvd_refl _
    · exact Nat.dvd_refl _⟩
  have tl := Nat.le_of_dvd (by have := mostR_12 R; omega) td
  have h6 := h.n6
  show _ ∧ R.L.length * (fewR (lessR R) + turnR (lessR R)) ^ R.n ≤ 600
  generalize fewR (lessR R) = few at *
  generalize turnR (lessR R) = turn at *
  unfold mostR at tl
  by_cases h5 : R.n < 5
  · rw [if_pos h5] at tl
    have t2 : turn ≤ 2 := tl
    refine ⟨by omega, ?_⟩
    have : (few + turn) ^ R.n ≤ 3 ^ 4 := Nat.le_trans (Nat.pow_le_pow_left (by omega) _) (Nat.pow_le_pow_right (by decide) (by omega))
    exact Nat.le_trans (Nat.mul_le_mul h7 this) (by decide)
  · rw [if_neg h5] at tl
    have t2 : turn ≤ 1 := tl
    refine ⟨by omega, ?_⟩
    have : (few + turn) ^ R.n ≤ 2 ^ 6 := Nat.le_trans (Nat.pow_le_pow_left (by omega) _) (Nat.pow_le_pow_right (by decide) (by omega))
    exact Nat.le_trans (Nat.mul_le_mul h7 this) (by decide)


def sp__law_lesser_rules : Sp := fun vs H Q _ => ∃ (v : V) (R : Rl) (ok : Addr → Prop), vs = [v] ∧ RlAt ok H v R ∧ R.ok ∧ ∀ r H', Same H H' → RlAt (fun b => ok b ∨ H b = none) H' r (lessR R) → Q r H'
section
variable {P : Program} {w : World} {K : PySem.W.Frag} {mg : Str → Option Value} {base : Heap}
theorem ok__law_lesser_rules (T : Txt K mg) : FnOk P w K mg base CX0 7 T.f__law_lesser_rules T.d__law_lesser_rules ["rules"] sp__law_lesser_rules := by
  have G__law_lesser : FnOk P w K mg base CX0 4 T.f__law_lesser T.d__law_lesser ["condition", "most"] (sp__law_lesser 4) := ok__law_lesser T 4
  refine T.F__law_lesser_rules.ok sc__law_lesser_rules (fun vs H Q E h => ?_) (fun cdv A outer s H vs Q E hr h => ?_)
  · obtain ⟨v, R, ok, rfl, _⟩ := h
    rfl
  obtain ⟨v, R, ok, rfl, hR, hok, q⟩ := h
  refine ⟨_, (pss_cons (ps_set (i := 1) sc__law_lesser_rules.nd rfl (Or.inl rfl) pe_dnewK) (pss_cons (ps_lock (ps_for PassesOwn.never rfl (pi_keys (pe_ix ix_tup (pv 0) pe_int (fun _ _ => rfl))) (pg_name (i := 2) sc__law_lesser_rules.nd rfl (Or.inl rfl)) (pss_cons (ps_set (i := 3) sc__law_lesser_rules.nd rfl (Or.inl rfl) (pe_dget (hu_of hr) (pe_ix ix_tup (pv 0) pe_int (fun _ _ => rfl)) (pv 2) (fun _ _ => rfl))) (pss_one (ps_dput (hu_of hr) (pv 1) (pv 2) (pe_lc (own := [("condition", 4), ("state", 5)]) (g := gTup K 2 (gCons (gName 4) (gCons (gName 5) gNil))) (te := tTup (tCons (tCall (sp__law_lesser 4) [] E0 (tCons (tVar 4) (tCons (tOp (rI0 fun i j => V.int (i + j)) (tC (V.int 1)) (tCB _ (tCons (tOp _ (tOp (rIxT K) (tVar 0) (tC (V.int 1))) (tC (V.int 5))) tNil))) tNil))) (tCons (tVar 5) tNil))) (tt := tYes) rfl sc__law_lesser_rules.nd (pi_list (pv 3)) (blkOk_by (own := [("condition", 4), ("state", 5)]) (N := ["rules", "rows", "letter", "some", "condition", "state"]) (sc := (defScope s__law_lesser_rules)) (by decide +kernel)) (fun _ _ _ _ _ => (pg_tup rfl (pgs_cons (pg_name (i := 4) sc__law_lesser_rules.nd rfl (Or.inl rfl)) (pgs_cons (pg_name (i := 5) sc__law_lesser_rules.nd rfl (Or.inl rfl)) pgs_nil)))) (fun _ _ _ _ _ => pts_nil) (fun _ _ _ _ _ => (pe_tup (pa_cons (pe_call G__law_lesser (hr.mono (by omega)) (by rfl) T.m__law_lesser T.F__law_lesser.kp T.b__law_lesser .nil pass0 (pa_cons (pv 4) (pa_cons (pe_op op_add pe_int (pe_callTy call_int1 (by rfl) T.z_int (by decide +kernel) (pa_cons (pe_cmpR op_lt (pe_ix ix_tup (pv 0) pe_int (fun _ _ => rfl)) pe_int (nomark _)) pa_nil))) pa_nil))) (pa_cons (pv 5) pa_nil))))) rfl))))) (pss_one (ps_ret (pe_tup (pa_cons (pe_ix ix_tup (pv 0) pe_int (fun _ _ => rfl)) (pa_cons (pe_ix ix_tup (pv 0) pe_int (fun _ _ => rfl)) (pa_cons (pv 1) (pa_cons (pe_ix ix_tup (pv 0) pe_int (fun _ _ => rfl)) pa_nil))))))))), ?_⟩
  have l26 := hok.r26
  obtain ⟨m1, m2⟩ := mostR_12 R
  have hmost : (1 + (if decide ((R.n : Int) < 5) = true then 1 else 0) : Int) = mostR R := by
    unfold mostR
    by_cases h : R.n < 5
    · rw [if_pos h, if_pos (by simpa using (show (R.n : Int) < 5 by omega))]
    · rw [if_neg h, if_neg (by simpa using (show ¬ (R.n : Int) < 5 by omega))]
  obtain ⟨a, d, g, es, rfl, ha, _, hd, _, hes, hg, kg⟩ := hR
  refine fun p hp => ?_
  have nda : a ≠ d := fun e => by rw [e, hd] at ha; cases ha
  have ndp : d ≠ p := ne_of_none hd hp
  have hlen : R.rows.length = es.length := (Paired.length hes).symm
  refine ⟨d, .dK es, by rw [upd_ne ndp]; exact hd, trivial, fun od => ?_⟩
  have FD : ∀ b o, b ≠ d → H b = some o → (upd (upd H p (.dK [])) d (.frz od (.dK es))) b = some o := fun b o n e => by rw [upd_ne n, upd_ne (ne_of_none e hp)]; exact e
  refine ⟨_, rfl, a, _, 2, .ref d, rfl, rfl, SqT.of (FD _ _ nda ha), atI_nat (j := 2) rfl, d, od, rfl, .inl ⟨es, upd_same, ?_⟩⟩
  refine for_it (walk_keys (kvs := es)) (fun i σ H' => (∃ y2 y3, σ = [some (.ref a), some (.ref p), y2, y3, none, none]) ∧ H' d = some (.frz od (.dK es)) ∧ (∀ b o, b ≠ d → H b = some o → H' b = some o) ∧ ∃ es', H' p = some (.dK es') ∧ rowsIn (fun b => (ok b ∨ H b = none) ∧ b ≠ d ∧ b ≠ p) H' es' ((R.rows.take i).map fun kv => (kv.1, lessRs (mostR R) kv.2)))
    ⟨⟨_, _, rfl⟩, upd_same, FD, [], by rw [upd_ne ndp.symm]; exact upd_same, .nil⟩ (fun i σ H' _ h => h.2.1) ?_ ?_
  · rintro i x σ Hq H2 hi ⟨⟨y2, y3, rfl⟩, gd, gF, es', gp, gr⟩ ⟨rfl, k, v, hkv, rfl⟩
    obtain ⟨c, rs, hc, rfl⟩ := rows_at hes hkv
    have hm := List.mem_of_getElem? hc
    obtain ⟨v2, hv1, hv2⟩ := rows_val hes (look_nd hok.nd hm)
    obtain ⟨r100, hrs, _⟩ := (hok.rs _ hm).1
    have r100 : rs.length ≤ 100 := r100
    have hne : es ≠ [] := fun z => by rw [z] at hi; exact absurd hi (Nat.not_lt_zero _)
    have hv3 : Dt (fun b => ok b ∧ b ≠ d ∧ b ≠ p) H2 v2 (rowsD rs) := (((Dt.offD hd hne hv2).off hp).keep fun b o h e => gF b o h.1.2 e).weak fun b h => ⟨h.1.1, h.1.2, h.2⟩
    cases hv3 with
    | @lst pl xs ds hpl npl hl r =>
    have lr := r.len
    rw [List.length_map] at lr
    refine ⟨_, rfl, a, _, 2, .ref d, rfl, rfl, SqT.of (gF _ _ nda ha), atI_nat (j := 2) rfl, _, rfl, d, _, rfl, .inl ⟨es, .inr (ch c), .inr ⟨od, gd⟩, rfl, hv1.symm⟩, ?_⟩
    refine ⟨_, rfl, pl, rfl, ⟨_, SqL.of hpl⟩, fun D hD => ?_⟩
    have nDd : d ≠ D := ne_of_none gd hD
    have nDp : p ≠ D := ne_of_none gp hD
    refine lc_list (xs := xs) (fun j H' => ∃ acc, H' D = some (.lst acc) ∧ DtAll (fun b => ((ok b ∨ H b = none) ∧ b ≠ d ∧ b ≠ p) ∧ b ≠ D) H' acc ((lessRs (mostR R) (rs.take j)).map rowD) ∧ Same H2 H') ⟨[], upd_same, .nil, same_new hD⟩ (fun j H' _ ⟨_, _, _, s⟩ => SqL.of (s _ _ hpl)) ?_ ?_
    · rintro j z H3 hz ⟨acc, k1, k2, k3⟩
      obtain ⟨dz, hdz, hz2⟩ := r.getV hz
      rw [List.getElem?_map] at hdz
      cases hcm : rs[j]? with
      | none => rw [hcm] at hdz; cases hdz
      | some r1 =>
      rw [hcm] at hdz
      cases hdz
      have hj := (List.getElem?_eq_some_iff.mp hcm).1
      obtain ⟨ok1, dp1, _⟩ := hrs r1 (List.mem_of_getElem? hcm)
      have la := k2.len
      rw [List.length_map, lessRs, List.length_map, List.length_take] at la
      cases hz2 with
      | @tup pr ys _ hpr npr _ rr =>
      cases rr with
      | @cons cv _ _ _ c1 c2 =>
      cases c2 with
      | cons c2 c3 =>
      cases c2
      cases c3
      refine ⟨pr, _, rfl, SqT.of (k3 _ _ hpr), rfl, _, _, rfl, _, _, rfl, rfl, rfl, ?_⟩
      refine ⟨_, rfl, _, rfl, a, _, 1, nI R.n, rfl, rfl, SqT.of (k3 _ _ (gF _ _ nda ha)), atI_nat (j := 1) rfl, _, _, rfl, rfl, .inr ⟨_, rfl, _, _, rfl, rfl, cv, mostR R, r1.1, R.n, (fun b => (ok b ∧ b ≠ d ∧ b ≠ p) ∧ b ≠ D), congrArg (fun z => [cv, V.int z]) hmost, (c1.off hD).same k3, ok1, m1, m2, dp1, fun rv H4 s4 hr4 => ⟨_, rfl, (by show 2 ≤ sizeLine; decide), fun t ht => ?_⟩⟩⟩
      have s5 := same_new ht (o := .tup [rv, V.int (r1.2 : Int)])
      have kd4 := s4 _ _ (k3 _ _ gd)
      have kp4 := s4 _ _ (k3 _ _ gp)
      have kD4 := s4 _ _ k1
      have nt : ∀ {b o}, H4 b = some o → t ≠ b := fun h e => by rw [← e, ht] at h; cases h
      have old : ∀ {b}, b ≠ d → H3 b = none → H b = none := fun {b} n h => by
        cases e : H b with
        | none => rfl
        | some o => rw [k3 _ _ (gF b o n e)] at h; cases h
      have fr4 : ∀ b, (((ok b ∧ b ≠ d ∧ b ≠ p) ∧ b ≠ D) ∨ H3 b = none) → ((ok b ∨ H b = none) ∧ b ≠ d ∧ b ≠ p) ∧ b ≠ D := fun b h => h.elim (fun h => ⟨⟨.inl h.1.1, h.1.2⟩, h.2⟩) fun h => by
        have nd : b ≠ d := fun e => (by rw [e, k3 _ _ gd] at h; cases h)
        exact ⟨⟨.inr (old nd h), nd, fun e => (by rw [e, k3 _ _ gp] at h; cases h)⟩, fun e => (by rw [e, k1] at h; cases h)⟩
      refine ⟨acc, s5 _ _ kD4, ?_, acc ++ [.ref t], upd_same, ?_, same_add ((k3.trans s4).trans s5) hD⟩
      · exact Nat.lt_of_le_of_lt (show acc.length ≤ 1000000 by omega) (by decide)
      · rw [take_succ_of hcm, lessRs, List.map_append, List.map_append]
        have new : Dt (fun b => ((ok b ∨ H b = none) ∧ b ≠ d ∧ b ≠ p) ∧ b ≠ D) (upd H4 t (.tup [rv, V.int (r1.2 : Int)])) (.ref t) (rowD (lessC (mostR R) r1.1, r1.2)) := .tup upd_same ⟨⟨.inr (old (nt kd4) (s4.free ht)), nt kd4, nt kp4⟩, nt kD4⟩ (by simp) (.cons ((hr4.weak fr4).same s5) (.cons (.int _) .nil))
        exact (((k2.same s4).same s5).snoc new).keep (upd_keep fun b h => h.2)
    · rintro H3 ⟨acc, k1, k2, k3⟩
      rw [lr, List.take_length] at k2
      have la := k2.len
      rw [List.length_map, lessRs, List.length_map] at la
      have hcn : c ∉ ((R.rows.take i).map fun kv => (kv.1, lessRs (mostR R) kv.2)).map (·.1) := by
        intro hm2
        rw [List.map_map] at hm2
        obtain ⟨kv, hkv2, e1⟩ := List.mem_map.mp hm2
        obtain ⟨j, hj⟩ := List.getElem?_of_mem hkv2
        have hji : j < i := by
          have := (List.getElem?_eq_some_iff.mp hj).1
          rw [List.length_take] at this
          omega
        rw [List.getElem?_take_of_lt hji] at hj
        have h1 : (R.rows.map (·.1))[j]? = some c := by rw [List.getElem?_map, hj]; exact congrArg some e1
        have h2 : (R.rows.map (·.1))[i]? = some c := by rw [List.getElem?_map, hc]; rfl
        have := (List.getElem?_inj (List.getElem?_eq_some_iff.mp h1).1 hok.nd).mp (h1.trans h2.symm)
        omega
      have hp3 := k3 _ _ gp
      refine ⟨_, rfl, _, rfl, p, _, rfl, DPut.k (k := .inr (ch c)) hp3 ?_, ?_⟩
      · have := Paired.length gr
        rw [List.length_map, List.length_take] at this
        exact Nat.lt_of_le_of_lt (show es'.length ≤ 1000000 by omega) (by decide)
      rw [putK_new _ (keys_new gr hcn)]
      refine ⟨⟨_, _, rfl⟩, by rw [upd_ne ndp]; exact k3 _ _ gd, fun b o n e1 => ?_, _, upd_same, ?_⟩
      · rw [upd_ne (ne_of_none e1 hp)]
        exact k3 _ _ (gF b o n e1)
      · rw [take_succ_of hc, List.map_append]
        have HD0 : H D = none := by
          cases e : H D with
          | none => rfl
          | some o => rw [gF D o nDd.symm e] at hD; cases hD
        have new : Dt (fun b => (ok b ∨ H b = none) ∧ b ≠ d ∧ b ≠ p) H3 (.ref D) (rowsD (lessRs (mostR R) rs)) := .lst k1 ⟨.inr HD0, nDd.symm, nDp.symm⟩ (by omega) (k2.weak fun b h => h.1)
        exact rowsIn.keep (rowsIn_snoc (gr.same k3) rfl new) (upd_keep fun b h => h.2.2)
  · rintro σ H2 ⟨⟨y2, y3, rfl⟩, gd, gF, es', gp, gr⟩
    rw [← hlen, List.take_length] at gr
    have K0 : Same H (upd H2 d (.dK es)) := fun b o e1 => by
      by_cases eb : b = d
      · rw [eb, upd_same, ← e1, eb]; exact hd.symm
      · rw [upd_ne eb]; exact gF b o eb e1
    have kp : (upd H2 d (.dK es)) p = some (.dK es') := by rw [upd_ne ndp.symm]; exact gp
    have gr2 := rowsIn.keep gr (H' := upd H2 d (.dK es)) (upd_keep fun b h => h.2.1)
    refine ⟨gd, _, rfl, a, _, 0, .str R.L, rfl, rfl, SqT.of (K0 _ _ ha), atI_nat (j := 0) rfl, _, rfl, a, _, 1, nI R.n, rfl, rfl, SqT.of (K0 _ _ ha), atI_nat (j := 1) rfl, _, rfl, _, rfl, a, _, 3, .ref g, rfl, rfl, SqT.of (K0 _ _ ha), atI_nat (j := 3) rfl, (by show 4 ≤ sizeLine; decide), fun t ht => ?_⟩
    have sT := same_new ht (o := .tup [.str R.L, nI R.n, .ref p, .ref g])
    exact q _ _ (K0.trans sT) ⟨t, p, g, es', rfl, upd_same, .inr (K0.free ht), sT _ _ kp, .inr hp, Paired.mapP gr2 fun _ _ ⟨e1, e2⟩ => ⟨e1, (e2.same sT).weak fun _ h => h.1⟩, sT _ _ (K0 _ _ hg), .inl kg⟩
end


def spLaw (K : PySem.W.Frag) : Sp := fun vs H Q _ => ∃ (a : Addr) (ns : List Int), vs = [.ref a] ∧ SqL K H a (ns.map V.int) ∧ ns.length ≤ 63 ∧ ∀ H', Q (.bl true) H'

def FrN (p : Addr) (H H' : Hp) : Prop := ∀ b o, b ≠ p → H b = some o → (∀ ps, o ≠ .tbl ps) → H' b = some o
theorem FrN.fr {p : Addr} {H H' : Hp} (f : Fr p H H') : FrN p H H' := fun b o n e _ => f b o n e
theorem FrN.same {p : Addr} {H H' : Hp} (s : Same H H') : FrN p H H' := fun b o _ e _ => s b o e
theorem FrN.ext {p : Addr} {H H' : Hp} (f : LamX.ExtN H H') : FrN p H H' := fun b o _ e t => f b o e t
theorem FrN.trans {p : Addr} {H H1 H2 : Hp} (f : FrN p H H1) (g : FrN p H1 H2) : FrN p H H2 := fun b o n e t => g b o n (f b o n e t) t
theorem FrN.seq {K : PySem.W.Frag} {p a : Addr} {H H' : Hp} {xs : List V} (c : FrN p H H') (hp : H p = none) (h : SqL K H a xs) : SqL K H' a xs := by
  rcases h with (h | ⟨o, h⟩) | h
  · exact .inl (.inl (c _ _ (ne_of_none h hp) h fun _ e => by cases e))
  · exact .inl (.inr ⟨o, c _ _ (ne_of_none h hp) h fun _ e => by cases e⟩)
  · exact .inr h

theorem Dk.tabs {p : Addr} {H H' : Hp} {TT : List NdefX.NTab} (d : Dk H p) (t : NdefX.TabsN TT H) (f : Fr p H H') : NdefX.TabsN TT H' := by
  obtain ⟨xs, h⟩ := d
  exact tabsN_fr1 t h f

theorem seqN {K : PySem.W.Frag} {H H' : Hp} {a : Addr} {xs : List V} (f : LamX.ExtN H H') (h : SqL K H a xs) : SqL K H' a xs := by
  rcases h with (h | ⟨o, h⟩) | h
  · exact .inl (.inl (f _ _ h fun _ z => by cases z))
  · exact .inl (.inr ⟨o, f _ _ h fun _ z => by cases z⟩)
  · exact .inr h
theorem tabs_only : ∀ {TT : List NdefX.NTab}, (TT.map (·.1)).Nodup → ∀ (q : Addr) (f : Nat → Nat → Str), (q, f) ∈ TT → ∀ z ∈ TT, z.1 = q → z.2 = f
  | [], _, _, _, h, _, _, _ => by cases h
  | x :: r, nd, q, f, h, z, hz, e => by
    rw [List.map_cons, List.nodup_cons] at nd
    rcases List.mem_cons.mp h with h | h <;> rcases List.mem_cons.mp hz with k | k
    · rw [k, ← h]
    · exact absurd (List.mem_map.mpr ⟨z, k, by rw [e, ← h]⟩) nd.1
    · exact absurd (List.mem_map.mpr ⟨(q, f), h, by rw [← e, k]⟩) nd.1
    · exact tabs_only nd.2 q f h z k e

theorem neT {x y : V} {i : Decidable (x = y)} {A B : Prop} (h : x ≠ y) (k : A) : if (!@decide (x = y) i) = true then A else B := by
  rw [decide_eq_false h]
  exact iteT k
theorem Dk.ext {H H' : Hp} {p : Addr} (d : Dk H p) (f : LamX.ExtN H H') : Dk H' p := by
  obtain ⟨xs, h⟩ := d
  exact ⟨xs, f _ _ h fun _ z => by cases z⟩
def othG (R : Rl) : List Nat := (List.range R.n).filter fun x => !decide (x ∈ R.good)
def othR (R : Rl) : Rl := { R with good := othG R }
theorem othR_ok {R : Rl} (h : R.ok) : (othR R).ok where
  L := h.L
  n1 := h.n1
  n6 := h.n6
  has := h.has
  rs := h.rs
  nd := h.nd
  g6 := by
    have := List.length_filter_le (fun x => !decide (x ∈ R.good)) (List.range R.n)
    rw [List.length_range] at this
    exact Nat.le_trans this h.n6
  gn g hg := List.mem_range.mp (List.mem_filter.mp hg).1
  r26 := h.r26
theorem oth_in {R : Rl} {s : Nat} (h : s < R.n) : decide (s ∈ othG R) = !decide (s ∈ R.good) := by
  rw [Bool.eq_iff_iff]
  simp only [othG, decide_eq_true_eq, List.mem_filter, List.mem_range, h, true_and]
theorem St_ltR {R : Rl} (hok : R.ok) : ∀ t : Tr, t.lets (fun c => c ∈ R.L.cps.toList) → St (fsR R) R.n t < R.n
  | .node c ks, h => by
    simp only [Tr.lets] at h
    simp only [St]
    exact fsR_lt hok h.1 _
def smallT (R : Rl) (t : Tr) : Prop := t.size ≤ 100 ∧ t.depth ≤ 31 ∧ t.lets (fun c => c ∈ R.L.cps.toList)
section
variable {P : Program} {w : World} {K : PySem.W.Frag} {mg : Str → Option Value} {base : Heap}
theorem ok_law (T : Txt K mg) (B : Tbs T base) (M : KTab K w T.a_MADE_OF_OTHERS made) : FnOk P w K mg base CX0 60 T.f_law T.d_law ["script"] (spLawT K [T.P_states_upward, T.P_part_states, T.P_state_by_rules, T.P_judge_made]) := by
  generalize hTTe : ([(T.P_states_upward, fun _ _ => q_states_upward), (T.P_part_states, fun _ _ => q_part_states), (T.P_state_by_rules, fun _ _ => q_state_by_rules), (T.P_judge_made, fun _ _ => q_judge_made)] : List NdefX.NTab) = TT
  have nd : (TT.map (·.1)).Nodup := by
    subst hTTe
    simp only [List.map_cons, List.map_nil, List.nodup_cons, List.mem_cons, List.not_mem_nil, or_false, not_or, not_false_eq_true, List.nodup_nil, and_true]
    exact ⟨⟨T.n_states_upward_part_states, T.n_states_upward_state_by_rules, T.n_states_upward_judge_made⟩, ⟨T.n_part_states_state_by_rules, T.n_part_states_judge_made⟩, T.n_state_by_rules_judge_made⟩
  have only := tabs_only nd
  have i1 : (T.P_states_upward, fun _ _ => q_states_upward) ∈ TT := by
    subst hTTe
    simp only [List.mem_cons, true_or, or_true]
  have i2 : (T.P_part_states, fun _ _ => q_part_states) ∈ TT := by
    subst hTTe
    simp only [List.mem_cons, true_or, or_true]
  have i3 : (T.P_state_by_rules, fun _ _ => q_state_by_rules) ∈ TT := by
    subst hTTe
    simp only [List.mem_cons, true_or, or_true]
  have i4 : (T.P_judge_made, fun _ _ => q_judge_made) ∈ TT := by
    subst hTTe
    simp only [List.mem_cons, true_or, or_true]
  have hT2 : TT2 T TT := ⟨i1, only _ _ i1, i3, only _ _ i3⟩
  have hTp : TTp T TT := ⟨i1, only _ _ i1, i2, only _ _ i2⟩
  have hTj : TTj T TT := ⟨i4, only _ _ i4⟩
  have G__law_cell_at : FnOk P w K mg base CX0 1 T.f__law_cell_at T.d__law_cell_at ["script", "k"] (sp__law_cell_at K) := ok__law_cell_at T
  have G__law_deck : FnOk P w K mg base CX0 2 T.f__law_deck T.d__law_deck ["cell", "many"] sp__law_numbers := ok__law_deck T
  have G__law_take : FnOk P w K mg base CX0 1 T.f__law_take T.d__law_take ["deck", "many"] sp__law_take := ok__law_take T
  have G__law_rules : FnOk P w K mg base CX0 8 T.f__law_rules T.d__law_rules ["deck", "most"] sp__law_rules := ok__law_rules T
  have G__law_lesser_rules : FnOk P w K mg base CX0 7 T.f__law_lesser_rules T.d__law_lesser_rules ["rules"] sp__law_lesser_rules := ok__law_lesser_rules T
  have G__law_made : FnOk P w K mg base CX0 17 T.f__law_made T.d__law_made ["rules"] (sp__law_made P w TT) := ok__law_made T B M hTj
  have G__law_tree : FnOk P w K mg base CX0 2 T.f__law_tree T.d__law_tree ["deck", "letters", "most"] sp__law_tree := ok__law_tree T
  have G__law_wide : FnOk P w K mg base CX0 3 T.f__law_wide T.d__law_wide ["deck", "letters"] sp__law_wide := ok__law_wide T
  have G_state_by_rules : FnOk P w K mg base CX0 15 T.f_state_by_rules T.d_state_by_rules ["rules", "tree"] (sp_state_by_rules TT) := ok_state_by_rules T B hT2
  have G_rules_let_by : FnOk P w K mg base CX0 16 T.f_rules_let_by T.d_rules_let_by ["rules", "tree"] (sp_rules_let_by TT) := ok_rules_let_by T B hT2
  have G__law_agrees : FnOk P w K mg base CX0 32 T.f__law_agrees T.d__law_agrees ["judge", "tree", "state", "good"] (sp__law_agrees P w TT) := ok__law_agrees T B hTp
  have G_is_judge : FnOk P w K mg base CX0 5 T.f_is_judge T.d_is_judge ["thing"] (sp_is_judge P w) := ok_is_judge T
  refine T.F_law.ok sc_law (fun vs H Q E h => ?_) (fun cdv A outer s H vs Q E hr h => ?_)
  · obtain ⟨a, ns, rfl, _⟩ := h
    rfl
  obtain ⟨a, ns, rfl, hS, h63, hPs, qq⟩ := h
  have T0 : NdefX.TabsN TT H := by
    subst hTTe
    intro z hz
    simp only [List.mem_cons, List.not_mem_nil, or_false] at hz
    rcases hz with rfl | rfl | rfl | rfl <;> exact NdefX.TabN.nil (hPs _ (by simp))
  refine ⟨_, (pss_cons (ps_for PassesOwn.never rfl (pi_range1 (by rfl) T.z_range (pa_cons (pe_callB (call_max2 rfl) (by rfl) T.z_max (by decide +kernel) (pa_cons pe_int (pa_cons (pe_callB (call_min2 rfl) (by rfl) T.z_min (by decide +kernel) (pa_cons (pe_callB call_len_seq (by rfl) T.z_len PySem.boot_len (pa_cons (pv 0) pa_nil)) (pa_cons pe_int pa_nil))) pa_nil))) pa_nil)) (pg_name (i := 1) sc_law.nd rfl (Or.inl rfl)) (pss_cons (ps_set (i := 2) sc_law.nd rfl (Or.inr rfl) (pe_call G__law_deck (hr.mono (by omega)) (by rfl) T.m__law_deck T.F__law_deck.kp T.b__law_deck .nil pass0 (pa_cons (pe_call G__law_cell_at (hr.mono (by omega)) (by rfl) T.m__law_cell_at T.F__law_cell_at.kp T.b__law_cell_at .nil pass0 (pa_cons (pv 0) (pa_cons (pv 1) pa_nil))) (pa_cons pe_int pa_nil)))) (pss_cons (ps_set (i := 3) sc_law.nd rfl (Or.inr rfl) (pe_call G__law_rules (hr.mono (by omega)) (by rfl) T.m__law_rules T.F__law_rules.kp T.b__law_rules .nil pass0 (pa_cons (pv 2) (pa_cons pe_int pa_nil)))) (C8.pss_cut (ps_if (PW.pt (pw_and (pt_cmpR op_gt (pe_ix ix_tup (pv 3) pe_int (fun _ _ => rfl)) pe_int (nomark _)) (pw_and1 (pt_cmpR op_gt (pe_call G__law_take (hr.mono (by omega)) (by rfl) T.m__law_take T.F__law_take.kp T.b__law_take .nil pass0 (pa_cons (pv 2) (pa_cons pe_int pa_nil))) pe_int (nomark _))))) (pss_one (ps_set (i := 3) sc_law.nd rfl (Or.inr rfl) (pe_call G__law_lesser_rules (hr.mono (by omega)) (by rfl) T.m__law_lesser_rules T.F__law_lesser_rules.kp T.b__law_lesser_rules .nil pass0 (pa_cons (pv 3) pa_nil)))) pss_nil) (pss_cons (ps_set (i := 4) sc_law.nd rfl (Or.inl rfl) (pe_call G__law_made (hr.mono (by omega)) (by rfl) T.m__law_made T.F__law_made.kp T.b__law_made .nil pass0 (pa_cons (pv 3) pa_nil))) (pss_cons (ps_setLc (i := 5) (own := [("state", 6)]) (g := gName 6) (tt := tTest (tOp (rIn K true) (tVar 6) (tOp (rIxT K) (tVar 3) (tC (.int 3))))) rfl sc_law.nd rfl rfl (sw_true rfl rfl rfl (by decide +kernel)) (pi_range1 (by rfl) T.z_range (pa_cons (pe_ix ix_tup (pv 3) pe_int (fun _ _ => rfl)) pa_nil)) (blkOk_by (own := [("state", 6)]) (N := ["script", "k", "deck", "rules", "judge", "others", "state", "turned", "trees", "tree", "good", "turn"]) (sc := (defScope s_law)) (by decide +kernel)) (fun _ _ _ _ _ => (pg_name (i := 6) sc_law.nd rfl (Or.inl rfl))) (fun _ _ _ _ _ => pts_one (pt_cmpR op_notIn_seq (pv 6) (pe_ix ix_tup (pv 3) pe_int (fun _ _ => rfl)) (by rfl))) (fun _ _ _ _ _ => (pv 6))) (pss_cons (ps_set (i := 7) sc_law.nd rfl (Or.inl rfl) (pe_tup (pa_cons (pe_ix ix_tup (pv 3) pe_int (fun _ _ => rfl)) (pa_cons (pe_ix ix_tup (pv 3) pe_int (fun _ _ => rfl)) (pa_cons (pe_ix ix_tup (pv 3) pe_int (fun _ _ => rfl)) (pa_cons (pv 5) pa_nil)))))) (pss_cons (ps_setLc (i := 8) (own := [("turn", 11)]) (g := gName 11) (te := tCall sp__law_tree [] E0 (tCons (tVar 2) (tCons (tOp (rIxT K) (tVar 3) (tC (.int 0))) (tCons (tOp (rIxL K) (tLst (tCons (tC (.int 60)) (tCons (tC (.int 12)) (tCons (tC (.int 12)) (tCons (tC (.int 3)) tNil))))) (tVar 11)) tNil)))) (tt := tYes) rfl sc_law.nd rfl rfl (sw_true rfl rfl rfl (by decide +kernel)) (pi_range1 (by rfl) T.z_range (pa_cons pe_int pa_nil)) (blkOk_by (own := [("turn", 11)]) (N := ["script", "k", "deck", "rules", "judge", "others", "state", "turned", "trees", "tree", "good", "turn"]) (sc := (defScope s_law)) (by decide +kernel)) (fun _ _ _ _ _ => (pg_name (i := 11) sc_law.nd rfl (Or.inl rfl))) (fun _ _ _ _ _ => pts_nil) (fun _ _ _ _ _ => (pe_call G__law_tree (hr.mono (by omega)) (by rfl) T.m__law_tree T.F__law_tree.kp T.b__law_tree .nil pass0 (pa_cons (pv 2) (pa_cons (pe_ix ix_tup (pv 3) pe_int (fun _ _ => rfl)) (pa_cons (pe_ix ix_list (pe_lst (pa_cons pe_int (pa_cons pe_int (pa_cons pe_int (pa_cons pe_int pa_nil))))) (pv 11) (fun _ _ => rfl)) pa_nil)))))) (pss_cons (ps_for PassesOwn.never rfl (pi_list (pe_op op_cat (pv 8) (pe_lst (pa_cons (pe_call G__law_wide (hr.mono (by omega)) (by rfl) T.m__law_wide T.F__law_wide.kp T.b__law_wide .nil pass0 (pa_cons (pv 2) (pa_cons (pe_ix ix_tup (pv 3) pe_int (fun _ _ => rfl)) pa_nil))) pa_nil)))) (pg_name (i := 9) sc_law.nd rfl (Or.inl rfl)) (pss_cons (ps_set (i := 6) sc_law.nd rfl (Or.inl rfl) (pe_call G_state_by_rules (hr.mono (by omega)) (by rfl) T.m_state_by_rules T.F_state_by_rules.kp T.b_state_by_rules .nil pass0 (pa_cons (pv 3) (pa_cons (pv 9) pa_nil)))) (pss_cons (ps_set (i := 10) sc_law.nd rfl (Or.inl rfl) (pe_call G_rules_let_by (hr.mono (by omega)) (by rfl) T.m_rules_let_by T.F_rules_let_by.kp T.b_rules_let_by .nil pass0 (pa_cons (pv 3) (pa_cons (pv 9) pa_nil)))) (pss_cons (ps_if (PW.pt (pw_or (pt_cmpR op_ne (pv 10) (pe_cmpR op_in_seq (pv 6) (pe_ix ix_tup (pv 3) pe_int (fun _ _ => rfl)) (by rfl)) (nomark _)) (pw_or1 (pt_cmpR op_eq (pe_call G_rules_let_by (hr.mono (by omega)) (by rfl) T.m_rules_let_by T.F_rules_let_by.kp T.b_rules_let_by .nil pass0 (pa_cons (pv 7) (pa_cons (pv 9) pa_nil))) (pv 10) (nomark _))))) (pss_one (ps_ret pe_bl)) pss_nil) (pss_one (ps_if (PW.pt (pw_and (pt_cmpR op_notN (pv 4) pe_non (nomark _)) (pw_and1 (pt_not (pt_val (pe_call G__law_agrees (hr.mono (by omega)) (by rfl) T.m__law_agrees T.F__law_agrees.kp T.b__law_agrees .nil pass0 (pa_cons (pv 4) (pa_cons (pv 9) (pa_cons (pv 6) (pa_cons (pv 10) pa_nil)))))))))) (pss_one (ps_ret pe_bl)) pss_nil)))))) (pss_one (ps_if (PW.pt (pw_and (pt_cmpR op_notN (pv 4) pe_non (nomark _)) (pw_and1 (pt_cmpR op_notBl (pe_call G_is_judge (hr.mono (by omega)) (by rfl) T.m_is_judge T.F_is_judge.kp T.b_is_judge .nil pass0 (pa_cons (pv 4) pa_nil)) pe_bl (nomark _))))) (pss_one (ps_ret pe_bl)) pss_nil))))))))))) (pss_one (ps_ret pe_bl))), ?_⟩
  obtain ⟨j, hj, hj0, hj1⟩ : ∃ j : Int, (if (if ((ns.map V.int).length : Int) > 5 then 5 else ((ns.map V.int).length : Int)) > 1 then (if ((ns.map V.int).length : Int) > 5 then 5 else ((ns.map V.int).length : Int)) else 1) = j ∧ 0 ≤ j ∧ j ≤ 12 := ⟨_, rfl, by split <;> split <;> omega, by split <;> split <;> omega⟩
  refine ⟨_, rfl, a, _, rfl, .inl hS, _, _, rfl, _, _, rfl, j, congrArg (fun z => [V.int z]) hj, by omega, by omega, for_range (lo := 0) (n := j.toNat) (fun i σ H' => (∃ y1 y2 y3 y4 y5 y6 y7 y8 y9 y10, σ = [some (.ref a), y1, y2, y3, y4, y5, y6, y7, y8, y9, y10, none]) ∧ SqL K H' a (ns.map V.int) ∧ NdefX.TabsN TT H') ⟨⟨_, _, _, _, _, _, _, _, _, _, rfl⟩, hS, T0⟩ ?_ ?_⟩
  · rintro i σ H0 hi ⟨⟨y1, y2, y3, y4, y5, y6, y7, y8, y9, y10, rfl⟩, hS0, T0⟩
    refine ⟨_, rfl, _, rfl, a, ns, _, rfl, hS0, by omega, fun x => ⟨x, 420, rfl, by decide, by decide, fun p xs H1 s1 hp hx => ?_⟩⟩
    have D1 : Dk H1 p := ⟨xs, hx⟩
    refine ⟨_, rfl, p, 6, rfl, D1, by decide, by decide, fun v1 R1 H2 ok1 ri1 l7 up1 hn1 f2 D2 hR1 => ?_⟩
    have T1 := T0.ext s1
    refine ⟨fun σ' H' => ∃ (v : V) (R : Rl), σ' = [some (.ref a), some (.int (0 + i)), some (.ref p), some v, y4, y5, y6, y7, y8, y9, y10, none] ∧ RlAt (fun b => b ≠ p) H' v R ∧ R.ok ∧ Rises R.L ∧ R.good.Pairwise (· < ·) ∧ Fr p H1 H' ∧ Dk H' p, ?_, ?_⟩
    · obtain ⟨ra, rd, rg, res, rfl, hra, _⟩ := id hR1
      refine ⟨_, rfl, ra, _, 1, nI R1.n, rfl, rfl, SqT.of hra, atI_nat (j := 1) rfl, _, _, rfl, rfl, _, rfl, ite2 (fun hh => ?_) (fun hh => ?_)⟩
      · refine ⟨_, rfl, p, 4, rfl, D2, by decide, fun r H3 r0 r4 f3 D3 => ⟨_, _, rfl, rfl, _, rfl, ite2 (fun hh => ?_) (fun hh => ?_)⟩⟩
        · have hR3 : RlAt (fun b => b ≠ p) H3 (.ref ra) R1 := hR1.keep fun b o n e => f3 b o n e
          refine ⟨_, rfl, _, R1, _, rfl, hR3, ok1, fun r2 H4 s4 hr4 => ?_⟩
          exact ⟨r2, lessR R1, rfl, hr4.weak fun b h => h.elim id (fun h e => D3.some (by rw [← e]; exact h)), lessR_ok ok1, ri1, up1, (f2.trans f3).trans (Fr.same s4), D3.keep s4⟩
        · exact ⟨_, R1, rfl, hR1.keep fun b o n e => f3 b o n e, ok1, ri1, up1, f2.trans f3, D3⟩
      · exact iteF ⟨_, R1, rfl, hR1, ok1, ri1, up1, f2, D2⟩
    rintro σ' H3 ⟨v, R, rfl, hR, hok, hri, hup, f3, D3⟩
    have T3 := D1.tabs T1 f3
    have S3 : SqL K H3 a (ns.map V.int) := ((FrN.same s1).trans (.fr f3)).seq hp hS0
    refine ⟨_, rfl, v, R, rfl, hR.weak fun _ _ => trivial, hok, hri, T3, fun jv H4 e4 T4 hjv => ?_⟩
    have R4 := hR.extN e4
    have D4 := D3.ext e4
    have S4 := seqN e4 S3
    obtain ⟨ra, rd, rg, res, rfl, hra, nra, hrd, nrd, hes, hrg, nrg⟩ := R4
    refine ⟨_, rfl, ra, _, 1, nI R.n, rfl, rfl, SqT.of hra, atI_nat (j := 1) rfl, R.n, rfl, by omega, by have := hok.n6; omega, fun oD hoD => ?_⟩
    refine lc_range (lo := 0) (n := R.n) (fun i H5 => H5 oD = some (.lst (((List.range i).filter fun x => !decide (x ∈ R.good)).map nI)) ∧ Same H4 H5) ⟨upd_same, same_new hoD⟩ ?_ ?_
    · rintro i2 H5 hi2 ⟨g1, g2⟩
      refine ⟨rfl, _, rfl, _, rfl, ra, _, 3, .ref rg, rfl, rfl, SqT.of (g2 _ _ hra), atI_nat (j := 3) rfl, rg, _, rfl, .inl (SqL.of (g2 _ _ hrg)), rfl, flat_nI _, ?_⟩
      have e0 : V.int (0 + (i2 : Int)) = nI i2 := by rw [Int.zero_add]
      rw [e0, if_pos rfl, inV_nI, List.range_succ, List.filter_append, List.filter_cons]
      have ln : ((List.range i2).filter fun x => !decide (x ∈ R.good)).length ≤ 100 := Nat.le_trans (List.length_filter_le _ _) (by rw [List.length_range]; have := hok.n6; omega)
      refine ⟨_, rfl, ite2 (fun hh => ?_) (fun hh => ?_)⟩
      · refine ⟨_, rfl, _, g1, ?_, ?_, same_add g2 hoD⟩
        · rw [List.length_map]
          exact Nat.lt_of_le_of_lt (show _ ≤ 1000000 by omega) (by decide)
        · rw [upd_same, if_pos hh, List.map_append]
          rfl
      · rw [if_neg hh]
        refine ⟨?_, g2⟩
        show _ = some (HO.lst ((_ ++ []).map nI))
        rw [List.append_nil]
        exact g1
    rintro H5 ⟨g1, g2⟩
    refine ⟨_, rfl, ra, _, 0, _, rfl, rfl, SqT.of (g2 _ _ hra), atI_nat (j := 0) rfl, _, rfl, ra, _, 1, _, rfl, rfl, SqT.of (g2 _ _ hra), atI_nat (j := 1) rfl, _, rfl, ra, _, 2, _, rfl, rfl, SqT.of (g2 _ _ hra), atI_nat (j := 2) rfl, _, rfl, (by show 4 ≤ sizeLine; decide), fun tu htu => ?_⟩
    have s6 := same_new htu (o := .tup [.str R.L, nI R.n, .ref rd, .ref oD])
    have k6 := upd_same (H := H5) (a := tu) (o := .tup [.str R.L, nI R.n, .ref rd, .ref oD])
    have D6 : Dk (upd H5 tu (.tup [.str R.L, nI R.n, .ref rd, .ref oD])) p := (D4.keep g2).keep s6
    have noD : oD ≠ p := D4.ne hoD
    have ntu : tu ≠ p := (D4.keep g2).ne htu
    have S46 := g2.trans s6
    have Rt6 : RlAt (fun b => b ≠ p) (upd H5 tu (.tup [.str R.L, nI R.n, .ref rd, .ref oD])) (.ref tu) (othR R) := ⟨tu, rd, oD, res, rfl, k6, ntu, S46 _ _ hrd, nrd, Paired.mapP hes fun _ _ k => ⟨k.1, k.2.same S46⟩, s6 _ _ g1, noD⟩
    have R6 : RlAt (fun b => b ≠ p) (upd H5 tu (.tup [.str R.L, nI R.n, .ref rd, .ref oD])) (.ref ra) R := ⟨ra, rd, rg, res, rfl, S46 _ _ hra, nra, S46 _ _ hrd, nrd, Paired.mapP hes fun _ _ k => ⟨k.1, k.2.same S46⟩, S46 _ _ hrg, nrg⟩
    have T6 := T4.ext S46
    have S6 := seqN (.of S46) S4
    have F6 : FrN p H0 (upd H5 tu (.tup [.str R.L, nI R.n, .ref rd, .ref oD])) := (((FrN.same s1).trans (.fr f3)).trans (.ext e4)).trans (.same S46)
    have hj6 : jv = .non ∨ JudR P w (fun b => b ≠ p) (upd H5 tu (.tup [.str R.L, nI R.n, .ref rd, .ref oD])) jv R := hjv.imp id fun h => (h.weak (ok' := fun b => b ≠ p) fun b h (e : b = p) => D3.some (by rw [← e]; exact h)).extN (.of S46)
    generalize upd H5 tu (.tup [.str R.L, nI R.n, .ref rd, .ref oD]) = H6 at *
    clear k6 s6 S46 g1 g2 hra hrd hes hrg hoD htu hjv T4 S4 D4 noD ntu
    refine ⟨4, rfl, by decide, by decide, fun D hD => ?_⟩
    have nD : D ≠ p := D6.ne hD
    refine lc_range (lo := 0) (n := 4) (fun i H7 => ∃ ws ts, H7 D = some (.lst ws) ∧ TrsAt (fun b => b ≠ p ∧ b ≠ D) H7 ws ts ∧ ts.length = i ∧ (∀ t ∈ ts, smallT R t) ∧ Fr p H6 H7 ∧ Dk H7 p) ⟨[], [], upd_same, .nil, rfl, (fun _ h => by cases h), (Fr.refl p H6).new hD, D6.keep (same_new hD)⟩ ?_ ?_
    · rintro i3 H7 hi3 ⟨ws, ts, g1, g2, g3, g4, g5, g6⟩
      have lw := g2.len
      have R7 : RlAt (fun b => b ≠ p) H7 (.ref ra) R := R6.keep fun b o n e => g5 b o n e
      obtain ⟨ra', rd', rg', res', era, hra, _⟩ := R7
      cases era
      refine ⟨rfl, _, rfl, _, rfl, ra, _, 0, _, rfl, rfl, SqT.of hra, atI_nat (j := 0) rfl, (by show 4 ≤ sizeLine; decide), fun l hl => ?_⟩
      have sl := same_new hl (o := .lst [V.int 60, V.int 12, V.int 12, V.int 3])
      obtain ⟨m, hm, m1, m60⟩ : ∃ m : Int, [V.int 60, V.int 12, V.int 12, V.int 3][i3]? = some (V.int m) ∧ 1 ≤ m ∧ m ≤ 60 := by
        rcases (by omega : i3 = 0 ∨ i3 = 1 ∨ i3 = 2 ∨ i3 = 3) with rfl | rfl | rfl | rfl
        · exact ⟨60, rfl, by decide, by decide⟩
        · exact ⟨12, rfl, by decide, by decide⟩
        · exact ⟨12, rfl, by decide, by decide⟩
        · exact ⟨3, rfl, by decide, by decide⟩
      have e0 : V.int (0 + (i3 : Int)) = V.int (i3 : Int) := by rw [Int.zero_add]
      refine ⟨_, rfl, l, _, (i3 : Int), V.int m, rfl, e0, SqL.of upd_same, atI_nat hm, p, R.L, m, rfl, g6.keep sl, hok.L, m1, m60, fun u t H8 f8 D8 ht z d lt => ⟨ws, f8 _ _ nD (sl _ _ g1), ?_, ws ++ [u], ts ++ [t], upd_same, ?_, by rw [List.length_append, g3]; rfl, ?_, ((g5.trans (Fr.same sl)).trans f8).new hD, D8.upd nD⟩⟩
      · exact Nat.lt_of_le_of_lt (show ws.length ≤ 1000000 by omega) (by decide)
      · have new : TrAt (fun b => b ≠ p ∧ b ≠ D) H8 u t := ht.weak fun b h => ⟨fun (e : b = p) => (g6.keep sl).some (by rw [← e]; exact h), fun (e : b = D) => by rw [e, sl _ _ g1] at h; cases h⟩
        exact (TrsAt.append ((g2.same sl).keep fun b o h e => f8 b o h.1 e) (.cons new .nil)).keep (upd_keep fun b h => h.2)
      · intro x hx
        rcases List.mem_append.mp hx with hx | hx
        · exact g4 x hx
        · rw [List.mem_singleton.mp hx]
          exact ⟨by omega, by omega, lt⟩
    rintro H7 ⟨ws, ts, g1, g2, g3, g4, g5, g6⟩
    have lw := g2.len
    have R7 : RlAt (fun b => b ≠ p) H7 (.ref ra) R := R6.keep fun b o n e => g5 b o n e
    obtain ⟨ra', rd', rg', res', era, hra, _⟩ := id R7
    cases era
    refine ⟨_, rfl, _, rfl, _, rfl, ra, _, 0, _, rfl, rfl, SqT.of hra, atI_nat (j := 0) rfl, p, R.L, rfl, g6, hok.L, fun u t H8 f8 D8 ht z d lt => ⟨(by show 1 ≤ sizeLine; decide), fun wl hwl => ?_⟩⟩
    have s9 := same_new hwl (o := .lst [u])
    have kw := upd_same (H := H8) (a := wl) (o := .lst [u])
    generalize upd H8 wl (.lst [u]) = H9 at *
    refine ⟨D, wl, _, _, rfl, rfl, s9 _ _ (f8 _ _ nD g1), kw, ?_, fun tl htl => ?_⟩
    · exact Nat.le_of_lt (Nat.lt_of_le_of_lt (show ws.length + 1 ≤ 1000000 by omega) (by decide))
    have s10 := same_new htl (o := .lst (ws ++ [u]))
    have ktl := upd_same (H := H9) (a := tl) (o := .lst (ws ++ [u]))
    have F : Fr p H6 (upd H9 tl (.lst (ws ++ [u]))) := (g5.trans f8).trans (Fr.same (s9.trans s10))
    have R10 : RlAt (fun _ => True) (upd H9 tl (.lst (ws ++ [u]))) (.ref ra) R := (R6.keep fun b o n e => F b o n e).weak fun _ _ => trivial
    have Rt10 : RlAt (fun _ => True) (upd H9 tl (.lst (ws ++ [u]))) (.ref tu) (othR R) := (Rt6.keep fun b o n e => F b o n e).weak fun _ _ => trivial
    have W10 : TrsAt (fun _ => True) (upd H9 tl (.lst (ws ++ [u]))) (ws ++ [u]) (ts ++ [t]) := TrsAt.append ((((g2.weak fun b h => h.1).keep fun b o n e => f8 b o n e).same (s9.trans s10)).weak fun _ _ => trivial) (.cons ((ht.same (s9.trans s10)).weak fun _ _ => trivial) .nil)
    have small : ∀ x ∈ ts ++ [t], smallT R x := fun x hx => by
      rcases List.mem_append.mp hx with hx | hx
      · exact g4 x hx
      · rw [List.mem_singleton.mp hx]
        exact ⟨z, d, lt⟩
    have T10 := D6.tabs T6 F
    have FN : FrN p H0 (upd H9 tl (.lst (ws ++ [u]))) := F6.trans (.fr F)
    have J10 : jv = .non ∨ JudR P w (fun _ => True) (upd H9 tl (.lst (ws ++ [u]))) jv R := hj6.imp id fun h => (h.fr D6 F).weak fun _ _ => trivial
    generalize upd H9 tl (.lst (ws ++ [u])) = H10 at *
    refine ⟨tl, rfl, ⟨_, SqL.of ktl⟩, for_list (xs := ws ++ [u]) (fun i2 σ H' => (∃ y8 y9 y10, σ = [some (.ref a), some (.int (0 + i)), some (.ref p), some (.ref ra), some jv, some (.ref oD), y8, some (.ref tu), some (.ref D), y9, y10, none]) ∧ LamX.ExtN H10 H' ∧ NdefX.TabsN TT H') ⟨⟨_, _, _, rfl⟩, LamX.ExtN.refl _, T10⟩ (fun i σ H' _ h => SqL.of (h.2.1 _ _ ktl fun _ z => by cases z)) ?_ ?_⟩
    · rintro i2 x σ H11 hx ⟨⟨y8, y9, y10, rfl⟩, E11, T11⟩
      obtain ⟨t1, ht1, hx2⟩ := W10.getV hx
      obtain ⟨z1, d1, l1⟩ := small t1 (List.mem_of_getElem? ht1)
      have zz : t1.size ≤ 1000000 := Nat.le_trans z1 (by decide)
      have slt : St (fsR R) R.n t1 < R.n := by
        have := St_ltR hok t1 l1
        exact this
      refine ⟨_, rfl, _, rfl, _, x, R, t1, rfl, R10.extN E11, hx2.extN1 E11, zz, l1, hok, T11, fun H12 e12 T12 => ?_⟩
      have E12 := E11.trans e12
      refine ⟨_, rfl, _, rfl, _, x, R, t1, rfl, R10.extN E12, hx2.extN1 E12, zz, l1, hok, T12, fun H13 e13 T13 => ?_⟩
      have E13 := E12.trans e13
      obtain ⟨ra', rd', rg', res', era, hra, _, _, _, _, hrg, _⟩ := R10.extN E13
      cases era
      refine ⟨_, rfl, _, rfl, _, rfl, ra, _, 3, .ref rg', rfl, rfl, SqT.of hra, atI_nat (j := 3) rfl, rg', _, rfl, .inl (SqL.of hrg), rfl, flat_nI _, ?_⟩
      rw [if_neg (by decide), inV_nI]
      refine ⟨rfl, _, rfl, neS rfl ?_⟩
      refine ⟨_, rfl, _, rfl, _, x, othR R, t1, rfl, Rt10.extN E13, hx2.extN1 E13, zz, l1, othR_ok hok, T13, fun H14 e14 T14 => ⟨_, rfl, rfl, _, rfl, eqF ?_ ?_⟩⟩
      · intro e
        have e2 := V.bl.inj e
        have e3 : decide (St (fsR R) R.n t1 ∈ othG R) = decide (St (fsR R) R.n t1 ∈ R.good) := e2
        rw [oth_in slt] at e3
        cases h : decide (St (fsR R) R.n t1 ∈ R.good) <;> rw [h] at e3 <;> cases e3
      have E14 := E13.trans e14
      rcases J10 with rfl | hJ
      · exact ⟨_, rfl, rfl, _, rfl, neS rfl (iteF ⟨⟨_, _, _, rfl⟩, E14, T14⟩)⟩
      · have hJ14 := hJ.extN E14
        have hJa := hJ14.at
        obtain ⟨f0, j0, _, _, _, rfl, _⟩ := id hJ14
        refine ⟨_, rfl, rfl, _, rfl, neT (by intro e; cases e) ?_⟩
        refine ⟨_, rfl, _, rfl, _, rfl, _, rfl, .ref j0, x, Jof R, t1, by rw [St_Jof hok t1 l1]; rfl, hJa, Jof_ok hok f0, hx2.extN1 E14, d1, Nat.le_trans z1 (by decide), l1, T14, fun H15 e15 T15 => ⟨_, rfl, iteF ⟨⟨_, _, _, rfl⟩, E14.trans e15, T15⟩⟩⟩
    rintro σ H11 ⟨⟨y8, y9, y10, rfl⟩, E11, T11⟩
    have S11 := (FN.trans (.ext E11)).seq hp hS0
    rcases J10 with rfl | hJ
    · exact ⟨_, rfl, rfl, _, rfl, neS rfl (iteF ⟨⟨_, _, _, _, _, _, _, _, _, _, rfl⟩, S11, T11⟩)⟩
    · obtain ⟨f0, j0, d0, g0, xs0, rfl, hj0, hd0, hrn0, hrj0, hg0, _⟩ := hJ.extN E11
      have pok := pl_ok hok
      refine ⟨_, rfl, rfl, _, rfl, neT (by intro e; cases e) ?_⟩
      refine ⟨_, rfl, j0, d0, g0, R.L, R.n, fewR R, turnR R, xs0, fsR R, R.good, rfl, hj0, hd0, hrn0, hrj0, hok.L, hri, hok.n1, hok.n6, fewP_le _ 0 (by decide) pok, (le12 (turnP_12 (n := R.n) _ 1 (by decide) pok)).1, f0.1, f0.2, fun key hk => fsR_lt hok (keysOf_mem hk).1 _, hg0, hup, by have := hok.g6; omega, hok.gn, fun H12 s12 => ?_⟩
      refine ⟨true, true, rfl, rfl, _, rfl, ?_⟩
      rw [decide_eq_true rfl]
      exact iteF ⟨⟨_, _, _, _, _, _, _, _, _, _, rfl⟩, seqN (.of s12) S11, T11.ext s12⟩
  · rintro σ H' ⟨⟨y1, y2, y3, y4, y5, y6, y7, y8, y9, y10, rfl⟩, _, _⟩
    exact qq H'
end

theorem all_mk {l : PySem.W.OpenLaw} {w : World} {K : PySem.W.Frag} {h : Heap} {mg : Str → Option Value} {fa f0 f1 f2 f3 f4 f5 f6 f7 f8 f9 f10 f11 f12 f13 f14 f15 f16 f17 f18 f19 f20 f21 f22 f23 f24 f25 f26 f27 f28 f29 f30 f31 f32 f33 f34 f35 f36 f37 f38 f39 f40 f41 f42 f43 f44 f45 f46 f47 f48 f49 : Addr} (X : K.In h) (G : h.Ns mainGlobals mg) (hfa : mg "law" = some (.ref fa))
    {od0 an0 od1 an1 od2 an2 od3 an3 od4 an4 od5 an5 od6 an6 od7 an7 od8 an8 od9 an9 od10 an10 od11 an11 od12 an12 od13 an13 od14 an14 od15 an15 od16 an16 od17 an17 od18 an18 od19 an19 od20 an20 od21 an21 od22 an22 od23 an23 od24 an24 od25 an25 od26 an26 od27 an27 od28 an28 od29 an29 od30 an30 od31 an31 od32 an32 od33 an33 od34 an34 od35 an35 od36 an36 od37 an37 od38 an38 od39 an39 od40 an40 od41 an41 od42 an42 od43 an43 od44 an44 od45 an45 od46 an46 od47 an47 od48 an48 od49 an49 : Option Addr} {sl0 sl1 sl2 sl3 sl4 sl5 sl6 sl7 sl8 sl9 sl10 sl11 sl12 sl13 sl14 sl15 sl16 sl17 sl18 sl19 sl20 sl21 sl22 sl23 sl24 sl25 sl26 sl27 sl28 sl29 sl30 sl31 sl32 sl33 sl34 sl35 sl36 sl37 sl38 sl39 sl40 sl41 sl42 sl43 sl44 sl45 sl46 sl47 sl48 sl49 : Array (Option Value)} {oc0 kV0 dc0 pm0 ct0 cd0 oc1 kV1 dc1 pm1 ct1 cd1 oc2 kV2 dc2 pm2 ct2 cd2 oc3 kV3 dc3 pm3 ct3 cd3 oc4 kV4 dc4 pm4 ct4 cd4 oc5 kV5 dc5 pm5 ct5 cd5 oc6 kV6 dc6 pm6 ct6 cd6 oc7 kV7 dc7 pm7 ct7 cd7 oc8 kV8 dc8 pm8 ct8 cd8 oc9 kV9 dc9 pm9 ct9 cd9 oc10 kV10 dc10 pm10 ct10 cd10 oc11 kV11 dc11 pm11 ct11 cd11 oc12 kV12 dc12 pm12 ct12 cd12 oc13 kV13 dc13 pm13 ct13 cd13 oc14 kV14 dc14 pm14 ct14 cd14 oc15 kV15 dc15 pm15 ct15 cd15 oc16 kV16 dc16 pm16 ct16 cd16 oc17 kV17 dc17 pm17 ct17 cd17 oc18 kV18 dc18 pm18 ct18 cd18 oc19 kV19 dc19 pm19 ct19 cd19 oc20 kV20 dc20 pm20 ct20 cd20 oc21 kV21 dc21 pm21 ct21 cd21 oc22 kV22 dc22 pm22 ct22 cd22 oc23 kV23 dc23 pm23 ct23 oc24 kV24 dc24 pm24 ct24 oc25 kV25 dc25 pm25 ct25 cd25 oc26 kV26 dc26 pm26 ct26 cd26 oc27 kV27 dc27 pm27 ct27 cd27 oc28 kV28 dc28 pm28 ct28 cd28 oc29 kV29 dc29 pm29 ct29 cd29 oc30 kV30 dc30 pm30 ct30 oc31 kV31 dc31 pm31 ct31 cd31 oc32 kV32 dc32 pm32 ct32 oc33 kV33 dc33 pm33 ct33 cd33 oc34 kV34 dc34 pm34 ct34 cd34 oc35 kV35 dc35 pm35 ct35 cd35 oc36 kV36 dc36 pm36 ct36 cd36 oc37 kV37 dc37 pm37 ct37 cd37 oc38 kV38 dc38 pm38 ct38 cd38 oc39 kV39 dc39 pm39 ct39 cd39 oc40 kV40 dc40 pm40 ct40 cd40 oc41 kV41 dc41 pm41 ct41 cd41 oc42 kV42 dc42 pm42 ct42 cd42 oc43 kV43 dc43 pm43 ct43 cd43 oc44 kV44 dc44 pm44 ct44 cd44 oc45 kV45 dc45 pm45 ct45 cd45 oc46 kV46 dc46 pm46 ct46 cd46 oc47 kV47 dc47 pm47 ct47 cd47 oc48 kV48 dc48 pm48 ct48 cd48 oc49 kV49 dc49 pm49 ct49 cd49 : Value} {c23 P23 c24 P24 c30 P30 c32 P32 : Addr}
    (a0 : PySem.W.nsIn K mainGlobals "is_whole" = some (some (.ref f0))) (l0 : K.lookup f0 = some ⟨oc0, od0, .func (PySem.W.fnOf "is_whole" "is_whole" (defArgs s_is_whole) (defBody s_is_whole) (defScope s_is_whole) .none kV0 dc0 pm0 an0 cd0 ct0), sl0⟩) (d0 : PySem.W.codeIn K cd0 "is_whole" = true) (k0 : PySem.W.keepIn K (.ref f0) = true)
    (a1 : PySem.W.nsIn K mainGlobals "is_whole_within" = some (some (.ref f1))) (l1 : K.lookup f1 = some ⟨oc1, od1, .func (PySem.W.fnOf "is_whole_within" "is_whole_within" (defArgs s_is_whole_within) (defBody s_is_whole_within) (defScope s_is_whole_within) .none kV1 dc1 pm1 an1 cd1 ct1), sl1⟩) (d1 : PySem.W.codeIn K cd1 "is_whole_within" = true) (k1 : PySem.W.keepIn K (.ref f1) = true)
    (a2 : PySem.W.nsIn K mainGlobals "is_letter" = some (some (.ref f2))) (l2 : K.lookup f2 = some ⟨oc2, od2, .func (PySem.W.fnOf "is_letter" "is_letter" (defArgs s_is_letter) (defBody s_is_letter) (defScope s_is_letter) .none kV2 dc2 pm2 an2 cd2 ct2), sl2⟩) (d2 : PySem.W.codeIn K cd2 "is_letter" = true) (k2 : PySem.W.keepIn K (.ref f2) = true)
    (a3 : PySem.W.nsIn K mainGlobals "is_tree" = some (some (.ref f3))) (l3 : K.lookup f3 = some ⟨oc3, od3, .func (PySem.W.fnOf "is_tree" "is_tree" (defArgs s_is_tree) (defBody s_is_tree) (defScope s_is_tree) .none kV3 dc3 pm3 an3 cd3 ct3), sl3⟩) (d3 : PySem.W.codeIn K cd3 "is_tree" = true) (k3 : PySem.W.keepIn K (.ref f3) = true)
    (a4 : PySem.W.nsIn K mainGlobals "_is_part" = some (some (.ref f4))) (l4 : K.lookup f4 = some ⟨oc4, od4, .func (PySem.W.fnOf "_is_part" "_is_part" (defArgs s__is_part) (defBody s__is_part) (defScope s__is_part) .none kV4 dc4 pm4 an4 cd4 ct4), sl4⟩) (d4 : PySem.W.codeIn K cd4 "_is_part" = true) (k4 : PySem.W.keepIn K (.ref f4) = true)
    (a5 : PySem.W.nsIn K mainGlobals "check_tree" = some (some (.ref f5))) (l5 : K.lookup f5 = some ⟨oc5, od5, .func (PySem.W.fnOf "check_tree" "check_tree" (defArgs s_check_tree) (defBody s_check_tree) (defScope s_check_tree) .none kV5 dc5 pm5 an5 cd5 ct5), sl5⟩) (d5 : PySem.W.codeIn K cd5 "check_tree" = true) (k5 : PySem.W.keepIn K (.ref f5) = true)
    (a6 : PySem.W.nsIn K mainGlobals "parts_upward" = some (some (.ref f6))) (l6 : K.lookup f6 = some ⟨oc6, od6, .func (PySem.W.fnOf "parts_upward" "parts_upward" (defArgs s_parts_upward) (defBody s_parts_upward) (defScope s_parts_upward) .none kV6 dc6 pm6 an6 cd6 ct6), sl6⟩) (d6 : PySem.W.codeIn K cd6 "parts_upward" = true) (k6 : PySem.W.keepIn K (.ref f6) = true)
    (a7 : PySem.W.nsIn K mainGlobals "built_upward" = some (some (.ref f7))) (l7 : K.lookup f7 = some ⟨oc7, od7, .func (PySem.W.fnOf "built_upward" "built_upward" (defArgs s_built_upward) (defBody s_built_upward) (defScope s_built_upward) .none kV7 dc7 pm7 an7 cd7 ct7), sl7⟩) (d7 : PySem.W.codeIn K cd7 "built_upward" = true) (k7 : PySem.W.keepIn K (.ref f7) = true)
    (a8 : PySem.W.nsIn K mainGlobals "is_judge" = some (some (.ref f8))) (l8 : K.lookup f8 = some ⟨oc8, od8, .func (PySem.W.fnOf "is_judge" "is_judge" (defArgs s_is_judge) (defBody s_is_judge) (defScope s_is_judge) .none kV8 dc8 pm8 an8 cd8 ct8), sl8⟩) (d8 : PySem.W.codeIn K cd8 "is_judge" = true) (k8 : PySem.W.keepIn K (.ref f8) = true)
    (a9 : PySem.W.nsIn K mainGlobals "may_have_table" = some (some (.ref f9))) (l9 : K.lookup f9 = some ⟨oc9, od9, .func (PySem.W.fnOf "may_have_table" "may_have_table" (defArgs s_may_have_table) (defBody s_may_have_table) (defScope s_may_have_table) .none kV9 dc9 pm9 an9 cd9 ct9), sl9⟩) (d9 : PySem.W.codeIn K cd9 "may_have_table" = true) (k9 : PySem.W.keepIn K (.ref f9) = true)
    (a10 : PySem.W.nsIn K mainGlobals "are_letters" = some (some (.ref f10))) (l10 : K.lookup f10 = some ⟨oc10, od10, .func (PySem.W.fnOf "are_letters" "are_letters" (defArgs s_are_letters) (defBody s_are_letters) (defScope s_are_letters) .none kV10 dc10 pm10 an10 cd10 ct10), sl10⟩) (d10 : PySem.W.codeIn K cd10 "are_letters" = true) (k10 : PySem.W.keepIn K (.ref f10) = true)
    (a11 : PySem.W.nsIn K mainGlobals "are_rising_states" = some (some (.ref f11))) (l11 : K.lookup f11 = some ⟨oc11, od11, .func (PySem.W.fnOf "are_rising_states" "are_rising_states" (defArgs s_are_rising_states) (defBody s_are_rising_states) (defScope s_are_rising_states) .none kV11 dc11 pm11 an11 cd11 ct11), sl11⟩) (d11 : PySem.W.codeIn K cd11 "are_rising_states" = true) (k11 : PySem.W.keepIn K (.ref f11) = true)
    (a12 : PySem.W.nsIn K mainGlobals "_rises" = some (some (.ref f12))) (l12 : K.lookup f12 = some ⟨oc12, od12, .func (PySem.W.fnOf "_rises" "_rises" (defArgs s__rises) (defBody s__rises) (defScope s__rises) .none kV12 dc12 pm12 an12 cd12 ct12), sl12⟩) (d12 : PySem.W.codeIn K cd12 "_rises" = true) (k12 : PySem.W.keepIn K (.ref f12) = true)
    (a13 : PySem.W.nsIn K mainGlobals "tuples_due" = some (some (.ref f13))) (l13 : K.lookup f13 = some ⟨oc13, od13, .func (PySem.W.fnOf "tuples_due" "tuples_due" (defArgs s_tuples_due) (defBody s_tuples_due) (defScope s_tuples_due) .none kV13 dc13 pm13 an13 cd13 ct13), sl13⟩) (d13 : PySem.W.codeIn K cd13 "tuples_due" = true) (k13 : PySem.W.keepIn K (.ref f13) = true)
    (a14 : PySem.W.nsIn K mainGlobals "_is_table" = some (some (.ref f14))) (l14 : K.lookup f14 = some ⟨oc14, od14, .func (PySem.W.fnOf "_is_table" "_is_table" (defArgs s__is_table) (defBody s__is_table) (defScope s__is_table) .none kV14 dc14 pm14 an14 cd14 ct14), sl14⟩) (d14 : PySem.W.codeIn K cd14 "_is_table" = true) (k14 : PySem.W.keepIn K (.ref f14) = true)
    (a15 : PySem.W.nsIn K mainGlobals "_is_key" = some (some (.ref f15))) (l15 : K.lookup f15 = some ⟨oc15, od15, .func (PySem.W.fnOf "_is_key" "_is_key" (defArgs s__is_key) (defBody s__is_key) (defScope s__is_key) .none kV15 dc15 pm15 an15 cd15 ct15), sl15⟩) (d15 : PySem.W.codeIn K cd15 "_is_key" = true) (k15 : PySem.W.keepIn K (.ref f15) = true)
    (a16 : PySem.W.nsIn K mainGlobals "class_of" = some (some (.ref f16))) (l16 : K.lookup f16 = some ⟨oc16, od16, .func (PySem.W.fnOf "class_of" "class_of" (defArgs s_class_of) (defBody s_class_of) (defScope s_class_of) .none kV16 dc16 pm16 an16 cd16 ct16), sl16⟩) (d16 : PySem.W.codeIn K cd16 "class_of" = true) (k16 : PySem.W.keepIn K (.ref f16) = true)
    (a17 : PySem.W.nsIn K mainGlobals "class_rows" = some (some (.ref f17))) (l17 : K.lookup f17 = some ⟨oc17, od17, .func (PySem.W.fnOf "class_rows" "class_rows" (defArgs s_class_rows) (defBody s_class_rows) (defScope s_class_rows) .none kV17 dc17 pm17 an17 cd17 ct17), sl17⟩) (d17 : PySem.W.codeIn K cd17 "class_rows" = true) (k17 : PySem.W.keepIn K (.ref f17) = true)
    (a18 : PySem.W.nsIn K mainGlobals "keys_due" = some (some (.ref f18))) (l18 : K.lookup f18 = some ⟨oc18, od18, .func (PySem.W.fnOf "keys_due" "keys_due" (defArgs s_keys_due) (defBody s_keys_due) (defScope s_keys_due) .none kV18 dc18 pm18 an18 cd18 ct18), sl18⟩) (d18 : PySem.W.codeIn K cd18 "keys_due" = true) (k18 : PySem.W.keepIn K (.ref f18) = true)
    (a19 : PySem.W.nsIn K mainGlobals "table_made" = some (some (.ref f19))) (l19 : K.lookup f19 = some ⟨oc19, od19, .func (PySem.W.fnOf "table_made" "table_made" (defArgs s_table_made) (defBody s_table_made) (defScope s_table_made) .none kV19 dc19 pm19 an19 cd19 ct19), sl19⟩) (d19 : PySem.W.codeIn K cd19 "table_made" = true) (k19 : PySem.W.keepIn K (.ref f19) = true)
    (a20 : PySem.W.nsIn K mainGlobals "state_by_numbers" = some (some (.ref f20))) (l20 : K.lookup f20 = some ⟨oc20, od20, .func (PySem.W.fnOf "state_by_numbers" "state_by_numbers" (defArgs s_state_by_numbers) (defBody s_state_by_numbers) (defScope s_state_by_numbers) .none kV20 dc20 pm20 an20 cd20 ct20), sl20⟩) (d20 : PySem.W.codeIn K cd20 "state_by_numbers" = true) (k20 : PySem.W.keepIn K (.ref f20) = true)
    (a21 : PySem.W.nsIn K mainGlobals "_numbers" = some (some (.ref f21))) (l21 : K.lookup f21 = some ⟨oc21, od21, .func (PySem.W.fnOf "_numbers" "_numbers" (defArgs s__numbers) (defBody s__numbers) (defScope s__numbers) .none kV21 dc21 pm21 an21 cd21 ct21), sl21⟩) (d21 : PySem.W.codeIn K cd21 "_numbers" = true) (k21 : PySem.W.keepIn K (.ref f21) = true)
    (a22 : PySem.W.nsIn K mainGlobals "check_letters" = some (some (.ref f22))) (l22 : K.lookup f22 = some ⟨oc22, od22, .func (PySem.W.fnOf "check_letters" "check_letters" (defArgs s_check_letters) (defBody s_check_letters) (defScope s_check_letters) .none kV22 dc22 pm22 an22 cd22 ct22), sl22⟩) (d22 : PySem.W.codeIn K cd22 "check_letters" = true) (k22 : PySem.W.keepIn K (.ref f22) = true)
    (a23 : PySem.W.nsIn K mainGlobals "states_upward" = some (some (.ref f23))) (l23 : K.lookup f23 = some ⟨oc23, od23, .func (PySem.W.fnOf "states_upward" "states_upward" (defArgs s_states_upward) (defBody s_states_upward) (defScope s_states_upward) .none kV23 dc23 pm23 an23 (.ref c23) ct23), sl23⟩) (d23 : PySem.W.codeIn K (.ref c23) "states_upward" = true) (k23 : PySem.W.keepIn K (.ref f23) = true)
    (a24 : PySem.W.nsIn K mainGlobals "part_states" = some (some (.ref f24))) (l24 : K.lookup f24 = some ⟨oc24, od24, .func (PySem.W.fnOf "part_states" "part_states" (defArgs s_part_states) (defBody s_part_states) (defScope s_part_states) .none kV24 dc24 pm24 an24 (.ref c24) ct24), sl24⟩) (d24 : PySem.W.codeIn K (.ref c24) "part_states" = true) (k24 : PySem.W.keepIn K (.ref f24) = true)
    (a25 : PySem.W.nsIn K mainGlobals "state_of" = some (some (.ref f25))) (l25 : K.lookup f25 = some ⟨oc25, od25, .func (PySem.W.fnOf "state_of" "state_of" (defArgs s_state_of) (defBody s_state_of) (defScope s_state_of) .none kV25 dc25 pm25 an25 cd25 ct25), sl25⟩) (d25 : PySem.W.codeIn K cd25 "state_of" = true) (k25 : PySem.W.keepIn K (.ref f25) = true)
    (a26 : PySem.W.nsIn K mainGlobals "lets_by" = some (some (.ref f26))) (l26 : K.lookup f26 = some ⟨oc26, od26, .func (PySem.W.fnOf "lets_by" "lets_by" (defArgs s_lets_by) (defBody s_lets_by) (defScope s_lets_by) .none kV26 dc26 pm26 an26 cd26 ct26), sl26⟩) (d26 : PySem.W.codeIn K cd26 "lets_by" = true) (k26 : PySem.W.keepIn K (.ref f26) = true)
    (a27 : PySem.W.nsIn K mainGlobals "condition_holds" = some (some (.ref f27))) (l27 : K.lookup f27 = some ⟨oc27, od27, .func (PySem.W.fnOf "condition_holds" "condition_holds" (defArgs s_condition_holds) (defBody s_condition_holds) (defScope s_condition_holds) .none kV27 dc27 pm27 an27 cd27 ct27), sl27⟩) (d27 : PySem.W.codeIn K cd27 "condition_holds" = true) (k27 : PySem.W.keepIn K (.ref f27) = true)
    (a28 : PySem.W.nsIn K mainGlobals "_weighed" = some (some (.ref f28))) (l28 : K.lookup f28 = some ⟨oc28, od28, .func (PySem.W.fnOf "_weighed" "_weighed" (defArgs s__weighed) (defBody s__weighed) (defScope s__weighed) .none kV28 dc28 pm28 an28 cd28 ct28), sl28⟩) (d28 : PySem.W.codeIn K cd28 "_weighed" = true) (k28 : PySem.W.keepIn K (.ref f28) = true)
    (a29 : PySem.W.nsIn K mainGlobals "_state_by_rows" = some (some (.ref f29))) (l29 : K.lookup f29 = some ⟨oc29, od29, .func (PySem.W.fnOf "_state_by_rows" "_state_by_rows" (defArgs s__state_by_rows) (defBody s__state_by_rows) (defScope s__state_by_rows) .none kV29 dc29 pm29 an29 cd29 ct29), sl29⟩) (d29 : PySem.W.codeIn K cd29 "_state_by_rows" = true) (k29 : PySem.W.keepIn K (.ref f29) = true)
    (a30 : PySem.W.nsIn K mainGlobals "state_by_rules" = some (some (.ref f30))) (l30 : K.lookup f30 = some ⟨oc30, od30, .func (PySem.W.fnOf "state_by_rules" "state_by_rules" (defArgs s_state_by_rules) (defBody s_state_by_rules) (defScope s_state_by_rules) .none kV30 dc30 pm30 an30 (.ref c30) ct30), sl30⟩) (d30 : PySem.W.codeIn K (.ref c30) "state_by_rules" = true) (k30 : PySem.W.keepIn K (.ref f30) = true)
    (a31 : PySem.W.nsIn K mainGlobals "rules_let_by" = some (some (.ref f31))) (l31 : K.lookup f31 = some ⟨oc31, od31, .func (PySem.W.fnOf "rules_let_by" "rules_let_by" (defArgs s_rules_let_by) (defBody s_rules_let_by) (defScope s_rules_let_by) .none kV31 dc31 pm31 an31 cd31 ct31), sl31⟩) (d31 : PySem.W.codeIn K cd31 "rules_let_by" = true) (k31 : PySem.W.keepIn K (.ref f31) = true)
    (a32 : PySem.W.nsIn K mainGlobals "judge_made" = some (some (.ref f32))) (l32 : K.lookup f32 = some ⟨oc32, od32, .func (PySem.W.fnOf "judge_made" "judge_made" (defArgs s_judge_made) (defBody s_judge_made) (defScope s_judge_made) .none kV32 dc32 pm32 an32 (.ref c32) ct32), sl32⟩) (d32 : PySem.W.codeIn K (.ref c32) "judge_made" = true) (k32 : PySem.W.keepIn K (.ref f32) = true)
    (a33 : PySem.W.nsIn K mainGlobals "_few_and_turn" = some (some (.ref f33))) (l33 : K.lookup f33 = some ⟨oc33, od33, .func (PySem.W.fnOf "_few_and_turn" "_few_and_turn" (defArgs s__few_and_turn) (defBody s__few_and_turn) (defScope s__few_and_turn) .none kV33 dc33 pm33 an33 cd33 ct33), sl33⟩) (d33 : PySem.W.codeIn K cd33 "_few_and_turn" = true) (k33 : PySem.W.keepIn K (.ref f33) = true)
    (a34 : PySem.W.nsIn K mainGlobals "_plain_ones" = some (some (.ref f34))) (l34 : K.lookup f34 = some ⟨oc34, od34, .func (PySem.W.fnOf "_plain_ones" "_plain_ones" (defArgs s__plain_ones) (defBody s__plain_ones) (defScope s__plain_ones) .none kV34 dc34 pm34 an34 cd34 ct34), sl34⟩) (d34 : PySem.W.codeIn K cd34 "_plain_ones" = true) (k34 : PySem.W.keepIn K (.ref f34) = true)
    (a35 : PySem.W.nsIn K mainGlobals "_law_cell_at" = some (some (.ref f35))) (l35 : K.lookup f35 = some ⟨oc35, od35, .func (PySem.W.fnOf "_law_cell_at" "_law_cell_at" (defArgs s__law_cell_at) (defBody s__law_cell_at) (defScope s__law_cell_at) .none kV35 dc35 pm35 an35 cd35 ct35), sl35⟩) (d35 : PySem.W.codeIn K cd35 "_law_cell_at" = true) (k35 : PySem.W.keepIn K (.ref f35) = true)
    (a36 : PySem.W.nsIn K mainGlobals "_law_numbers" = some (some (.ref f36))) (l36 : K.lookup f36 = some ⟨oc36, od36, .func (PySem.W.fnOf "_law_numbers" "_law_numbers" (defArgs s__law_numbers) (defBody s__law_numbers) (defScope s__law_numbers) .none kV36 dc36 pm36 an36 cd36 ct36), sl36⟩) (d36 : PySem.W.codeIn K cd36 "_law_numbers" = true) (k36 : PySem.W.keepIn K (.ref f36) = true)
    (a37 : PySem.W.nsIn K mainGlobals "_law_deck" = some (some (.ref f37))) (l37 : K.lookup f37 = some ⟨oc37, od37, .func (PySem.W.fnOf "_law_deck" "_law_deck" (defArgs s__law_deck) (defBody s__law_deck) (defScope s__law_deck) .none kV37 dc37 pm37 an37 cd37 ct37), sl37⟩) (d37 : PySem.W.codeIn K cd37 "_law_deck" = true) (k37 : PySem.W.keepIn K (.ref f37) = true)
    (a38 : PySem.W.nsIn K mainGlobals "_law_take" = some (some (.ref f38))) (l38 : K.lookup f38 = some ⟨oc38, od38, .func (PySem.W.fnOf "_law_take" "_law_take" (defArgs s__law_take) (defBody s__law_take) (defScope s__law_take) .none kV38 dc38 pm38 an38 cd38 ct38), sl38⟩) (d38 : PySem.W.codeIn K cd38 "_law_take" = true) (k38 : PySem.W.keepIn K (.ref f38) = true)
    (a39 : PySem.W.nsIn K mainGlobals "_law_weights" = some (some (.ref f39))) (l39 : K.lookup f39 = some ⟨oc39, od39, .func (PySem.W.fnOf "_law_weights" "_law_weights" (defArgs s__law_weights) (defBody s__law_weights) (defScope s__law_weights) .none kV39 dc39 pm39 an39 cd39 ct39), sl39⟩) (d39 : PySem.W.codeIn K cd39 "_law_weights" = true) (k39 : PySem.W.keepIn K (.ref f39) = true)
    (a40 : PySem.W.nsIn K mainGlobals "_law_condition" = some (some (.ref f40))) (l40 : K.lookup f40 = some ⟨oc40, od40, .func (PySem.W.fnOf "_law_condition" "_law_condition" (defArgs s__law_condition) (defBody s__law_condition) (defScope s__law_condition) .none kV40 dc40 pm40 an40 cd40 ct40), sl40⟩) (d40 : PySem.W.codeIn K cd40 "_law_condition" = true) (k40 : PySem.W.keepIn K (.ref f40) = true)
    (a41 : PySem.W.nsIn K mainGlobals "_law_rules" = some (some (.ref f41))) (l41 : K.lookup f41 = some ⟨oc41, od41, .func (PySem.W.fnOf "_law_rules" "_law_rules" (defArgs s__law_rules) (defBody s__law_rules) (defScope s__law_rules) .none kV41 dc41 pm41 an41 cd41 ct41), sl41⟩) (d41 : PySem.W.codeIn K cd41 "_law_rules" = true) (k41 : PySem.W.keepIn K (.ref f41) = true)
    (a42 : PySem.W.nsIn K mainGlobals "_law_tree" = some (some (.ref f42))) (l42 : K.lookup f42 = some ⟨oc42, od42, .func (PySem.W.fnOf "_law_tree" "_law_tree" (defArgs s__law_tree) (defBody s__law_tree) (defScope s__law_tree) .none kV42 dc42 pm42 an42 cd42 ct42), sl42⟩) (d42 : PySem.W.codeIn K cd42 "_law_tree" = true) (k42 : PySem.W.keepIn K (.ref f42) = true)
    (a43 : PySem.W.nsIn K mainGlobals "_law_judged" = some (some (.ref f43))) (l43 : K.lookup f43 = some ⟨oc43, od43, .func (PySem.W.fnOf "_law_judged" "_law_judged" (defArgs s__law_judged) (defBody s__law_judged) (defScope s__law_judged) .none kV43 dc43 pm43 an43 cd43 ct43), sl43⟩) (d43 : PySem.W.codeIn K cd43 "_law_judged" = true) (k43 : PySem.W.keepIn K (.ref f43) = true)
    (a44 : PySem.W.nsIn K mainGlobals "_law_lesser" = some (some (.ref f44))) (l44 : K.lookup f44 = some ⟨oc44, od44, .func (PySem.W.fnOf "_law_lesser" "_law_lesser" (defArgs s__law_lesser) (defBody s__law_lesser) (defScope s__law_lesser) .none kV44 dc44 pm44 an44 cd44 ct44), sl44⟩) (d44 : PySem.W.codeIn K cd44 "_law_lesser" = true) (k44 : PySem.W.keepIn K (.ref f44) = true)
    (a45 : PySem.W.nsIn K mainGlobals "_law_lesser_rules" = some (some (.ref f45))) (l45 : K.lookup f45 = some ⟨oc45, od45, .func (PySem.W.fnOf "_law_lesser_rules" "_law_lesser_rules" (defArgs s__law_lesser_rules) (defBody s__law_lesser_rules) (defScope s__law_lesser_rules) .none kV45 dc45 pm45 an45 cd45 ct45), sl45⟩) (d45 : PySem.W.codeIn K cd45 "_law_lesser_rules" = true) (k45 : PySem.W.keepIn K (.ref f45) = true)
    (a46 : PySem.W.nsIn K mainGlobals "_law_made" = some (some (.ref f46))) (l46 : K.lookup f46 = some ⟨oc46, od46, .func (PySem.W.fnOf "_law_made" "_law_made" (defArgs s__law_made) (defBody s__law_made) (defScope s__law_made) .none kV46 dc46 pm46 an46 cd46 ct46), sl46⟩) (d46 : PySem.W.codeIn K cd46 "_law_made" = true) (k46 : PySem.W.keepIn K (.ref f46) = true)
    (a47 : PySem.W.nsIn K mainGlobals "_law_wide" = some (some (.ref f47))) (l47 : K.lookup f47 = some ⟨oc47, od47, .func (PySem.W.fnOf "_law_wide" "_law_wide" (defArgs s__law_wide) (defBody s__law_wide) (defScope s__law_wide) .none kV47 dc47 pm47 an47 cd47 ct47), sl47⟩) (d47 : PySem.W.codeIn K cd47 "_law_wide" = true) (k47 : PySem.W.keepIn K (.ref f47) = true)
    (a48 : PySem.W.nsIn K mainGlobals "_law_agrees" = some (some (.ref f48))) (l48 : K.lookup f48 = some ⟨oc48, od48, .func (PySem.W.fnOf "_law_agrees" "_law_agrees" (defArgs s__law_agrees) (defBody s__law_agrees) (defScope s__law_agrees) .none kV48 dc48 pm48 an48 cd48 ct48), sl48⟩) (d48 : PySem.W.codeIn K cd48 "_law_agrees" = true) (k48 : PySem.W.keepIn K (.ref f48) = true)
    (a49 : PySem.W.nsIn K mainGlobals "law" = some (some (.ref f49))) (l49 : K.lookup f49 = some ⟨oc49, od49, .func (PySem.W.fnOf "law" "law" (defArgs s_law) (defBody s_law) (defScope s_law) .none kV49 dc49 pm49 an49 cd49 ct49), sl49⟩) (d49 : PySem.W.codeIn K cd49 "law" = true) (k49 : PySem.W.keepIn K (.ref f49) = true)
    {tk_MOST_STATES : Tok}
    {tk_MOST_FEW : Tok}
    {tk_MOST_TURN : Tok}
    {tk_MOST_TUPLES : Tok}
    {a_MADE_OF_OTHERS : Addr} {es_MADE_OF_OTHERS : Array DictEntry} {n_MADE_OF_OTHERS : Nat}
    (ak_MOST_STATES : PySem.W.nsIn K mainGlobals "MOST_STATES" = some (some (.int 6 tk_MOST_STATES)))
    (ak_MOST_FEW : PySem.W.nsIn K mainGlobals "MOST_FEW" = some (some (.int 4 tk_MOST_FEW)))
    (ak_MOST_TURN : PySem.W.nsIn K mainGlobals "MOST_TURN" = some (some (.int 4 tk_MOST_TURN)))
    (ak_MOST_TUPLES : PySem.W.nsIn K mainGlobals "MOST_TUPLES" = some (some (.int 600 tk_MOST_TUPLES)))
    (ak_MADE_OF_OTHERS : PySem.W.nsIn K mainGlobals "MADE_OF_OTHERS" = some (some (.ref a_MADE_OF_OTHERS)))
    (lk_MADE_OF_OTHERS : K.lookup a_MADE_OF_OTHERS = some ⟨.type "dict", none, .dict es_MADE_OF_OTHERS n_MADE_OF_OTHERS, #[]⟩) (kk_MADE_OF_OTHERS : PySem.W.KeysLit w.params es_MADE_OF_OTHERS.toList) (ek_MADE_OF_OTHERS : Ents es_MADE_OF_OTHERS.toList [(Str.ofString "not", 2), (Str.ofString "both", 3), (Str.ofString "either", 3)]) (sk_MADE_OF_OTHERS : (a_MADE_OF_OTHERS == sysModules) = false)
    (ii_lcm : PySem.W.nsIn K mainGlobals "lcm" = some (some (.builtin "math.lcm")))
    (t23 : PySem.W.tabIn K "states_upward" = some (c23, P23)) (u23 : K.lookup P23 = none)
    (t24 : PySem.W.tabIn K "part_states" = some (c24, P24)) (u24 : K.lookup P24 = none)
    (t30 : PySem.W.tabIn K "state_by_rules" = some (c30, P30)) (u30 : K.lookup P30 = none)
    (t32 : PySem.W.tabIn K "judge_made" = some (c32, P32)) (u32 : K.lookup P32 = none)
    (v23_24 : P23 ≠ P24)
    (v23_30 : P23 ≠ P30)
    (v24_30 : P24 ≠ P30)
    (v23_32 : P23 ≠ P32)
    (v24_32 : P24 ≠ P32)
    (v30_32 : P30 ≠ P32)
    (z_all : PySem.W.nsIn K mainGlobals "all" = some none)
    (z_bool : PySem.W.nsIn K mainGlobals "bool" = some none)
    (z_dict : PySem.W.nsIn K mainGlobals "dict" = some none)
    (z_enumerate : PySem.W.nsIn K mainGlobals "enumerate" = some none)
    (z_int : PySem.W.nsIn K mainGlobals "int" = some none)
    (z_isinstance : PySem.W.nsIn K mainGlobals "isinstance" = some none)
    (z_len : PySem.W.nsIn K mainGlobals "len" = some none)
    (z_list : PySem.W.nsIn K mainGlobals "list" = some none)
    (z_max : PySem.W.nsIn K mainGlobals "max" = some none)
    (z_min : PySem.W.nsIn K mainGlobals "min" = some none)
    (z_range : PySem.W.nsIn K mainGlobals "range" = some none)
    (z_str : PySem.W.nsIn K mainGlobals "str" = some none)
    (z_sum : PySem.W.nsIn K mainGlobals "sum" = some none)
    (z_tuple : PySem.W.nsIn K mainGlobals "tuple" = some none)
    (z_zip : PySem.W.nsIn K mainGlobals "zip" = some none)
    {C_NoTree C_NoLetter C_TooMany : Addr}
    (ac_NoTree : PySem.W.nsIn K mainGlobals "NoTree" = some (some (.ref C_NoTree)))
    (k_NoTreec : PySem.W.keepIn K (.ref C_NoTree) = true)
    (ac_NoLetter : PySem.W.nsIn K mainGlobals "NoLetter" = some (some (.ref C_NoLetter)))
    (k_NoLetterc : PySem.W.keepIn K (.ref C_NoLetter) = true)
    (ac_TooMany : PySem.W.nsIn K mainGlobals "TooMany" = some (some (.ref C_TooMany)))
    (k_TooManyc : PySem.W.keepIn K (.ref C_TooMany) = true)
    (x_NoTreec : PySem.W.excIn K C_NoTree [.type "ValueError", .type "Exception", .type "BaseException", .type "object"] "ValueError.__new__" = true)
    (b_NoTreec : PySem.W.subIn K (.ref C_NoTree) (.type "BaseException") = some true)
    (t_NoTreec : PySem.W.typeIn K (.ref C_NoTree) = some (.type "type"))
    (E_NoTreec : ExcC K C_NoTree)
    (em_NoTree_TooManyc : PySem.W.exmOne K (.ref C_NoTree) (.ref C_TooMany) = some false)
    (x_NoLetterc : PySem.W.excIn K C_NoLetter [.type "ValueError", .type "Exception", .type "BaseException", .type "object"] "ValueError.__new__" = true)
    (b_NoLetterc : PySem.W.subIn K (.ref C_NoLetter) (.type "BaseException") = some true)
    (t_NoLetterc : PySem.W.typeIn K (.ref C_NoLetter) = some (.type "type"))
    (E_NoLetterc : ExcC K C_NoLetter)
    (em_NoLetter_TooManyc : PySem.W.exmOne K (.ref C_NoLetter) (.ref C_TooMany) = some false)
    (x_TooManyc : PySem.W.excIn K C_TooMany [.type "ValueError", .type "Exception", .type "BaseException", .type "object"] "ValueError.__new__" = true)
    (b_TooManyc : PySem.W.subIn K (.ref C_TooMany) (.type "BaseException") = some true)
    (t_TooManyc : PySem.W.typeIn K (.ref C_TooMany) = some (.type "type"))
    (E_TooManyc : ExcC K C_TooMany)
    (em_TooMany_TooManyc : PySem.W.exmOne K (.ref C_TooMany) (.ref C_TooMany) = some true)
    : LawT l w K 60 "script" mg fa [("states_upward", c23, P23), ("part_states", c24, P24), ("state_by_rules", c30, P30), ("judge_made", c32, P32)] := by
  have e := hfa.symm.trans (PySem.W.mg_of X G a49)
  cases e
  have F0 := fun_mk (st := s_is_whole) l0 d0 k0
  have b0 := F0.binds (ps := ["thing"]) fun _ _ _ _ _ _ us hl => match us, hl with | [_], _ => rfl
  have F1 := fun_mk (st := s_is_whole_within) l1 d1 k1
  have b1 := F1.binds (ps := ["thing", "low", "high"]) fun _ _ _ _ _ _ us hl => match us, hl with | [_, _, _], _ => rfl
  have F2 := fun_mk (st := s_is_letter) l2 d2 k2
  have b2 := F2.binds (ps := ["thing"]) fun _ _ _ _ _ _ us hl => match us, hl with | [_], _ => rfl
  have F3 := fun_mk (st := s_is_tree) l3 d3 k3
  have b3 := F3.binds (ps := ["thing"]) fun _ _ _ _ _ _ us hl => match us, hl with | [_], _ => rfl
  have F4 := fun_mk (st := s__is_part) l4 d4 k4
  have b4 := F4.binds (ps := ["thing"]) fun _ _ _ _ _ _ us hl => match us, hl with | [_], _ => rfl
  have F5 := fun_mk (st := s_check_tree) l5 d5 k5
  have b5 := F5.binds (ps := ["thing"]) fun _ _ _ _ _ _ us hl => match us, hl with | [_], _ => rfl
  have F6 := fun_mk (st := s_parts_upward) l6 d6 k6
  have b6 := F6.binds (ps := ["tree"]) fun _ _ _ _ _ _ us hl => match us, hl with | [_], _ => rfl
  have F7 := fun_mk (st := s_built_upward) l7 d7 k7
  have b7 := F7.binds (ps := ["tree", "made"]) fun _ _ _ _ _ _ us hl => match us, hl with | [_, _], _ => rfl
  have F8 := fun_mk (st := s_is_judge) l8 d8 k8
  have b8 := F8.binds (ps := ["thing"]) fun _ _ _ _ _ _ us hl => match us, hl with | [_], _ => rfl
  have F9 := fun_mk (st := s_may_have_table) l9 d9 k9
  have b9 := F9.binds (ps := ["letters", "states", "few", "turn"]) fun _ _ _ _ _ _ us hl => match us, hl with | [_, _, _, _], _ => rfl
  have F10 := fun_mk (st := s_are_letters) l10 d10 k10
  have b10 := F10.binds (ps := ["thing"]) fun _ _ _ _ _ _ us hl => match us, hl with | [_], _ => rfl
  have F11 := fun_mk (st := s_are_rising_states) l11 d11 k11
  have b11 := F11.binds (ps := ["thing", "states"]) fun _ _ _ _ _ _ us hl => match us, hl with | [_, _], _ => rfl
  have F12 := fun_mk (st := s__rises) l12 d12 k12
  have b12 := F12.binds (ps := ["row"]) fun _ _ _ _ _ _ us hl => match us, hl with | [_], _ => rfl
  have F13 := fun_mk (st := s_tuples_due) l13 d13 k13
  have b13 := F13.binds (ps := ["letters", "states", "classes"]) fun _ _ _ _ _ _ us hl => match us, hl with | [_, _, _], _ => rfl
  have F14 := fun_mk (st := s__is_table) l14 d14 k14
  have b14 := F14.binds (ps := ["thing", "letters", "states", "classes"]) fun _ _ _ _ _ _ us hl => match us, hl with | [_, _, _, _], _ => rfl
  have F15 := fun_mk (st := s__is_key) l15 d15 k15
  have b15 := F15.binds (ps := ["thing", "letters", "states", "classes"]) fun _ _ _ _ _ _ us hl => match us, hl with | [_, _, _, _], _ => rfl
  have F16 := fun_mk (st := s_class_of) l16 d16 k16
  have b16 := F16.binds (ps := ["number", "few", "turn"]) fun _ _ _ _ _ _ us hl => match us, hl with | [_, _, _], _ => rfl
  have F17 := fun_mk (st := s_class_rows) l17 d17 k17
  have b17 := F17.binds (ps := ["states", "classes"]) fun _ _ _ _ _ _ us hl => match us, hl with | [_, _], _ => rfl
  have F18 := fun_mk (st := s_keys_due) l18 d18 k18
  have b18 := F18.binds (ps := ["letters", "states", "classes"]) fun _ _ _ _ _ _ us hl => match us, hl with | [_, _, _], _ => rfl
  have F19 := fun_mk (st := s_table_made) l19 d19 k19
  have b19 := F19.binds (ps := ["letters", "states", "few", "turn", "state_at"]) fun _ _ _ _ _ _ us hl => match us, hl with | [_, _, _, _, _], _ => rfl
  have F20 := fun_mk (st := s_state_by_numbers) l20 d20 k20
  have b20 := F20.binds (ps := ["judge", "letter", "numbers"]) fun _ _ _ _ _ _ us hl => match us, hl with | [_, _, _], _ => rfl
  have F21 := fun_mk (st := s__numbers) l21 d21 k21
  have b21 := F21.binds (ps := ["below", "states"]) fun _ _ _ _ _ _ us hl => match us, hl with | [_, _], _ => rfl
  have F22 := fun_mk (st := s_check_letters) l22 d22 k22
  have b22 := F22.binds (ps := ["parts", "letters"]) fun _ _ _ _ _ _ us hl => match us, hl with | [_, _], _ => rfl
  have F23 := fun_mk (st := s_states_upward) l23 d23 k23
  have b23 := F23.binds (ps := ["tree", "letters", "states", "state_at"]) fun _ _ _ _ _ _ us hl => match us, hl with | [_, _, _, _], _ => rfl
  have F24 := fun_mk (st := s_part_states) l24 d24 k24
  have b24 := F24.binds (ps := ["judge", "tree"]) fun _ _ _ _ _ _ us hl => match us, hl with | [_, _], _ => rfl
  have F25 := fun_mk (st := s_state_of) l25 d25 k25
  have b25 := F25.binds (ps := ["judge", "tree"]) fun _ _ _ _ _ _ us hl => match us, hl with | [_, _], _ => rfl
  have F26 := fun_mk (st := s_lets_by) l26 d26 k26
  have b26 := F26.binds (ps := ["judge", "tree"]) fun _ _ _ _ _ _ us hl => match us, hl with | [_, _], _ => rfl
  have F27 := fun_mk (st := s_condition_holds) l27 d27 k27
  have b27 := F27.binds (ps := ["condition", "numbers"]) fun _ _ _ _ _ _ us hl => match us, hl with | [_, _], _ => rfl
  have F28 := fun_mk (st := s__weighed) l28 d28 k28
  have b28 := F28.binds (ps := ["weights", "numbers"]) fun _ _ _ _ _ _ us hl => match us, hl with | [_, _], _ => rfl
  have F29 := fun_mk (st := s__state_by_rows) l29 d29 k29
  have b29 := F29.binds (ps := ["rows", "numbers"]) fun _ _ _ _ _ _ us hl => match us, hl with | [_, _], _ => rfl
  have F30 := fun_mk (st := s_state_by_rules) l30 d30 k30
  have b30 := F30.binds (ps := ["rules", "tree"]) fun _ _ _ _ _ _ us hl => match us, hl with | [_, _], _ => rfl
  have F31 := fun_mk (st := s_rules_let_by) l31 d31 k31
  have b31 := F31.binds (ps := ["rules", "tree"]) fun _ _ _ _ _ _ us hl => match us, hl with | [_, _], _ => rfl
  have F32 := fun_mk (st := s_judge_made) l32 d32 k32
  have b32 := F32.binds (ps := ["rules"]) fun _ _ _ _ _ _ us hl => match us, hl with | [_], _ => rfl
  have F33 := fun_mk (st := s__few_and_turn) l33 d33 k33
  have b33 := F33.binds (ps := ["conditions"]) fun _ _ _ _ _ _ us hl => match us, hl with | [_], _ => rfl
  have F34 := fun_mk (st := s__plain_ones) l34 d34 k34
  have b34 := F34.binds (ps := ["condition"]) fun _ _ _ _ _ _ us hl => match us, hl with | [_], _ => rfl
  have F35 := fun_mk (st := s__law_cell_at) l35 d35 k35
  have b35 := F35.binds (ps := ["script", "k"]) fun _ _ _ _ _ _ us hl => match us, hl with | [_, _], _ => rfl
  have F36 := fun_mk (st := s__law_numbers) l36 d36 k36
  have b36 := F36.binds (ps := ["cell", "many"]) fun _ _ _ _ _ _ us hl => match us, hl with | [_, _], _ => rfl
  have F37 := fun_mk (st := s__law_deck) l37 d37 k37
  have b37 := F37.binds (ps := ["cell", "many"]) fun _ _ _ _ _ _ us hl => match us, hl with | [_, _], _ => rfl
  have F38 := fun_mk (st := s__law_take) l38 d38 k38
  have b38 := F38.binds (ps := ["deck", "many"]) fun _ _ _ _ _ _ us hl => match us, hl with | [_, _], _ => rfl
  have F39 := fun_mk (st := s__law_weights) l39 d39 k39
  have b39 := F39.binds (ps := ["deck", "s"]) fun _ _ _ _ _ _ us hl => match us, hl with | [_, _], _ => rfl
  have F40 := fun_mk (st := s__law_condition) l40 d40 k40
  have b40 := F40.binds (ps := ["deck", "s", "deep"]) fun _ _ _ _ _ _ us hl => match us, hl with | [_, _, _], _ => rfl
  have F41 := fun_mk (st := s__law_rules) l41 d41 k41
  have b41 := F41.binds (ps := ["deck", "most"]) fun _ _ _ _ _ _ us hl => match us, hl with | [_, _], _ => rfl
  have F42 := fun_mk (st := s__law_tree) l42 d42 k42
  have b42 := F42.binds (ps := ["deck", "letters", "most"]) fun _ _ _ _ _ _ us hl => match us, hl with | [_, _, _], _ => rfl
  have F43 := fun_mk (st := s__law_judged) l43 d43 k43
  have b43 := F43.binds (ps := ["judge", "tree"]) fun _ _ _ _ _ _ us hl => match us, hl with | [_, _], _ => rfl
  have F44 := fun_mk (st := s__law_lesser) l44 d44 k44
  have b44 := F44.binds (ps := ["condition", "most"]) fun _ _ _ _ _ _ us hl => match us, hl with | [_, _], _ => rfl
  have F45 := fun_mk (st := s__law_lesser_rules) l45 d45 k45
  have b45 := F45.binds (ps := ["rules"]) fun _ _ _ _ _ _ us hl => match us, hl with | [_], _ => rfl
  have F46 := fun_mk (st := s__law_made) l46 d46 k46
  have b46 := F46.binds (ps := ["rules"]) fun _ _ _ _ _ _ us hl => match us, hl with | [_], _ => rfl
  have F47 := fun_mk (st := s__law_wide) l47 d47 k47
  have b47 := F47.binds (ps := ["deck", "letters"]) fun _ _ _ _ _ _ us hl => match us, hl with | [_, _], _ => rfl
  have F48 := fun_mk (st := s__law_agrees) l48 d48 k48
  have b48 := F48.binds (ps := ["judge", "tree", "state", "good"]) fun _ _ _ _ _ _ us hl => match us, hl with | [_, _, _, _], _ => rfl
  have F49 := fun_mk (st := s_law) l49 d49 k49
  have b49 := F49.binds (ps := ["script"]) fun _ _ _ _ _ _ us hl => match us, hl with | [_], _ => rfl
  let T : Txt K mg := ⟨f0, _, F0, b0, PySem.W.mg_of X G a0, f1, _, F1, b1, PySem.W.mg_of X G a1, f2, _, F2, b2, PySem.W.mg_of X G a2, f3, _, F3, b3, PySem.W.mg_of X G a3, f4, _, F4, b4, PySem.W.mg_of X G a4, f5, _, F5, b5, PySem.W.mg_of X G a5, f6, _, F6, b6, PySem.W.mg_of X G a6, f7, _, F7, b7, PySem.W.mg_of X G a7, f8, _, F8, b8, PySem.W.mg_of X G a8, f9, _, F9, b9, PySem.W.mg_of X G a9, f10, _, F10, b10, PySem.W.mg_of X G a10, f11, _, F11, b11, PySem.W.mg_of X G a11, f12, _, F12, b12, PySem.W.mg_of X G a12, f13, _, F13, b13, PySem.W.mg_of X G a13, f14, _, F14, b14, PySem.W.mg_of X G a14, f15, _, F15, b15, PySem.W.mg_of X G a15, f16, _, F16, b16, PySem.W.mg_of X G a16, f17, _, F17, b17, PySem.W.mg_of X G a17, f18, _, F18, b18, PySem.W.mg_of X G a18, f19, _, F19, b19, PySem.W.mg_of X G a19, f20, _, F20, b20, PySem.W.mg_of X G a20, f21, _, F21, b21, PySem.W.mg_of X G a21, f22, _, F22, b22, PySem.W.mg_of X G a22, f23, _, F23, b23, PySem.W.mg_of X G a23, f24, _, F24, b24, PySem.W.mg_of X G a24, f25, _, F25, b25, PySem.W.mg_of X G a25, f26, _, F26, b26, PySem.W.mg_of X G a26, f27, _, F27, b27, PySem.W.mg_of X G a27, f28, _, F28, b28, PySem.W.mg_of X G a28, f29, _, F29, b29, PySem.W.mg_of X G a29, f30, _, F30, b30, PySem.W.mg_of X G a30, f31, _, F31, b31, PySem.W.mg_of X G a31, f32, _, F32, b32, PySem.W.mg_of X G a32, f33, _, F33, b33, PySem.W.mg_of X G a33, f34, _, F34, b34, PySem.W.mg_of X G a34, f35, _, F35, b35, PySem.W.mg_of X G a35, f36, _, F36, b36, PySem.W.mg_of X G a36, f37, _, F37, b37, PySem.W.mg_of X G a37, f38, _, F38, b38, PySem.W.mg_of X G a38, f39, _, F39, b39, PySem.W.mg_of X G a39, f40, _, F40, b40, PySem.W.mg_of X G a40, f41, _, F41, b41, PySem.W.mg_of X G a41, f42, _, F42, b42, PySem.W.mg_of X G a42, f43, _, F43, b43, PySem.W.mg_of X G a43, f44, _, F44, b44, PySem.W.mg_of X G a44, f45, _, F45, b45, PySem.W.mg_of X G a45, f46, _, F46, b46, PySem.W.mg_of X G a46, f47, _, F47, b47, PySem.W.mg_of X G a47, f48, _, F48, b48, PySem.W.mg_of X G a48, fa, _, F49, b49, PySem.W.mg_of X G a49, _, PySem.W.mg_of X G ak_MOST_STATES, _, PySem.W.mg_of X G ak_MOST_FEW, _, PySem.W.mg_of X G ak_MOST_TURN, _, PySem.W.mg_of X G ak_MOST_TUPLES, _, PySem.W.mg_of X G ak_MADE_OF_OTHERS, PySem.W.mg_of X G ii_lcm, c23, P23, rfl, c24, P24, rfl, c30, P30, rfl, c32, P32, rfl, v23_24, v23_30, v24_30, v23_32, v24_32, v30_32, PySem.W.mg_none_of X G z_all, PySem.W.mg_none_of X G z_bool, PySem.W.mg_none_of X G z_dict, PySem.W.mg_none_of X G z_enumerate, PySem.W.mg_none_of X G z_int, PySem.W.mg_none_of X G z_isinstance, PySem.W.mg_none_of X G z_len, PySem.W.mg_none_of X G z_list, PySem.W.mg_none_of X G z_max, PySem.W.mg_none_of X G z_min, PySem.W.mg_none_of X G z_range, PySem.W.mg_none_of X G z_str, PySem.W.mg_none_of X G z_sum, PySem.W.mg_none_of X G z_tuple, PySem.W.mg_none_of X G z_zip, C_NoTree, C_NoLetter, C_TooMany, PySem.W.mg_of X G ac_NoTree, k_NoTreec, PySem.W.mg_of X G ac_NoLetter, k_NoLetterc, PySem.W.mg_of X G ac_TooMany, k_TooManyc, x_NoTreec, b_NoTreec, t_NoTreec, E_NoTreec, em_NoTree_TooManyc, x_NoLetterc, b_NoLetterc, t_NoLetterc, E_NoLetterc, em_NoLetter_TooManyc, x_TooManyc, b_TooManyc, t_TooManyc, E_TooManyc, em_TooMany_TooManyc⟩
  refine ⟨?_, PySem.W.fnOf "law" "law" (defArgs s_law) (defBody s_law) (defScope s_law) .none kV49 dc49 pm49 an49 cd49 ct49, fun s v => .of_eq rfl, fun base _ _ hb => ?_⟩
  · intro z hz
    simp only [List.mem_cons, List.not_mem_nil, or_false] at hz
    rcases hz with rfl | rfl | rfl | rfl
    · exact ⟨t23, u23⟩
    · exact ⟨t24, u24⟩
    · exact ⟨t30, u30⟩
    · exact ⟨t32, u32⟩
  · have B : Tbs T base := ⟨hb ("states_upward", c23, P23) (by simp), hb ("part_states", c24, P24) (by simp), hb ("state_by_rules", c30, P30) (by simp), hb ("judge_made", c32, P32) (by simp)⟩
    exact ok_law T B ⟨sk_MADE_OF_OTHERS, _, _, lk_MADE_OF_OTHERS, kk_MADE_OF_OTHERS, ek_MADE_OF_OTHERS⟩
end My
open PySem PySem.W PyProof.Rows
set_option maxRecDepth 100000 in
set_option maxHeartbeats 0 in
theorem PySem.Challenge.cw_heaptrees_k20_whole_judges_as_the_rules_holds : PySem.Challenge.rw_heaptrees_k20_whole_judges_as_the_rules.Holds := by
  w_on; o_law; k_head; (case hw => w_witness2)
  k_fill
  refine My.walk_ofT (l := PySem.Challenge.rw_heaptrees_k20_whole_judges_as_the_rules) (n := 63) (k := 60) (x := "script") rfl (by decide) (by decide) rfl ⟨rfl, by decide, by decide⟩ (fun w h Y => Y.1) ["states_upward", "part_states", "state_by_rules", "judge_made"] ?R ?F
  case R => decide +kernel
  case F =>
    intro w mg fa h KX G hmg
    refine' ⟨_, ?n, ?m⟩
    case m =>
      refine' My.all_mk KX G hmg ?a0 ?l0 ?d0 ?k0 ?a1 ?l1 ?d1 ?k1 ?a2 ?l2 ?d2 ?k2 ?a3 ?l3 ?d3 ?k3 ?a4 ?l4 ?d4 ?k4 ?a5 ?l5 ?d5 ?k5 ?a6 ?l6 ?d6 ?k6 ?a7 ?l7 ?d7 ?k7 ?a8 ?l8 ?d8 ?k8 ?a9 ?l9 ?d9 ?k9 ?a10 ?l10 ?d10 ?k10 ?a11 ?l11 ?d11 ?k11 ?a12 ?l12 ?d12 ?k12 ?a13 ?l13 ?d13 ?k13 ?a14 ?l14 ?d14 ?k14 ?a15 ?l15 ?d15 ?k15 ?a16 ?l16 ?d16 ?k16 ?a17 ?l17 ?d17 ?k17 ?a18 ?l18 ?d18 ?k18 ?a19 ?l19 ?d19 ?k19 ?a20 ?l20 ?d20 ?k20 ?a21 ?l21 ?d21 ?k21 ?a22 ?l22 ?d22 ?k22 ?a23 ?l23 ?d23 ?k23 ?a24 ?l24 ?d24 ?k24 ?a25 ?l25 ?d25 ?k25 ?a26 ?l26 ?d26 ?k26 ?a27 ?l27 ?d27 ?k27 ?a28 ?l28 ?d28 ?k28 ?a29 ?l29 ?d29 ?k29 ?a30 ?l30 ?d30 ?k30 ?a31 ?l31 ?d31 ?k31 ?a32 ?l32 ?d32 ?k32 ?a33 ?l33 ?d33 ?k33 ?a34 ?l34 ?d34 ?k34 ?a35 ?l35 ?d35 ?k35 ?a36 ?l36 ?d36 ?k36 ?a37 ?l37 ?d37 ?k37 ?a38 ?l38 ?d38 ?k38 ?a39 ?l39 ?d39 ?k39 ?a40 ?l40 ?d40 ?k40 ?a41 ?l41 ?d41 ?k41 ?a42 ?l42 ?d42 ?k42 ?a43 ?l43 ?d43 ?k43 ?a44 ?l44 ?d44 ?k44 ?a45 ?l45 ?d45 ?k45 ?a46 ?l46 ?d46 ?k46 ?a47 ?l47 ?d47 ?k47 ?a48 ?l48 ?d48 ?k48 ?a49 ?l49 ?d49 ?k49 ?ak_MOST_STATES ?ak_MOST_FEW ?ak_MOST_TURN ?ak_MOST_TUPLES ?ak_MADE_OF_OTHERS ?lk_MADE_OF_OTHERS ?kk_MADE_OF_OTHERS ?ek_MADE_OF_OTHERS ?sk_MADE_OF_OTHERS ?ii_lcm ?t23 ?u23 ?t24 ?u24 ?t30 ?u30 ?t32 ?u32 ?v23_24 ?v23_30 ?v24_30 ?v23_32 ?v24_32 ?v30_32 ?z_all ?z_bool ?z_dict ?z_enumerate ?z_int ?z_isinstance ?z_len ?z_list ?z_max ?z_min ?z_range ?z_str ?z_sum ?z_tuple ?z_zip ?ac_NoTree ?k_NoTreec ?ac_NoLetter ?k_NoLetterc ?ac_TooMany ?k_TooManyc ?x_NoTreec ?b_NoTreec ?t_NoTreec ?E_NoTreec ?em_NoTree_TooManyc ?x_NoLetterc ?b_NoLetterc ?t_NoLetterc ?E_NoLetterc ?em_NoLetter_TooManyc ?x_TooManyc ?b_TooManyc ?t_TooManyc ?E_TooManyc ?em_TooMany_TooManyc
      (case ac_NoTree => k_is)
      (case k_NoTreec => k_is)
      (case ac_NoLetter => k_is)
      (case k_NoLetterc => k_is)
      (case ac_TooMany => k_is)
      (case k_TooManyc => k_is)
      (case x_NoTreec => k_exc)
      (case b_NoTreec => k_is)
      (case t_NoTreec => k_is)
      (case E_NoTreec => refine ⟨?_, ?_, ?_, ?_, ?_, ?_, ?_, ?_⟩ <;> first | k_is | rfl | decide +kernel)
      (case em_NoTree_TooManyc => exact PySem.W.exm_ref (by k_is) (by k_is) (by k_is) (by first | k_is | rfl))
      (case x_NoLetterc => k_exc)
      (case b_NoLetterc => k_is)
      (case t_NoLetterc => k_is)
      (case E_NoLetterc => refine ⟨?_, ?_, ?_, ?_, ?_, ?_, ?_, ?_⟩ <;> first | k_is | rfl | decide +kernel)
      (case em_NoLetter_TooManyc => exact PySem.W.exm_ref (by k_is) (by k_is) (by k_is) (by first | k_is | rfl))
      (case x_TooManyc => k_exc)
      (case b_TooManyc => k_is)
      (case t_TooManyc => k_is)
      (case E_TooManyc => refine ⟨?_, ?_, ?_, ?_, ?_, ?_, ?_, ?_⟩ <;> first | k_is | rfl | decide +kernel)
      (case em_TooMany_TooManyc => exact PySem.W.exm_ref (by k_is) (by k_is) (by k_is) (by first | k_is | rfl))
      (case a0 => k_is)
      (case l0 => k_is)
      (case d0 => k_is)
      (case k0 => k_is)
      (case a1 => k_is)
      (case l1 => k_is)
      (case d1 => k_is)
      (case k1 => k_is)
      (case a2 => k_is)
      (case l2 => k_is)
      (case d2 => k_is)
      (case k2 => k_is)
      (case a3 => k_is)
      (case l3 => k_is)
      (case d3 => k_is)
      (case k3 => k_is)
      (case a4 => k_is)
      (case l4 => k_is)
      (case d4 => k_is)
      (case k4 => k_is)
      (case a5 => k_is)
      (case l5 => k_is)
      (case d5 => k_is)
      (case k5 => k_is)
      (case a6 => k_is)
      (case l6 => k_is)
      (case d6 => k_is)
      (case k6 => k_is)
      (case a7 => k_is)
      (case l7 => k_is)
      (case d7 => k_is)
      (case k7 => k_is)
      (case a8 => k_is)
      (case l8 => k_is)
      (case d8 => k_is)
      (case k8 => k_is)
      (case a9 => k_is)
      (case l9 => k_is)
      (case d9 => k_is)
      (case k9 => k_is)
      (case a10 => k_is)
      (case l10 => k_is)
      (case d10 => k_is)
      (case k10 => k_is)
      (case a11 => k_is)
      (case l11 => k_is)
      (case d11 => k_is)
      (case k11 => k_is)
      (case a12 => k_is)
      (case l12 => k_is)
      (case d12 => k_is)
      (case k12 => k_is)
      (case a13 => k_is)
      (case l13 => k_is)
      (case d13 => k_is)
      (case k13 => k_is)
      (case a14 => k_is)
      (case l14 => k_is)
      (case d14 => k_is)
      (case k14 => k_is)
      (case a15 => k_is)
      (case l15 => k_is)
      (case d15 => k_is)
      (case k15 => k_is)
      (case a16 => k_is)
      (case l16 => k_is)
      (case d16 => k_is)
      (case k16 => k_is)
      (case a17 => k_is)
      (case l17 => k_is)
      (case d17 => k_is)
      (case k17 => k_is)
      (case a18 => k_is)
      (case l18 => k_is)
      (case d18 => k_is)
      (case k18 => k_is)
      (case a19 => k_is)
      (case l19 => k_is)
      (case d19 => k_is)
      (case k19 => k_is)
      (case a20 => k_is)
      (case l20 => k_is)
      (case d20 => k_is)
      (case k20 => k_is)
      (case a21 => k_is)
      (case l21 => k_is)
      (case d21 => k_is)
      (case k21 => k_is)
      (case a22 => k_is)
      (case l22 => k_is)
      (case d22 => k_is)
      (case k22 => k_is)
      (case a23 => k_is)
      (case l23 => k_is)
      (case d23 => k_is)
      (case k23 => k_is)
      (case a24 => k_is)
      (case l24 => k_is)
      (case d24 => k_is)
      (case k24 => k_is)
      (case a25 => k_is)
      (case l25 => k_is)
      (case d25 => k_is)
      (case k25 => k_is)
      (case a26 => k_is)
      (case l26 => k_is)
      (case d26 => k_is)
      (case k26 => k_is)
      (case a27 => k_is)
      (case l27 => k_is)
      (case d27 => k_is)
      (case k27 => k_is)
      (case a28 => k_is)
      (case l28 => k_is)
      (case d28 => k_is)
      (case k28 => k_is)
      (case a29 => k_is)
      (case l29 => k_is)
      (case d29 => k_is)
      (case k29 => k_is)
      (case a30 => k_is)
      (case l30 => k_is)
      (case d30 => k_is)
      (case k30 => k_is)
      (case a31 => k_is)
      (case l31 => k_is)
      (case d31 => k_is)
      (case k31 => k_is)
      (case a32 => k_is)
      (case l32 => k_is)
      (case d32 => k_is)
      (case k32 => k_is)
      (case a33 => k_is)
      (case l33 => k_is)
      (case d33 => k_is)
      (case k33 => k_is)
      (case a34 => k_is)
      (case l34 => k_is)
      (case d34 => k_is)
      (case k34 => k_is)
      (case a35 => k_is)
      (case l35 => k_is)
      (case d35 => k_is)
      (case k35 => k_is)
      (case a36 => k_is)
      (case l36 => k_is)
      (case d36 => k_is)
      (case k36 => k_is)
      (case a37 => k_is)
      (case l37 => k_is)
      (case d37 => k_is)
      (case k37 => k_is)
      (case a38 => k_is)
      (case l38 => k_is)
      (case d38 => k_is)
      (case k38 => k_is)
      (case a39 => k_is)
      (case l39 => k_is)
      (case d39 => k_is)
      (case k39 => k_is)
      (case a40 => k_is)
      (case l40 => k_is)
      (case d40 => k_is)
      (case k40 => k_is)
      (case a41 => k_is)
      (case l41 => k_is)
      (case d41 => k_is)
      (case k41 => k_is)
      (case a42 => k_is)
      (case l42 => k_is)
      (case d42 => k_is)
      (case k42 => k_is)
      (case a43 => k_is)
      (case l43 => k_is)
      (case d43 => k_is)
      (case k43 => k_is)
      (case a44 => k_is)
      (case l44 => k_is)
      (case d44 => k_is)
      (case k44 => k_is)
      (case a45 => k_is)
      (case l45 => k_is)
      (case d45 => k_is)
      (case k45 => k_is)
      (case a46 => k_is)
      (case l46 => k_is)
      (case d46 => k_is)
      (case k46 => k_is)
      (case a47 => k_is)
      (case l47 => k_is)
      (case d47 => k_is)
      (case k47 => k_is)
      (case a48 => k_is)
      (case l48 => k_is)
      (case d48 => k_is)
      (case k48 => k_is)
      (case a49 => k_is)
      (case l49 => k_is)
      (case d49 => k_is)
      (case k49 => k_is)
      (case ak_MOST_STATES => k_is)
      (case ak_MOST_FEW => k_is)
      (case ak_MOST_TURN => k_is)
      (case ak_MOST_TUPLES => k_is)
      (case ak_MADE_OF_OTHERS => k_is)
      (case lk_MADE_OF_OTHERS => k_is)
      (case kk_MADE_OF_OTHERS => k_keys)
      (case ek_MADE_OF_OTHERS => exact ⟨⟨_, _, _, rfl⟩, ⟨⟨_, _, _, rfl⟩, ⟨⟨_, _, _, rfl⟩, trivial⟩⟩⟩)
      (case sk_MADE_OF_OTHERS => rfl)
      (case ii_lcm => k_is)
      (case t23 => rfl)
      (case u23 => rfl)
      (case t24 => rfl)
      (case u24 => rfl)
      (case t30 => rfl)
      (case u30 => rfl)
      (case t32 => rfl)
      (case u32 => rfl)
      (case v23_24 => decide +kernel)
      (case v23_30 => decide +kernel)
      (case v24_30 => decide +kernel)
      (case v23_32 => decide +kernel)
      (case v24_32 => decide +kernel)
      (case v30_32 => decide +kernel)
      (case z_all => k_is)
      (case z_bool => k_is)
      (case z_dict => k_is)
      (case z_enumerate => k_is)
      (case z_int => k_is)
      (case z_isinstance => k_is)
      (case z_len => k_is)
      (case z_list => k_is)
      (case z_max => k_is)
      (case z_min => k_is)
      (case z_range => k_is)
      (case z_str => k_is)
      (case z_sum => k_is)
      (case z_tuple => k_is)
      (case z_zip => k_is)
    case n => rfl
#print axioms PySem.Challenge.cw_heaptrees_k20_whole_judges_as_the_rules_holds
