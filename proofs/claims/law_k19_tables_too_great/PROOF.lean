import PyProof.Rows.All
import Wide.All
import OpenK.AllK
import Wide.FinOn
import HandS.ForMost
import HandS.Wide
import HandS.IsInst
import HandS.Exc
import HandS.ExcOwn
import HandS.ExcValue
import HandS.ExcIs
import HandS.TryOnly
import HandS.WordsExc
import HandS.Flow
import HandS.Style
import HandS.Codes
import HandS.Lambda
import HandS.Star
import HandS.Nested
import HandS.EndTab
import HandS.SortKw
import HandS.FStr
import HandS.NoneIn
import HandS.More
import HandS.Zip
import HandS.Conv
import HandS.TupAny
import HandS.RaiseMore
import HandS.Walk
import HandS.Iter
import HandS.Dict
import PyProof.StrLawsRepr
import KE.SortKeyHeap
import KE.SortData
import KE.DataFind
import KE.DataMinMax
import KE.KEqNest
import PyProof.Draws
import PyProof.EnumMake
import KE.KeyNested
import KE.KDictKeyed
import HandS.Steps
import HandS.SetFor
import HandS.DictEq
import HandS.DictTup
import HandS.DictComp
import KE.KMathGC
import HandS.Gcd
import HandS.Replace
import HandS.SortInts
import KE.GoesMore
import KE.GoesZip
import PySem.Challenge.RW_heaptrees_k19_tables_too_great
set_option Elab.async false
set_option linter.all false
set_option maxRecDepth 100000
set_option maxHeartbeats 4000000
namespace My
open PySem PySem.Spec PyProof.Rows L2
def topS (i : Nat) : Stmt := PySem.Challenge.pw_heaptrees_k19_tables_too_great.main.body.getD i (.Pass ⟨0, 0, 0, 0⟩)
abbrev s_is_whole : Stmt := topS 12
theorem sc_is_whole : FnScope ["thing"] ["thing"] (defScope s_is_whole) := ⟨rfl, rfl, rfl, by decide +kernel, rfl, by decide +kernel, by decide +kernel⟩
abbrev s_is_whole_within : Stmt := topS 13
theorem sc_is_whole_within : FnScope ["thing", "low", "high"] ["thing", "low", "high"] (defScope s_is_whole_within) := ⟨rfl, rfl, rfl, by decide +kernel, rfl, by decide +kernel, by decide +kernel⟩
abbrev s_is_letter : Stmt := topS 14
theorem sc_is_letter : FnScope ["thing"] ["thing"] (defScope s_is_letter) := ⟨rfl, rfl, rfl, by decide +kernel, rfl, by decide +kernel, by decide +kernel⟩
abbrev s_is_judge : Stmt := topS 20
theorem sc_is_judge : FnScope ["thing", "letters", "states", "few", "turn", "table", "good"] ["thing"] (defScope s_is_judge) := ⟨rfl, rfl, rfl, by decide +kernel, rfl, by decide +kernel, by decide +kernel⟩
abbrev s_may_have_table : Stmt := topS 21
theorem sc_may_have_table : FnScope ["letters", "states", "few", "turn"] ["letters", "states", "few", "turn"] (defScope s_may_have_table) := ⟨rfl, rfl, rfl, by decide +kernel, rfl, by decide +kernel, by decide +kernel⟩
abbrev s_are_letters : Stmt := topS 22
theorem sc_are_letters : FnScope ["thing", "sign"] ["thing"] (defScope s_are_letters) := ⟨rfl, rfl, rfl, by decide +kernel, rfl, by decide +kernel, by decide +kernel⟩
abbrev s_are_rising_states : Stmt := topS 23
theorem sc_are_rising_states : FnScope ["thing", "states", "state"] ["thing", "states"] (defScope s_are_rising_states) := ⟨rfl, rfl, rfl, by decide +kernel, rfl, by decide +kernel, by decide +kernel⟩
abbrev s__rises : Stmt := topS 24
theorem sc__rises : FnScope ["row", "low", "high"] ["row"] (defScope s__rises) := ⟨rfl, rfl, rfl, by decide +kernel, rfl, by decide +kernel, by decide +kernel⟩
abbrev s_tuples_due : Stmt := topS 25
theorem sc_tuples_due : FnScope ["letters", "states", "classes", "many", "_"] ["letters", "states", "classes"] (defScope s_tuples_due) := ⟨rfl, rfl, rfl, by decide +kernel, rfl, by decide +kernel, by decide +kernel⟩
abbrev s__is_table : Stmt := topS 26
theorem sc__is_table : FnScope ["thing", "letters", "states", "classes", "key", "state"] ["thing", "letters", "states", "classes"] (defScope s__is_table) := ⟨rfl, rfl, rfl, by decide +kernel, rfl, by decide +kernel, by decide +kernel⟩
abbrev s__is_key : Stmt := topS 27
theorem sc__is_key : FnScope ["thing", "letters", "states", "classes", "letter", "row", "number"] ["thing", "letters", "states", "classes"] (defScope s__is_key) := ⟨rfl, rfl, rfl, by decide +kernel, rfl, by decide +kernel, by decide +kernel⟩
abbrev s_class_rows : Stmt := topS 28
theorem sc_class_rows : FnScope ["states", "classes", "rows", "_", "row", "number"] ["states", "classes"] (defScope s_class_rows) := ⟨rfl, rfl, rfl, by decide +kernel, rfl, by decide +kernel, by decide +kernel⟩
abbrev s_keys_due : Stmt := topS 29
theorem sc_keys_due : FnScope ["letters", "states", "classes", "rows", "letter", "row"] ["letters", "states", "classes"] (defScope s_keys_due) := ⟨rfl, rfl, rfl, by decide +kernel, rfl, by decide +kernel, by decide +kernel⟩
abbrev s_table_made : Stmt := topS 30
theorem sc_table_made : FnScope ["letters", "states", "few", "turn", "state_at", "keys", "letter", "row"] ["letters", "states", "few", "turn", "state_at"] (defScope s_table_made) := ⟨rfl, rfl, rfl, by decide +kernel, rfl, by decide +kernel, by decide +kernel⟩
abbrev s_condition_holds : Stmt := topS 33
theorem sc_condition_holds : FnScope ["condition", "numbers", "word"] ["condition", "numbers"] (defScope s_condition_holds) := ⟨rfl, rfl, rfl, by decide +kernel, rfl, by decide +kernel, by decide +kernel⟩
abbrev s__weighed : Stmt := topS 34
theorem sc__weighed : FnScope ["weights", "numbers", "weight", "number"] ["weights", "numbers"] (defScope s__weighed) := ⟨rfl, rfl, rfl, by decide +kernel, rfl, by decide +kernel, by decide +kernel⟩
abbrev s__state_by_rows : Stmt := topS 35
theorem sc__state_by_rows : FnScope ["rows", "numbers", "condition", "state"] ["rows", "numbers"] (defScope s__state_by_rows) := ⟨rfl, rfl, rfl, by decide +kernel, rfl, by decide +kernel, by decide +kernel⟩
abbrev s_judge_made : Stmt := topS 36
theorem sc_judge_made : FnScope ["rules", "letters", "states", "rows", "good", "few", "turn", "table", "letter", "condition", "_"] ["rules"] (defScope s_judge_made) := ⟨rfl, rfl, rfl, by decide +kernel, rfl, by decide +kernel, by decide +kernel⟩
abbrev s__few_and_turn : Stmt := topS 37
theorem sc__few_and_turn : FnScope ["conditions", "few", "turn", "plain_ones", "row", "condition", "plain"] ["conditions"] (defScope s__few_and_turn) := ⟨rfl, rfl, rfl, by decide +kernel, rfl, by decide +kernel, by decide +kernel⟩
abbrev s__plain_ones : Stmt := topS 38
theorem sc__plain_ones : FnScope ["condition", "part", "plain"] ["condition"] (defScope s__plain_ones) := ⟨rfl, rfl, rfl, by decide +kernel, rfl, by decide +kernel, by decide +kernel⟩
abbrev s__law_cell_at : Stmt := topS 40
theorem sc__law_cell_at : FnScope ["script", "k"] ["script", "k"] (defScope s__law_cell_at) := ⟨rfl, rfl, rfl, by decide +kernel, rfl, by decide +kernel, by decide +kernel⟩
abbrev s__law_numbers : Stmt := topS 41
theorem sc__law_numbers : FnScope ["cell", "many", "found", "rest", "stir", "k", "again"] ["cell", "many"] (defScope s__law_numbers) := ⟨rfl, rfl, rfl, by decide +kernel, rfl, by decide +kernel, by decide +kernel⟩
abbrev s__law_deck : Stmt := topS 42
theorem sc__law_deck : FnScope ["cell", "many"] ["cell", "many"] (defScope s__law_deck) := ⟨rfl, rfl, rfl, by decide +kernel, rfl, by decide +kernel, by decide +kernel⟩
abbrev s__law_take : Stmt := topS 43
theorem sc__law_take : FnScope ["deck", "many"] ["deck", "many"] (defScope s__law_take) := ⟨rfl, rfl, rfl, by decide +kernel, rfl, by decide +kernel, by decide +kernel⟩
abbrev s__law_weights : Stmt := topS 44
theorem sc__law_weights : FnScope ["deck", "s", "most", "k"] ["deck", "s"] (defScope s__law_weights) := ⟨rfl, rfl, rfl, by decide +kernel, rfl, by decide +kernel, by decide +kernel⟩
abbrev s__law_condition : Stmt := topS 45
theorem sc__law_condition : FnScope ["deck", "s", "deep", "way", "m", "one"] ["deck", "s", "deep"] (defScope s__law_condition) := ⟨rfl, rfl, rfl, by decide +kernel, rfl, by decide +kernel, by decide +kernel⟩
abbrev s__law_copy : Stmt := topS 47
theorem sc__law_copy : FnScope ["thing", "found", "key", "one"] ["thing"] (defScope s__law_copy) := ⟨rfl, rfl, rfl, by decide +kernel, rfl, by decide +kernel, by decide +kernel⟩
abbrev s__law_rules : Stmt := topS 48
theorem sc__law_rules : FnScope ["deck", "most", "letters", "some", "letter", "states", "rows", "deep", "k", "condition"] ["deck", "most"] (defScope s__law_rules) := ⟨rfl, rfl, rfl, by decide +kernel, rfl, by decide +kernel, by decide +kernel⟩
abbrev s__law_sums : Stmt := topS 49
theorem sc__law_sums : FnScope ["condition", "found", "one"] ["condition"] (defScope s__law_sums) := ⟨rfl, rfl, rfl, by decide +kernel, rfl, by decide +kernel, by decide +kernel⟩
abbrev s__law_few_and_turn : Stmt := topS 50
theorem sc__law_few_and_turn : FnScope ["rules", "sums", "letter", "condition", "state", "few", "turns", "turn", "one"] ["rules"] (defScope s__law_few_and_turn) := ⟨rfl, rfl, rfl, by decide +kernel, rfl, by decide +kernel, by decide +kernel⟩
abbrev s__law_fits : Stmt := topS 51
theorem sc__law_fits : FnScope ["rules", "few", "turn", "many", "k"] ["rules"] (defScope s__law_fits) := ⟨rfl, rfl, rfl, by decide +kernel, rfl, by decide +kernel, by decide +kernel⟩
abbrev s__law_plain_rules : Stmt := topS 52
theorem sc__law_plain_rules : FnScope ["deck", "letters", "states", "m", "other", "rows", "letter", "last", "first"] ["deck"] (defScope s__law_plain_rules) := ⟨rfl, rfl, rfl, by decide +kernel, rfl, by decide +kernel, by decide +kernel⟩
abbrev s__law_told : Stmt := topS 53
theorem sc__law_told : FnScope ["rules", "found", "caught", "e"] ["rules"] (defScope s__law_told) := ⟨rfl, rfl, rfl, by decide +kernel, rfl, by decide +kernel, by decide +kernel⟩
abbrev s_law : Stmt := topS 54
theorem sc_law : FnScope ["script", "k", "deck", "rules", "handed", "due"] ["script"] (defScope s_law) := ⟨rfl, rfl, rfl, by decide +kernel, rfl, by decide +kernel, by decide +kernel⟩
structure Txt (K : PySem.W.Frag) (mg : Str → Option Value) where
  f_is_whole : Addr
  d_is_whole : FuncData
  F_is_whole : Fun K "is_whole" "is_whole" s_is_whole f_is_whole d_is_whole
  b_is_whole : Binds K d_is_whole ["thing"] []
  m_is_whole : mg "is_whole" = some (.ref f_is_whole)
  f_is_whole_within : Addr
  d_is_whole_within : FuncData
  F_is_whole_within : Fun K "is_whole_within" "is_whole_within" s_is_whole_within f_is_whole_within d_is_whole_within
  b_is_whole_within : Binds K d_is_whole_within ["thing", "low", "high"] []
  m_is_whole_within : mg "is_whole_within" = some (.ref f_is_whole_within)
  f_is_letter : Addr
  d_is_letter : FuncData
  F_is_letter : Fun K "is_letter" "is_letter" s_is_letter f_is_letter d_is_letter
  b_is_letter : Binds K d_is_letter ["thing"] []
  m_is_letter : mg "is_letter" = some (.ref f_is_letter)
  f_is_judge : Addr
  d_is_judge : FuncData
  F_is_judge : Fun K "is_judge" "is_judge" s_is_judge f_is_judge d_is_judge
  b_is_judge : Binds K d_is_judge ["thing"] []
  m_is_judge : mg "is_judge" = some (.ref f_is_judge)
  f_may_have_table : Addr
  d_may_have_table : FuncData
  F_may_have_table : Fun K "may_have_table" "may_have_table" s_may_have_table f_may_have_table d_may_have_table
  b_may_have_table : Binds K d_may_have_table ["letters", "states", "few", "turn"] []
  m_may_have_table : mg "may_have_table" = some (.ref f_may_have_table)
  f_are_letters : Addr
  d_are_letters : FuncData
  F_are_letters : Fun K "are_letters" "are_letters" s_are_letters f_are_letters d_are_letters
  b_are_letters : Binds K d_are_letters ["thing"] []
  m_are_letters : mg "are_letters" = some (.ref f_are_letters)
  f_are_rising_states : Addr
  d_are_rising_states : FuncData
  F_are_rising_states : Fun K "are_rising_states" "are_rising_states" s_are_rising_states f_are_rising_states d_are_rising_states
  b_are_rising_states : Binds K d_are_rising_states ["thing", "states"] []
  m_are_rising_states : mg "are_rising_states" = some (.ref f_are_rising_states)
  f__rises : Addr
  d__rises : FuncData
  F__rises : Fun K "_rises" "_rises" s__rises f__rises d__rises
  b__rises : Binds K d__rises ["row"] []
  m__rises : mg "_rises" = some (.ref f__rises)
  f_tuples_due : Addr
  d_tuples_due : FuncData
  F_tuples_due : Fun K "tuples_due" "tuples_due" s_tuples_due f_tuples_due d_tuples_due
  b_tuples_due : Binds K d_tuples_due ["letters", "states", "classes"] []
  m_tuples_due : mg "tuples_due" = some (.ref f_tuples_due)
  f__is_table : Addr
  d__is_table : FuncData
  F__is_table : Fun K "_is_table" "_is_table" s__is_table f__is_table d__is_table
  b__is_table : Binds K d__is_table ["thing", "letters", "states", "classes"] []
  m__is_table : mg "_is_table" = some (.ref f__is_table)
  f__is_key : Addr
  d__is_key : FuncData
  F__is_key : Fun K "_is_key" "_is_key" s__is_key f__is_key d__is_key
  b__is_key : Binds K d__is_key ["thing", "letters", "states", "classes"] []
  m__is_key : mg "_is_key" = some (.ref f__is_key)
  f_class_rows : Addr
  d_class_rows : FuncData
  F_class_rows : Fun K "class_rows" "class_rows" s_class_rows f_class_rows d_class_rows
  b_class_rows : Binds K d_class_rows ["states", "classes"] []
  m_class_rows : mg "class_rows" = some (.ref f_class_rows)
  f_keys_due : Addr
  d_keys_due : FuncData
  F_keys_due : Fun K "keys_due" "keys_due" s_keys_due f_keys_due d_keys_due
  b_keys_due : Binds K d_keys_due ["letters", "states", "classes"] []
  m_keys_due : mg "keys_due" = some (.ref f_keys_due)
  f_table_made : Addr
  d_table_made : FuncData
  F_table_made : Fun K "table_made" "table_made" s_table_made f_table_made d_table_made
  b_table_made : Binds K d_table_made ["letters", "states", "few", "turn", "state_at"] []
  m_table_made : mg "table_made" = some (.ref f_table_made)
  f_condition_holds : Addr
  d_condition_holds : FuncData
  F_condition_holds : Fun K "condition_holds" "condition_holds" s_condition_holds f_condition_holds d_condition_holds
  b_condition_holds : Binds K d_condition_holds ["condition", "numbers"] []
  m_condition_holds : mg "condition_holds" = some (.ref f_condition_holds)
  f__weighed : Addr
  d__weighed : FuncData
  F__weighed : Fun K "_weighed" "_weighed" s__weighed f__weighed d__weighed
  b__weighed : Binds K d__weighed ["weights", "numbers"] []
  m__weighed : mg "_weighed" = some (.ref f__weighed)
  f__state_by_rows : Addr
  d__state_by_rows : FuncData
  F__state_by_rows : Fun K "_state_by_rows" "_state_by_rows" s__state_by_rows f__state_by_rows d__state_by_rows
  b__state_by_rows : Binds K d__state_by_rows ["rows", "numbers"] []
  m__state_by_rows : mg "_state_by_rows" = some (.ref f__state_by_rows)
  f_judge_made : Addr
  d_judge_made : FuncData
  F_judge_made : Fun K "judge_made" "judge_made" s_judge_made f_judge_made d_judge_made
  b_judge_made : Binds K d_judge_made ["rules"] []
  m_judge_made : mg "judge_made" = some (.ref f_judge_made)
  f__few_and_turn : Addr
  d__few_and_turn : FuncData
  F__few_and_turn : Fun K "_few_and_turn" "_few_and_turn" s__few_and_turn f__few_and_turn d__few_and_turn
  b__few_and_turn : Binds K d__few_and_turn ["conditions"] []
  m__few_and_turn : mg "_few_and_turn" = some (.ref f__few_and_turn)
  f__plain_ones : Addr
  d__plain_ones : FuncData
  F__plain_ones : Fun K "_plain_ones" "_plain_ones" s__plain_ones f__plain_ones d__plain_ones
  b__plain_ones : Binds K d__plain_ones ["condition"] []
  m__plain_ones : mg "_plain_ones" = some (.ref f__plain_ones)
  f__law_cell_at : Addr
  d__law_cell_at : FuncData
  F__law_cell_at : Fun K "_law_cell_at" "_law_cell_at" s__law_cell_at f__law_cell_at d__law_cell_at
  b__law_cell_at : Binds K d__law_cell_at ["script", "k"] []
  m__law_cell_at : mg "_law_cell_at" = some (.ref f__law_cell_at)
  f__law_numbers : Addr
  d__law_numbers : FuncData
  F__law_numbers : Fun K "_law_numbers" "_law_numbers" s__law_numbers f__law_numbers d__law_numbers
  b__law_numbers : Binds K d__law_numbers ["cell", "many"] []
  m__law_numbers : mg "_law_numbers" = some (.ref f__law_numbers)
  f__law_deck : Addr
  d__law_deck : FuncData
  F__law_deck : Fun K "_law_deck" "_law_deck" s__law_deck f__law_deck d__law_deck
  b__law_deck : Binds K d__law_deck ["cell", "many"] []
  m__law_deck : mg "_law_deck" = some (.ref f__law_deck)
  f__law_take : Addr
  d__law_take : FuncData
  F__law_take : Fun K "_law_take" "_law_take" s__law_take f__law_take d__law_take
  b__law_take : Binds K d__law_take ["deck", "many"] []
  m__law_take : mg "_law_take" = some (.ref f__law_take)
  f__law_weights : Addr
  d__law_weights : FuncData
  F__law_weights : Fun K "_law_weights" "_law_weights" s__law_weights f__law_weights d__law_weights
  b__law_weights : Binds K d__law_weights ["deck", "s"] []
  m__law_weights : mg "_law_weights" = some (.ref f__law_weights)
  f__law_condition : Addr
  d__law_condition : FuncData
  F__law_condition : Fun K "_law_condition" "_law_condition" s__law_condition f__law_condition d__law_condition
  b__law_condition : Binds K d__law_condition ["deck", "s", "deep"] []
  m__law_condition : mg "_law_condition" = some (.ref f__law_condition)
  f__law_copy : Addr
  d__law_copy : FuncData
  F__law_copy : Fun K "_law_copy" "_law_copy" s__law_copy f__law_copy d__law_copy
  b__law_copy : Binds K d__law_copy ["thing"] []
  m__law_copy : mg "_law_copy" = some (.ref f__law_copy)
  f__law_rules : Addr
  d__law_rules : FuncData
  F__law_rules : Fun K "_law_rules" "_law_rules" s__law_rules f__law_rules d__law_rules
  b__law_rules : Binds K d__law_rules ["deck", "most"] []
  m__law_rules : mg "_law_rules" = some (.ref f__law_rules)
  f__law_sums : Addr
  d__law_sums : FuncData
  F__law_sums : Fun K "_law_sums" "_law_sums" s__law_sums f__law_sums d__law_sums
  b__law_sums : Binds K d__law_sums ["condition"] []
  m__law_sums : mg "_law_sums" = some (.ref f__law_sums)
  f__law_few_and_turn : Addr
  d__law_few_and_turn : FuncData
  F__law_few_and_turn : Fun K "_law_few_and_turn" "_law_few_and_turn" s__law_few_and_turn f__law_few_and_turn d__law_few_and_turn
  b__law_few_and_turn : Binds K d__law_few_and_turn ["rules"] []
  m__law_few_and_turn : mg "_law_few_and_turn" = some (.ref f__law_few_and_turn)
  f__law_fits : Addr
  d__law_fits : FuncData
  F__law_fits : Fun K "_law_fits" "_law_fits" s__law_fits f__law_fits d__law_fits
  b__law_fits : Binds K d__law_fits ["rules"] []
  m__law_fits : mg "_law_fits" = some (.ref f__law_fits)
  f__law_plain_rules : Addr
  d__law_plain_rules : FuncData
  F__law_plain_rules : Fun K "_law_plain_rules" "_law_plain_rules" s__law_plain_rules f__law_plain_rules d__law_plain_rules
  b__law_plain_rules : Binds K d__law_plain_rules ["deck"] []
  m__law_plain_rules : mg "_law_plain_rules" = some (.ref f__law_plain_rules)
  f__law_told : Addr
  d__law_told : FuncData
  F__law_told : Fun K "_law_told" "_law_told" s__law_told f__law_told d__law_told
  b__law_told : Binds K d__law_told ["rules"] []
  m__law_told : mg "_law_told" = some (.ref f__law_told)
  f_law : Addr
  d_law : FuncData
  F_law : Fun K "law" "law" s_law f_law d_law
  b_law : Binds K d_law ["script"] []
  m_law : mg "law" = some (.ref f_law)
  t_MOST_STATES : Tok
  g_MOST_STATES : mg "MOST_STATES" = some (.int 6 t_MOST_STATES)
  t_MOST_FEW : Tok
  g_MOST_FEW : mg "MOST_FEW" = some (.int 4 t_MOST_FEW)
  t_MOST_TURN : Tok
  g_MOST_TURN : mg "MOST_TURN" = some (.int 4 t_MOST_TURN)
  t_MOST_TUPLES : Tok
  g_MOST_TUPLES : mg "MOST_TUPLES" = some (.int 600 t_MOST_TUPLES)
  a_MADE_OF_OTHERS : Addr
  g_MADE_OF_OTHERS : mg "MADE_OF_OTHERS" = some (.ref a_MADE_OF_OTHERS)
  g_lcm : mg "lcm" = some (.builtin "math.lcm")
  c_judge_made : Addr
  P_judge_made : Addr
  h_judge_made : d_judge_made.code = .ref c_judge_made
  z_all : mg "all" = none
  z_bool : mg "bool" = none
  z_dict : mg "dict" = none
  z_enumerate : mg "enumerate" = none
  z_int : mg "int" = none
  z_isinstance : mg "isinstance" = none
  z_len : mg "len" = none
  z_list : mg "list" = none
  z_max : mg "max" = none
  z_min : mg "min" = none
  z_range : mg "range" = none
  z_str : mg "str" = none
  z_sum : mg "sum" = none
  z_tuple : mg "tuple" = none
  z_zip : mg "zip" = none
  C_HeapError : Addr
  C_NoTree : Addr
  C_NoLetter : Addr
  C_NoFit : Addr
  C_TooMany : Addr
  C_NoNumber : Addr
  C_NoText : Addr
  C_NoName : Addr
  C_NoRow : Addr
  g_HeapError : mg "HeapError" = some (.ref C_HeapError)
  k_HeapError : PySem.W.keepIn K (.ref C_HeapError) = true
  g_NoTree : mg "NoTree" = some (.ref C_NoTree)
  k_NoTree : PySem.W.keepIn K (.ref C_NoTree) = true
  g_NoLetter : mg "NoLetter" = some (.ref C_NoLetter)
  k_NoLetter : PySem.W.keepIn K (.ref C_NoLetter) = true
  g_NoFit : mg "NoFit" = some (.ref C_NoFit)
  k_NoFit : PySem.W.keepIn K (.ref C_NoFit) = true
  g_TooMany : mg "TooMany" = some (.ref C_TooMany)
  k_TooMany : PySem.W.keepIn K (.ref C_TooMany) = true
  g_NoNumber : mg "NoNumber" = some (.ref C_NoNumber)
  k_NoNumber : PySem.W.keepIn K (.ref C_NoNumber) = true
  g_NoText : mg "NoText" = some (.ref C_NoText)
  k_NoText : PySem.W.keepIn K (.ref C_NoText) = true
  g_NoName : mg "NoName" = some (.ref C_NoName)
  k_NoName : PySem.W.keepIn K (.ref C_NoName) = true
  g_NoRow : mg "NoRow" = some (.ref C_NoRow)
  k_NoRow : PySem.W.keepIn K (.ref C_NoRow) = true
  x_TooMany : PySem.W.excIn K C_TooMany [.type "ValueError", .type "Exception", .type "BaseException", .type "object"] "ValueError.__new__" = true
  b_TooMany : PySem.W.subIn K (.ref C_TooMany) (.type "BaseException") = some true
  t_TooMany : PySem.W.typeIn K (.ref C_TooMany) = some (.type "type")
  E_TooMany : ExcC K C_TooMany
  em_TooMany_HeapError : PySem.W.exmOne K (.ref C_TooMany) (.ref C_HeapError) = some true
  ki_TooMany_NoTree : PySem.W.kitOne K (.ref C_TooMany) (.ref C_NoTree) = some false
  ki_TooMany_NoLetter : PySem.W.kitOne K (.ref C_TooMany) (.ref C_NoLetter) = some false
  ki_TooMany_NoFit : PySem.W.kitOne K (.ref C_TooMany) (.ref C_NoFit) = some false
  ki_TooMany_TooMany : PySem.W.kitOne K (.ref C_TooMany) (.ref C_TooMany) = some true
  ki_TooMany_NoNumber : PySem.W.kitOne K (.ref C_TooMany) (.ref C_NoNumber) = some false
  ki_TooMany_NoText : PySem.W.kitOne K (.ref C_TooMany) (.ref C_NoText) = some false
  ki_TooMany_NoName : PySem.W.kitOne K (.ref C_TooMany) (.ref C_NoName) = some false
  ki_TooMany_NoRow : PySem.W.kitOne K (.ref C_TooMany) (.ref C_NoRow) = some false
  ki_TooMany_ValueError : PySem.W.kitOne K (.ref C_TooMany) (.type "ValueError") = some true
  z_ValueError : mg "ValueError" = none
structure Tbs {K : PySem.W.Frag} {mg : Str → Option Value} (T : Txt K mg) (base : Heap) : Prop where
  tb_judge_made : LamX.TabB base mg T.c_judge_made T.P_judge_made
abbrev q_judge_made : Str := "judge_made" ++ ".<locals>." ++ "<lambda>"
local macro_rules | `(tactic| walk_at "my rd") => `(tactic| repeat (first | refine ⟨_, rfl, ?_⟩ | refine ⟨_, _, rfl, rfl, ?_⟩ | refine ⟨rfl, ?_⟩))
local macro_rules | `(tactic| walk_at "my one") => `(tactic| first | refine ⟨_, rfl, ?_⟩ | refine ⟨_, _, rfl, rfl, ?_⟩ | refine ⟨rfl, ?_⟩)
def Chg (p : Addr) (H H' : Hp) : Prop := ∀ b, b ≠ p → H' b = H b
theorem Chg.refl (p : Addr) (H : Hp) : Chg p H H := fun _ _ => rfl
theorem Chg.trans {p : Addr} {H H1 H2 : Hp} (a : Chg p H H1) (b : Chg p H1 H2) : Chg p H H2 := fun c hc => (b c hc).trans (a c hc)
theorem Chg.upd {p : Addr} {H : Hp} {o : HO} : Chg p H (upd H p o) := fun _ h => upd_ne h
theorem Chg.at {p b : Addr} {H H' : Hp} {o : HO} (c : Chg p H H') (h : H b = some o) (n : b ≠ p) : H' b = some o := (c b n).trans h
theorem Chg.seq {K : PySem.W.Frag} {p a : Addr} {H H' : Hp} {xs : List V} (c : Chg p H H') (hp : H p = none) (h : SqL K H a xs) : SqL K H' a xs := by
  rcases h with (h | ⟨o, h⟩) | h
  · exact .inl (.inl (c.at h (ne_of_none h hp)))
  · exact .inl (.inr ⟨o, c.at h (ne_of_none h hp)⟩)
  · exact .inr h
theorem same_new {H : Hp} {p : Addr} {o : HO} (h : H p = none) : Same H (upd H p o) := fun b u q => by rw [upd_ne (ne_of_none q h)]; exact q
theorem nn_mul {a b A B : Int} (h0 : 0 ≤ a) (h1 : a ≤ A) (g0 : 0 ≤ b) (g1 : b ≤ B) : 0 ≤ a * b ∧ a * b ≤ A * B :=
  ⟨Int.mul_nonneg h0 g0, Int.mul_le_mul h1 g1 g0 (Int.le_trans h0 h1)⟩
theorem divW {i j : Int} (h : 0 < j) (h2 : j < 2 ^ 60) : CDivW i j := wide_div (b := 60) h (by omega) (by decide) (by decide)

theorem lay_ints : ∀ xs : List Int, PyData.canLayAll0 (xs.map PyData.int) = true
  | [] => by simp only [List.map_nil, PyData.canLayAll0]
  | x :: r => by simp only [List.map_cons, PyData.canLayAll0, PyData.canLay0, lay_ints r, Bool.and_self]
theorem dep_ints : ∀ xs : List Int, PyData.depthAll (xs.map PyData.int) ≤ 1
  | [] => by simp only [List.map_nil, PyData.depthAll]; omega
  | x :: r => by
    have := dep_ints r
    simp only [List.map_cons, PyData.depthAll, PyData.depth]
    omega
theorem shaped_ints (xs : List Int) : SeqAt.shaped (.list (xs.map PyData.int)) = true := by
  have a := lay_ints xs
  have b := dep_ints xs
  unfold SeqAt.shaped
  rw [Bool.and_eq_true]
  refine ⟨by simp only [PyData.canLay0]; exact a, decide_eq_true ?_⟩
  simp only [PyData.depth]
  omega
theorem dp_ints {K : PySem.W.Frag} {H : Hp} : ∀ xs : List Int, DpAll K H (xs.map V.int) (xs.map PyData.int)
  | [] => .nil
  | x :: r => .cons (.int x) (dp_ints r)
theorem dp_intsL {K : PySem.W.Frag} {H : Hp} {a : Addr} {xs : List Int} (h : SqL K H a (xs.map V.int)) : Dp K H (.ref a) (.list (xs.map PyData.int)) := .lst h (dp_ints xs)
theorem eqv_self {d : PyData} (h : SeqAt.shaped d = true) : PyData.eqv d d = true := SeqAt.eqv_refl d (SeqAt.canLay_of_shaped h)

inductive Tr where
  | node (c : Nat) (ks : List Tr)
def ch (c : Nat) : Str := ⟨#[c]⟩
mutual
def Tr.size : Tr → Nat
  | .node _ ks => 1 + sizes ks
def sizes : List Tr → Nat
  | [] => 0
  | t :: r => t.size + sizes r
end
mutual
def Tr.depth : Tr → Nat
  | .node _ ks => 1 + depths ks
def depths : List Tr → Nat
  | [] => 0
  | t :: r => max t.depth (depths r)
end
mutual
def Tr.post : Tr → List Tr
  | .node c ks => posts ks ++ [.node c ks]
def posts : List Tr → List Tr
  | [] => []
  | t :: r => t.post ++ posts r
end

mutual
def Tr.lets (p : Nat → Prop) : Tr → Prop
  | .node c ks => p c ∧ letss p ks
def letss (p : Nat → Prop) : List Tr → Prop
  | [] => True
  | t :: r => t.lets p ∧ letss p r
end
def Tr.kids : Tr → List Tr
  | .node _ ks => ks
def Tr.top : Tr → Nat
  | .node c _ => c
theorem sizes_append : ∀ a b : List Tr, sizes (a ++ b) = sizes a + sizes b
  | [], b => by simp only [List.nil_append, sizes]; omega
  | t :: r, b => by simp only [List.cons_append, sizes, sizes_append r b]; omega
theorem depths_append : ∀ a b : List Tr, depths (a ++ b) = max (depths a) (depths b)
  | [], b => by simp only [List.nil_append, depths]; omega
  | t :: r, b => by simp only [List.cons_append, depths, depths_append r b]; omega
theorem posts_append : ∀ a b : List Tr, posts (a ++ b) = posts a ++ posts b
  | [], b => by simp only [List.nil_append, posts]
  | t :: r, b => by simp only [List.cons_append, posts, posts_append r b, List.append_assoc]
theorem letss_append (p : Nat → Prop) : ∀ a b : List Tr, letss p (a ++ b) ↔ letss p a ∧ letss p b
  | [], b => by simp only [List.nil_append, letss, true_and]
  | t :: r, b => by simp only [List.cons_append, letss, letss_append p r b, and_assoc]
theorem size_pos : ∀ t : Tr, 1 ≤ t.size
  | .node c ks => by simp only [Tr.size]; omega
theorem len_sizes : ∀ ts : List Tr, ts.length ≤ sizes ts
  | [] => Nat.le_refl _
  | t :: r => by
    have a := size_pos t
    have b := len_sizes r
    simp only [List.length_cons, sizes]
    omega
mutual
theorem post_len : ∀ t : Tr, t.post.length = t.size
  | .node c ks => by simp only [Tr.post, List.length_append, posts_len ks, List.length_singleton, Tr.size]; omega
theorem posts_len : ∀ ts : List Tr, (posts ts).length = sizes ts
  | [] => rfl
  | t :: r => by simp only [posts, List.length_append, post_len t, posts_len r, sizes]
end
theorem sizes_mem : ∀ {ts : List Tr} {t : Tr}, t ∈ ts → t.size ≤ sizes ts
  | u :: r, t, h => by
    rcases List.mem_cons.mp h with e | h
    · subst e; simp only [sizes]; omega
    · have := sizes_mem h
      simp only [sizes]; omega
theorem depths_mem : ∀ {ts : List Tr} {t : Tr}, t ∈ ts → t.depth ≤ depths ts
  | u :: r, t, h => by
    rcases List.mem_cons.mp h with e | h
    · subst e; simp only [depths]; omega
    · have := depths_mem h
      simp only [depths]; omega
theorem letss_mem {p : Nat → Prop} : ∀ {ts : List Tr} {t : Tr}, letss p ts → t ∈ ts → t.lets p
  | u :: r, t, hl, h => by
    simp only [letss] at hl
    rcases List.mem_cons.mp h with e | h
    · subst e; exact hl.1
    · exact letss_mem hl.2 h
mutual
theorem lets_mono {p q : Nat → Prop} (h : ∀ c, p c → q c) : ∀ t : Tr, t.lets p → t.lets q
  | .node c ks, a => by
    simp only [Tr.lets] at a ⊢
    exact ⟨h _ a.1, letss_mono h ks a.2⟩
theorem letss_mono {p q : Nat → Prop} (h : ∀ c, p c → q c) : ∀ ts : List Tr, letss p ts → letss q ts
  | [], _ => trivial
  | t :: r, a => by
    simp only [letss] at a ⊢
    exact ⟨lets_mono h t a.1, letss_mono h r a.2⟩
end
mutual
inductive TrAt (ok : Addr → Prop) (H : Hp) : V → Tr → Prop
  | node {a l : Addr} {vs : List V} {c : Nat} {ks : List Tr} : H a = some (.tup [.str (ch c), .ref l]) → H l = some (.lst vs) → ok a → ok l → 97 ≤ c → c ≤ 122 → TrsAt ok H vs ks → TrAt ok H (.ref a) (.node c ks)
inductive TrsAt (ok : Addr → Prop) (H : Hp) : List V → List Tr → Prop
  | nil : TrsAt ok H [] []
  | cons {v : V} {vs : List V} {t : Tr} {ts : List Tr} : TrAt ok H v t → TrsAt ok H vs ts → TrsAt ok H (v :: vs) (t :: ts)
end
section
variable {ok ok' : Addr → Prop} {H H' : Hp}
mutual
theorem TrAt.imp (hk : ∀ b, ok b → ok' b) (h : ∀ b o, ok b → H b = some o → H' b = some o) : ∀ (t : Tr) (v : V), TrAt ok H v t → TrAt ok' H' v t
  | .node c ks, v, x => by
    cases x with
    | node h1 h2 k1 k2 c1 c2 r => exact .node (h _ _ k1 h1) (h _ _ k2 h2) (hk _ k1) (hk _ k2) c1 c2 (TrsAt.imp hk h ks _ r)
theorem TrsAt.imp (hk : ∀ b, ok b → ok' b) (h : ∀ b o, ok b → H b = some o → H' b = some o) : ∀ (ts : List Tr) (vs : List V), TrsAt ok H vs ts → TrsAt ok' H' vs ts
  | [], _, x => by cases x; exact .nil
  | t :: r, _, x => by
    cases x with
    | cons a b => exact .cons (TrAt.imp hk h t _ a) (TrsAt.imp hk h r _ b)
end
theorem TrAt.keep {v : V} {t : Tr} (x : TrAt ok H v t) (h : ∀ b o, ok b → H b = some o → H' b = some o) : TrAt ok H' v t := TrAt.imp (fun _ k => k) h t v x
theorem TrsAt.keep {vs : List V} {ts : List Tr} (x : TrsAt ok H vs ts) (h : ∀ b o, ok b → H b = some o → H' b = some o) : TrsAt ok H' vs ts := TrsAt.imp (fun _ k => k) h ts vs x
theorem TrAt.weak {v : V} {t : Tr} (x : TrAt ok H v t) (h : ∀ b, ok b → ok' b) : TrAt ok' H v t := TrAt.imp h (fun _ _ _ e => e) t v x
theorem TrsAt.weak {vs : List V} {ts : List Tr} (x : TrsAt ok H vs ts) (h : ∀ b, ok b → ok' b) : TrsAt ok' H vs ts := TrsAt.imp h (fun _ _ _ e => e) ts vs x
mutual
theorem TrAt.there : ∀ (t : Tr) (v : V), TrAt ok H v t → TrAt (fun b => ok b ∧ ∃ o, H b = some o) H v t
  | .node c ks, v, x => by
    cases x with
    | node h1 h2 k1 k2 c1 c2 r => exact .node h1 h2 ⟨k1, _, h1⟩ ⟨k2, _, h2⟩ c1 c2 (TrsAt.there ks _ r)
theorem TrsAt.there : ∀ (ts : List Tr) (vs : List V), TrsAt ok H vs ts → TrsAt (fun b => ok b ∧ ∃ o, H b = some o) H vs ts
  | [], _, x => by cases x; exact .nil
  | t :: r, _, x => by
    cases x with
    | cons a b => exact .cons (TrAt.there t _ a) (TrsAt.there r _ b)
end
theorem TrsAt.len : ∀ {vs : List V} {ts : List Tr}, TrsAt ok H vs ts → vs.length = ts.length
  | [], [], _ => rfl
  | v :: vs, t :: ts, h => by
    cases h with
    | cons a b => simp only [List.length_cons, TrsAt.len b]
  | [], _ :: _, h => by cases h
  | _ :: _, [], h => by cases h
theorem TrsAt.get : ∀ {vs : List V} {ts : List Tr} {i : Nat} {t : Tr}, TrsAt ok H vs ts → ts[i]? = some t → ∃ v, vs[i]? = some v ∧ TrAt ok H v t
  | _, _, i, t, .nil, e => by simp at e
  | _, _, 0, t, .cons a _, e => by simp at e; subst e; exact ⟨_, rfl, a⟩
  | _, _, i + 1, t, .cons _ b, e => by
    obtain ⟨v, h1, h2⟩ := TrsAt.get (i := i) (t := t) b (by simpa using e)
    exact ⟨v, by simpa using h1, h2⟩
theorem TrsAt.getV : ∀ {vs : List V} {ts : List Tr} {i : Nat} {v : V}, TrsAt ok H vs ts → vs[i]? = some v → ∃ t, ts[i]? = some t ∧ TrAt ok H v t
  | _, _, i, t, .nil, e => by simp at e
  | _, _, 0, t, .cons a _, e => by simp at e; subst e; exact ⟨_, rfl, a⟩
  | _, _, i + 1, t, .cons _ b, e => by
    obtain ⟨v, h1, h2⟩ := TrsAt.getV (i := i) (v := t) b (by simpa using e)
    exact ⟨v, by simpa using h1, h2⟩
theorem TrsAt.append : ∀ {vs ws : List V} {ts us : List Tr}, TrsAt ok H vs ts → TrsAt ok H ws us → TrsAt ok H (vs ++ ws) (ts ++ us)
  | [], _, [], _, _, h => h
  | v :: vs, _, t :: ts, _, h, g => by
    cases h with
    | cons a b => exact .cons a (TrsAt.append b g)
  | [], _, _ :: _, _, h, _ => by cases h
  | _ :: _, _, [], _, h, _ => by cases h
theorem TrsAt.split : ∀ {vs ws : List V} {ts : List Tr}, TrsAt ok H (vs ++ ws) ts → ∃ a b, ts = a ++ b ∧ TrsAt ok H vs a ∧ TrsAt ok H ws b
  | [], ws, ts, h => ⟨[], ts, rfl, .nil, h⟩
  | v :: vs, ws, _, h => by
    cases h with
    | cons x y =>
      obtain ⟨a, b, e, h1, h2⟩ := TrsAt.split y
      exact ⟨_ :: a, b, by rw [e]; rfl, .cons x h1, h2⟩
theorem TrsAt.perm {vs ws : List V} (p : vs.Perm ws) : ∀ {ts : List Tr}, TrsAt ok H vs ts → ∃ us, ts.Perm us ∧ TrsAt ok H ws us := by
  induction p with
  | nil => intro ts h; exact ⟨ts, .refl _, h⟩
  | cons x _ ih =>
    intro ts h
    cases h with
    | cons a b =>
      obtain ⟨us, p1, h1⟩ := ih b
      exact ⟨_ :: us, p1.cons _, .cons a h1⟩
  | swap x y l =>
    intro ts h
    cases h with
    | cons a b =>
      cases b with
      | cons c d => exact ⟨_, .swap _ _ _, .cons c (.cons a d)⟩
  | trans _ _ ih1 ih2 =>
    intro ts h
    obtain ⟨us, p1, h1⟩ := ih1 h
    obtain ⟨ws, p2, h2⟩ := ih2 h1
    exact ⟨ws, p1.trans p2, h2⟩
theorem TrsAt.rev {vs : List V} {ts : List Tr} (h : TrsAt ok H vs ts) : TrsAt ok H vs.reverse ts.reverse := by
  induction vs generalizing ts with
  | nil => cases h; exact .nil
  | cons v vs ih =>
    cases h with
    | cons a b =>
      rw [List.reverse_cons, List.reverse_cons]
      exact (ih b).append (.cons a .nil)
end
theorem sizes_perm {a b : List Tr} (p : a.Perm b) : sizes a = sizes b := by
  induction p with
  | nil => rfl
  | cons x _ ih => simp only [sizes, ih]
  | swap x y l => simp only [sizes]; omega
  | trans _ _ ih1 ih2 => exact ih1.trans ih2
theorem depths_perm {a b : List Tr} (p : a.Perm b) : depths a = depths b := by
  induction p with
  | nil => rfl
  | cons x _ ih => simp only [depths, ih]
  | swap x y l => simp only [depths]; omega
  | trans _ _ ih1 ih2 => exact ih1.trans ih2
theorem letss_perm {p : Nat → Prop} {a b : List Tr} (h : a.Perm b) : letss p a → letss p b := by
  induction h with
  | nil => exact id
  | cons x _ ih =>
    intro q
    simp only [letss] at q ⊢
    exact ⟨q.1, ih q.2⟩
  | swap x y l =>
    intro q
    simp only [letss] at q ⊢
    exact ⟨q.2.1, q.1, q.2.2⟩
  | trans _ _ ih1 ih2 => exact fun q => ih2 (ih1 q)
mutual
inductive Sh : Tr → Tr → Prop
  | node {c : Nat} {ks us ls : List Tr} : ks.Perm us → Shs us ls → Sh (.node c ks) (.node c ls)
inductive Shs : List Tr → List Tr → Prop
  | nil : Shs [] []
  | cons {t u : Tr} {ts us : List Tr} : Sh t u → Shs ts us → Shs (t :: ts) (u :: us)
end
mutual
theorem Sh.refl : ∀ t : Tr, Sh t t
  | .node c ks => .node (.refl _) (Shs.refl ks)
theorem Shs.refl : ∀ ts : List Tr, Shs ts ts
  | [] => .nil
  | t :: r => .cons (Sh.refl t) (Shs.refl r)
end
mutual
theorem Sh.size : ∀ {t u : Tr}, Sh t u → t.size = u.size
  | _, _, .node p h => by simp only [Tr.size, sizes_perm p, Shs.sizes h]
theorem Shs.sizes : ∀ {ts us : List Tr}, Shs ts us → My.sizes ts = My.sizes us
  | _, _, .nil => rfl
  | _, _, .cons a b => by simp only [My.sizes, Sh.size a, Shs.sizes b]
end
mutual
theorem Sh.depth : ∀ {t u : Tr}, Sh t u → t.depth = u.depth
  | _, _, .node p h => by simp only [Tr.depth, depths_perm p, Shs.depths h]
theorem Shs.depths : ∀ {ts us : List Tr}, Shs ts us → My.depths ts = My.depths us
  | _, _, .nil => rfl
  | _, _, .cons a b => by simp only [My.depths, Sh.depth a, Shs.depths b]
end
mutual
theorem Sh.lets {p : Nat → Prop} : ∀ {t u : Tr}, Sh t u → t.lets p → u.lets p
  | _, _, .node q h, a => by
    simp only [Tr.lets] at a ⊢
    exact ⟨a.1, Shs.letss h (letss_perm q a.2)⟩
theorem Shs.letss {p : Nat → Prop} : ∀ {ts us : List Tr}, Shs ts us → My.letss p ts → My.letss p us
  | _, _, .nil, a => a
  | _, _, .cons x y, a => by
    simp only [My.letss] at a ⊢
    exact ⟨Sh.lets x a.1, Shs.letss y a.2⟩
end
theorem Shs.len : ∀ {ts us : List Tr}, Shs ts us → ts.length = us.length
  | _, _, .nil => rfl
  | _, _, .cons a b => by simp only [List.length_cons, Shs.len b]
theorem Shs.append : ∀ {ts us ts' us' : List Tr}, Shs ts us → Shs ts' us' → Shs (ts ++ ts') (us ++ us')
  | _, _, _, _, .nil, h => h
  | _, _, _, _, .cons a b, h => .cons a (Shs.append b h)

def Fr (p : Addr) (H H' : Hp) : Prop := ∀ b o, b ≠ p → H b = some o → H' b = some o
theorem Fr.refl (p : Addr) (H : Hp) : Fr p H H := fun _ _ _ h => h
theorem Fr.trans {p : Addr} {H H1 H2 : Hp} (a : Fr p H H1) (b : Fr p H1 H2) : Fr p H H2 := fun c o n h => b c o n (a c o n h)
theorem Fr.same {p : Addr} {H H' : Hp} (s : Same H H') : Fr p H H' := fun b o _ h => s b o h
theorem Fr.chg {p : Addr} {H H' : Hp} (c : Chg p H H') : Fr p H H' := fun _ _ n h => c.at h n
theorem Fr.new {p q : Addr} {H H' : Hp} {o : HO} (f : Fr p H H') (h : H q = none) : Fr p H (upd H' q o) := fun b u n e => by
  rw [upd_ne (ne_of_none e h)]
  exact f b u n e
theorem same_add {q : Addr} {H H' : Hp} {o : HO} (f : Same H H') (h : H q = none) : Same H (upd H' q o) := fun b u e => by
  rw [upd_ne (ne_of_none e h)]
  exact f b u e
theorem Fr.free {p q : Addr} {H H' : Hp} (f : Fr p H H') (hp : H' p ≠ none) (h : H' q = none) : H q = none := by
  cases e : H q with
  | none => rfl
  | some o =>
    by_cases hq : q = p
    · subst hq; exact absurd h hp
    · rw [f q o hq e] at h; cases h
theorem Fr.seq {K : PySem.W.Frag} {p a : Addr} {H H' : Hp} {xs : List V} (c : Fr p H H') (hp : H p = none) (h : SqL K H a xs) : SqL K H' a xs := by
  rcases h with (h | ⟨o, h⟩) | h
  · exact .inl (.inl (c _ _ (ne_of_none h hp) h))
  · exact .inl (.inr ⟨o, c _ _ (ne_of_none h hp) h⟩)
  · exact .inr h
theorem TrAt.same {ok : Addr → Prop} {H H' : Hp} {v : V} {t : Tr} (x : TrAt ok H v t) (s : Same H H') : TrAt ok H' v t := x.keep fun b o _ h => s b o h
theorem TrsAt.same {ok : Addr → Prop} {H H' : Hp} {vs : List V} {ts : List Tr} (x : TrsAt ok H vs ts) (s : Same H H') : TrsAt ok H' vs ts := x.keep fun b o _ h => s b o h
theorem TrAt.off {ok : Addr → Prop} {H : Hp} {v : V} {t : Tr} {w : Addr} (x : TrAt ok H v t) (h : H w = none) : TrAt (fun b => ok b ∧ b ≠ w) H v t :=
  (TrAt.there t v x).weak fun b ⟨k, o, e⟩ => ⟨k, ne_of_none e h⟩
theorem TrsAt.off {ok : Addr → Prop} {H : Hp} {vs : List V} {ts : List Tr} {w : Addr} (x : TrsAt ok H vs ts) (h : H w = none) : TrsAt (fun b => ok b ∧ b ≠ w) H vs ts :=
  (TrsAt.there ts vs x).weak fun b ⟨k, o, e⟩ => ⟨k, ne_of_none e h⟩
theorem upd_keep {H : Hp} {w : Addr} {o : HO} {ok : Addr → Prop} (h : ∀ b, ok b → b ≠ w) : ∀ b u, ok b → H b = some u → (upd H w o) b = some u := fun b u k e => by
  rw [upd_ne (h b k)]
  exact e
theorem lc_outer {K : PySem.W.Frag} {a : Addr} {xs : List V} {Bd : V → Hp → (Hp → Prop) → Prop} {Qd : Hp → Prop} {H0 : Hp} (Pv : Nat → Hp → Prop) (h0 : Pv 0 H0) (hl : ∀ i H, i ≤ xs.length → Pv i H → SqL K H a xs)
    (hs : ∀ i x H, xs[i]? = some x → Pv i H → Bd x H (Pv (i + 1))) (hd : ∀ H, Pv xs.length H → Qd H) :
    ∃ W : Nat → Nat → Hp → Prop, (∃ m, W 0 m H0) ∧ ∀ i m H, W i m H → ((Itl K a).stop i H ∧ Qd H) ∨ ((Itl K a).go i H ∧ ∃ Nx : Hp → Prop, (∀ H', Nx H' → ∃ m', m' < m ∧ W (i + 1) m' H') ∧ ∀ x H', (Itl K a).yld i H x H' → Bd x H' Nx) := by
  refine ⟨fun i m H => m = xs.length - i ∧ i ≤ xs.length ∧ Pv i H, ⟨xs.length, by simp, Nat.zero_le _, h0⟩, ?_⟩
  rintro i m H ⟨rfl, hi, p⟩
  have q := hl i H hi p
  by_cases hlt : i < xs.length
  · refine .inr ⟨⟨xs, xs[i], q, by simp [hlt]⟩, Pv (i + 1), fun H' p' => ⟨xs.length - (i + 1), by omega, rfl, hlt, p'⟩, fun x H' y => ?_⟩
    obtain ⟨e, y⟩ := y
    subst e
    exact hs i x _ (y xs q) p
  · have e : i = xs.length := by omega
    subst e
    exact .inl ⟨⟨xs, q, Nat.le_refl _⟩, hd H p⟩
theorem take_succ_of {α : Type} {l : List α} {i : Nat} {x : α} (h : l[i]? = some x) : l.take (i + 1) = l.take i ++ [x] := by
  rw [List.take_add_one, h]
  rfl

def RowL (params : Arguments) (scope : PySem.Scope) (body : PySem.Expr) : Prop :=
  (∃ (x : Str) (p1 p2 p3 : Pos) (k0 : Nat), body = .Subscript (.Name x p1) (.Constant (.int 0) k0 p2) p3 ∧ (x == Str.ofString "__debug__") = false ∧ scope.names = [(x, .local)] ∧
    ∀ (fd : FuncData) (u : Value), fd.params = params → fd.defaults = .none → fd.kwdefaults = .none → bindArgs fd ⟨[u], []⟩ = pure [(x, u)]) ∧
  scope.kind = .function ∧ scope.isGenerator = false ∧ scope.isCoroutine = false
theorem row_call {P : Program} {w : World} {A : Around} {s : Shared} {f p c' : Addr} {nm q : Str} {params : Arguments} {scope : PySem.Scope} {body : PySem.Expr} {clos : List (Str × Addr)} {pm ctv : Value} {its : Array Value} {x : Str} {tx : Tok}
    (R : RowL params scope body) (hd : A.depth < recursionLimit) (hf : s.heap.get? f = some (PySem.W.kla_obj nm q params body scope clos pm c' ctv))
    (hc : s.heap.CodeRec (.ref c') q) (hn : s.heap.NoLimit) (ht : IsTup s.heap p its) (h0 : its[0]? = some (.str x tx)) :
    wpAny (model P w) A (call (.ref f) [.ref p]) (PySem.W.KeyPure (.str x) s) (fun _ _ => False) s := by
  obtain ⟨⟨z, p1, p2, p3, k0, rfl, hz, hnm, hb⟩, hk, hg, ho⟩ := R
  refine wpAny_call ?_
  refine PySem.W.kla_callFunE hd hf rfl ho hg rfl hc ?_
  refine BindsTo.of_eq (hb _ _ rfl rfl rfl) _ _ _ _ ?_
  refine wpAny_newFunctionEnv (by intro y hy; rw [show (PySem.W.kla_fn nm q params _ scope clos pm (.ref c') ctv).scope.names = _ from hnm] at hy; simp only [List.mem_singleton] at hy; subst hy; simp) (by intro y hy; simp only [List.mem_singleton] at hy; subst hy; rw [show (PySem.W.kla_fn nm q params _ scope clos pm (.ref c') ctv).scope.names = _ from hnm]; simp) (fun h' hns hsame => ?_) hk
  have hkeep : ∀ b o, s.heap.get? b = some o → h'.get? b = some o := by
    intro b o hb
    have hne : b ≠ s.heap.objs.size := fun e => by
      rw [e] at hb
      simp [Heap.get?] at hb
    rw [hsame.2 b hne]
    exact Heap.get?_push_of_some _ hb
  refine ⟨hn.keeps hkeep, PySem.W.kla_codeExpr ?_⟩
  refine Subscript_Constant (wpAny_Name (wpAny_loadName_local (m := fun y => List.lookup y [(z, Value.ref p)].reverse) (v := .ref p) hk ?_ hns ?_ ?_) hz)
  · simp [Env.kindOf, newEnv, hnm]
  · simp
  refine wpAny_Constant_int ?_
  obtain ⟨o, g1, g2, n, g3⟩ := ht
  have ht' : IsTup h' p its := ⟨o, hkeep _ _ g1, g2, n, g3⟩
  refine ⟨"tuple", _, rfl, ⟨o, hkeep _ _ g1, g2⟩, ?_⟩
  have hz0 : its.size ≠ 0 := fun e => by
    rw [Array.getElem?_eq_none (by omega)] at h0
    cases h0
  refine getItem_tuple (j := 0) ht' (by decide) (by decide) ?_ h0 ?_
  · simp [seqIndex?]
    intro e
    rw [e] at hz0
    exact hz0 rfl
  exact ⟨h', _, rfl, hkeep, .str _ _⟩

def leS (a b : V × Str) : Bool := decide (a.2.cps.toList ≤ b.2.cps.toList)
def RowO (f c : Addr) (q : Str) : HO := .ext fun h => ∃ nm params body scope clos pm ctv, h.get? f = some (PySem.W.kla_obj nm q params body scope clos pm c ctv) ∧ RowL params scope body
def rSortRow : List V → List V → Hp → VK → Prop := fun xs zs H Q => ∃ (a f c : Addr) (q : Str) (bs : List (V × Str)), xs = [.ref a] ∧ zs = [.ref f] ∧ H f = some (RowO f c q) ∧ H c = some (LamX.CodeO c q) ∧ H a = some (.lst (bs.map Prod.fst)) ∧
  (∀ b ∈ bs, ∃ p rest, b.1 = .ref p ∧ H p = some (.tup (.str b.2 :: rest))) ∧ bs.length ≤ sizeLine ∧ ∀ r, H r = none → Q (.ref r) (upd H r (.lst ((bs.mergeSort leS).map Prod.fst)))
def RowR (H : Hp) (v : Value) (b : V × Str) : Prop := RelV b.1 v ∧ ∃ p rest, b.1 = .ref p ∧ H p = some (.tup (.str b.2 :: rest))
theorem eachRow {H : Hp} : ∀ {bs : List (V × Str)} {its : List Value}, Vals (bs.map Prod.fst) its → (∀ b ∈ bs, ∃ p rest, b.1 = .ref p ∧ H p = some (.tup (.str b.2 :: rest))) → PySem.W.EachIs (RowR H) its bs
  | [], _, v, _ => by cases v; exact .nil
  | b :: r, _, v, h => by
    cases v with
    | cons g1 g2 => exact .cons ⟨g1, h b (by simp)⟩ (eachRow g2 fun x hx => h x (by simp [hx]))
theorem rowEach {H : Hp} : ∀ {bs : List (V × Str)} {its : List Value}, PySem.W.EachIs (RowR H) its bs → Vals (bs.map Prod.fst) its
  | [], _, v => by cases v; exact .nil
  | b :: r, _, v => by
    cases v with
    | cons g1 g2 => exact .cons g1.1 (rowEach g2)
theorem cr_sortRow {X : Cx} {k : Nat} (hr : Room k X.A) : CallRK X (.builtin "sorted") ["key"] rSortRow := by
  intro pins s σ H xs zs us ws Q I hv hw h
  obtain ⟨a, f, c, q, bs, rfl, rfl, hf, hc, ha, hp, hz, q2⟩ := h
  cases hv with
  | cons g1 g2 =>
  cases g2
  cases hw with
  | cons g3 g4 =>
  cases g4
  cases g1
  cases g3
  have oa := I.hok _ _ ha
  have of := I.hok _ _ hf
  have oc := I.hok _ _ hc
  obtain ⟨nm, params, body, scope, clos, pm, ctv, hfo, hR⟩ := of.1
  obtain ⟨oz, its, n, hits, hao⟩ := oa
  refine PySem.W.sorted_key_data (vs := its) (bs := bs) (R := RowR H) (f := .ref f) (b := false) (fun b => .str b.2) ⟨_, hao, rfl, n, rfl⟩ (eachRow hits hp) ?_ ?_ hz ?_ (ksk_s1 _ _) (fun x => ksk_l1 _ _) (fun x => ?_) (fun v x hv hx h tk hk => ?_) (fun out c' h' tk hk hn ho hl he => ?_)
  · intro d hd d' hd'
    simp only [List.mem_map] at hd hd'
    obtain ⟨_, _, rfl⟩ := hd
    obtain ⟨_, _, rfl⟩ := hd'
    rfl
  · refine .inr fun d hd => ?_
    simp only [List.mem_map] at hd
    obtain ⟨_, _, rfl⟩ := hd
    exact ⟨by simp, by simp⟩
  · intro x _
    have := hr.un
    have e : (PyData.str x.2).depth = 0 := rfl
    omega
  · rfl
  · obtain ⟨hv1, p, rest, e1, e2⟩ := hv
    obtain ⟨v1, w1⟩ := x
    dsimp only at e1 hv1 e2 hx ⊢
    subst e1
    cases hv1
    have op := I.hok _ _ e2
    obtain ⟨_, its2, g1, g2, g3, n2, g4⟩ := op
    cases g1 with
    | cons k1 k2 =>
    obtain ⟨tx, rfl⟩ := k1
    obtain ⟨oc', vs', t', c1, c2, c3⟩ := oc.1
    refine row_call (its := _) (x := w1) (tx := tx) hR ?_ (hk _ _ hfo) ⟨_, _, _, _, rfl, hk _ _ c1, c2, c3⟩ (I.nolimit.keeps hk) ⟨g2, hk _ _ g3, n2, g4⟩ (by simp)
    have := hr.dp
    show X.A.depth < recursionLimit
    omega
  · refine ⟨.ref (s.heap.objs.size + 1), _, I.laid (a := s.heap.objs.size + 1) (o := .lst ((bs.mergeSort leS).map Prod.fst)) hk (by omega) ?_, rfl, q2 _ ?_⟩
    · have e : PySem.W.dataLe false (fun b : V × Str => PyData.str b.2) = leS := PySem.W.dataLe_str _
      rw [e] at he
      exact ⟨by simpa using hz, out, c', rowEach he, ho⟩
    · exact I.hok.fresh (by omega)
theorem rowO_ok {P : Program} {w : World} {H : Hp} {h : Heap} {c : Addr} {nm q : Str} {params : Arguments} {scope : PySem.Scope} {body : PySem.Expr} {clos : List (Str × Addr)} {pm ctv : Value} (hR : RowL params scope body) :
    ObjOk P w H (h.push (PySem.W.kla_obj nm q params body scope clos pm c ctv)) h.objs.size (RowO h.objs.size c q) := by
  have e : (h.push (PySem.W.kla_obj nm q params body scope clos pm c ctv)).get? h.objs.size = some (PySem.W.kla_obj nm q params body scope clos pm c ctv) := Heap.get?_push_size _ rfl
  refine ⟨⟨_, _, _, _, _, _, _, e, hR⟩, ⟨_, e⟩, fun h1 h2 ⟨a1, a2, a3, a4, a5, a6, a7, e1, e2⟩ k => ⟨a1, a2, a3, a4, a5, a6, a7, k _ e1, e2⟩⟩
theorem pe_lamRow {X : Cx} {c P : Addr} {params : Arguments} {body : PySem.Expr} {scope : PySem.Scope} {pos : Pos} (tb : LamX.TabB X.base X.mg c P) (hc : X.env.code = .ref c) (hd : defaultsOf params X.env = ([], []))
    (hR : RowL params scope body) : PE X (.Lambda params body scope pos) (fun σ H Q => LamX.TabS H P (X.env.qual ++ "<lambda>") ∧ ∀ (f c : Addr) (H1 : Hp), Fr P H H1 → LamX.TabS H1 P (X.env.qual ++ "<lambda>") → H1 f = some (RowO f c (X.env.qual ++ "<lambda>")) → H1 c = some (LamX.CodeO c (X.env.qual ++ "<lambda>")) → Q (.ref f) H1) := by
  refine ⟨fun pins s σ H Q I h => ?_⟩
  obtain ⟨ht, q⟩ := h
  have hclo : closureFor scope X.env = pure (cloFrom X.env.cells scope.names []) := by
    refine closure_ok ?_
    intro y hy he
    obtain ⟨⟨z, p1, p2, p3, k0, rfl, hz, hnm, hb⟩, hk, hg, ho⟩ := hR
    rw [hnm] at hy
    simp only [List.mem_singleton] at hy
    subst hy
    cases he
  have ht' := ht
  obtain ⟨ps, hP, hT, hA⟩ := ht'
  have oP : s.heap.get? P = some (PySem.W.tabObj ps) := I.hok _ _ hP
  refine PySem.W.kla_eval hd ?_
  cases hcd : codeAmong pos ps.toList with
  | some cv =>
    obtain ⟨c', rfl, hc'⟩ := hA _ _ hcd
    refine PySem.W.kla_makeFunctionHit hclo I.ok.glob (I.mod.glob.keeps I.bk) hc (tb.code.keeps I.bk) oP hT hcd (tb.bm.keeps I.bk) (fun ctv h' tk hk hs => ?_)
    have I1 := I.kept (t' := tk) hk
    have hz : s.heap.objs.size ≤ h'.objs.size := hs
    have hn : H h'.objs.size = none := I.hok.fresh hz
    refine ⟨.ref h'.objs.size, upd H h'.objs.size (RowO h'.objs.size c' (X.env.qual ++ "<lambda>")), ?_, rfl, q _ c' _ (fun b o _ hb => ?_) (ht.ext fun b o hb => ?_) upd_same ?_⟩
    · exact I1.laid (h' := h'.push _) (t' := tk) (fun b u hb => Heap.get?_push_of_some _ hb) (Nat.le_refl _) (rowO_ok hR)
    · rw [upd_ne (ne_of_none hb hn)]; exact hb
    · rw [upd_ne (ne_of_none hb hn)]; exact hb
    · rw [upd_ne (ne_of_none hc' hn)]; exact hc'
  | none =>
    refine PySem.W.kla_makeFunction hclo I.ok.glob (I.mod.glob.keeps I.bk) hc (tb.code.keeps I.bk) oP hT hcd tb.gP (tb.bm.keeps I.bk) (fun c' ctv h' tk he hl hu hrec hP' => ?_)
    obtain ⟨c2, o2, vs2, t2, ec, e1, e2, e3⟩ := hrec
    cases ec
    have I2 := LamX.inv_table (t' := tk) (c := c') (q := X.env.qual ++ "<lambda>") I hP he (more := #[rawInt ↑pos.line, rawInt ↑pos.col, .ref c']) hP' hl ⟨_, _, _, e1, e2, e3⟩
    have hn : (upd (upd H P (.tbl (ps ++ #[rawInt ↑pos.line, rawInt ↑pos.col, .ref c']))) c' (LamX.CodeO c' (X.env.qual ++ "<lambda>"))) h'.objs.size = none := I2.hok.fresh (Nat.le_refl _)
    have hcn : H c' = none := I.hok.fresh hl
    have hPc : P ≠ c' := fun e => by rw [e] at hP; rw [hcn] at hP; cases hP
    refine ⟨.ref h'.objs.size, _, I2.laid (h' := h'.push _) (o := RowO h'.objs.size c' (X.env.qual ++ "<lambda>")) (t' := tk) (fun b u hb => Heap.get?_push_of_some _ hb) (Nat.le_refl _) (rowO_ok hR), rfl, q _ c' _ ?_ ?_ upd_same ?_⟩
    · intro b o hbP hb
      have h1 : (upd (upd H P (.tbl (ps ++ #[rawInt ↑pos.line, rawInt ↑pos.col, .ref c']))) c' (LamX.CodeO c' (X.env.qual ++ "<lambda>"))) b = some o := by
        rw [upd_ne (ne_of_none hb hcn), upd_ne hbP]; exact hb
      rw [upd_ne (ne_of_none h1 hn)]; exact h1
    · refine LamX.TabS.ext (H := upd (upd H P (.tbl (ps ++ #[rawInt ↑pos.line, rawInt ↑pos.col, .ref c']))) c' (LamX.CodeO c' (X.env.qual ++ "<lambda>"))) ?_ (fun b o hb => by rw [upd_ne (ne_of_none hb hn)]; exact hb)
      refine ⟨_, by rw [upd_ne hPc]; exact upd_same, ?_, ?_⟩
      · simpa using TriplesOk_snoc _ _ _ _ hT
      · intro pos2 cv hcv
        rw [Array.toList_append] at hcv
        rcases LamX.among_app _ hT hcv with h | h
        · obtain ⟨c3, e3, h3⟩ := hA _ _ h
          refine ⟨c3, e3, ?_⟩
          rw [upd_ne (ne_of_none h3 hcn), upd_ne (fun e => by rw [e, hP] at h3; cases h3)]
          exact h3
        · exact ⟨c', h, upd_same⟩
    · have h1 : (upd (upd H P (.tbl (ps ++ #[rawInt ↑pos.line, rawInt ↑pos.col, .ref c']))) c' (LamX.CodeO c' (X.env.qual ++ "<lambda>"))) c' = some (LamX.CodeO c' (X.env.qual ++ "<lambda>")) := upd_same
      rw [upd_ne (ne_of_none h1 hn)]; exact h1

theorem okC {P : Program} {w : World} {K : PySem.W.Frag} {mg : Str → Option Value} {base : Heap} {x qual : Str} {st : Stmt} {f c : Addr} {fd : FuncData} {N ps : List Str} {k : Nat} {sp : Sp} (F : Fun K x qual st f fd) (hc : fd.code = .ref c) (S : FnScope N ps (defScope st))
    (len : ∀ vs H Q E, sp vs H Q E → vs.length = ps.length)
    (hb : ∀ (A : Around) (outer : List Env) (s : Shared) (H : Hp) (vs : List V) (Q : VK) (E : XK), Room k (A.deeper (envOfC qual (defScope st) s.heap.objs.size f (.ref c))) → sp vs H Q E →
      ∃ t, PSs (cxOf CX0 P w K mg base N qual (defScope st) f (.ref c) A outer s H E).nox (defBody st) t ∧ t { nx := fun _ H' => Q .non H', rt := Q } (L2.start N vs) H) : FnOk P w K mg base CX0 (k + 1) f fd ps sp := by
  obtain ⟨oc, od, kV, doc, pm, an, cdv, ct, osl, rfl, lk, hcd⟩ := F.ex
  cases hc
  exact fn_of lk hcd S len fun A outer s H vs Q E hr hsp => by
    obtain ⟨t, h, q⟩ := hb A outer s H vs Q E hr hsp
    exact ⟨t, h.nox, q⟩
theorem rowL_mk {x : Str} {p0 p1 p2 p3 : Pos} {k0 : Nat} {scope : PySem.Scope} (hz : (x == Str.ofString "__debug__") = false) (hn : scope.names = [(x, .local)]) (hk : scope.kind = .function) (hg : scope.isGenerator = false) (hc : scope.isCoroutine = false)
    (hb : ∀ (nm q : Str) (b : FuncBody) (sc : PySem.Scope) (g : Addr) (cl : List (Str × Addr)) (pm an : Value) (cd : Option Addr) (ct bl : Value) (bu : Addr) (u : Value), bindArgs ⟨nm, q, { posonlyargs := [], args := [{ arg := x, annotation := none, pos := p0 }], vararg := none, kwonlyargs := [], kw_defaults := [], kwarg := none, defaults := [] }, b, sc, g, cl, .none, .none, pm, an, cd, ct, bl, bu⟩ ⟨[u], []⟩ = pure [(x, u)]) :
    RowL { posonlyargs := [], args := [{ arg := x, annotation := none, pos := p0 }], vararg := none, kwonlyargs := [], kw_defaults := [], kwarg := none, defaults := [] } scope (.Subscript (.Name x p1) (.Constant (.int 0) k0 p2) p3) := by
  refine ⟨⟨x, p1, p2, p3, k0, rfl, hz, hn, fun fd u e1 e2 e3 => ?_⟩, hk, hg, hc⟩
  obtain ⟨nm, q, pr, b, sc, g, cl, d, kd, pm, an, cd, ct, bl, bu⟩ := fd
  subst e1 e2 e3
  exact hb _ _ _ _ _ _ _ _ _ _ _ _ _
def spLawT (K : PySem.W.Frag) (Ps : List Addr) : Sp := fun vs H Q _ => ∃ (a : Addr) (ns : List Int), vs = [.ref a] ∧ SqL K H a (ns.map V.int) ∧ ns.length ≤ 63 ∧ (∀ P ∈ Ps, H P = some (.tbl #[])) ∧ ∀ H', Q (.bl true) H'
def LawT (l : PySem.W.OpenLaw) (w : World) (K : PySem.W.Frag) (k : Nat) (x : Str) (mg : Str → Option Value) (fa : Addr) (cs : List (Str × Addr × Addr)) : Prop :=
  (∀ z ∈ cs, PySem.W.tabIn K z.1 = some (z.2.1, z.2.2) ∧ K.lookup z.2.2 = none) ∧ ∃ fd : FuncData, (∀ (s : Shared) (v : Value), BindsTo s fd ⟨[v], []⟩ [(x, v)]) ∧
    ∀ base : Heap, K.In base → base.Ns mainGlobals mg → (∀ z ∈ cs, LamX.TabB base mg z.2.1 z.2.2) → FnOk l.prog w K mg base CX0 k fa fd [x] (spLawT K (cs.map fun z => z.2.2))
theorem walk_ofT {l : PySem.W.OpenLaw} {n k : Nat} {q : Program} {loose : List Str} {XP : (Str → Option Value) → Heap → Prop} {YP : World → Heap → Prop} {d : DefRec} {K : Params → PySem.W.Frag} {x : Str}
    (hn : l.most = some n) (hz : n ≤ sizeLine) (h63 : n ≤ 63) (hd : d.params.defaults = []) (hr : Room k callerA) (hY : ∀ w h, YP w h → (K w.params).In h) (names : List Str)
    (hR : (names.all fun z => (recsOf q).any fun e => e.name == z) = true)
    (hF : ∀ (w : World) (mg : Str → Option Value) (fa : Addr) (h : Heap), (K w.params).In h → h.Ns mainGlobals mg → mg d.name = some (.ref fa) → ∃ cs : List (Str × Addr × Addr), cs.map Prod.fst = names ∧ LawT l w (K w.params) k x mg fa cs) :
    PySem.W.WalkO q loose XP YP l.row.toRowW d [] fun f vs => call f vs := by
  refine Att.attach_callB hn hd fun w s0 s1 mg mb fa o pm cd doc a vs ns G Y ho hod hcr hmg ha hi hl hb hg => ?_
  obtain ⟨cs, hcs, hT, fd, hB, hOk⟩ := hF w mg fa s1.heap (hY w _ Y) G.T.g hmg
  have key : ∀ z ∈ cs, PySem.W.CodeHd s1.heap z.2.1 z.2.2 ∧ s1.heap.get? z.2.2 = some (PySem.W.tabObj #[]) := by
    intro z hz
    have h1 : z.1 ∈ names := by rw [← hcs]; exact List.mem_map_of_mem hz
    have h2 := List.all_eq_true.mp hR _ h1
    cases hf : (recsOf q).find? fun e => e.name == z.1 with
    | none =>
      rw [List.find?_eq_none] at hf
      rw [List.any_eq_true] at h2
      obtain ⟨e, he, h3⟩ := h2
      exact absurd h3 (hf e he)
    | some dd => exact PySem.W.tab_of G.T (hY w _ Y) hf (hT z hz).1
  refine LamX.law_callTs (K := K w.params) (cs := cs.map fun z => z.2) (hY w _ Y) G.T.g G.T.b G.T.builtins G.T.nolimit hg ?_ ?_ ?_ G.T.bmain ha hi (Nat.le_trans hl hz) hr (fun base h1 h2 h3 => hOk base h1 h2 fun z hz => h3 _ (List.mem_map_of_mem hz)) (fun s u => hB s u) (fun H hH hS => ⟨a, ns, rfl, hS, ?_, ?_, fun _ => rfl⟩) (fun _ _ _ h => h)
  · intro p hp
    obtain ⟨z, hz, rfl⟩ := List.mem_map.mp hp
    exact (key z hz).2
  · intro p hp
    obtain ⟨z, hz, rfl⟩ := List.mem_map.mp hp
    exact (hT z hz).2
  · intro p hp
    obtain ⟨z, hz, rfl⟩ := List.mem_map.mp hp
    exact (key z hz).1
  · exact Nat.le_trans hl h63
  · intro P hP
    obtain ⟨z, hz, rfl⟩ := List.mem_map.mp hP
    exact hH _ (List.mem_map_of_mem hz)

theorem take_zip {α : Type} (sel : Nat → Bool) (j : Nat) : ∀ (xs : List α) (i : Nat), (∀ k, k < i + xs.length → sel k = decide (j ≤ k)) → (xs.zipIdx i).filterMap (fun x => if sel x.2 = true then none else some x.1) = xs.take (j - i)
  | [], i, _ => by simp
  | x :: r, i, hs => by
    rw [List.zipIdx_cons, List.filterMap_cons]
    have ih := take_zip sel j r (i + 1) fun k hk => hs k (by rw [List.length_cons]; omega)
    have h0 := hs i (by rw [List.length_cons]; omega)
    by_cases h : j ≤ i
    · have e : j - i = 0 := by omega
      have e2 : j - (i + 1) = 0 := by omega
      rw [e2] at ih
      simp only [h0, h, decide_true, if_true, e, List.take_zero]
      simpa using ih
    · have e : j - i = (j - (i + 1)) + 1 := by omega
      rw [e, List.take_succ_cons, ← ih]
      simp [h0, h]
theorem run_delFrom {P : Program} {w : World} {A : Around} {E : Value → Shared → Prop} {s : Shared} {l sl : Addr} {items : Array Value} {n j : Nat} {t : Tok} {Q : Unit → Shared → Prop}
    (hl : s.heap.get? l = some { cls := Value.type "list", data := Data.seq items n }) (hs : s.heap.get? sl = some { cls := .type "slice", data := .fields #[.int j t, .none, .none] }) (hj : j ≤ items.size) (hz : items.size ≤ sizeLine)
    (q : ∀ f : Array Value → Array Value, f items = (items.toList.take j).toArray → Q () { s with heap := s.heap.update l (Obj.mapSeq f) }) :
    wpAny (model P w) A (delItem (.ref l) (.ref sl)) Q E s := by
  refine wpAny_delItem_slot (T := "list") ⟨_, hl, rfl⟩ (by decide) PySem.F.slot_list_delitem ?_
  refine wpAny_call_entry PySem.F.slot_list_delitem ⟨_, hl, rfl⟩ PySem.F.entry_list_delitem ?_ (PySem.F.args_list_delitem_2 _ _)
  show wpAny _ _ (do
      let __x ← slotArgs "__delitem__" 1 { pos := [.ref l, .ref sl] }
      _) _ _ _
  refine wpAny_bind (wpAny_pure ?_)
  refine wpAny_bind ?_
  refine wpAny_bind (wpAny_specialOf (T := "slice") (r := none) ⟨_, hs, rfl⟩ rfl ?_)
  refine wpAny_pure ?_
  refine wpAny_bind (wpAny_typeOf (T := "slice") ⟨_, hs, rfl⟩ ?_)
  dsimp only
  rw [if_neg (by decide)]
  refine wpAny_bind ?_
  rw [listSliceParts_eq]
  refine wpAny_bind (wpAny_field hs rfl (i := 2) rfl (wpAny_bind (wpAny_listPart .none ?_)))
  dsimp only [rawPart]
  rw [if_neg (by decide)]
  refine wpAny_bind (wpAny_field hs rfl (i := 0) rfl (wpAny_bind (wpAny_listPart (.int _ _) ?_)))
  refine wpAny_bind (wpAny_field hs rfl (i := 1) rfl (wpAny_bind (wpAny_listPart .none (wpAny_pure ?_))))
  dsimp only
  refine wpAny_bind (wpAny_listItems hl rfl ?_)
  have eb : sliceBounds (some (j : Int)) none none items.size = ((j : Int), (items.size : Int), 1) := by
    simp [sliceBounds]
    omega
  rw [show sliceIndices (rawPart (some (j : Int))) (rawPart none) .none items.size = pure (sliceBounds (some (j : Int)) none none items.size) from sliceIndices_raw (some (j : Int)) none none items.size (by simp), eb]
  refine wpAny_bind (wpAny_pure ?_)
  dsimp only
  refine wpAny_bind (wpAny_rule ?_)
  refine wpAny_bind (wpAny_updateSeq hl rfl (wpAny_bind (wpAny_letGo (wpAny_pure ⟨_, rfl, q _ ?_⟩))) hz ?_)
  · refine congrArg List.toArray ((take_zip (fun k => _) j items.toList 0 ?_).trans (by rw [Nat.sub_zero]))
    intro k hk
    show (if (1 : Int) > 0 then decide ((j : Int) ≤ (k : Int)) && decide ((k : Int) < (items.size : Int)) && ((k : Int) - j) % 1 == 0 else _) = _
    rw [Nat.zero_add, Array.length_toList] at hk
    rw [if_pos (by decide), Int.emod_one, decide_eq_true (show (k : Int) < (items.size : Int) by omega)]
    by_cases h : j ≤ k
    · simp [h]
    · simp [h]
  · refine Nat.le_trans ?_ (Nat.le_succ_of_le hz)
    rw [List.size_toArray]
    refine Nat.le_trans (List.length_filterMap_le _ _) ?_
    simp
theorem ps_delFrom {X : Cx} {pos p2 : Pos} {o e : PySem.Expr} {to te : TE} {tpos : Pos} (ho : PE X o to) (he : PE X e te) :
    PS X (.Delete [.Subscript o (.Slice (some e) none none p2) tpos] pos) (fun D σ H => to σ H fun x H1 => te σ H1 fun y H2 => ∃ (l : Addr) (xs : List V) (j : Nat), x = .ref l ∧ y = .int j ∧ H2 l = some (.lst xs) ∧ j ≤ xs.length ∧ D.nx σ (upd H2 l (.lst (xs.take j)))) := by
  refine ⟨fun pins s σ H D I h => ?_⟩
  refine wpAny_Delete (wpAny_deleteEach_cons (wpAny_delete_Subscript ?_))
  refine thn (ho.run pins s σ H _ I h) fun u s1 hx => ?_
  obtain ⟨x, H1, I1, r1, h1⟩ := hx
  refine wpAny_Slice ?_
  rw [evalPart_some]
  refine thn (he.run pins s1 σ H1 _ I1 h1) fun u2 s2 hx => ?_
  obtain ⟨y, H2, I2, r2, l, xs, j, rfl, rfl, hl, hj, q⟩ := hx
  cases r1
  obtain ⟨t, rfl⟩ := r2
  rw [evalPart_none]
  refine wpAny_pure ?_
  refine wpAny_pure ?_
  have hsl : (s2.heap.push { cls := .type "slice", data := .fields #[.int j t, .none, .none] }).get? s2.heap.objs.size = some { cls := .type "slice", data := .fields #[.int j t, .none, .none] } := Heap.get?_push_size _ rfl
  have I3 := I2.kept (h' := s2.heap.push { cls := .type "slice", data := .fields #[.int j t, .none, .none] }) (t' := s2.toks) (fun b u hb => Heap.get?_push_of_some _ hb)
  obtain ⟨oz, its, n, hits, hao⟩ := I3.hok _ _ hl
  have ll : xs.length = its.length := L2.Vals.length hits
  refine run_delFrom (items := its.toArray) hao hsl (by simp; omega) (by simp; omega) (fun f hf => ?_)
  refine wpAny_deleteEach_nil ?_
  refine ⟨σ, _, I3.lset (its := its) (its' := its.take j) (ys := xs.take j) hl hao (by simpa using hf) ?_ ?_, q⟩
  · exact L2.Vals.take j hits
  · rw [List.length_take]; omega

mutual
def Tr.dat : Tr → PyData
  | .node c ks => .tuple [.str (ch c), .list (dats ks)]
def dats : List Tr → List PyData
  | [] => []
  | t :: r => t.dat :: dats r
end
mutual
theorem dat_depth : ∀ t : Tr, t.dat.depth ≤ 2 * t.depth
  | .node c ks => by
    have := dats_depth ks
    simp only [Tr.dat, PyData.depth, PyData.depthAll, Tr.depth]
    omega
theorem dats_depth : ∀ ts : List Tr, PyData.depthAll (dats ts) ≤ 2 * depths ts
  | [] => by simp only [dats, PyData.depthAll, depths]; omega
  | t :: r => by
    have a := dat_depth t
    have b := dats_depth r
    simp only [dats, PyData.depthAll, depths]
    omega
end
section
variable {ok : Addr → Prop} {H : Hp} {K : PySem.W.Frag}
theorem strOk_ch {c : Nat} (h : c ≤ 122) : PyData.strOk (ch c) = true := by
  unfold PyData.strOk ch
  simp
  omega
mutual
theorem TrAt.lay : ∀ (t : Tr) (v : V), TrAt ok H v t → t.dat.canLay0 = true
  | .node c ks, v, x => by
    cases x with
    | node h1 h2 k1 k2 c1 c2 r => simp only [Tr.dat, PyData.canLay0, PyData.canLayAll0, strOk_ch c2, TrsAt.lay ks _ r, Bool.and_self]
theorem TrsAt.lay : ∀ (ts : List Tr) (vs : List V), TrsAt ok H vs ts → PyData.canLayAll0 (dats ts) = true
  | [], _, _ => by simp only [dats, PyData.canLayAll0]
  | t :: r, _, x => by
    cases x with
    | cons a b => simp only [dats, PyData.canLayAll0, TrAt.lay t _ a, TrsAt.lay r _ b, Bool.and_self]
end
mutual
theorem TrAt.dp : ∀ (t : Tr) (v : V), TrAt ok H v t → Dp K H v t.dat
  | .node c ks, v, x => by
    cases x with
    | node h1 h2 k1 k2 c1 c2 r =>
      simp only [Tr.dat]
      exact .tup (SqT.of h1) (.cons (.str _) (.cons (.lst (SqL.of h2) (TrsAt.dp ks _ r)) .nil))
theorem TrsAt.dp : ∀ (ts : List Tr) (vs : List V), TrsAt ok H vs ts → DpAll K H vs (dats ts)
  | [], _, x => by cases x; exact .nil
  | t :: r, _, x => by
    cases x with
    | cons a b => exact .cons (TrAt.dp t _ a) (TrsAt.dp r _ b)
end
theorem shaped_tr {v : V} {t : Tr} (x : TrAt ok H v t) (h : t.depth ≤ 32) : SeqAt.shaped t.dat = true := by
  unfold SeqAt.shaped
  rw [Bool.and_eq_true]
  exact ⟨TrAt.lay t v x, decide_eq_true (by have := dat_depth t; omega)⟩
theorem shaped_trs {vs : List V} {ts : List Tr} (x : TrsAt ok H vs ts) (h : depths ts ≤ 31) : SeqAt.shaped (.list (dats ts)) = true := by
  unfold SeqAt.shaped
  rw [Bool.and_eq_true]
  refine ⟨by simp only [PyData.canLay0]; exact TrsAt.lay ts vs x, decide_eq_true ?_⟩
  have := dats_depth ts
  simp only [PyData.depth]
  omega
end
def DatOk (K : PySem.W.Frag) (H : Hp) (v : V) : Prop := ∃ d, Dp K H v d ∧ d.canLay0 = true ∧ d.depth ≤ 63
theorem DatOk.all {K : PySem.W.Frag} {H : Hp} : ∀ {vs : List V}, (∀ v ∈ vs, DatOk K H v) → ∃ ds, DpAll K H vs ds ∧ SeqAt.shaped (.list ds) = true ∧ ds.length = vs.length
  | [], _ => ⟨[], .nil, by decide +kernel, rfl⟩
  | v :: r, h => by
    obtain ⟨d, h1, h2, h3⟩ := h v List.mem_cons_self
    obtain ⟨ds, g1, g2, g3⟩ := DatOk.all (vs := r) fun u hu => h u (List.mem_cons_of_mem _ hu)
    unfold SeqAt.shaped at g2
    rw [Bool.and_eq_true] at g2
    have g4 := of_decide_eq_true g2.2
    have g5 := g2.1
    simp only [PyData.canLay0] at g5
    simp only [PyData.depth] at g4
    refine ⟨d :: ds, .cons h1 g1, ?_, by simp only [List.length_cons, g3]⟩
    unfold SeqAt.shaped
    rw [Bool.and_eq_true]
    refine ⟨by simp only [PyData.canLay0, PyData.canLayAll0, h2, g5, Bool.and_self], decide_eq_true ?_⟩
    simp only [PyData.depth, PyData.depthAll]
    omega
theorem datOk_int {K : PySem.W.Frag} {H : Hp} (i : Int) : DatOk K H (.int i) := ⟨.int i, .int i, by simp only [PyData.canLay0], by simp only [PyData.depth]; omega⟩
theorem datOk_tr {K : PySem.W.Frag} {H : Hp} {ok : Addr → Prop} {v : V} {t : Tr} (x : TrAt ok H v t) (h : t.depth ≤ 31) : DatOk K H v := ⟨t.dat, TrAt.dp t v x, TrAt.lay t v x, by have := dat_depth t; omega⟩
theorem eqv_nil (ds : List PyData) : PyData.eqv (.list ds) (.list []) = decide (ds.length = 0) := by
  cases ds with
  | nil => simp [PyData.eqv, PyData.eqvAll]
  | cons d r => simp [PyData.eqv, PyData.eqvAll]
theorem shaped_nil : SeqAt.shaped (.list []) = true := by decide +kernel
theorem dp_nil {K : PySem.W.Frag} {H : Hp} {a : Addr} (h : H a = some (.lst [])) : Dp K H (.ref a) (.list []) := .lst (SqL.of h) .nil

open LamX NdefX in
structure CalX (P : Program) (w : World) (K : PySem.W.Frag) (mg : Str → Option Value) (base : Heap) (k : Nat) (f : Addr) (G : Hp → Prop) (np : Nat) (sp : Sp) : Prop where
  len : ∀ vs H Q E, sp vs H Q E → vs.length = np
  at_ : ∀ (s : Shared) (H : Hp), HOk P w H s.heap → K.In s.heap → G H → PySem.W.FnAt f s.heap
  run : ∀ (A : Around) (outer : List Env) (s : Shared) (H : Hp) (us : List Value) (vs : List V) (Q : VK) (E : XK), Room k A → Env0 P w K mg base A outer s H → G H → Vals vs us → sp vs H Q E → codeAny (model P w) A (.call (.ref f) ⟨us, []⟩) (CR CX0 outer P w H s Q E) s
def tCalX (i : Nat) (f : Addr) (G : Hp → Prop) (sp : Sp) (t : TA) : TE := fun σ H Q => σ[i]? = some (some (.ref f)) ∧ G H ∧ t σ H fun vs H1 => G H1 ∧ sp vs H1 Q C8.E0
theorem pe_calX {X : Cx} {k i np : Nat} {f : Addr} {G : Hp → Prop} {sp : Sp} {x : Str} {p pos : Pos} {e : PySem.Expr} {es : List PySem.Expr} {t : TA}
    (C : CalX X.prog X.w X.K X.mg X.base k f G np sp) (hr : Room k X.A) (hN : X.N[i]? = some x) (hv : Vis X.env.scope x) (ha : PA X (e :: es) t)
    (hdb : (x == ("__debug__" : Str)) = false := by decide) (hcd : (x == ("__classdict__" : Str)) = false := by decide)
    (he : starEach (e :: es) X.env = (false, eval e X.env) :: starEach es X.env := by rfl) (hpl : (backTo pos (starEach es X.env)).any (·.1) = false := by rfl) : PE X (.Call (.Name x p) (e :: es) [] pos) (tCalX i f G sp t) := by
  refine ⟨fun pins s σ H Q I h => ?_⟩
  obtain ⟨hs, hg, ht⟩ := h
  refine wpAny_Call_Name_kw (thn ((pe_var (pos := p) hN hv hdb hcd).run pins s σ H (fun v H1 => v = .ref f ∧ H1 = H) I ⟨.ref f, hs, rfl, rfl⟩) fun u s1 ⟨v, H1, I1, r1, q1⟩ => ?_)
  obtain ⟨ev, eH⟩ := q1
  subst ev
  rw [eH] at I1
  obtain rfl : u = Value.ref f := r1
  refine PySem.W.callWith_F (first := []) (C.at_ s1 H I1.hok I1.kIn hg) (thn (ha.run pos pins s1 σ H _ I1 ht) fun us s2 ⟨vs, H2, I2, r, h1, q⟩ => ⟨C.at_ s2 H2 I2.hok I2.kIn h1, ?_⟩) he hpl
  show wpAny _ _ (call (.ref f) us) _ _ _
  refine wpAny_call (codeAny_mono (C.run X.A X.stack s2 H2 us vs Q C8.E0 hr I2.env0 h1 r q) fun r s' hq => ?_)
  cases r with
  | error e => exact (show False from hq).elim
  | ok fl =>
    cases fl with
    | ret u => exact I2.after hq
    | next => exact False.elim hq
    | brk => exact False.elim hq
    | cont => exact False.elim hq
theorem calX_of {P : Program} {w : World} {K : PySem.W.Frag} {mg : Str → Option Value} {base : Heap} {k : Nat} {x q : Str} {st : Stmt} {f : Addr} {fd : FuncData} {ps : List Str} {sp : Sp} (F : FnOk P w K mg base CX0 k f fd ps sp) (U : Fun K x q st f fd) (hb : Binds K fd ps []) {G : Hp → Prop} : CalX P w K mg base k f G ps.length sp := by
  refine ⟨F.len, fun s H _ hk _ => ?_, fun A outer s H us vs Q E hr e0 _ r h => ?_⟩
  · obtain ⟨oc, od, kV, doc, pm, an, cdv, ct, osl, rfl, lk, hcd⟩ := U.ex
    exact ⟨_, _, _, _, hk _ _ lk⟩
  · have KX : K.In s.heap := e0.mod.kin.keeps fun b o e => (e0.bs b o e).1
    have hl : us.length = ps.length := by rw [← r.length]; exact F.len _ _ _ _ h
    have hb' := hb s us KX (by rw [List.append_nil]; exact hl)
    rw [List.append_nil] at hb'
    exact F.run A outer s H ⟨us, []⟩ us vs Q E hr e0 hb' r h
structure LF where
  qual : Str
  params : Arguments
  body : PySem.Expr
  scope : PySem.Scope
  cl : List (Str × Addr)
  c : Addr
abbrev LF.nf (F : LF) : NdefX.NF := ⟨"<lambda>", F.qual, F.params, [], F.scope, F.cl, F.c⟩
def LamO (f : Addr) (F : LF) : HO := .ext fun h => ∃ pm ctv, h.get? f = some (PySem.W.kla_obj "<lambda>" F.qual F.params F.body F.scope F.cl pm F.c ctv)
theorem lamO_ok {P : Program} {w : World} {H : Hp} {h : Heap} {F : LF} {pm ctv : Value} :
    ObjOk P w H (h.push (PySem.W.kla_obj "<lambda>" F.qual F.params F.body F.scope F.cl pm F.c ctv)) h.objs.size (LamO h.objs.size F) := by
  have e : (h.push (PySem.W.kla_obj "<lambda>" F.qual F.params F.body F.scope F.cl pm F.c ctv)).get? h.objs.size = some (PySem.W.kla_obj "<lambda>" F.qual F.params F.body F.scope F.cl pm F.c ctv) := Heap.get?_push_size _ rfl
  exact ⟨⟨pm, ctv, e⟩, ⟨_, e⟩, fun h1 h2 ⟨a1, a2, e1⟩ k => ⟨a1, a2, k _ e1⟩⟩
theorem calX_lam {P : Program} {w : World} {K : PySem.W.Frag} {mg : Str → Option Value} {base : Heap} {k : Nat} {N ps : List Str} {f : Addr} {F : LF} {sp : Sp} (S : NdefX.NScope N ps [] F.scope) (hcl : F.cl = [])
    (hb : ∀ (pm ctv : Value) (us : List Value), us.length = ps.length → bindArgs (PySem.W.kla_fn "<lambda>" F.qual F.params F.body F.scope F.cl pm (.ref F.c) ctv) ⟨us, []⟩ = pure (ps.zip us)) (len : ∀ vs H Q E, sp vs H Q E → vs.length = ps.length)
    (hbody : ∀ (A : Around) (outer : List Env) (s : Shared) (H : Hp) (vs : List V) (Q : VK) (E : XK), Room k (A.deeper (NdefX.envF F.nf f s.heap.objs.size)) → sp vs H Q E →
      ∃ t, PE (NdefX.ncx CX0 P w K mg base N F.nf f A outer s H E) F.body t ∧ t (NdefX.startF N vs []) H Q) :
    CalX P w K mg base (k + 1) f (fun H => H f = some (LamO f F) ∧ H F.c = some (LamX.CodeO F.c F.qual)) ps.length sp := by
  refine ⟨len, fun s H hok _ hg => ?_, fun A outer s H us vs Q E hr e0 hg r hsp => ?_⟩
  · obtain ⟨⟨pm, ctv, e⟩, _, _⟩ := hok _ _ hg.1
    exact ⟨_, _, _, _, e⟩
  obtain ⟨⟨pm, ctv, ho⟩, _, _⟩ := e0.hok _ _ hg.1
  have hl := len _ _ _ _ hsp
  have lim : s.heap.NoLimit := e0.mod.nolimit.keeps fun b o e => (e0.bs b o e).1
  refine PySem.W.kla_callFunE hr.depth ho rfl S.co S.gen rfl (NdefX.codeO_at e0.hok hg.2) ?_
  rw [hb pm ctv us (by rw [← r.length]; exact hl)]
  refine wpAny_pure (wpAny_newFunctionEnv S.nocell (fun ⟨n, _⟩ hy => S.par n (List.of_mem_zip hy).1) (fun h₁ hns hsb => ⟨lim.fresh _ hsb, ?_⟩) S.kind)
  show codeAny _ _ (.expr F.body (NdefX.envF F.nf f s.heap.objs.size)) _ _
  have kp : ∀ b o, s.heap.get? b = some o → h₁.get? b = some o := fun b o e => hsb.extBut b o (Nat.ne_of_lt (Heap.lt_size e)) (Heap.get?_push_of_some _ e)
  obtain ⟨t, ht, hq⟩ := hbody A outer s H vs Q E (hr.deeper _) hsp
  have C : NdefX.CellsAt F.nf.cl [] [] s.heap H := by
    have e : F.nf.cl = [] := hcl
    rw [e]
    exact ⟨rfl, (fun y c e => by cases e), (fun x y c e => by cases e), (fun i y e => by simp at e)⟩
  have I : Inv (NdefX.ncx CX0 P w K mg base N F.nf f A outer s H E) [] (NdefX.startF N vs []) H { s with heap := h₁, toks := s.toks + (ps.zip us).length } := NdefX.inv_startN S hr.hd e0 hl r C hns kp
  refine PySem.W.kla_codeExpr (wpAny_mono (ht.run [] _ _ H Q I hq) (fun v s' hq => ?_) fun e s' hq => hq)
  obtain ⟨w', H', J', rv, q⟩ := hq
  exact ⟨w', H', J'.os, J'.bare, J'.base, J'.hok, rv, q⟩
theorem pe_lamX {X : Cx} {c P : Addr} {params : Arguments} {body : PySem.Expr} {scope : PySem.Scope} {pos : Pos} (tb : LamX.TabB X.base X.mg c P) (hc : X.env.code = .ref c) (hd : defaultsOf params X.env = ([], []))
    (hfree : ∀ y ∈ scope.names, y.2 = .free → ∃ c, X.env.cells.lookup y.1 = some c) : PE X (.Lambda params body scope pos) (fun σ H Q => LamX.TabS H P (X.env.qual ++ "<lambda>") ∧ ∀ (f c : Addr) (H1 : Hp), Fr P H H1 → (∀ b, H1 b = none → H b = none) → LamX.TabS H1 P (X.env.qual ++ "<lambda>") → H f = none →
      H1 f = some (LamO f ⟨X.env.qual ++ "<lambda>", params, body, scope, cloFrom X.env.cells scope.names [], c⟩) → H1 c = some (LamX.CodeO c (X.env.qual ++ "<lambda>")) → Q (.ref f) H1) := by
  refine ⟨fun pins s σ H Q I h => ?_⟩
  obtain ⟨ht, q⟩ := h
  have hclo : closureFor scope X.env = pure (cloFrom X.env.cells scope.names []) := closure_ok hfree
  have ht' := ht
  obtain ⟨ps, hP, hT, hA⟩ := ht'
  have oP : s.heap.get? P = some (PySem.W.tabObj ps) := I.hok _ _ hP
  refine PySem.W.kla_eval hd ?_
  cases hcd : codeAmong pos ps.toList with
  | some cv =>
    obtain ⟨c', rfl, hc'⟩ := hA _ _ hcd
    refine PySem.W.kla_makeFunctionHit hclo I.ok.glob (I.mod.glob.keeps I.bk) hc (tb.code.keeps I.bk) oP hT hcd (tb.bm.keeps I.bk) (fun ctv h' tk hk hs => ?_)
    have I1 := I.kept (t' := tk) hk
    have hz : s.heap.objs.size ≤ h'.objs.size := hs
    have hn : H h'.objs.size = none := I.hok.fresh hz
    refine ⟨.ref h'.objs.size, upd H h'.objs.size (LamO h'.objs.size ⟨X.env.qual ++ "<lambda>", params, body, scope, cloFrom X.env.cells scope.names [], c'⟩), ?_, rfl, q _ c' _ (fun b o _ hb => ?_) (fun b e => NdefX.upd_none e) (ht.ext fun b o hb => ?_) hn upd_same ?_⟩
    · exact I1.laid (h' := h'.push _) (t' := tk) (fun b u hb => Heap.get?_push_of_some _ hb) (Nat.le_refl _) (lamO_ok (F := ⟨X.env.qual ++ "<lambda>", params, body, scope, cloFrom X.env.cells scope.names [], c'⟩))
    · rw [upd_ne (ne_of_none hb hn)]; exact hb
    · rw [upd_ne (ne_of_none hb hn)]; exact hb
    · rw [upd_ne (ne_of_none hc' hn)]; exact hc'
  | none =>
    refine PySem.W.kla_makeFunction hclo I.ok.glob (I.mod.glob.keeps I.bk) hc (tb.code.keeps I.bk) oP hT hcd tb.gP (tb.bm.keeps I.bk) (fun c' ctv h' tk he hl hu hrec hP' => ?_)
    obtain ⟨c2, o2, vs2, t2, ec, e1, e2, e3⟩ := hrec
    cases ec
    have I2 := LamX.inv_table (t' := tk) (c := c') (q := X.env.qual ++ "<lambda>") I hP he (more := #[rawInt ↑pos.line, rawInt ↑pos.col, .ref c']) hP' hl ⟨_, _, _, e1, e2, e3⟩
    have hn : (upd (upd H P (.tbl (ps ++ #[rawInt ↑pos.line, rawInt ↑pos.col, .ref c']))) c' (LamX.CodeO c' (X.env.qual ++ "<lambda>"))) h'.objs.size = none := I2.hok.fresh (Nat.le_refl _)
    have hcn : H c' = none := I.hok.fresh hl
    have hPc : P ≠ c' := fun e => by rw [e] at hP; rw [hcn] at hP; cases hP
    refine ⟨.ref h'.objs.size, _, I2.laid (h' := h'.push _) (o := LamO h'.objs.size ⟨X.env.qual ++ "<lambda>", params, body, scope, cloFrom X.env.cells scope.names [], c'⟩) (t' := tk) (fun b u hb => Heap.get?_push_of_some _ hb) (Nat.le_refl _) (lamO_ok (F := ⟨X.env.qual ++ "<lambda>", params, body, scope, cloFrom X.env.cells scope.names [], c'⟩)), rfl, q _ c' _ ?_ (fun b e => NdefX.upd_none (NdefX.upd_none (NdefX.upd_none e))) ?_ (NdefX.upd_none (NdefX.upd_none hn)) upd_same ?_⟩
    · intro b o hbP hb
      have h1 : (upd (upd H P (.tbl (ps ++ #[rawInt ↑pos.line, rawInt ↑pos.col, .ref c']))) c' (LamX.CodeO c' (X.env.qual ++ "<lambda>"))) b = some o := by
        rw [upd_ne (ne_of_none hb hcn), upd_ne hbP]; exact hb
      rw [upd_ne (ne_of_none h1 hn)]; exact h1
    · refine LamX.TabS.ext (H := upd (upd H P (.tbl (ps ++ #[rawInt ↑pos.line, rawInt ↑pos.col, .ref c']))) c' (LamX.CodeO c' (X.env.qual ++ "<lambda>"))) ?_ (fun b o hb => by rw [upd_ne (ne_of_none hb hn)]; exact hb)
      refine ⟨_, by rw [upd_ne hPc]; exact upd_same, ?_, ?_⟩
      · simpa using TriplesOk_snoc _ _ _ _ hT
      · intro pos2 cv hcv
        rw [Array.toList_append] at hcv
        rcases LamX.among_app _ hT hcv with h | h
        · obtain ⟨c3, e3, h3⟩ := hA _ _ h
          refine ⟨c3, e3, ?_⟩
          rw [upd_ne (ne_of_none h3 hcn), upd_ne (fun e => by rw [e, hP] at h3; cases h3)]
          exact h3
        · exact ⟨c', h, upd_same⟩
    · have h1 : (upd (upd H P (.tbl (ps ++ #[rawInt ↑pos.line, rawInt ↑pos.col, .ref c']))) c' (LamX.CodeO c' (X.env.qual ++ "<lambda>"))) c' = some (LamX.CodeO c' (X.env.qual ++ "<lambda>")) := upd_same
      rw [upd_ne (ne_of_none h1 hn)]; exact h1
theorem nofree_by {scope : PySem.Scope} {cells : List (Str × Addr)} (h : (scope.names.all fun y => !decide (y.2 = .free)) = true) : ∀ y ∈ scope.names, y.2 = .free → ∃ c, cells.lookup y.1 = some c := fun y hy e => by
  have := List.all_eq_true.mp h y hy
  simp only [e, decide_true, Bool.not_true] at this
  cases this
theorem CalX.imp {P : Program} {w : World} {K : PySem.W.Frag} {mg : Str → Option Value} {base : Heap} {k j : Nat} {f : Addr} {G G' : Hp → Prop} {np : Nat} {sp sp' : Sp} (C : CalX P w K mg base k f G np sp) (hk : k ≤ j) (hG : ∀ H, G' H → G H) (hs : ∀ vs H Q E, sp' vs H Q E → sp vs H Q E) : CalX P w K mg base j f G' np sp' :=
  ⟨fun vs H Q E q => C.len vs H Q E (hs _ _ _ _ q), fun s H a b g => C.at_ s H a b (hG H g), fun A outer s H us vs Q E hr e0 g r q => C.run A outer s H us vs Q E (hr.mono hk) e0 (hG H g) r (hs _ _ _ _ q)⟩
inductive Runs : List Tr → List Tr → List Tr → Prop
  | nil {us : List Tr} : Runs us [] us
  | cons {us ks r z : List Tr} {c : Nat} : Runs (us ++ [.node c ks]) r z → Runs (us ++ ks) (.node c ks :: r) z
mutual
theorem runs_post : ∀ (t : Tr) (us r z : List Tr), Runs (us ++ [t]) r z → Runs us (t.post ++ r) z
  | .node c ks, us, r, z, h => by
    simp only [Tr.post, List.append_assoc, List.singleton_append]
    exact runs_posts ks us _ z (.cons h)
theorem runs_posts : ∀ (ts us r z : List Tr), Runs (us ++ ts) r z → Runs us (posts ts ++ r) z
  | [], us, r, z, h => by simpa [posts] using h
  | t :: ts, us, r, z, h => by
    simp only [posts, List.append_assoc]
    refine runs_post t us _ z (runs_posts ts (us ++ [t]) r z ?_)
    rw [List.append_assoc]
    exact h
end
theorem runs_all (t : Tr) : Runs [] t.post [t] := by
  have := runs_post t [] [] [t] .nil
  rwa [List.append_nil] at this
abbrev ItP := (Addr → Prop) → Hp → V → Tr → List Addr → Prop
structure ItOk (It : ItP) : Prop where
  imp : ∀ {ok ok' : Addr → Prop} {H H' : Hp} {v : V} {t : Tr} {as : List Addr}, (∀ b, ok b → ok' b) → (∀ b o, ok b → H b = some o → H' b = some o) → It ok H v t as → It ok' H' v t as
  lst : ∀ {ok : Addr → Prop} {H : Hp} {v : V} {t : Tr} {as : List Addr}, It ok H v t as → ∀ b ∈ as, ok b ∧ ∃ xs, H b = some (.lst xs)
abbrev lstsI (bs : List (V × Tr × List Addr)) : List Addr := (bs.map fun b => b.2.2).flatten
def sp_made (It : ItP) (Pt : Addr) (q : Str) : Sp := fun vs H Q _ => ∃ (c : Nat) (bl : Addr) (bs : List (V × Tr × List Addr)) (ok : Addr → Prop), vs = [.str (ch c), .ref bl] ∧ 97 ≤ c ∧ c ≤ 122 ∧ H bl = some (.lst (bs.map (·.1))) ∧ ok bl ∧
  (∀ b ∈ bs, It ok H b.1 b.2.1 b.2.2) ∧ (bl :: lstsI bs).Nodup ∧ sizes (bs.map (·.2.1)) ≤ 1000000 ∧ (∀ b, ok b → b ≠ Pt) ∧ LamX.TabS H Pt q ∧
  ∀ v as H', Fr Pt H H' → LamX.TabS H' Pt q → It (fun b => ok b ∨ H b = none) H' v (.node c (bs.map (·.2.1))) as → as.Nodup → (∀ a ∈ as, a ∈ bl :: lstsI bs ∨ H a = none) → Q v H'
def sp_built_upward (P : Program) (w : World) (K : PySem.W.Frag) (mg : Str → Option Value) (base : Heap) (k : Nat) (Pt : Addr) (q : Str) : Sp := fun vs H Q _ => ∃ (v : V) (t : Tr) (f : Addr) (It : ItP), vs = [v, .ref f] ∧ TrAt (fun _ => True) H v t ∧ t.size ≤ 1000000 ∧ ItOk It ∧ LamX.TabS H Pt q ∧
  CalX P w K mg base k f (fun H' => Fr Pt H H') 2 (sp_made It Pt q) ∧ ∀ r as H', Fr Pt H H' → LamX.TabS H' Pt q → It (fun b => H b = none) H' r t as → as.Nodup → Q r H'

def CellO (c : Addr) (o : Obj) : HO := .ext fun h => h.get? c = some o
abbrev Lent := List (Addr × Obj)
def lend (H : Hp) (cs : Lent) : Hp := fun b => match cs.lookup b with
  | some o => some (CellO b o)
  | none => H b
def unl (H : Hp) (cs : Lent) : Hp := fun b => match cs.lookup b with
  | some _ => none
  | none => H b
def LentAt (cs : Lent) (H : Hp) : Prop := ∀ c o, cs.lookup c = some o → H c = some (CellO c o)
def Fresh (cs : Lent) (H : Hp) : Prop := ∀ c o, cs.lookup c = some o → H c = none
section
variable {H H' : Hp} {cs : Lent} {b c : Addr} {o : Obj} {u : HO}
theorem lend_in (h : cs.lookup c = some o) : lend H cs c = some (CellO c o) := by unfold lend; rw [h]
theorem lend_out (h : cs.lookup b = none) : lend H cs b = H b := by unfold lend; rw [h]
theorem unl_in (h : cs.lookup c = some o) : unl H cs c = none := by unfold unl; rw [h]
theorem unl_out (h : cs.lookup b = none) : unl H cs b = H b := by unfold unl; rw [h]
theorem Fresh.out (f : Fresh cs H) (h : H b = some u) : cs.lookup b = none := by
  cases e : cs.lookup b with
  | none => rfl
  | some o => rw [f b o e] at h; cases h
theorem lend_some (f : Fresh cs H) (h : H b = some u) : lend H cs b = some u := by rw [lend_out (f.out h)]; exact h
theorem lend_same (f : Fresh cs H) : Same H (lend H cs) := fun _ _ h => lend_some f h
theorem unl_some (h : unl H cs b = some u) : H b = some u := by
  cases e : cs.lookup b with
  | none => rw [unl_out e] at h; exact h
  | some o => rw [unl_in e] at h; cases h
theorem unl_same : Same (unl H cs) H := fun _ _ h => unl_some h
theorem LentAt.out (f : LentAt cs H) (h : H b = some u) (n : ∀ φ, u ≠ .ext φ) : cs.lookup b = none := by
  cases e : cs.lookup b with
  | none => rfl
  | some o => rw [f b o e] at h; cases h; exact absurd rfl (n _)
theorem unl_keep (f : LentAt cs H) (h : H b = some u) (n : ∀ φ, u ≠ .ext φ) : unl H cs b = some u := by rw [unl_out (f.out h n)]; exact h
theorem unl_fresh : Fresh cs (unl H cs) := fun _ _ h => unl_in h
theorem lend_lent : LentAt cs (lend H cs) := fun _ _ h => lend_in h
theorem unl_lend (f : Fresh cs H) : unl (lend H cs) cs = H := by
  funext b
  cases e : cs.lookup b with
  | none => rw [unl_out e, lend_out e]
  | some o => rw [unl_in e, f b o e]
theorem lend_unl (f : LentAt cs H) : lend (unl H cs) cs = H := by
  funext b
  cases e : cs.lookup b with
  | none => rw [lend_out e, unl_out e]
  | some o => rw [lend_in e, f b o e]
end
section
variable {P : Program} {w : World} {H H1 : Hp} {h h0 h1 : Heap} {cs : Lent} {fs : List Addr}
theorem hok_lend (ok : HOk P w H h) (f : Fresh cs H) (hc : ∀ c o, cs.lookup c = some o → h.get? c = some o) : HOk P w (lend H cs) h := fun a u e => by
  cases hl : cs.lookup a with
  | some o =>
    rw [lend_in hl] at e
    cases e
    exact ⟨hc _ _ hl, ⟨o, hc _ _ hl⟩, fun h1 h2 q k => k _ q⟩
  | none =>
    rw [lend_out hl] at e
    exact (ok a u e).stay (fun _ _ _ q => q) (fun b q => lend_some f q) fun b xs q => lend_some f q
theorem hok_unl (ok : HOk P w H h) (f : LentAt cs H) : HOk P w (unl H cs) h := fun a u e =>
  (ok a u (unl_some e)).stay (fun _ _ _ q => q) (fun b q => unl_keep f q (fun φ z => by cases z)) fun b xs q => unl_keep f q (fun φ z => by cases z)
theorem lent_get (ok : HOk P w H h) (f : LentAt cs H) {c : Addr} {o : Obj} (e : cs.lookup c = some o) : h.get? c = some o := (ok c _ (f c o e)).1
theorem un_back (u : Un fs [] (lend H cs) H1 h0 h1) (f : Fresh cs H) (l : LentAt cs H1) (ok : HOk P w H1 h1) (hc : ∀ c o, cs.lookup c = some o → h0.get? c = some o) : Un fs [] H (unl H1 cs) h0 h1 where
  keep := fun b ob e n hf hx => by
    cases hl : cs.lookup b with
    | some o =>
      have e2 := hc _ _ hl
      rw [e] at e2
      cases e2
      exact lent_get ok l hl
    | none => exact u.keep b ob e (by rw [lend_out hl]; exact n) hf hx
  slot := fun b ob e n hf hx => by
    cases hl : cs.lookup b with
    | some o =>
      have e2 := hc _ _ hl
      rw [e] at e2
      cases e2
      exact ⟨ob.slots, lent_get ok l hl⟩
    | none => exact u.slot b ob e (by rw [lend_out hl]; exact n) hf hx
  free := fun b ob e n hx => by
    cases hl : cs.lookup b with
    | some o => exact unl_in hl
    | none => rw [unl_out hl]; exact u.free b ob e (by rw [lend_out hl]; exact n) hx
  there := u.there
  tups := fun b xs e => unl_keep l (u.tups b xs (lend_some f e)) (fun φ z => by cases z)
  frzs := fun b o v e => unl_keep l (u.frzs b o v (lend_some f e)) (fun φ z => by cases z)
  tbls := fun b ps e => by
    obtain ⟨more, q⟩ := u.tbls b ps (lend_some f e)
    exact ⟨more, unl_keep l q (fun φ z => by cases z)⟩
theorem un_fwd (u : Un fs [] (unl H cs) H1 h0 h1) (l : LentAt cs H) (ok : HOk P w H h0) (hf : ∀ c o, cs.lookup c = some o → c ∉ fs) : Fresh cs H1 ∧ (∀ c o, cs.lookup c = some o → h1.get? c = some o) ∧ Un fs [] H (lend H1 cs) h0 h1 := by
  have f1 : Fresh cs H1 := fun c o e => u.free c o (lent_get ok l e) (unl_in e) (by simp)
  have hc : ∀ c o, cs.lookup c = some o → h1.get? c = some o := fun c o e => u.keep c o (lent_get ok l e) (unl_in e) (hf c o e) (by simp)
  have no : ∀ b, H b = none → cs.lookup b = none := fun b n => by
    cases hl : cs.lookup b with
    | none => rfl
    | some o => rw [l b o hl] at n; cases n
  refine ⟨f1, hc, fun b ob e n => ?_, fun b ob e n => ?_, fun b ob e n hx => ?_, u.there, fun b xs e => ?_, fun b o v e => ?_, fun b ps e => ?_⟩
  · exact u.keep b ob e (by rw [unl_out (no b n)]; exact n)
  · exact u.slot b ob e (by rw [unl_out (no b n)]; exact n)
  · rw [lend_out (no b n)]
    exact u.free b ob e (by rw [unl_out (no b n)]; exact n) hx
  · exact lend_some f1 (u.tups b xs (unl_keep l e (fun φ z => by cases z)))
  · exact lend_some f1 (u.frzs b o v (unl_keep l e (fun φ z => by cases z)))
  · obtain ⟨more, q⟩ := u.tbls b ps (unl_keep l e (fun φ z => by cases z))
    exact ⟨more, lend_some f1 q⟩
end
structure Caught (cl : List (Str × Addr)) (fr : List Str) (ws : List (Option V)) (cs : Lent) : Prop where
  len : ws.length = fr.length
  all : ∀ y c, cl.lookup y = some c → ∃ o v, cs.lookup c = some o ∧ o.data = .cell v
  inj : ∀ x y c, cl.lookup x = some c → cl.lookup y = some c → x = y
  has : ∀ (i : Nat) (y : Str), fr[i]? = some y → ∃ c, cl.lookup y = some c ∧ ∀ v, ws[i]? = some (some v) → ∃ u o, L2.RelV v u ∧ cs.lookup c = some o ∧ o.data = .cell (some u)
def Cells (cs : Lent) : Prop := ∀ c o, cs.lookup c = some o → ∃ v, o.data = .cell v
theorem codeO_cell {c : Addr} {q : Str} {o : Obj} {v : Option Value} (hd : o.data = .cell v) : LamX.CodeO c q ≠ CellO c o := fun e => by
  have hg : (Heap.mk (Array.replicate (c + 1) o) {}).get? c = some o := by
    have h1 : (Array.replicate (c + 1) o)[c]? = some o := by rw [Array.getElem?_replicate, if_pos (Nat.lt_succ_self c)]
    show (match (Array.replicate (c + 1) o)[c]? with
      | some ⟨_, _, .freed, _⟩ => none
      | o => o) = some o
    rw [h1]
    obtain ⟨c1, c2, c3, c4⟩ := o
    cases hd
    rfl
  have e2 := HO.ext.inj e
  have e3 := (congrFun e2 (Heap.mk (Array.replicate (c + 1) o) {})).mpr hg
  obtain ⟨oc, vs, t, h1, h2, _⟩ := e3
  rw [hg] at h1
  cases h1
  rw [hd] at h2
  cases h2
section
variable {P : Program} {w : World} {K : PySem.W.Frag} {mg : Str → Option Value} {base : Heap} {cl : List (Str × Addr)} {fr : List Str} {ws : List (Option V)} {cs : Lent}
theorem Caught.at (C : Caught cl fr ws cs) {H : Hp} {h : Heap} (l : LentAt cs H) (ok : HOk P w H h) : NdefX.CellsAt cl fr ws h (unl H cs) := by
  refine ⟨C.len, fun y c e => ?_, C.inj, fun i y e => ?_⟩
  · obtain ⟨o, v, h1, h2⟩ := C.all y c e
    exact ⟨unl_in h1, v, o, lent_get ok l h1, h2⟩
  · obtain ⟨c, h1, h2⟩ := C.has i y e
    refine ⟨c, h1, fun v hv => ?_⟩
    obtain ⟨u, o, r, g1, g2⟩ := h2 v hv
    exact ⟨u, r, o, lent_get ok l g1, g2⟩
theorem unl_none {H : Hp} {b : Addr} (h : H b = none) : unl H cs b = none := by
  cases z : unl H cs b with
  | none => rfl
  | some u => rw [unl_some z] at h; cases h
theorem env0_unl {A : Around} {outer : List Env} {s : Shared} {H : Hp} (e : Env0 P w K mg base A outer s H) (l : LentAt cs H) : Env0 P w K mg base A outer s (unl H cs) :=
  ⟨e.frames, e.mod, fun b o q => ⟨(e.bs b o q).1, unl_none (e.bs b o q).2⟩, e.bsz, e.funs, fun b hb => unl_none (e.frf b hb), hok_unl e.hok l, e.bare⟩
theorem cr_fwd {outer : List Env} {s s' : Shared} {H : Hp} {Q : VK} {E : XK} {r : Result} (l : LentAt cs H) (ok : HOk P w H s.heap) (hf : ∀ c o, cs.lookup c = some o → c ∉ frs outer) (h : CR CX0 outer P w (unl H cs) s (fun v H' => Q v (lend H' cs)) E r s') : CR CX0 outer P w H s Q E r s' := by
  cases r with
  | error e => exact (show False from h).elim
  | ok fl =>
    cases fl with
    | ret u =>
      obtain ⟨v, H1, h1, h2, h3, h4, h5, h6⟩ := h
      obtain ⟨f1, f2, f3⟩ := un_fwd h3 l ok hf
      exact ⟨v, lend H1 cs, h1, h2, f3, hok_lend h4 f1 f2, h5, h6⟩
    | next => exact h
    | brk => exact h
    | cont => exact h
theorem calX_ndef {k : Nat} {f : Addr} {F : NdefX.NF} {ps : List Str} {sp : List (Option V) → Sp} (o : NdefX.NOk P w K mg base CX0 k f F ps fr sp) (C : Caught F.cl fr ws cs) (hz : Cells cs) :
    CalX P w K mg base k f (fun H => H f = some (NdefX.FnO f F) ∧ H F.c = some (LamX.CodeO F.c F.qual) ∧ LentAt cs H) ps.length (fun vs H Q E => sp ws vs (unl H cs) (fun v H' => Q v (lend H' cs)) E) := by
  refine ⟨fun vs H Q E h => o.len _ _ _ _ _ h, fun s H hok _ hg => ?_, fun A outer s H us vs Q E hr e0 hg r h => ?_⟩
  · obtain ⟨od, sl, doc, pm, ctv, ho⟩ := NdefX.fnO_at hok hg.1
    exact ⟨_, od, _, sl, ho⟩
  · obtain ⟨g1, g2, g3⟩ := hg
    have nf : cs.lookup f = none := by
      cases e : cs.lookup f with
      | none => rfl
      | some ob =>
        obtain ⟨od, sl, doc, pm, ctv, ho⟩ := NdefX.fnO_at e0.hok g1
        obtain ⟨v, hv⟩ := hz _ _ e
        rw [lent_get e0.hok g3 e] at ho
        cases ho
        cases hv
    have nc : cs.lookup F.c = none := by
      cases e : cs.lookup F.c with
      | none => rfl
      | some ob =>
        obtain ⟨c, oc, vs, t, ec, h1, h2, h3⟩ := NdefX.codeO_at e0.hok g2
        obtain ⟨v, hv⟩ := hz _ _ e
        cases ec
        rw [lent_get e0.hok g3 e] at h1
        cases h1
        rw [hv] at h2
        cases h2
    refine codeAny_mono (o.run A outer s (unl H cs) us vs ws _ E hr (env0_unl e0 g3) (by rw [unl_out nf]; exact g1) (by rw [unl_out nc]; exact g2) (C.at g3 e0.hok) r h) fun r s' hq => ?_
    exact cr_fwd g3 e0.hok (fun c ob e hb => by have := e0.frf c hb; rw [g3 c ob e] at this; cases this) hq
theorem calX_lamC {k : Nat} {N ps : List Str} {f : Addr} {F : LF} {sp : Sp} (S : NdefX.NScope N ps fr F.scope) (C : Caught F.cl fr ws cs) (hz : Cells cs)
    (hb : ∀ (pm ctv : Value) (us : List Value), us.length = ps.length → bindArgs (PySem.W.kla_fn "<lambda>" F.qual F.params F.body F.scope F.cl pm (.ref F.c) ctv) ⟨us, []⟩ = pure (ps.zip us)) (len : ∀ vs H Q E, sp vs H Q E → vs.length = ps.length)
    (hbody : ∀ (A : Around) (outer : List Env) (s : Shared) (H : Hp) (vs : List V) (Q : VK) (E : XK), Room k (A.deeper (NdefX.envF F.nf f s.heap.objs.size)) → sp vs H Q E →
      ∃ t, PE (NdefX.ncx CX0 P w K mg base N F.nf f A outer s H E) F.body t ∧ t (NdefX.startF N vs ws) H Q) :
    CalX P w K mg base (k + 1) f (fun H => H f = some (LamO f F) ∧ H F.c = some (LamX.CodeO F.c F.qual) ∧ LentAt cs H) ps.length (fun vs H Q E => sp vs (unl H cs) (fun v H' => Q v (lend H' cs)) E) := by
  refine ⟨fun vs H Q E h => len _ _ _ _ h, fun s H hok _ hg => ?_, fun A outer s H us vs Q E hr e0 hg r hsp => ?_⟩
  · obtain ⟨⟨pm, ctv, e⟩, _, _⟩ := hok _ _ hg.1
    exact ⟨_, _, _, _, e⟩
  obtain ⟨g1, g2, g3⟩ := hg
  obtain ⟨⟨pm, ctv, ho⟩, _, _⟩ := e0.hok _ _ g1
  have hl := len _ _ _ _ hsp
  have lim : s.heap.NoLimit := e0.mod.nolimit.keeps fun b o e => (e0.bs b o e).1
  refine codeAny_mono (R := CR CX0 outer P w (unl H cs) s (fun v H' => Q v (lend H' cs)) E) ?_ fun r s' hq => cr_fwd g3 e0.hok (fun c ob e hb => by have := e0.frf c hb; rw [g3 c ob e] at this; cases this) hq
  refine PySem.W.kla_callFunE hr.depth ho rfl S.co S.gen rfl (NdefX.codeO_at e0.hok g2) ?_
  rw [hb pm ctv us (by rw [← r.length]; exact hl)]
  refine wpAny_pure (wpAny_newFunctionEnv S.nocell (fun ⟨n, _⟩ hy => S.par n (List.of_mem_zip hy).1) (fun h₁ hns hsb => ⟨lim.fresh _ hsb, ?_⟩) S.kind)
  show codeAny _ _ (.expr F.body (NdefX.envF F.nf f s.heap.objs.size)) _ _
  have kp : ∀ b o, s.heap.get? b = some o → h₁.get? b = some o := fun b o e => hsb.extBut b o (Nat.ne_of_lt (Heap.lt_size e)) (Heap.get?_push_of_some _ e)
  obtain ⟨t, ht, hq⟩ := hbody A outer s (unl H cs) vs _ E (hr.deeper _) hsp
  have I : Inv (NdefX.ncx CX0 P w K mg base N F.nf f A outer s (unl H cs) E) [] (NdefX.startF N vs ws) (unl H cs) { s with heap := h₁, toks := s.toks + (ps.zip us).length } := NdefX.inv_startN S hr.hd (env0_unl e0 g3) hl r (C.at g3 e0.hok) hns kp
  refine PySem.W.kla_codeExpr (wpAny_mono (ht.run [] _ _ _ _ I hq) (fun v s' hq => ?_) fun e s' hq => hq)
  obtain ⟨w', H', J', rv, q⟩ := hq
  exact ⟨w', H', J'.os, J'.bare, J'.base, J'.hok, rv, q⟩
end
section
variable {X : Cx} {pins : List (Addr × Obj)} {σ : L2.St} {H : Hp} {s : Shared}
def ownCells (X : Cx) (h : Heap) : Lent := (X.env.cells.map (·.1)).filterMap fun y => match X.env.cells.lookup y with
  | some c => (h.get? c).map fun o => (c, o)
  | none => none
theorem look_has {α β : Type} [BEq α] [LawfulBEq α] {a : α} {b : β} : ∀ {l : List (α × β)}, (a, b) ∈ l → ∃ b', l.lookup a = some b'
  | (x, y) :: r, h => by
    by_cases e : a = x
    · subst e
      exact ⟨y, by simp [List.lookup]⟩
    · rcases List.mem_cons.mp h with h | h
      · cases h
        exact absurd rfl e
      · obtain ⟨b', h'⟩ := look_has h
        refine ⟨b', ?_⟩
        have : (a == x) = false := by simpa using e
        simp [List.lookup, this, h']
theorem mem_look {α β : Type} [BEq α] [LawfulBEq α] {a : α} {b : β} : ∀ {l : List (α × β)}, l.lookup a = some b → (a, b) ∈ l
  | (x, y) :: r, h => by
    by_cases e : a = x
    · subst e
      simp [List.lookup] at h
      rw [h]
      exact List.mem_cons_self
    · have e2 : (a == x) = false := by simpa using e
      simp only [List.lookup, e2] at h
      exact List.mem_cons_of_mem _ (mem_look h)
theorem own_mem {c : Addr} {o : Obj} {h : Heap} (e : (c, o) ∈ ownCells X h) : h.get? c = some o ∧ ∃ y, X.env.cells.lookup y = some c := by
  unfold ownCells at e
  obtain ⟨y, _, hy⟩ := List.mem_filterMap.mp e
  cases hl : X.env.cells.lookup y with
  | none => rw [hl] at hy; cases hy
  | some c' =>
    rw [hl] at hy
    dsimp only at hy
    cases ho : h.get? c' with
    | none => rw [ho] at hy; cases hy
    | some o' =>
      rw [ho] at hy
      cases hy
      exact ⟨ho, y, hl⟩
theorem own_look {c : Addr} {o : Obj} {h : Heap} (e : (ownCells X h).lookup c = some o) : h.get? c = some o ∧ ∃ y, X.env.cells.lookup y = some c := own_mem (mem_look e)
theorem own_in {c : Addr} {o : Obj} {h : Heap} {y : Str} (hy : X.env.cells.lookup y = some c) (ho : h.get? c = some o) : (ownCells X h).lookup c = some o := by
  have hm : (c, o) ∈ ownCells X h := by
    unfold ownCells
    refine List.mem_filterMap.mpr ⟨y, List.mem_map.mpr ⟨_, PySem.mem_of_lookup hy, rfl⟩, ?_⟩
    rw [hy]
    dsimp only
    rw [ho]
    rfl
  obtain ⟨o', h'⟩ := look_has hm
  have := (own_look h').1
  rw [ho] at this
  cases this
  exact h'
structure Lends (X : Cx) (σ : L2.St) (H : Hp) (cs : Lent) : Prop where
  new : Fresh cs H
  cel : Cells cs
  got : ∀ (scope : PySem.Scope) (fr : List Str) (js : List Nat), NdefX.ndefB X.env.scope scope fr = true → js.map (fun j => X.N[j]?) = fr.map some → Caught (cloFrom X.env.cells scope.names []) fr (js.map (NdefX.slotAt σ)) cs
theorem lends_own (I : Inv X pins σ H s) : Lends X σ H (ownCells X s.heap) := by
  have cel : Cells (ownCells X s.heap) := fun c o e => by
    obtain ⟨h1, y, h2⟩ := own_look e
    obtain ⟨v, o', h3, h4⟩ := I.cell y c h2
    rw [h1] at h3
    cases h3
    exact ⟨v, h4⟩
  refine ⟨fun c o e => ?_, cel, fun scope fr js hfr hjs => ?_⟩
  · obtain ⟨_, y, h2⟩ := own_look e
    exact I.freeC y c h2
  · have C := NdefX.Caps.made I.ok (NdefX.ndef_free hfr) (NdefX.ndef_fr hfr) hjs
    have A := NdefX.cells_of I C
    refine ⟨A.len, fun y c e => ?_, A.inj, fun i y e => ?_⟩
    · obtain ⟨_, v, o, h1, h2⟩ := A.all y c e
      exact ⟨o, v, own_in (C.sub y c e) h1, h2⟩
    · obtain ⟨c, h1, h2⟩ := A.has i y e
      refine ⟨c, h1, fun v hv => ?_⟩
      obtain ⟨u, r, o, h3, h4⟩ := h2 v hv
      exact ⟨u, o, r, own_in (C.sub y c h1) h3, h4⟩
theorem env0_lend (I : Inv X pins σ H s) (hfn : ∀ x, X.fn x = true) : Env0 X.prog X.w X.K X.mg X.base X.A X.stack s (lend H (ownCells X s.heap)) := by
  have L := lends_own I
  have big : ∀ c o, (ownCells X s.heap).lookup c = some o → X.s_0.heap.objs.size ≤ c := fun c o e => by
    obtain ⟨_, y, h2⟩ := own_look e
    exact I.ok.cab y c (hfn y) h2
  refine ⟨I.ok.frames, I.ok.mod, fun b o e => ⟨(I.bs b o e).1, ?_⟩, Nat.le_trans I.ok.bsz I.sz, I.stack, fun b hb => ?_, hok_lend I.hok L.new (fun c o e => (own_look e).1), I.bare⟩
  · cases hl : (ownCells X s.heap).lookup b with
    | none => rw [lend_out hl]; exact (I.bs b o e).2
    | some ob =>
      exact absurd (Nat.lt_of_lt_of_le (Heap.lt_size e) I.ok.bsz) (Nat.not_lt.mpr (big _ _ hl))
  · cases hl : (ownCells X s.heap).lookup b with
    | none => rw [lend_out hl]; exact I.stkFree b hb
    | some ob =>
      exfalso
      rcases List.mem_cons.mp (I.stkSub b hb) with e | hb
      · obtain ⟨v, hv⟩ := L.cel _ _ hl
        obtain ⟨m, hn, _⟩ := I.loc
        obtain ⟨o2, es, ep, h1, h3, _⟩ := hn
        rw [← e, (own_look hl).1] at h1
        cases h1
        rw [hv] at h3
        cases h3
      · obtain ⟨_, o, ho, _⟩ := I.ok.funs.mem hb
        exact absurd (Heap.lt_size ho) (Nat.not_lt.mpr (big _ _ hl))
theorem pe_callLd {k : Nat} {f : Addr} {fd : FuncData} {ps : List Str} {sp : Sp} {x : Str} {p pos : Pos} {e : PySem.Expr} {es : List PySem.Expr} {t : TA} (F : FnOk X.prog X.w X.K X.mg X.base CX0 k f fd ps sp) (hr : Room k X.A) (hg : Gl X x) (hm : X.mg x = some (.ref f)) (hk : PySem.W.keepIn X.K (.ref f) = true) (hb : Binds X.K fd ps []) (hfn : ∀ x, X.fn x = true)
    (ha : PA X (e :: es) t) (hdb : (x == ("__debug__" : Str)) = false := by decide) (he : starEach (e :: es) X.env = (false, eval e X.env) :: starEach es X.env := by rfl) (hpl : (backTo pos (starEach es X.env)).any (·.1) = false := by rfl) :
    PE X (.Call (.Name x p) (e :: es) [] pos) (fun σ H Q => t σ H fun vs H1 => ∀ cs, Lends X σ H1 cs → sp vs (lend H1 cs) (fun v H2 => LentAt cs H2 ∧ Q v (unl H2 cs)) E0) := by
  refine ⟨fun pins s σ H Q I h => ?_⟩
  refine wpAny_Call_Name_kw (ld_glob I hg hm ?_ hdb)
  refine PySem.W.callWith_K (h₀ := X.base) I.ok.mod.kin hk (thn (ha.run pos pins s σ H _ I h) fun us s1 ⟨vs, H1, I1, r, q⟩ => ⟨I1.kIn, ?_⟩) he hpl
  have L := lends_own I1
  have q := q _ L
  have hl : us.length = ps.length := by rw [← r.length]; exact F.len _ _ _ _ q
  have hb' := hb s1 us I1.kIn (by rw [List.append_nil]; exact hl)
  rw [List.append_nil] at hb'
  refine wpAny_call (codeAny_mono (F.run X.A X.stack s1 _ ⟨us, []⟩ us vs _ E0 hr (env0_lend I1 hfn) hb' r q) fun r s' hq => ?_)
  cases r with
  | error e => exact (show False from hq).elim
  | ok fl =>
    cases fl with
    | ret u =>
      obtain ⟨v, H2, h1, h2, h3, h4, h5, h6, h7⟩ := hq
      exact I1.after ⟨v, unl H2 _, h1, h2, un_back h3 L.new h6 h4 (fun c o e => (own_look e).1), hok_unl h4 h6, h5, h7⟩
    | next => exact False.elim hq
    | brk => exact False.elim hq
    | cont => exact False.elim hq
end
theorem pe_lamXc {X : Cx} {c P : Addr} {params : Arguments} {body : PySem.Expr} {scope : PySem.Scope} {pos : Pos} {fr : List Str} (tb : LamX.TabB X.base X.mg c P) (hc : X.env.code = .ref c) (hd : defaultsOf params X.env = ([], []))
    (hfr : NdefX.ndefB X.env.scope scope fr = true) : PE X (.Lambda params body scope pos) (fun σ H Q => LamX.TabS H P (X.env.qual ++ "<lambda>") ∧ ∀ (f c : Addr) (H1 : Hp), Fr P H H1 → (∀ b, H1 b = none → H b = none) → LamX.TabS H1 P (X.env.qual ++ "<lambda>") → H f = none →
      H1 f = some (LamO f ⟨X.env.qual ++ "<lambda>", params, body, scope, cloFrom X.env.cells scope.names [], c⟩) → H1 c = some (LamX.CodeO c (X.env.qual ++ "<lambda>")) → Q (.ref f) H1) :=
  ⟨fun pins s σ H Q I h => (pe_lamX tb hc hd fun y hy e => ((NdefX.ndef_free hfr) y hy e).elim (fun z => I.ok.has _ (.inl z)) fun z => I.ok.has _ (.inr z)).run pins s σ H Q I h⟩

mutual
inductive Dt (ok : Addr → Prop) (H : Hp) : V → PyData → Prop
  | non : Dt ok H .non .none
  | bl (b : Bool) : Dt ok H (.bl b) (.bool b)
  | int (i : Int) : Dt ok H (.int i) (.int i)
  | str (x : Str) : Dt ok H (.str x) (.str x)
  | dic {a : Addr} : H a = some (.dK []) → ok a → Dt ok H (.ref a) (.dict [])
  | lst {a : Addr} {xs : List V} {ds : List PyData} : H a = some (.lst xs) → ok a → xs.length ≤ 1000 → DtAll ok H xs ds → Dt ok H (.ref a) (.list ds)
  | tup {a : Addr} {xs : List V} {ds : List PyData} : H a = some (.tup xs) → ok a → xs.length ≤ 1000 → DtAll ok H xs ds → Dt ok H (.ref a) (.tuple ds)
inductive DtAll (ok : Addr → Prop) (H : Hp) : List V → List PyData → Prop
  | nil : DtAll ok H [] []
  | cons {v : V} {vs : List V} {d : PyData} {ds : List PyData} : Dt ok H v d → DtAll ok H vs ds → DtAll ok H (v :: vs) (d :: ds)
end
section
variable {ok ok' : Addr → Prop} {H H' : Hp} {K : PySem.W.Frag}
mutual
theorem Dt.imp (hk : ∀ b o, ok b → H b = some o → ok' b) (h : ∀ b o, ok b → H b = some o → H' b = some o) : ∀ {v : V} {d : PyData}, Dt ok H v d → Dt ok' H' v d
  | _, _, .non => .non
  | _, _, .bl b => .bl b
  | _, _, .int i => .int i
  | _, _, .str x => .str x
  | _, _, .dic e k => .dic (h _ _ k e) (hk _ _ k e)
  | _, _, .lst e k l r => .lst (h _ _ k e) (hk _ _ k e) l (DtAll.imp hk h r)
  | _, _, .tup e k l r => .tup (h _ _ k e) (hk _ _ k e) l (DtAll.imp hk h r)
theorem DtAll.imp (hk : ∀ b o, ok b → H b = some o → ok' b) (h : ∀ b o, ok b → H b = some o → H' b = some o) : ∀ {vs : List V} {ds : List PyData}, DtAll ok H vs ds → DtAll ok' H' vs ds
  | _, _, .nil => .nil
  | _, _, .cons a b => .cons (Dt.imp hk h a) (DtAll.imp hk h b)
end
theorem Dt.keep {v : V} {d : PyData} (x : Dt ok H v d) (h : ∀ b o, ok b → H b = some o → H' b = some o) : Dt ok H' v d := x.imp (fun _ _ k _ => k) h
theorem Dt.same {v : V} {d : PyData} (x : Dt ok H v d) (s : Same H H') : Dt ok H' v d := x.keep fun b o _ h => s b o h
theorem Dt.weak {v : V} {d : PyData} (x : Dt ok H v d) (h : ∀ b, ok b → ok' b) : Dt ok' H v d := x.imp (fun b _ k _ => h b k) fun _ _ _ e => e
theorem Dt.any {v : V} {d : PyData} (x : Dt ok H v d) : Dt (fun _ => True) H v d := x.weak fun _ _ => trivial
theorem Dt.off {w : Addr} {v : V} {d : PyData} (x : Dt ok H v d) (h : H w = none) : Dt (fun b => ok b ∧ b ≠ w) H v d := x.imp (fun _ _ k e => ⟨k, ne_of_none e h⟩) fun _ _ _ e => e
theorem DtAll.keep {vs : List V} {ds : List PyData} (x : DtAll ok H vs ds) (h : ∀ b o, ok b → H b = some o → H' b = some o) : DtAll ok H' vs ds := x.imp (fun _ _ k _ => k) h
theorem DtAll.same {vs : List V} {ds : List PyData} (x : DtAll ok H vs ds) (s : Same H H') : DtAll ok H' vs ds := x.keep fun b o _ h => s b o h
theorem DtAll.weak {vs : List V} {ds : List PyData} (x : DtAll ok H vs ds) (h : ∀ b, ok b → ok' b) : DtAll ok' H vs ds := x.imp (fun b _ k _ => h b k) fun _ _ _ e => e
mutual
theorem Dt.dp : ∀ {v : V} {d : PyData}, Dt ok H v d → d.canLay0 = true → Dp K H v d
  | _, _, .non, _ => .non
  | _, _, .bl b, _ => .bl b
  | _, _, .int i, _ => .int i
  | _, _, .str x, _ => .str x
  | _, _, .dic _ _, h => by simp [PyData.canLay0] at h
  | _, _, .lst e _ _ r, h => .lst (SqL.of e) (DtAll.dp r (by simpa only [PyData.canLay0] using h))
  | _, _, .tup e _ _ r, h => .tup (SqT.of e) (DtAll.dp r (by simpa only [PyData.canLay0] using h))
theorem DtAll.dp : ∀ {vs : List V} {ds : List PyData}, DtAll ok H vs ds → PyData.canLayAll0 ds = true → DpAll K H vs ds
  | _, _, .nil, _ => .nil
  | _, _, .cons a b, h => by
    simp only [PyData.canLayAll0, Bool.and_eq_true] at h
    exact .cons (Dt.dp a h.1) (DtAll.dp b h.2)
end
theorem DtAll.len : ∀ {vs : List V} {ds : List PyData}, DtAll ok H vs ds → vs.length = ds.length
  | _, _, .nil => rfl
  | _, _, .cons _ b => by simp only [List.length_cons, DtAll.len b]
theorem DtAll.getV : ∀ {vs : List V} {ds : List PyData} {i : Nat} {x : V}, DtAll ok H vs ds → vs[i]? = some x → ∃ d, ds[i]? = some d ∧ Dt ok H x d
  | _, _, 0, _, .cons a _, h => by cases h; exact ⟨_, rfl, a⟩
  | _, _, i + 1, _, .cons _ b, h => by
    rw [List.getElem?_cons_succ] at h
    obtain ⟨d, h1, h2⟩ := DtAll.getV b h
    exact ⟨d, by rw [List.getElem?_cons_succ]; exact h1, h2⟩
theorem DtAll.snoc : ∀ {vs : List V} {ds : List PyData} {v : V} {d : PyData}, DtAll ok H vs ds → Dt ok H v d → DtAll ok H (vs ++ [v]) (ds ++ [d])
  | _, _, _, _, .nil, y => .cons y .nil
  | _, _, _, _, .cons a b, y => .cons a (DtAll.snoc b y)
theorem dt_ints : ∀ xs : List Int, DtAll ok H (xs.map V.int) (xs.map PyData.int)
  | [] => .nil
  | x :: r => .cons (.int x) (dt_ints r)
theorem dt_intsL {a : Addr} {xs : List Int} (h : H a = some (.lst (xs.map V.int))) (k : ok a) (l : xs.length ≤ 1000) : Dt ok H (.ref a) (.list (xs.map PyData.int)) := .lst h k (by rw [List.length_map]; exact l) (dt_ints xs)
theorem dtAll_ints : ∀ {w : List Int} {vs : List V}, DtAll ok H vs (w.map PyData.int) → vs = w.map V.int
  | [], _, h => by cases h; rfl
  | x :: r, _, h => by
    cases h with
    | cons a b =>
      cases a
      rw [dtAll_ints b]
      rfl
theorem Dt.intsL {v : V} {w : List Int} (h : Dt ok H v (.list (w.map PyData.int))) : ∃ a, v = .ref a ∧ H a = some (.lst (w.map V.int)) ∧ ok a := by
  cases h with
  | lst e k l r =>
    rw [dtAll_ints r] at e
    exact ⟨_, rfl, e, k⟩
end
theorem layAll_mem {d : PyData} : ∀ {ds : List PyData}, PyData.canLayAll0 ds = true → d ∈ ds → d.canLay0 = true
  | x :: r, h, hm => by
    simp only [PyData.canLayAll0, Bool.and_eq_true] at h
    rcases List.mem_cons.mp hm with rfl | hm
    · exact h.1
    · exact layAll_mem h.2 hm
theorem depthAll_mem {d : PyData} : ∀ {ds : List PyData}, d ∈ ds → d.depth ≤ PyData.depthAll ds
  | x :: r, h => by
    simp only [PyData.depthAll]
    rcases List.mem_cons.mp h with rfl | h
    · omega
    · have := depthAll_mem h
      omega
theorem eqT {x y : V} {i : Decidable (x = y)} {A B : Prop} (h : x = y) (k : A) : if (@decide (x = y) i) = true then A else B := by
  rw [decide_eq_true h]
  exact iteT k
theorem eqF {x y : V} {i : Decidable (x = y)} {A B : Prop} (h : x ≠ y) (k : B) : if (@decide (x = y) i) = true then A else B := by
  rw [decide_eq_false h]
  exact iteF k
theorem noneOf {sp : Sp} {P : Program} {w : World} {K : PySem.W.Frag} {mg : Str → Option Value} {base : Heap} {f : Addr} {fd : FuncData} {ps : List Str} {k : Nat} (no : ∀ vs H Q E, ¬ sp vs H Q E) : FnOk P w K mg base CX0 k f fd ps sp :=
  ⟨fun vs H Q E h => absurd h (no vs H Q E), fun A outer s H args us vs Q E _ _ _ _ h => absurd h (no vs H Q E)⟩


def Dk (H : Hp) (p : Addr) : Prop := ∃ xs : List Int, H p = some (.lst (xs.map V.int))
theorem Dk.some {H : Hp} {p : Addr} (h : Dk H p) : H p ≠ none := by obtain ⟨xs, e⟩ := h; rw [e]; simp
theorem Dk.ne {H : Hp} {p q : Addr} (h : Dk H p) (e : H q = none) : q ≠ p := fun e2 => h.some (by rw [← e2]; exact e)
theorem Dk.keep {H H' : Hp} {p : Addr} (h : Dk H p) (s : Same H H') : Dk H' p := by obtain ⟨xs, e⟩ := h; exact ⟨xs, s _ _ e⟩
theorem Dk.upd {H : Hp} {p q : Addr} {o : HO} (h : Dk H p) (n : q ≠ p) : Dk (upd H q o) p := by obtain ⟨xs, e⟩ := h; exact ⟨xs, by rw [upd_ne (fun e => n e.symm)]; exact e⟩
def sp__law_cell_at (K : PySem.W.Frag) : Sp := fun vs H Q _ => ∃ (a : Addr) (ns : List Int) (k : Int), vs = [.ref a, .int k] ∧ SqL K H a (ns.map V.int) ∧ 0 ≤ k ∧ ∀ x, Q (.int x) H
def sp__law_numbers : Sp := fun vs H Q _ => ∃ (c m : Int), vs = [.int c, .int m] ∧ 0 ≤ m ∧ m ≤ 1000 ∧ ∀ p (xs : List Int) H', Same H H' → H p = none → H' p = some (.lst (xs.map V.int)) → Q (.ref p) H'
def sp__law_take : Sp := fun vs H Q _ => ∃ (p : Addr) (m : Int), vs = [.ref p, .int m] ∧ Dk H p ∧ 0 < m ∧ ∀ r H', 0 ≤ r → r < m → Fr p H H' → Dk H' p → Q (.int r) H'
section
variable {P : Program} {w : World} {K : PySem.W.Frag} {mg : Str → Option Value} {base : Heap}
theorem ok__law_cell_at (T : Txt K mg) : FnOk P w K mg base CX0 1 T.f__law_cell_at T.d__law_cell_at ["script", "k"] (sp__law_cell_at K) := by
  refine T.F__law_cell_at.ok sc__law_cell_at (fun vs H Q E h => ?_) (fun cdv A outer s H vs Q E hr h => ?_)
  · obtain ⟨a, ns, k, rfl, _⟩ := h
    rfl
  obtain ⟨a, ns, k, rfl, hS, h0, q⟩ := h
  refine ⟨_, (pss_cons (ps_if (pt_cmpR op_lt (pv 1) (pe_callB call_len_seq (by rfl) T.z_len PySem.boot_len (pa_cons (pv 0) pa_nil)) (nomark _)) (pss_one (ps_ret (pe_ix ix_list (pv 0) (pv 1) (fun _ _ => rfl)))) pss_nil) (pss_one (ps_ret pe_int))), ?_⟩
  refine ⟨_, rfl, _, rfl, a, _, rfl, .inl hS, _, _, rfl, rfl, _, rfl, ?_⟩
  refine ite2 (fun c => ?_) (fun c => ?_)
  · have hk : k.toNat < ns.length := by
      have c' : k < (((ns.map V.int).length : Nat) : Int) := of_decide_eq_true c
      rw [List.length_map] at c'
      omega
    exact ⟨_, rfl, _, rfl, a, _, _, _, rfl, rfl, hS, at_of (j := k.toNat) (v := V.int ns[k.toNat]) (by omega) (by rw [List.getElem?_map, List.getElem?_eq_getElem hk]; rfl), q _⟩
  · exact q _
theorem ok__law_numbers (T : Txt K mg) : FnOk P w K mg base CX0 1 T.f__law_numbers T.d__law_numbers ["cell", "many"] sp__law_numbers := by
  refine T.F__law_numbers.ok sc__law_numbers (fun vs H Q E h => ?_) (fun cdv A outer s H vs Q E hr h => ?_)
  · obtain ⟨c, m, rfl, _⟩ := h
    rfl
  obtain ⟨c, m, rfl, h0, h1, q⟩ := h
  refine ⟨_, (pss_cons (ps_set (i := 2) sc__law_numbers.nd rfl (Or.inl rfl) (pe_lst pa_nil)) (pss_cons (ps_set (i := 3) sc__law_numbers.nd rfl (Or.inl rfl) (pv 0)) (pss_cons (ps_set (i := 4) sc__law_numbers.nd rfl (Or.inl rfl) (pe_op op_mod (pv 0) pe_int)) (pss_cons (ps_for PassesOwn.never rfl (pi_range1 (by rfl) T.z_range (pa_cons (pv 1) pa_nil)) (pg_name (i := 5) sc__law_numbers.nd rfl (Or.inl rfl)) (pss_one (ps_if (PW.pt (pw_and (pt_cmpR op_ge (pv 0) (pe_op op_pow pe_int pe_int) (nomark _)) (pw_and1 (pt_cmpR op_gt (pv 3) pe_int (nomark _))))) (pss_cons (ps_expr (pe_bm PySem.F.plainAttrs_list PySem.F.slot_list_append PySem.F.type_list_append mt_append (pv 2) (pa_cons (pe_op op_mod (pv 3) pe_int) pa_nil))) (pss_one (ps_set (i := 3) sc__law_numbers.nd rfl (Or.inl rfl) (pe_op op_fdivW (pv 3) pe_int)))) (pss_cons (ps_set (i := 4) sc__law_numbers.nd rfl (Or.inl rfl) (pe_op op_mod (pe_op op_mul (pe_op op_add (pe_op op_add (pv 4) (pe_op op_mul pe_int (pv 5))) pe_int) pe_int) pe_int)) (pss_cons (ps_set (i := 6) sc__law_numbers.nd rfl (Or.inl rfl) (pe_op op_mod (pe_op op_mul (pe_op op_mod (pe_op op_mul (pv 4) (pv 4)) pe_int) pe_int) pe_int)) (pss_one (ps_expr (pe_bm PySem.F.plainAttrs_list PySem.F.slot_list_append PySem.F.type_list_append mt_append (pv 2) (pa_cons (pe_op op_mod (pe_op op_fdivW (pv 6) pe_int) pe_int) pa_nil))))))))) (pss_one (ps_ret (pv 2))))))), ?_⟩
  refine ⟨(by show 0 ≤ sizeLine; decide), fun p hp => ?_⟩
  have s0 : 0 ≤ c % 2147483647 := Int.emod_nonneg _ (by decide)
  have s1 : c % 2147483647 < 2147483647 := Int.emod_lt_of_pos _ (by decide)
  refine ⟨_, rfl, _, rfl, _, _, rfl, rfl, (by show (0 : Int) < 2147483647; decide), ?_⟩
  refine ⟨_, rfl, m, rfl, by omega, by omega, for_range (lo := 0) (n := m.toNat) (fun i σ H' => ∃ (rest stir : Int) (xs : List Int) (y5 y6 : Option V), σ = [some (.int c), some (.int m), some (.ref p), some (.int rest), some (.int stir), y5, y6] ∧ 0 ≤ stir ∧ stir < 2147483647 ∧ H' p = some (.lst (xs.map V.int)) ∧ xs.length ≤ i ∧ Same H H')
    ⟨_, _, [], _, _, rfl, s0, s1, upd_same, Nat.le_refl _, same_new hp⟩ ?_ ?_⟩
  · rintro i σ H' hi ⟨rest, stir, xs, y5, y6, rfl, g0, g1, g2, g3, g4⟩
    have fits : (xs.map V.int).length < sizeLine := by
      rw [List.length_map]
      exact Nat.lt_of_le_of_lt (show _ ≤ 1000000 by omega) (by decide)
    have app : ∀ z : Int, xs.map V.int ++ [V.int z] = (xs ++ [z]).map V.int := fun z => by rw [List.map_append]; rfl
    have m1 : ∀ x : Int, 0 ≤ x % 2147483629 ∧ x % 2147483629 < 2147483629 := fun x => ⟨Int.emod_nonneg _ (by decide), Int.emod_lt_of_pos _ (by decide)⟩
    refine ⟨_, rfl, 10, 18, rfl, rfl, ⟨by decide, by decide, by decide⟩, _, _, rfl, rfl, _, rfl, ?_⟩
    refine ite2 (fun k1 => ⟨_, rfl, _, _, rfl, rfl, _, rfl, ite2 (fun k2 => ?A) (fun k2 => ?B)⟩) (fun k1 => ite2 (fun k2 => absurd k2 (by decide)) (fun k2 => ?C))
    case A =>
      refine ⟨_, rfl, .inl ⟨rfl, _, SqL.of g2⟩, _, rfl, _, _, rfl, rfl, (by show (0 : Int) < 64; decide), p, _, _, rfl, rfl, g2, fits, ?_⟩
      refine ⟨_, rfl, _, _, rfl, rfl, divW (by decide) (by decide), ?_⟩
      exact ⟨_, stir, xs ++ [rest % 64], _, _, rfl, g0, g1, by rw [upd_same, app], by rw [List.length_append, List.length_singleton]; omega, same_add g4 hp⟩
    all_goals
      refine ⟨_, rfl, _, rfl, 7, 0 + (i : Int), rfl, rfl, .inl ⟨by decide, by decide⟩, _, _, rfl, rfl, _, _, rfl, rfl, _, _, rfl, rfl, .inl ⟨by omega, by omega⟩, _, _, rfl, rfl, (by show (0 : Int) < 2147483647; decide), ?_⟩
      have t0 : 0 ≤ (stir + 7 * (0 + (i : Int)) + 3) * 48271 % 2147483647 := Int.emod_nonneg _ (by decide)
      have t1 : (stir + 7 * (0 + (i : Int)) + 3) * 48271 % 2147483647 < 2147483647 := Int.emod_lt_of_pos _ (by decide)
      refine ⟨_, rfl, _, rfl, _, _, rfl, rfl, .inl ⟨by omega, by omega⟩, _, _, rfl, rfl, (by show (0 : Int) < 2147483629; decide), _, _, rfl, rfl, .inl ⟨?_, ?_⟩, _, _, rfl, rfl, (by show (0 : Int) < 2147483587; decide), ?_⟩
      · exact Int.lt_of_lt_of_le (by decide) (m1 _).1
      · exact Int.lt_trans (m1 _).2 (by decide)
      refine ⟨_, rfl, .inl ⟨rfl, _, SqL.of g2⟩, _, rfl, _, _, rfl, rfl, divW (by decide) (by decide), _, _, rfl, rfl, (by show (0 : Int) < 720720; decide), p, _, _, rfl, rfl, g2, fits, ?_⟩
      exact ⟨rest, _, xs ++ [_], _, _, rfl, t0, t1, by rw [upd_same, app], by rw [List.length_append, List.length_singleton]; omega, same_add g4 hp⟩
  · rintro σ H' ⟨rest, stir, xs, y5, y6, rfl, g0, g1, g2, g3, g4⟩
    exact ⟨_, rfl, q p xs H' g4 hp g2⟩
theorem ok__law_deck (T : Txt K mg) : FnOk P w K mg base CX0 2 T.f__law_deck T.d__law_deck ["cell", "many"] sp__law_numbers := by
  have G__law_numbers : FnOk P w K mg base CX0 1 T.f__law_numbers T.d__law_numbers ["cell", "many"] sp__law_numbers := ok__law_numbers T
  refine T.F__law_deck.ok sc__law_deck (fun vs H Q E h => ?_) (fun cdv A outer s H vs Q E hr h => ?_)
  · obtain ⟨c, m, rfl, _⟩ := h
    rfl
  obtain ⟨c, m, rfl, h0, h1, q⟩ := h
  refine ⟨_, (pss_one (ps_ret (pe_revL (pe_call G__law_numbers (hr.mono (by omega)) (by rfl) T.m__law_numbers T.F__law_numbers.kp T.b__law_numbers .nil pass0 (pa_cons (pv 0) (pa_cons (pv 1) pa_nil)))))), ?_⟩
  refine ⟨_, rfl, _, rfl, c, m, rfl, h0, h1, fun p xs H' s hp hx => ⟨p, _, rfl, SqL.of hx, fun p2 hp2 => ?_⟩⟩
  exact q p2 xs.reverse _ (s.trans (same_new hp2)) (s.free hp2) (by rw [upd_same, List.map_reverse])
theorem ok__law_take (T : Txt K mg) : FnOk P w K mg base CX0 1 T.f__law_take T.d__law_take ["deck", "many"] sp__law_take := by
  refine T.F__law_take.ok sc__law_take (fun vs H Q E h => ?_) (fun cdv A outer s H vs Q E hr h => ?_)
  · obtain ⟨p, m, rfl, _⟩ := h
    rfl
  obtain ⟨p, m, rfl, ⟨xs, hp⟩, hm, q⟩ := h
  refine ⟨_, (pss_cons (ps_if (pt_cmpR (op_eqD hr.units) (pv 0) (pe_lst pa_nil) (nomark _)) (pss_one (ps_ret pe_int)) pss_nil) (pss_one (ps_ret (pe_op op_mod (pe_bm0 PySem.F.plainAttrs_list PySem.F.slot_list_pop PySem.F.type_list_pop mt_pop (pv 0)) (pv 1))))), ?_⟩
  refine ⟨_, rfl, (by show 0 ≤ sizeLine; decide), fun e he => ?_⟩
  have sE := same_new he (o := .lst [])
  refine ⟨_, _, dp_intsL (SqL.of (sE _ _ hp)), dp_nil upd_same, shaped_ints _, shaped_nil, _, rfl, ?_⟩
  rw [eqv_nil, List.length_map]
  by_cases hu : xs.length = 0
  · rw [decide_eq_true hu]
    exact iteT (q 0 _ (by omega) hm (Fr.same sE) ⟨xs, sE _ _ hp⟩)
  · rw [decide_eq_false hu]
    have hl : xs.length - 1 < xs.length := by omega
    refine iteF ⟨_, rfl, .inl ⟨rfl, _, SqL.of (sE _ _ hp)⟩, p, _, _, rfl, rfl, sE _ _ hp, by rw [List.length_map, List.getElem?_map, List.getElem?_eq_getElem hl]; rfl, ?_⟩
    refine ⟨_, rfl, _, _, rfl, rfl, hm, ?_⟩
    refine q _ _ (Int.emod_nonneg _ (by omega)) (Int.emod_lt_of_pos _ hm) (fun b o n h => by rw [upd_ne n]; exact sE _ _ h) ⟨xs.dropLast, ?_⟩
    rw [upd_same, List.map_dropLast]
end


inductive Cd
  | least (w : List Int) (b : Int)
  | turns (w : List Int) (m r : Int)
  | neg (c : Cd)
  | both (c d : Cd)
  | either (c d : Cd)
def Cd.dat : Cd → PyData
  | .least w b => .tuple [.str (Str.ofString "least"), .list (w.map PyData.int), .int b]
  | .turns w m r => .tuple [.str (Str.ofString "turns"), .list (w.map PyData.int), .int m, .int r]
  | .neg c => .tuple [.str (Str.ofString "not"), c.dat]
  | .both c d => .tuple [.str (Str.ofString "both"), c.dat, d.dat]
  | .either c d => .tuple [.str (Str.ofString "either"), c.dat, d.dat]
def wOk (s : Nat) (w : List Int) : Prop := w.length = s ∧ ∀ x ∈ w, 0 ≤ x ∧ x ≤ 4
def Cd.ok (s : Nat) : Cd → Prop
  | .least w b => wOk s w ∧ 0 ≤ b ∧ b ≤ 4
  | .turns w m r => wOk s w ∧ 1 ≤ m ∧ m ≤ 4 ∧ 0 ≤ r ∧ r < m
  | .neg c => c.ok s
  | .both c d => c.ok s ∧ d.ok s
  | .either c d => c.ok s ∧ d.ok s
def Cd.deep : Cd → Nat
  | .least _ _ => 1
  | .turns _ _ _ => 1
  | .neg c => 1 + c.deep
  | .both c d => 1 + max c.deep d.deep
  | .either c d => 1 + max c.deep d.deep
theorem Cd.deep_pos : ∀ c : Cd, 1 ≤ c.deep
  | .least _ _ => Nat.le_refl _
  | .turns _ _ _ => Nat.le_refl _
  | .neg c => by simp only [Cd.deep]; omega
  | .both c d => by simp only [Cd.deep]; omega
  | .either c d => by simp only [Cd.deep]; omega
theorem dep0 : ∀ xs : List Int, PyData.depthAll (xs.map PyData.int) = 0
  | [] => by simp only [List.map_nil, PyData.depthAll]
  | x :: r => by simp only [List.map_cons, PyData.depthAll, PyData.depth, dep0 r, Nat.max_self]
theorem Cd.dat_depth : ∀ c : Cd, c.dat.depth ≤ c.deep + 1
  | .least w b => by
    simp only [Cd.dat, PyData.depth, PyData.depthAll, Cd.deep, dep0]; omega
  | .turns w m r => by
    simp only [Cd.dat, PyData.depth, PyData.depthAll, Cd.deep, dep0]; omega
  | .neg c => by
    have := c.dat_depth
    simp only [Cd.dat, PyData.depth, PyData.depthAll, Cd.deep]; omega
  | .both c d => by
    have := c.dat_depth
    have := d.dat_depth
    simp only [Cd.dat, PyData.depth, PyData.depthAll, Cd.deep]; omega
  | .either c d => by
    have := c.dat_depth
    have := d.dat_depth
    simp only [Cd.dat, PyData.depth, PyData.depthAll, Cd.deep]; omega
theorem so_least : PyData.strOk (Str.ofString "least") = true := by decide +kernel
theorem so_turns : PyData.strOk (Str.ofString "turns") = true := by decide +kernel
theorem so_not : PyData.strOk (Str.ofString "not") = true := by decide +kernel
theorem so_both : PyData.strOk (Str.ofString "both") = true := by decide +kernel
theorem so_either : PyData.strOk (Str.ofString "either") = true := by decide +kernel
theorem Cd.lay : ∀ c : Cd, c.dat.canLay0 = true
  | .least w b => by simp only [Cd.dat, PyData.canLay0, PyData.canLayAll0, so_least, lay_ints, Bool.and_self]
  | .turns w m r => by simp only [Cd.dat, PyData.canLay0, PyData.canLayAll0, so_turns, lay_ints, Bool.and_self]
  | .neg c => by simp only [Cd.dat, PyData.canLay0, PyData.canLayAll0, so_not, c.lay, Bool.and_self]
  | .both c d => by simp only [Cd.dat, PyData.canLay0, PyData.canLayAll0, so_both, c.lay, d.lay, Bool.and_self]
  | .either c d => by simp only [Cd.dat, PyData.canLay0, PyData.canLayAll0, so_either, c.lay, d.lay, Bool.and_self]
theorem ine {a b : Int} (h : a ≠ b) : V.int a ≠ V.int b := fun e => h (V.int.inj e)
theorem sne {a b : Str} (h : a ≠ b) : V.str a ≠ V.str b := fun e => h (V.str.inj e)
def sp__law_weights : Sp := fun vs H Q _ => ∃ (p : Addr) (s : Int), vs = [.ref p, .int s] ∧ Dk H p ∧ 1 ≤ s ∧ s ≤ 6 ∧ ∀ a (w : List Int) H', wOk s.toNat w → H' a = some (.lst (w.map V.int)) → H a = none → Fr p H H' → Dk H' p → Q (.ref a) H'
def sp__law_condition (d : Nat) : Sp := fun vs H Q _ => ∃ (p : Addr) (s deep : Int), vs = [.ref p, .int s, .int deep] ∧ Dk H p ∧ 1 ≤ s ∧ s ≤ 6 ∧ 1 ≤ deep ∧ deep ≤ d ∧
  ∀ v (c : Cd) H', Fr p H H' → Dk H' p → Dt (fun b => b ≠ p ∧ H b = none) H' v c.dat → c.ok s.toNat → (c.deep : Int) ≤ deep → Q v H'
section
variable {P : Program} {w : World} {K : PySem.W.Frag} {mg : Str → Option Value} {base : Heap}
theorem ok__law_weights (T : Txt K mg) : FnOk P w K mg base CX0 2 T.f__law_weights T.d__law_weights ["deck", "s"] sp__law_weights := by
  have G__law_take : FnOk P w K mg base CX0 1 T.f__law_take T.d__law_take ["deck", "many"] sp__law_take := ok__law_take T
  refine T.F__law_weights.ok sc__law_weights (fun vs H Q E h => ?_) (fun cdv A outer s H vs Q E hr h => ?_)
  · obtain ⟨p, s, rfl, _⟩ := h
    rfl
  obtain ⟨p, s, rfl, hp, h1, h6, q⟩ := h
  refine ⟨_, (pss_cons (ps_set (i := 2) sc__law_weights.nd rfl (Or.inr rfl) (pe_ix ix_list (pe_lst (pa_cons pe_int (pa_cons pe_int (pa_cons pe_int pa_nil)))) (pe_call G__law_take (hr.mono (by omega)) (by rfl) T.m__law_take T.F__law_take.kp T.b__law_take .nil pass0 (pa_cons (pv 0) (pa_cons pe_int pa_nil))) (fun _ _ => rfl))) (pss_one (ps_ret (pe_lc (own := [("k", 3)]) (g := gName 3) (tt := tYes) rfl sc__law_weights.nd (pi_range1 (by rfl) T.z_range (pa_cons (pv 1) pa_nil)) (blkOk_by (own := [("k", 3)]) (N := ["deck", "s", "most", "k"]) (sc := (defScope s__law_weights)) (by decide +kernel)) (fun _ _ _ _ _ => (pg_name (i := 3) sc__law_weights.nd rfl (Or.inl rfl))) (fun _ _ _ _ _ => pts_nil) (fun _ _ _ _ _ => (pe_call G__law_take (hr.mono (by omega)) (by rfl) T.m__law_take T.F__law_take.kp T.b__law_take .nil pass0 (pa_cons (pv 0) (pa_cons (pv 2) pa_nil)))))))), ?_⟩
  refine ⟨(by show 3 ≤ sizeLine; decide), fun l hl => ?_⟩
  have sl := same_new hl (o := .lst [V.int 2, V.int 2, V.int 5])
  refine ⟨_, rfl, p, 3, rfl, hp.keep sl, by decide, fun r H2 r0 r1 f2 d2 => ?_⟩
  have hl2 := f2 l _ (hp.ne hl) upd_same
  obtain ⟨m, hm, hm0, hm5⟩ : ∃ m : Int, atI [V.int 2, V.int 2, V.int 5] r = some (V.int m) ∧ 0 < m ∧ m ≤ 5 := by
    rcases (by omega : r = 0 ∨ r = 1 ∨ r = 2) with rfl | rfl | rfl
    · exact ⟨2, at_of (j := 0) rfl rfl, by decide, by decide⟩
    · exact ⟨2, at_of (j := 1) rfl rfl, by decide, by decide⟩
    · exact ⟨5, at_of (j := 2) rfl rfl, by decide, by decide⟩
  refine ⟨l, _, r, V.int m, rfl, rfl, SqL.of hl2, hm, ?_⟩
  have F2 : Fr p H H2 := (Fr.same sl).trans f2
  refine ⟨_, rfl, s, rfl, by omega, by omega, fun D hD => lc_range (lo := 0) (n := s.toNat) (fun i H3 => ∃ w : List Int, w.length = i ∧ (∀ x ∈ w, 0 ≤ x ∧ x ≤ 4) ∧ H3 D = some (.lst (w.map V.int)) ∧ Fr p H H3 ∧ Dk H3 p)
    ⟨[], rfl, (fun _ h => by cases h), upd_same, F2.new (F2.free d2.some hD), d2.keep (same_new hD)⟩ ?_ ?_⟩
  · rintro i H3 hi ⟨w, g1, g2, g3, g4, g5⟩
    have nD : D ≠ p := d2.ne hD
    refine ⟨rfl, _, rfl, _, rfl, p, m, rfl, g5, hm0, fun x H4 x0 x1 f4 d4 => ⟨_, f4 _ _ nD g3, ?_, w ++ [x], by simp [g1], ?_, by rw [upd_same, List.map_append]; rfl, ?_, d4.upd nD⟩⟩
    · rw [List.length_map]
      exact Nat.lt_of_le_of_lt (show _ ≤ 1000000 by omega) (by decide)
    · intro y hy
      rcases List.mem_append.mp hy with hy | hy
      · exact g2 y hy
      · simp only [List.mem_singleton] at hy
        omega
    · exact (g4.trans f4).new (F2.free d2.some hD)
  · rintro H3 ⟨w, g1, g2, g3, g4, g5⟩
    exact q D w H3 ⟨g1, g2⟩ g3 (F2.free d2.some hD) g4 g5
theorem ok__law_condition (T : Txt K mg) : ∀ d : Nat, FnOk P w K mg base CX0 (d + 2) T.f__law_condition T.d__law_condition ["deck", "s", "deep"] (sp__law_condition d)
  | 0 => noneOf fun vs H Q E ⟨p, s, deep, _, _, _, _, h1, h2, _⟩ => by omega
  | d + 1 => by
    have G__law_condition : FnOk P w K mg base CX0 (d + 2) T.f__law_condition T.d__law_condition ["deck", "s", "deep"] (sp__law_condition d) := ok__law_condition T d
    have G__law_take : FnOk P w K mg base CX0 1 T.f__law_take T.d__law_take ["deck", "many"] sp__law_take := ok__law_take T
    have G__law_weights : FnOk P w K mg base CX0 2 T.f__law_weights T.d__law_weights ["deck", "s"] sp__law_weights := ok__law_weights T
    refine T.F__law_condition.ok sc__law_condition (fun vs H Q E h => ?_) (fun cdv A outer s H vs Q E hr h => ?_)
    · obtain ⟨p, s, deep, rfl, _⟩ := h
      rfl
    obtain ⟨p, s, deep, rfl, hp, h1, h6, hd1, hd, q⟩ := h
    refine ⟨_, (pss_cons (ps_set (i := 3) sc__law_condition.nd rfl (Or.inl rfl) (pe_call G__law_take (hr.mono (by omega)) (by rfl) T.m__law_take T.F__law_take.kp T.b__law_take .nil pass0 (pa_cons (pv 0) (pa_cons (pe_ix ix_list (pe_lst (pa_cons pe_int (pa_cons pe_int pa_nil))) (pe_callTy call_int1 (by rfl) T.z_int (by decide +kernel) (pa_cons (pe_cmpR op_gt (pv 2) pe_int (nomark _)) pa_nil)) (fun _ _ => rfl)) pa_nil)))) (pss_cons (ps_if (PW.pt (pw_or (pt_cmpR op_eq (pv 3) pe_int (nomark _)) (pw_or1 (pt_cmpR op_eq (pv 3) pe_int (nomark _))))) (pss_one (ps_ret (pe_tup (pa_cons pe_str (pa_cons (pe_call G__law_weights (hr.mono (by omega)) (by rfl) T.m__law_weights T.F__law_weights.kp T.b__law_weights .nil pass0 (pa_cons (pv 0) (pa_cons (pv 1) pa_nil))) (pa_cons (pe_call G__law_take (hr.mono (by omega)) (by rfl) T.m__law_take T.F__law_take.kp T.b__law_take .nil pass0 (pa_cons (pv 0) (pa_cons pe_int pa_nil))) pa_nil)))))) pss_nil) (pss_cons (ps_if (pt_cmpR op_eq (pv 3) pe_int (nomark _)) (pss_cons (ps_set (i := 4) sc__law_condition.nd rfl (Or.inl rfl) (pe_op op_add pe_int (pe_call G__law_take (hr.mono (by omega)) (by rfl) T.m__law_take T.F__law_take.kp T.b__law_take .nil pass0 (pa_cons (pv 0) (pa_cons pe_int pa_nil))))) (pss_one (ps_ret (pe_tup (pa_cons pe_str (pa_cons (pe_call G__law_weights (hr.mono (by omega)) (by rfl) T.m__law_weights T.F__law_weights.kp T.b__law_weights .nil pass0 (pa_cons (pv 0) (pa_cons (pv 1) pa_nil))) (pa_cons (pv 4) (pa_cons (pe_call G__law_take (hr.mono (by omega)) (by rfl) T.m__law_take T.F__law_take.kp T.b__law_take .nil pass0 (pa_cons (pv 0) (pa_cons (pv 4) pa_nil))) pa_nil)))))))) pss_nil) (pss_cons (ps_set (i := 5) sc__law_condition.nd rfl (Or.inl rfl) (pe_call G__law_condition (hr.mono (by omega)) (by rfl) T.m__law_condition T.F__law_condition.kp T.b__law_condition .nil pass0 (pa_cons (pv 0) (pa_cons (pv 1) (pa_cons (pe_op op_sub (pv 2) pe_int) pa_nil))))) (pss_cons (ps_if (pt_cmpR op_eq (pv 3) pe_int (nomark _)) (pss_one (ps_ret (pe_tup (pa_cons pe_str (pa_cons (pv 5) pa_nil))))) pss_nil) (pss_one (ps_ret (pe_tup (pa_cons (pe_ix ix_list (pe_lst (pa_cons pe_str (pa_cons pe_str pa_nil))) (pe_op op_sub (pv 3) pe_int) (fun _ _ => rfl)) (pa_cons (pv 5) (pa_cons (pe_call G__law_condition (hr.mono (by omega)) (by rfl) T.m__law_condition T.F__law_condition.kp T.b__law_condition .nil pass0 (pa_cons (pv 0) (pa_cons (pv 1) (pa_cons (pe_op op_sub (pv 2) pe_int) pa_nil)))) pa_nil))))))))))), ?_⟩
    obtain ⟨M, hM, hM2⟩ : ∃ M : Int, (M = 2 ∧ ¬ 1 < deep ∨ M = 6 ∧ 1 < deep) ∧ atI [V.int 2, V.int 6] (if (decide (1 < deep)) = true then 1 else 0) = some (V.int M) := by
      by_cases h : 1 < deep
      · rw [decide_eq_true h]
        exact ⟨6, .inr ⟨rfl, h⟩, at_of (j := 1) rfl rfl⟩
      · rw [decide_eq_false h]
        exact ⟨2, .inl ⟨rfl, h⟩, at_of (j := 0) rfl rfl⟩
    refine ⟨_, rfl, (by show 2 ≤ sizeLine; decide), fun l hl => ⟨_, rfl, _, _, rfl, rfl, .inr ⟨_, rfl, l, _, _, V.int M, rfl, rfl, SqL.of upd_same, hM2, ?_⟩⟩⟩
    have sl := same_new hl (o := .lst [V.int 2, V.int 6])
    refine ⟨p, M, rfl, hp.keep sl, by omega, fun way H2 w0 w1 f2 d2 => ?_⟩
    have F2 : Fr p H H2 := (Fr.same sl).trans f2
    by_cases h05 : way = 0 ∨ way = 5
    · rcases h05 with rfl | rfl
      case' inl => refine ⟨_, rfl, rfl, _, rfl, eqT rfl (iteT ?_)⟩
      case' inr => refine ⟨_, rfl, rfl, _, rfl, eqF (ine (by decide)) ⟨_, rfl, rfl, _, rfl, eqT rfl ?_⟩⟩
      all_goals
        refine ⟨_, rfl, _, rfl, p, s, rfl, d2, h1, h6, fun a w H3 hw ha hna f3 d3 => ?_⟩
        refine ⟨_, rfl, p, 5, rfl, d3, by decide, fun b H4 b0 b1 f4 d4 => ⟨(by show 3 ≤ sizeLine; decide), fun t ht => ?_⟩⟩
        have nap : a ≠ p := d2.ne hna
        have sT := same_new ht (o := .tup [.str (Str.ofString "least"), .ref a, .int b])
        have hw6 : w.length ≤ 1000 := by have := hw.1; omega
        exact q (.ref t) (.least w b) _ (((F2.trans f3).trans f4).trans (Fr.same sT)) (d4.keep sT) (.tup upd_same ⟨d4.ne ht, ((F2.trans f3).trans f4).free d4.some ht⟩ (Nat.le_add_left _ 997) (.cons (.str _) (.cons (dt_intsL (sT _ _ (f4 _ _ nap ha)) ⟨nap, F2.free d2.some hna⟩ hw6) (.cons (.int b) .nil)))) ⟨hw, b0, by omega⟩ (by simp only [Cd.deep]; omega)
    rw [not_or] at h05
    refine ⟨_, rfl, rfl, _, rfl, eqF (ine h05.1) ⟨_, rfl, rfl, _, rfl, eqF (ine h05.2) ?_⟩⟩
    by_cases hw1 : way = 1
    · subst hw1
      refine ⟨_, rfl, rfl, _, rfl, eqT rfl ?_⟩
      refine ⟨_, rfl, p, 4, rfl, d2, by decide, fun m H3 m0 m1 f3 d3 => ⟨1, m, rfl, rfl, ?_⟩⟩
      refine ⟨_, rfl, _, rfl, p, s, rfl, d3, h1, h6, fun a w H4 hw ha hna f4 d4 => ?_⟩
      refine ⟨_, rfl, _, rfl, _, rfl, p, 1 + m, rfl, d4, by omega, fun r H5 r0 r1 f5 d5 => ⟨(by show 4 ≤ sizeLine; decide), fun t ht => ?_⟩⟩
      have nap : a ≠ p := d3.ne hna
      have sT := same_new ht (o := .tup [.str (Str.ofString "turns"), .ref a, .int (1 + m), .int r])
      have hw6 : w.length ≤ 1000 := by have := hw.1; omega
      exact q (.ref t) (.turns w (1 + m) r) _ ((((F2.trans f3).trans f4).trans f5).trans (Fr.same sT)) (d5.keep sT) (.tup upd_same ⟨d5.ne ht, (((F2.trans f3).trans f4).trans f5).free d5.some ht⟩ (Nat.le_add_left _ 996) (.cons (.str _) (.cons (dt_intsL (sT _ _ (f5 _ _ nap ha)) ⟨nap, (F2.trans f3).free d3.some hna⟩ hw6) (.cons (.int _) (.cons (.int r) .nil))))) ⟨hw, by omega, by omega, r0, r1⟩ (by simp only [Cd.deep]; omega)
    refine ⟨_, rfl, rfl, _, rfl, eqF (ine hw1) ?_⟩
    have hdp : 1 < deep := by omega
    refine ⟨_, rfl, _, rfl, _, rfl, _, _, rfl, rfl, p, s, deep - 1, rfl, d2, h1, h6, by omega, by omega, fun v c H3 f3 d3 hv hc hcd => ?_⟩
    by_cases hw2 : way = 2
    · subst hw2
      refine ⟨_, rfl, rfl, _, rfl, eqT rfl ?_⟩
      refine ⟨_, rfl, (by show 2 ≤ sizeLine; decide), fun t ht => ?_⟩
      have sT := same_new ht (o := .tup [.str (Str.ofString "not"), v])
      exact q (.ref t) (.neg c) _ ((F2.trans f3).trans (Fr.same sT)) (d3.keep sT) (.tup upd_same ⟨d3.ne ht, (F2.trans f3).free d3.some ht⟩ (Nat.le_add_left _ 998) (.cons (.str _) (.cons ((hv.weak fun b h => ⟨h.1, F2.free d2.some h.2⟩).same sT) .nil))) hc (by simp only [Cd.deep]; omega)
    refine ⟨_, rfl, rfl, _, rfl, eqF (ine hw2) ?_⟩
    refine ⟨(by show 2 ≤ sizeLine; decide), fun l2 hl2 => ?_⟩
    have s2 := same_new hl2 (o := .lst [.str (Str.ofString "both"), .str (Str.ofString "either")])
    have d3' := d3.keep s2
    have hv' := hv.same s2
    rcases (by omega : way = 3 ∨ way = 4) with rfl | rfl
    · refine ⟨_, rfl, _, _, rfl, rfl, l2, _, _, .str (Str.ofString "both"), rfl, rfl, SqL.of upd_same, at_of (j := 0) rfl rfl, ?_⟩
      refine ⟨_, rfl, _, rfl, _, rfl, _, rfl, _, _, rfl, rfl, p, s, deep - 1, rfl, d3', h1, h6, by omega, by omega, fun v2 c2 H4 f4 d4 hv2 hc2 hcd2 => ⟨(by show 3 ≤ sizeLine; decide), fun t ht => ?_⟩⟩
      have sT := same_new ht (o := .tup [.str (Str.ofString "both"), v, v2])
      exact q (.ref t) (.both c c2) _ ((((F2.trans f3).trans (Fr.same s2)).trans f4).trans (Fr.same sT)) (d4.keep sT) (.tup upd_same ⟨d4.ne ht, (((F2.trans f3).trans (Fr.same s2)).trans f4).free d4.some ht⟩ (Nat.le_add_left _ 997) (.cons (.str _) (.cons (((hv'.keep fun b o h e => f4 b o h.1 e).weak fun b h => ⟨h.1, F2.free d2.some h.2⟩).same sT) (.cons ((hv2.weak fun b h => ⟨h.1, ((F2.trans f3).trans (Fr.same s2)).free d3'.some h.2⟩).same sT) .nil)))) ⟨hc, hc2⟩ (by simp only [Cd.deep]; omega)
    · refine ⟨_, rfl, _, _, rfl, rfl, l2, _, _, .str (Str.ofString "either"), rfl, rfl, SqL.of upd_same, at_of (j := 1) rfl rfl, ?_⟩
      refine ⟨_, rfl, _, rfl, _, rfl, _, rfl, _, _, rfl, rfl, p, s, deep - 1, rfl, d3', h1, h6, by omega, by omega, fun v2 c2 H4 f4 d4 hv2 hc2 hcd2 => ⟨(by show 3 ≤ sizeLine; decide), fun t ht => ?_⟩⟩
      have sT := same_new ht (o := .tup [.str (Str.ofString "either"), v, v2])
      exact q (.ref t) (.either c c2) _ ((((F2.trans f3).trans (Fr.same s2)).trans f4).trans (Fr.same sT)) (d4.keep sT) (.tup upd_same ⟨d4.ne ht, (((F2.trans f3).trans (Fr.same s2)).trans f4).free d4.some ht⟩ (Nat.le_add_left _ 997) (.cons (.str _) (.cons (((hv'.keep fun b o h e => f4 b o h.1 e).weak fun b h => ⟨h.1, F2.free d2.some h.2⟩).same sT) (.cons ((hv2.weak fun b h => ⟨h.1, ((F2.trans f3).trans (Fr.same s2)).free d3'.some h.2⟩).same sT) .nil)))) ⟨hc, hc2⟩ (by simp only [Cd.deep]; omega)
end


theorem lc_zip {K : PySem.W.Frag} {a b : Addr} {xs ys : List V} {Bd : V → Hp → (Hp → Prop) → Prop} {Qd : Hp → Prop} {H0 : Hp} (hlen : xs.length = ys.length) (Pv : Nat → Hp → Prop) (h0 : Pv 0 H0) (hl : ∀ i H, i ≤ xs.length → Pv i H → SqL K H a xs ∧ SqL K H b ys)
    (hs : ∀ i x y T H, xs[i]? = some x → ys[i]? = some y → Pv i H → H T = none → Bd (.ref T) (upd H T (.tup [x, y])) (Pv (i + 1))) (hd : ∀ H, Pv xs.length H → Qd H) :
    ∃ W : Nat → Nat → Hp → Prop, (∃ m, W 0 m H0) ∧ ∀ i m H, W i m H → ((Itz K a b).stop i H ∧ Qd H) ∨ ((Itz K a b).go i H ∧ ∃ Nx : Hp → Prop, (∀ H', Nx H' → ∃ m', m' < m ∧ W (i + 1) m' H') ∧ ∀ x H', (Itz K a b).yld i H x H' → Bd x H' Nx) := by
  refine ⟨fun i m H => m = xs.length - i ∧ i ≤ xs.length ∧ Pv i H, ⟨xs.length, by simp, Nat.zero_le _, h0⟩, ?_⟩
  rintro i m H ⟨rfl, hi, p⟩
  obtain ⟨q1, q2⟩ := hl i H hi p
  by_cases hlt : i < xs.length
  · have hlt2 : i < ys.length := by omega
    refine .inr ⟨⟨xs, ys, xs[i], ys[i], q1, q2, by simp [hlt], by simp [hlt2]⟩, Pv (i + 1), fun H' p' => ⟨xs.length - (i + 1), by omega, rfl, hlt, p'⟩, fun x H' y => ?_⟩
    obtain ⟨T, x1, y1, rfl, hT, rfl, g1, g2⟩ := y
    exact hs i x1 y1 T H (g1 xs q1) (g2 ys q2) p hT
  · have e : i = xs.length := by omega
    subst e
    exact .inl ⟨⟨xs, ys, q1, q2, .inl (Nat.le_refl _)⟩, hd H p⟩

def prods (w ns : List Int) : List Int := (w.zip ns).map fun p => p.1 * p.2
def dot (w ns : List Int) : Int := (prods w ns).sum
def Cd.val (ns : List Int) : Cd → Bool
  | .least w b => decide (dot w ns ≥ b)
  | .turns w m r => decide (dot w ns % m = r)
  | .neg c => !c.val ns
  | .both c d => c.val ns && d.val ns
  | .either c d => c.val ns || d.val ns
theorem prods_at {w ns : List Int} {i : Nat} {x y : Int} (hx : w[i]? = some x) (hy : ns[i]? = some y) : (prods w ns)[i]? = some (x * y) := by
  unfold prods
  rw [List.getElem?_map, List.getElem?_zip_eq_some (z := (x, y)).mpr ⟨hx, hy⟩]
  rfl
theorem prods_len {w ns : List Int} (h : w.length = ns.length) : (prods w ns).length = ns.length := by
  unfold prods
  rw [List.length_map, List.length_zip]
  omega
theorem dint {a b : Int} {i : Decidable (V.int a = V.int b)} : @decide (V.int a = V.int b) i = decide (a = b) := by
  by_cases h : a = b
  · rw [decide_eq_true h, decide_eq_true (congrArg V.int h)]
  · rw [decide_eq_false h, decide_eq_false (ine h)]
theorem turns_eq {x m r : Int} (h0 : 0 ≤ r) (h1 : r < m) : decide ((x - r) % m = 0) = decide (x % m = r) := by
  have e : r % m = r := Int.emod_eq_of_lt h0 h1
  have k := Int.emod_eq_emod_iff_emod_sub_eq_zero (m := x) (n := m) (k := r)
  rw [e] at k
  exact decide_eq_decide.mpr k.symm
def sp__weighed : Sp := fun vs H Q _ => ∃ (a b : Addr) (w ns : List Int) (s : Nat), vs = [.ref a, .ref b] ∧ H a = some (.lst (w.map V.int)) ∧ H b = some (.lst (ns.map V.int)) ∧ wOk s w ∧ ns.length = s ∧ s ≤ 6 ∧ ∀ H', Same H H' → Q (.int (dot w ns)) H'
def sp_condition_holds (d : Nat) : Sp := fun vs H Q _ => ∃ (v : V) (b : Addr) (c : Cd) (ns : List Int) (s : Nat), vs = [v, .ref b] ∧ Dt (fun _ => True) H v c.dat ∧ H b = some (.lst (ns.map V.int)) ∧ c.ok s ∧ ns.length = s ∧ s ≤ 6 ∧ c.deep ≤ d ∧ ∀ H', Same H H' → Q (.bl (c.val ns)) H'
section
variable {P : Program} {w : World} {K : PySem.W.Frag} {mg : Str → Option Value} {base : Heap}
theorem ok__weighed (T : Txt K mg) : FnOk P w K mg base CX0 1 T.f__weighed T.d__weighed ["weights", "numbers"] sp__weighed := by
  refine T.F__weighed.ok sc__weighed (fun vs H Q E h => ?_) (fun cdv A outer s H vs Q E hr h => ?_)
  · obtain ⟨a, b, w, ns, s, rfl, _⟩ := h
    rfl
  obtain ⟨a, b, w, ns, n, rfl, ha, hb, hw, hn, h6, q⟩ := h
  refine ⟨_, (pss_one (ps_ret (pe_callB (cr_sum rfl) (by rfl) T.z_sum (by decide +kernel) (pa_cons (pe_lc (own := [("weight", 2), ("number", 3)]) (g := gTup K 2 (gCons (gName 2) (gCons (gName 3) gNil))) (tt := tYes) rfl sc__weighed.nd (pi_zip (by rfl) T.z_zip (pa_cons (pv 0) (pa_cons (pv 1) pa_nil))) (blkOk_by (own := [("weight", 2), ("number", 3)]) (N := ["weights", "numbers", "weight", "number"]) (sc := (defScope s__weighed)) (by decide +kernel)) (fun _ _ _ _ _ => (pg_tup rfl (pgs_cons (pg_name (i := 2) sc__weighed.nd rfl (Or.inl rfl)) (pgs_cons (pg_name (i := 3) sc__weighed.nd rfl (Or.inl rfl)) pgs_nil)))) (fun _ _ _ _ _ => pts_nil) (fun _ _ _ _ _ => (pe_op op_mul (pv 2) (pv 3)))) pa_nil)))), ?_⟩
  have hlen : w.length = ns.length := by rw [hw.1, hn]
  refine ⟨_, rfl, _, rfl, a, b, _, _, rfl, SqL.of ha, SqL.of hb, fun D hD => ?_⟩
  refine lc_zip (xs := w.map V.int) (ys := ns.map V.int) (by rw [List.length_map, List.length_map, hlen]) (fun i H2 => H2 D = some (.lst (((prods w ns).take i).map V.int)) ∧ Same H H2) ⟨upd_same, same_new hD⟩ (fun i H2 _ ⟨_, s⟩ => ⟨SqL.of (s _ _ ha), SqL.of (s _ _ hb)⟩) ?_ ?_
  · rintro i x y Tt H2 hx hy ⟨g1, g2⟩ hT
    rw [List.getElem?_map] at hx hy
    cases hc : w[i]? with
    | none => rw [hc] at hx; cases hx
    | some x1 =>
    cases hc2 : ns[i]? with
    | none => rw [hc2] at hy; cases hy
    | some y1 =>
    rw [hc] at hx
    rw [hc2] at hy
    cases hx
    cases hy
    have g3 : Same H (upd H2 Tt (.tup [V.int x1, V.int y1])) := same_add g2 (g2.free hT)
    have hb4 := hw.2 x1 (List.mem_of_getElem? hc)
    refine ⟨_, _, rfl, SqT.of upd_same, rfl, _, _, rfl, _, _, rfl, rfl, rfl, _, rfl, _, rfl, _, _, rfl, rfl, .inl ⟨by omega, by omega⟩, ?_⟩
    refine ⟨_, by rw [upd_ne (ne_of_none g1 hT)]; exact g1, ?_, ?_, ?_⟩
    · rw [List.length_map, List.length_take, prods_len hlen]
      exact Nat.lt_of_le_of_lt (show _ ≤ 1000000 by omega) (by decide)
    · rw [upd_same, take_succ_of (prods_at hc hc2), List.map_append]
      rfl
    · exact same_add g3 hD
  · rintro H2 ⟨g1, g2⟩
    rw [List.length_map, hlen, ← prods_len hlen, List.take_length] at g1
    exact ⟨D, _, rfl, SqL.of g1, q _ g2⟩
theorem ok_condition_holds (T : Txt K mg) : ∀ d : Nat, FnOk P w K mg base CX0 (d + 1) T.f_condition_holds T.d_condition_holds ["condition", "numbers"] (sp_condition_holds d)
  | 0 => noneOf fun vs H Q E ⟨v, b, c, ns, s, _, _, _, _, _, _, h, _⟩ => by have := c.deep_pos; omega
  | d + 1 => by
    have G_condition_holds : FnOk P w K mg base CX0 (d + 1) T.f_condition_holds T.d_condition_holds ["condition", "numbers"] (sp_condition_holds d) := ok_condition_holds T d
    have G__weighed : FnOk P w K mg base CX0 1 T.f__weighed T.d__weighed ["weights", "numbers"] sp__weighed := ok__weighed T
    refine T.F_condition_holds.ok sc_condition_holds (fun vs H Q E h => ?_) (fun cdv A outer s H vs Q E hr h => ?_)
    · obtain ⟨v, b, c, ns, s, rfl, _⟩ := h
      rfl
    obtain ⟨v, b, c, ns, n, rfl, ht, hb, hc, hn, h6, hd, q⟩ := h
    refine ⟨_, (pss_cons (ps_set (i := 2) sc_condition_holds.nd rfl (Or.inl rfl) (pe_ix ix_tup (pv 0) pe_int (fun _ _ => rfl))) (pss_cons (ps_if (pt_cmpR op_eq (pv 2) pe_str (nomark _)) (pss_one (ps_ret (pe_cmpR op_ge (pe_call G__weighed (hr.mono (by omega)) (by rfl) T.m__weighed T.F__weighed.kp T.b__weighed .nil pass0 (pa_cons (pe_ix ix_tup (pv 0) pe_int (fun _ _ => rfl)) (pa_cons (pv 1) pa_nil))) (pe_ix ix_tup (pv 0) pe_int (fun _ _ => rfl)) (nomark _)))) pss_nil) (pss_cons (ps_if (pt_cmpR op_eq (pv 2) pe_str (nomark _)) (pss_one (ps_ret (pe_cmpR op_eq (pe_op op_mod (pe_op op_sub (pe_call G__weighed (hr.mono (by omega)) (by rfl) T.m__weighed T.F__weighed.kp T.b__weighed .nil pass0 (pa_cons (pe_ix ix_tup (pv 0) pe_int (fun _ _ => rfl)) (pa_cons (pv 1) pa_nil))) (pe_ix ix_tup (pv 0) pe_int (fun _ _ => rfl))) (pe_ix ix_tup (pv 0) pe_int (fun _ _ => rfl))) pe_int (nomark _)))) pss_nil) (pss_cons (ps_if (pt_cmpR op_eq (pv 2) pe_str (nomark _)) (pss_one (ps_ret (pe_not (pe_call G_condition_holds (hr.mono (by omega)) (by rfl) T.m_condition_holds T.F_condition_holds.kp T.b_condition_holds .nil pass0 (pa_cons (pe_ix ix_tup (pv 0) pe_int (fun _ _ => rfl)) (pa_cons (pv 1) pa_nil)))))) pss_nil) (pss_cons (ps_if (pt_cmpR op_eq (pv 2) pe_str (nomark _)) (pss_one (ps_ret (pe_and (pe_call G_condition_holds (hr.mono (by omega)) (by rfl) T.m_condition_holds T.F_condition_holds.kp T.b_condition_holds .nil pass0 (pa_cons (pe_ix ix_tup (pv 0) pe_int (fun _ _ => rfl)) (pa_cons (pv 1) pa_nil))) (pe_one (pe_call G_condition_holds (hr.mono (by omega)) (by rfl) T.m_condition_holds T.F_condition_holds.kp T.b_condition_holds .nil pass0 (pa_cons (pe_ix ix_tup (pv 0) pe_int (fun _ _ => rfl)) (pa_cons (pv 1) pa_nil))))))) pss_nil) (pss_one (ps_ret (pe_or (pe_call G_condition_holds (hr.mono (by omega)) (by rfl) T.m_condition_holds T.F_condition_holds.kp T.b_condition_holds .nil pass0 (pa_cons (pe_ix ix_tup (pv 0) pe_int (fun _ _ => rfl)) (pa_cons (pv 1) pa_nil))) (pe_one (pe_call G_condition_holds (hr.mono (by omega)) (by rfl) T.m_condition_holds T.F_condition_holds.kp T.b_condition_holds .nil pass0 (pa_cons (pe_ix ix_tup (pv 0) pe_int (fun _ _ => rfl)) (pa_cons (pv 1) pa_nil)))))))))))), ?_⟩
    cases c with
    | least w k =>
      cases ht with
      | tup e _ _ r =>
      cases r with
      | cons r0 r =>
      cases r with
      | cons r1 r =>
      cases r with
      | cons r2 r =>
      cases r
      cases r0
      cases r2
      obtain ⟨wa, rfl, hwa, _⟩ := r1.intsL
      refine ⟨_, rfl, _, _, 0, _, rfl, rfl, SqT.of e, atI_nat (j := 0) rfl, ?_⟩
      refine ⟨_, rfl, rfl, _, rfl, eqT rfl ?_⟩
      refine ⟨_, rfl, _, _, 1, _, rfl, rfl, SqT.of e, atI_nat (j := 1) rfl, _, rfl, wa, b, w, ns, n, rfl, hwa, hb, hc.1, hn, h6, fun H1 s1 => ?_⟩
      exact ⟨_, rfl, _, _, 2, _, rfl, rfl, SqT.of (s1 _ _ e), atI_nat (j := 2) rfl, _, _, rfl, rfl, q _ s1⟩
    | turns w m k =>
      cases ht with
      | tup e _ _ r =>
      cases r with
      | cons r0 r =>
      cases r with
      | cons r1 r =>
      cases r with
      | cons r2 r =>
      cases r with
      | cons r3 r =>
      cases r
      cases r0
      cases r2
      cases r3
      obtain ⟨wa, rfl, hwa, _⟩ := r1.intsL
      refine ⟨_, rfl, _, _, 0, _, rfl, rfl, SqT.of e, atI_nat (j := 0) rfl, ?_⟩
      refine ⟨_, rfl, rfl, _, rfl, eqF (sne (by decide +kernel)) ?_⟩
      refine ⟨_, rfl, rfl, _, rfl, eqT rfl ?_⟩
      refine ⟨_, rfl, _, _, 1, _, rfl, rfl, SqT.of e, atI_nat (j := 1) rfl, _, rfl, wa, b, w, ns, n, rfl, hwa, hb, hc.1, hn, h6, fun H1 s1 => ?_⟩
      obtain ⟨c1, c2, c3, c4, c5⟩ := hc
      refine ⟨_, rfl, _, _, 3, _, rfl, rfl, SqT.of (s1 _ _ e), atI_nat (j := 3) rfl, _, _, rfl, rfl, _, rfl, _, _, 2, _, rfl, rfl, SqT.of (s1 _ _ e), atI_nat (j := 2) rfl, _, _, rfl, rfl, (by show 0 < m; omega), rfl, ?_⟩
      rw [dint, turns_eq c4 c5]
      exact q _ s1
    | neg c1 =>
      cases ht with
      | tup e _ _ r =>
      cases r with
      | cons r0 r =>
      cases r with
      | cons r1 r =>
      cases r
      cases r0
      simp only [Cd.deep] at hd
      refine ⟨_, rfl, _, _, 0, _, rfl, rfl, SqT.of e, atI_nat (j := 0) rfl, ?_⟩
      refine ⟨_, rfl, rfl, _, rfl, eqF (sne (by decide +kernel)) ?_⟩
      refine ⟨_, rfl, rfl, _, rfl, eqF (sne (by decide +kernel)) ?_⟩
      refine ⟨_, rfl, rfl, _, rfl, eqT rfl ?_⟩
      exact ⟨_, rfl, _, _, 1, _, rfl, rfl, SqT.of e, atI_nat (j := 1) rfl, _, rfl, _, b, c1, ns, n, rfl, r1, hb, hc, hn, h6, by omega, fun H1 s1 => ⟨_, rfl, q _ s1⟩⟩
    | both c1 c2 =>
      cases ht with
      | tup e _ _ r =>
      cases r with
      | cons r0 r =>
      cases r with
      | cons r1 r =>
      cases r with
      | cons r2 r =>
      cases r
      cases r0
      simp only [Cd.deep] at hd
      refine ⟨_, rfl, _, _, 0, _, rfl, rfl, SqT.of e, atI_nat (j := 0) rfl, ?_⟩
      refine ⟨_, rfl, rfl, _, rfl, eqF (sne (by decide +kernel)) ?_⟩
      refine ⟨_, rfl, rfl, _, rfl, eqF (sne (by decide +kernel)) ?_⟩
      refine ⟨_, rfl, rfl, _, rfl, eqF (sne (by decide +kernel)) ?_⟩
      refine ⟨_, rfl, rfl, _, rfl, eqT rfl ?_⟩
      refine ⟨_, rfl, _, _, 1, _, rfl, rfl, SqT.of e, atI_nat (j := 1) rfl, _, rfl, _, b, c1, ns, n, rfl, r1, hb, hc.1, hn, h6, by omega, fun H1 s1 => ⟨_, rfl, ite2 (fun hv => ?_) (fun hv => ?_)⟩⟩
      · refine ⟨_, rfl, _, _, 2, _, rfl, rfl, SqT.of (s1 _ _ e), atI_nat (j := 2) rfl, _, rfl, _, b, c2, ns, n, rfl, r2.same s1, s1 _ _ hb, hc.2, hn, h6, by omega, fun H2 s2 => ?_⟩
        have e1 : (Cd.both c1 c2).val ns = c2.val ns := by simp only [Cd.val, hv, Bool.true_and]
        rw [← e1]
        exact q _ (s1.trans s2)
      · have e1 : (Cd.both c1 c2).val ns = false := by simp only [Cd.val, Bool.eq_false_iff.mpr hv, Bool.false_and]
        rw [← e1]
        exact q _ s1
    | either c1 c2 =>
      cases ht with
      | tup e _ _ r =>
      cases r with
      | cons r0 r =>
      cases r with
      | cons r1 r =>
      cases r with
      | cons r2 r =>
      cases r
      cases r0
      simp only [Cd.deep] at hd
      refine ⟨_, rfl, _, _, 0, _, rfl, rfl, SqT.of e, atI_nat (j := 0) rfl, ?_⟩
      refine ⟨_, rfl, rfl, _, rfl, eqF (sne (by decide +kernel)) ?_⟩
      refine ⟨_, rfl, rfl, _, rfl, eqF (sne (by decide +kernel)) ?_⟩
      refine ⟨_, rfl, rfl, _, rfl, eqF (sne (by decide +kernel)) ?_⟩
      refine ⟨_, rfl, rfl, _, rfl, eqF (sne (by decide +kernel)) ?_⟩
      refine ⟨_, rfl, _, _, 1, _, rfl, rfl, SqT.of e, atI_nat (j := 1) rfl, _, rfl, _, b, c1, ns, n, rfl, r1, hb, hc.1, hn, h6, by omega, fun H1 s1 => ⟨_, rfl, ite2 (fun hv => ?_) (fun hv => ?_)⟩⟩
      · have e1 : (Cd.either c1 c2).val ns = true := by simp only [Cd.val, hv, Bool.true_or]
        rw [← e1]
        exact q _ s1
      · refine ⟨_, rfl, _, _, 2, _, rfl, rfl, SqT.of (s1 _ _ e), atI_nat (j := 2) rfl, _, rfl, _, b, c2, ns, n, rfl, r2.same s1, s1 _ _ hb, hc.2, hn, h6, by omega, fun H2 s2 => ?_⟩
        have e1 : (Cd.either c1 c2).val ns = c2.val ns := by simp only [Cd.val, Bool.eq_false_iff.mpr hv, Bool.false_or]
        rw [← e1]
        exact q _ (s1.trans s2)
end

def Lets (L : Str) : Prop := 1 ≤ L.length ∧ L.length ≤ 26 ∧ ∀ c ∈ L.cps.toList, 97 ≤ c ∧ c ≤ 122

abbrev nI (n : Nat) : V := .int (n : Int)
theorem nI_map (xs : List Nat) : xs.map nI = (xs.map fun n : Nat => (n : Int)).map V.int := by rw [List.map_map]; rfl
theorem tabsN_fr1 {TT : List NdefX.NTab} {H H' : Hp} {p : Addr} {xs : List V} (h : NdefX.TabsN TT H) (hp : H p = some (.lst xs)) (f : Fr p H H') : NdefX.TabsN TT H' := fun z hz => by
  obtain ⟨ps, h1, h2, h3⟩ := h z hz
  refine ⟨ps, f _ _ (fun e => by rw [e, hp] at h1; cases h1) h1, h2, fun pos cv hc => ?_⟩
  obtain ⟨c, e, h4⟩ := h3 pos cv hc
  exact ⟨c, e, f _ _ (fun e => by rw [e, hp] at h4; unfold LamX.CodeO at h4; cases h4) h4⟩
theorem CalX.imp2 {P : Program} {w : World} {K : PySem.W.Frag} {mg : Str → Option Value} {base : Heap} {k j : Nat} {f : Addr} {G G' : Hp → Prop} {np : Nat} {sp sp' : Sp} (C : CalX P w K mg base k f G np sp) (hk : k ≤ j) (hl : ∀ vs H Q E, sp' vs H Q E → vs.length = np) (hG : ∀ H, G' H → G H) (hs : ∀ vs H Q E, G' H → sp' vs H Q E → sp vs H Q E) : CalX P w K mg base j f G' np sp' :=
  ⟨hl, fun s H a b g => C.at_ s H a b (hG H g), fun A outer s H us vs Q E hr e0 g r q => C.run A outer s H us vs Q E (hr.mono hk) e0 (hG H g) r (hs _ _ _ _ g q)⟩

theorem concat_of {α : Type} {l : List α} (h : l ≠ []) : ∃ a b, l = a ++ [b] := ⟨l.dropLast, l.getLast h, (List.dropLast_concat_getLast h).symm⟩

theorem tabsN_frP {TT : List NdefX.NTab} {H H' : Hp} {P : Addr} {q : Str} (h : NdefX.TabsN TT H) (hm : (P, fun _ _ => q) ∈ TT) (hu : ∀ z ∈ TT, z.1 = P → z.2 = fun _ _ => q) (f : Fr P H H') (t : LamX.TabS H' P q) : NdefX.TabsN TT H' := fun z hz => by
  by_cases e : z.1 = P
  · rw [hu z hz e, e]
    exact NdefX.TabN.of t
  · obtain ⟨ps, h1, h2, h3⟩ := h z hz
    refine ⟨ps, f _ _ e h1, h2, fun pos cv hc => ?_⟩
    obtain ⟨c, e1, h4⟩ := h3 pos cv hc
    obtain ⟨ps0, g1, _⟩ := h _ hm
    exact ⟨c, e1, f _ _ (fun e2 => by rw [e2, g1] at h4; unfold LamX.CodeO at h4; cases h4) h4⟩
theorem extN_of_frP {H H' : Hp} {P : Addr} {TT : List NdefX.NTab} {q : Str} (h : NdefX.TabsN TT H) (hm : (P, fun _ _ => q) ∈ TT) (f : Fr P H H') : LamX.ExtN H H' := fun b o e n => f b o (fun e2 => by
  obtain ⟨ps0, g1, _⟩ := h _ hm
  rw [e2, g1] at e
  cases e
  exact n _ rfl) e
theorem lent_extN {cs : Lent} {H H' : Hp} (f : LamX.ExtN (lend H cs) H') : LentAt cs H' := fun c o e => f c _ (lend_in e) (fun ps z => by unfold CellO at z; cases z)
theorem same_lend {cs : Lent} {H H2 : Hp} (l : LentAt cs H) (s : Same (unl H cs) H2) : Same H (lend H2 cs) := fun b o e => by
  cases hb : cs.lookup b with
  | some ob => rw [lend_in hb, ← l b ob hb]; exact e
  | none => rw [lend_out hb]; exact s b o (by rw [unl_out hb]; exact e)
theorem extN_unl {cs : Lent} {H H' : Hp} (hn : Fresh cs H) (f : LamX.ExtN (lend H cs) H') : LamX.ExtN H (unl H' cs) := fun b o e n => by
  rw [unl_out (hn.out e)]
  exact f b o (lend_some hn e) n
theorem tabsN_unl {cs : Lent} {TT : List NdefX.NTab} {H H' : Hp} (hn : Fresh cs H) (h : NdefX.TabsN TT H') (l : LentAt cs H') (hcel : Cells cs) : NdefX.TabsN TT (unl H' cs) := fun z hz => by
  obtain ⟨ps, h1, h2, h3⟩ := h z hz
  refine ⟨ps, unl_keep l h1 (fun _ e => by cases e), h2, fun pos cv hc => ?_⟩
  obtain ⟨c, e, h4⟩ := h3 pos cv hc
  refine ⟨c, e, ?_⟩
  cases hb : cs.lookup c with
  | none => rw [unl_out hb]; exact h4
  | some ob =>
    obtain ⟨v, hv⟩ := hcel _ _ hb
    rw [l c ob hb] at h4
    exact absurd (Option.some.inj h4).symm (codeO_cell hv)


abbrev RR := List (Cd × Nat)
def rowD (r : Cd × Nat) : PyData := .tuple [r.1.dat, .int r.2]
def rowsD (rs : RR) : PyData := .list (rs.map rowD)
structure Rl where
  L : Str
  n : Nat
  rows : List (Nat × RR)
  good : List Nat
def rowsIn (ok : Addr → Prop) (H : Hp) (es : List (Key × V)) (kvs : List (Nat × RR)) : Prop := Paired (fun (e : Key × V) (kv : Nat × RR) => e.1 = .inr (ch kv.1) ∧ Dt ok H e.2 (rowsD kv.2)) es kvs
def RlAt (ok : Addr → Prop) (H : Hp) (v : V) (R : Rl) : Prop := ∃ (a d g : Addr) (es : List (Key × V)), v = .ref a ∧ H a = some (.tup [.str R.L, nI R.n, .ref d, .ref g]) ∧ ok a ∧ H d = some (.dK es) ∧ ok d ∧ rowsIn ok H es R.rows ∧ H g = some (.lst (R.good.map nI)) ∧ ok g
def rsOk (n : Nat) (rs : RR) : Prop := rs.length ≤ 100 ∧ (∀ r ∈ rs, r.1.ok n ∧ r.1.deep ≤ 4 ∧ r.2 < n) ∧ ∃ (init : RR) (s : Nat), rs = init ++ [(.least (List.replicate n 0) 0, s)]
structure Rl.ok (R : Rl) : Prop where
  L : Lets R.L
  n1 : 1 ≤ R.n
  n6 : R.n ≤ 6
  has : ∀ c ∈ R.L.cps.toList, ∃ rs, R.rows.lookup c = some rs
  rs : ∀ kv ∈ R.rows, rsOk R.n kv.2 ∧ kv.1 ∈ R.L.cps.toList
  nd : (R.rows.map (·.1)).Nodup
  g6 : R.good.length ≤ 6
  gn : ∀ g ∈ R.good, g < R.n
  r26 : R.rows.length ≤ 26
def stR (rs : RR) (ns : List Int) : Option Nat := (rs.find? fun r => r.1.val ns).map (·.2)
def fsR (R : Rl) (c : Nat) (cs : List Nat) : Nat := match R.rows.lookup c with
  | some rs => (stR rs (cs.map fun x : Nat => (x : Int))).getD 0
  | none => 0
theorem dot_zero : ∀ (n : Nat) (ns : List Int), dot (List.replicate n 0) ns = 0
  | 0, ns => by simp [dot, prods]
  | n + 1, [] => by simp [dot, prods]
  | n + 1, x :: r => by
    have ih := dot_zero n r
    unfold dot prods at ih ⊢
    rw [List.replicate_succ, List.zip_cons_cons, List.map_cons, List.sum_cons, ih]
    simp
theorem stR_app {init : RR} {r : Cd × Nat} {ns : List Int} (h : ∀ x ∈ init, x.1.val ns = false) (hr : r.1.val ns = true) (more : RR) : stR (init ++ r :: more) ns = some r.2 := by
  unfold stR
  rw [List.find?_append, List.find?_eq_none.mpr fun x hx => by rw [h x hx]; simp]
  simp [List.find?_cons, hr]
theorem last_holds (n : Nat) (ns : List Int) : (Cd.least (List.replicate n 0) 0).val ns = true := by
  simp only [Cd.val, dot_zero]
  decide
theorem stR_some {n : Nat} {rs : RR} (h : rsOk n rs) (ns : List Int) : ∃ s, stR rs ns = some s ∧ s < n := by
  obtain ⟨_, h2, init, s, rfl⟩ := h
  have : ((init ++ [(Cd.least (List.replicate n 0) 0, s)]).find? fun r => r.1.val ns).isSome = true := by
    rw [List.find?_isSome]
    exact ⟨_, List.mem_append_right _ (List.mem_singleton.mpr rfl), last_holds n ns⟩
  obtain ⟨r, hr⟩ := Option.isSome_iff_exists.mp this
  exact ⟨r.2, by unfold stR; rw [hr]; rfl, (h2 r (List.mem_of_find?_eq_some hr)).2.2⟩
theorem look_mem {α β : Type} [BEq α] [LawfulBEq α] {a : α} {b : β} {l : List (α × β)} (h : l.lookup a = some b) : (a, b) ∈ l := mem_look h
theorem Rl.ok.at {R : Rl} (h : R.ok) {c : Nat} (hc : c ∈ R.L.cps.toList) : ∃ rs, R.rows.lookup c = some rs ∧ rsOk R.n rs := by
  obtain ⟨rs, e⟩ := h.has c hc
  exact ⟨rs, e, (h.rs _ (look_mem e)).1⟩
theorem fsR_lt {R : Rl} (h : R.ok) {c : Nat} (hc : c ∈ R.L.cps.toList) (cs : List Nat) : fsR R c cs < R.n := by
  obtain ⟨rs, e, hr⟩ := h.at hc
  obtain ⟨s, hs, hl⟩ := stR_some hr (cs.map fun x : Nat => (x : Int))
  unfold fsR
  rw [e]
  show (stR rs _).getD 0 < R.n
  rw [hs]
  exact hl
theorem rowsIn.keep {ok : Addr → Prop} {H H' : Hp} {es : List (Key × V)} {kvs : List (Nat × RR)} (x : rowsIn ok H es kvs) (h : ∀ b o, ok b → H b = some o → H' b = some o) : rowsIn ok H' es kvs := Paired.mapP x fun _ _ k => ⟨k.1, k.2.keep h⟩
theorem rowsIn.weak {ok ok' : Addr → Prop} {H : Hp} {es : List (Key × V)} {kvs : List (Nat × RR)} (x : rowsIn ok H es kvs) (h : ∀ b, ok b → ok' b) : rowsIn ok' H es kvs := Paired.mapP x fun _ _ k => ⟨k.1, k.2.weak h⟩
theorem RlAt.keep {ok : Addr → Prop} {H H' : Hp} {v : V} {R : Rl} (x : RlAt ok H v R) (h : ∀ b o, ok b → H b = some o → H' b = some o) : RlAt ok H' v R := by
  obtain ⟨a, d, g, es, e, h1, k1, h2, k2, h3, h4, k4⟩ := x
  exact ⟨a, d, g, es, e, h _ _ k1 h1, k1, h _ _ k2 h2, k2, h3.keep h, h _ _ k4 h4, k4⟩
theorem RlAt.same {ok : Addr → Prop} {H H' : Hp} {v : V} {R : Rl} (x : RlAt ok H v R) (s : Same H H') : RlAt ok H' v R := x.keep fun b o _ e => s b o e
theorem RlAt.weak {ok ok' : Addr → Prop} {H : Hp} {v : V} {R : Rl} (x : RlAt ok H v R) (h : ∀ b, ok b → ok' b) : RlAt ok' H v R := by
  obtain ⟨a, d, g, es, e, h1, k1, h2, k2, h3, h4, k4⟩ := x
  exact ⟨a, d, g, es, e, h1, h _ k1, h2, h _ k2, h3.weak h, h4, h _ k4⟩
mutual
theorem Dt.extN {ok : Addr → Prop} {H H' : Hp} (f : LamX.ExtN H H') : ∀ {v : V} {d : PyData}, Dt ok H v d → Dt ok H' v d
  | _, _, .non => .non
  | _, _, .bl b => .bl b
  | _, _, .int i => .int i
  | _, _, .str x => .str x
  | _, _, .dic e k => .dic (f _ _ e (fun _ z => by cases z)) k
  | _, _, .lst e k l r => .lst (f _ _ e (fun _ z => by cases z)) k l (DtAll.extN f r)
  | _, _, .tup e k l r => .tup (f _ _ e (fun _ z => by cases z)) k l (DtAll.extN f r)
theorem DtAll.extN {ok : Addr → Prop} {H H' : Hp} (f : LamX.ExtN H H') : ∀ {vs : List V} {ds : List PyData}, DtAll ok H vs ds → DtAll ok H' vs ds
  | _, _, .nil => .nil
  | _, _, .cons a b => .cons (Dt.extN f a) (DtAll.extN f b)
end
theorem RlAt.extN {ok : Addr → Prop} {H H' : Hp} {v : V} {R : Rl} (x : RlAt ok H v R) (f : LamX.ExtN H H') : RlAt ok H' v R := by
  obtain ⟨a, d, g, es, e, h1, k1, h2, k2, h3, h4, k4⟩ := x
  exact ⟨a, d, g, es, e, f _ _ h1 (fun _ z => by cases z), k1, f _ _ h2 (fun _ z => by cases z), k2, Paired.mapP h3 fun _ _ k => ⟨k.1, k.2.extN f⟩, f _ _ h4 (fun _ z => by cases z), k4⟩
theorem rows_val {ok : Addr → Prop} {H : Hp} {c : Nat} : ∀ {es : List (Key × V)} {kvs : List (Nat × RR)} {rs : RR}, rowsIn ok H es kvs → kvs.lookup c = some rs → ∃ v, valV es (.inr (ch c)) = some v ∧ Dt ok H v (rowsD rs)
  | [], [], _, _, h => by simp [List.lookup] at h
  | (k, v) :: es, (c', rs') :: kvs, rs, .cons r t, h => by
    by_cases e : c = c'
    · subst e
      have h' : some rs' = some rs := by simpa [List.lookup] using h
      cases h'
      have e1 : k = .inr (ch c) := r.1
      subst e1
      exact ⟨v, by simp [valV], r.2⟩
    · have e2 : (c == c') = false := by simpa using e
      simp only [List.lookup, e2] at h
      obtain ⟨v', h1, h2⟩ := rows_val t h
      refine ⟨v', ?_, h2⟩
      have e1 : k = .inr (ch c') := r.1
      subst e1
      have ne : ¬ ((Sum.inr (ch c') : Key) = .inr (ch c)) := fun z => by
        have z1 := Sum.inr.inj z
        have z2 := congrArg (fun s : Str => s.cps.toList) z1
        simp [ch] at z2
        exact e z2.symm
      rw [← h1]
      simp [valV, List.find?_cons, ne]
def sp__state_by_rows : Sp := fun vs H Q _ => ∃ (v : V) (b : Addr) (rs : RR) (ns : List Int) (n : Nat), vs = [v, .ref b] ∧ Dt (fun _ => True) H v (rowsD rs) ∧ H b = some (.lst (ns.map V.int)) ∧ rsOk n rs ∧ ns.length = n ∧ n ≤ 6 ∧ ∀ s H', stR rs ns = some s → Same H H' → Q (nI s) H'
section
variable {P : Program} {w : World} {K : PySem.W.Frag} {mg : Str → Option Value} {base : Heap}
theorem cut_init (xs : List V) (v : V) : cutV (xs ++ [v]) none (some (-1)) = xs := by
  have e : HT.sIx (xs ++ [v]).length (xs ++ [v]).length (some (-1)) = xs.length := by
    show (if (-1 : Int) < 0 then ((-1 : Int) + ((xs ++ [v]).length : Int)).toNat else min (((-1 : Int)).toNat) (xs ++ [v]).length) = xs.length
    rw [if_pos (by decide), List.length_append, List.length_singleton]
    omega
  have e2 : HT.sIx (xs ++ [v]).length 0 none = 0 := rfl
  unfold cutV
  rw [e, e2]
  simp
theorem ok__state_by_rows (T : Txt K mg) : FnOk P w K mg base CX0 6 T.f__state_by_rows T.d__state_by_rows ["rows", "numbers"] sp__state_by_rows := by
  have G_condition_holds : FnOk P w K mg base CX0 5 T.f_condition_holds T.d_condition_holds ["condition", "numbers"] (sp_condition_holds 4) := ok_condition_holds T 4
  refine T.F__state_by_rows.ok sc__state_by_rows (fun vs H Q E h => ?_) (fun cdv A outer s H vs Q E hr h => ?_)
  · obtain ⟨v, b, rs, ns, n, rfl, _⟩ := h
    rfl
  obtain ⟨v, b, rs, ns, n, rfl, hv, hb, hrs, hn, h6, q⟩ := h
  refine ⟨_, (pss_cons (ps_for PassesOwn.never rfl (pi_list (pe_slice sl_list (pv 0) po_none (po_some (pe_un un_neg pe_int)))) (pg_tup rfl (pgs_cons (pg_name (i := 2) sc__state_by_rows.nd rfl (Or.inl rfl)) (pgs_cons (pg_name (i := 3) sc__state_by_rows.nd rfl (Or.inl rfl)) pgs_nil))) (pss_one (ps_if (pt_val (pe_call G_condition_holds (hr.mono (by omega)) (by rfl) T.m_condition_holds T.F_condition_holds.kp T.b_condition_holds .nil pass0 (pa_cons (pv 2) (pa_cons (pv 1) pa_nil)))) (pss_one (ps_ret (pv 3))) pss_nil))) (pss_one (ps_ret (pe_ix ix_tup (pe_ix ix_list (pv 0) (pe_un un_neg pe_int) (fun _ _ => rfl)) pe_int (fun _ _ => rfl))))), ?_⟩
  obtain ⟨hr1, hr2, init, sl, rfl⟩ := hrs
  cases hv with
  | @lst a xs ds ha ok hl r =>
  have lr := r.len
  rw [List.length_map, List.length_append, List.length_singleton] at lr
  obtain ⟨xi, xl, rfl⟩ := concat_of (l := xs) (fun e => by rw [e] at lr; simp at lr)
  rw [List.length_append, List.length_singleton] at lr
  have lr' : xi.length = init.length := by omega
  refine ⟨_, rfl, 1, rfl, -1, rfl, a, _, rfl, SqL.of ha, fun p hp => ?_⟩
  rw [cut_init]
  have sp := same_new (o := .lst xi) hp
  have hpx := upd_same (H := H) (a := p) (o := .lst xi)
  generalize upd H p (.lst xi) = H1 at *
  have row : ∀ (i : Nat) (x : V), (xi ++ [xl])[i]? = some x → ∃ r1 : Cd × Nat, (init ++ [(Cd.least (List.replicate n 0) 0, sl)])[i]? = some r1 ∧ ∃ (pr : Addr) (cv : V), x = V.ref pr ∧ H pr = some (.tup [cv, nI r1.2]) ∧ Dt (fun _ => True) H cv r1.1.dat := by
    intro i x hx
    obtain ⟨d, h1, h2⟩ := r.getV hx
    rw [List.getElem?_map] at h1
    cases hc : (init ++ [(Cd.least (List.replicate n 0) 0, sl)])[i]? with
    | none => rw [hc] at h1; cases h1
    | some rw1 =>
      rw [hc] at h1
      cases h1
      cases h2 with
      | @tup pr ys es g1 g2 g3 g4 =>
        cases g4 with
        | cons k1 k2 =>
        cases k2 with
        | cons k3 k4 =>
        cases k4
        cases k3
        exact ⟨rw1, rfl, pr, _, rfl, g1, k1⟩
  refine ⟨p, rfl, ⟨_, SqL.of hpx⟩, for_list (xs := xi) (fun i σ H2 => (∃ y2 y3, σ = [some (.ref a), some (.ref b), y2, y3]) ∧ Same H1 H2 ∧ ∀ x ∈ init.take i, x.1.val ns = false) ⟨⟨_, _, rfl⟩, Same.refl _, by simp⟩ (fun i σ H2 _ ⟨_, s2, _⟩ => SqL.of (s2 _ _ hpx)) ?_ ?_⟩
  · rintro i x σ H2 hx ⟨⟨y2, y3, rfl⟩, s2, hno⟩
    have hi : i < xi.length := (List.getElem?_eq_some_iff.mp hx).1
    obtain ⟨rw1, h1, pr, cv, rfl, h2, h3⟩ := row i x (by rw [List.getElem?_append_left hi]; exact hx)
    rw [List.getElem?_append_left (by omega)] at h1
    have hm := hr2 rw1 (List.mem_append_left _ (List.mem_of_getElem? h1))
    have S2 := sp.trans s2
    refine ⟨_, _, rfl, SqT.of (S2 _ _ h2), rfl, ?_⟩
    refine ⟨_, _, rfl, _, _, rfl, rfl, ?_⟩
    refine ⟨_, rfl, _, rfl, cv, b, rw1.1, ns, n, rfl, h3.same S2, S2 _ _ hb, hm.1, hn, h6, hm.2.1, fun H3 s3 => ⟨_, rfl, ?_⟩⟩
    cases hval : rw1.1.val ns with
    | true =>
      refine iteT ⟨_, rfl, q rw1.2 H3 ?_ (S2.trans s3)⟩
      have hsp : init = init.take i ++ rw1 :: init.drop (i + 1) := by
        obtain ⟨hlt, e⟩ := List.getElem?_eq_some_iff.mp h1
        rw [← e, ← List.drop_eq_getElem_cons hlt, List.take_append_drop]
      rw [hsp, List.append_assoc, List.cons_append]
      exact stR_app hno hval _
    | false =>
      refine iteF ⟨⟨_, _, rfl⟩, s2.trans s3, fun y hy => ?_⟩
      rw [take_succ_of h1] at hy
      rcases List.mem_append.mp hy with hy | hy
      · exact hno y hy
      · rw [List.mem_singleton.mp hy]; exact hval
  · rintro σ H2 ⟨⟨y2, y3, rfl⟩, s2, hno⟩
    rw [lr', List.take_length] at hno
    obtain ⟨rw1, h1, pr, cv, rfl, h2, h3⟩ := row xi.length xl (by simp)
    rw [lr'] at h1
    have e1 : rw1 = (Cd.least (List.replicate n 0) 0, sl) := by simpa using h1.symm
    subst e1
    have S2 := sp.trans s2
    refine ⟨_, rfl, 1, rfl, a, _, -1, _, rfl, rfl, SqL.of (S2 _ _ ha), atI_last _ _, pr, _, 1, nI sl, rfl, rfl, SqT.of (S2 _ _ h2), atI_nat (j := 1) rfl, q sl H2 ?_ S2⟩
    exact stR_app hno (last_holds n ns) []
end

mutual
inductive NK (H : Hp) : NestedKey → V → Prop
  | int (i : Int) : NK H (.num i) (.int i)
  | text (x : Str) : NK H (.text x) (.str x)
  | tup {a : Addr} {vs : List V} {ks : List NestedKey} : H a = some (.tup vs) → NKs H ks vs → NK H (.tup ks) (.ref a)
inductive NKs (H : Hp) : List NestedKey → List V → Prop
  | nil : NKs H [] []
  | cons {k : NestedKey} {v : V} {ks : List NestedKey} {vs : List V} : NK H k v → NKs H ks vs → NKs H (k :: ks) (v :: vs)
end
section
variable {X : Cx} {pins : List (Addr × Obj)} {σ : L2.St} {H H' : Hp} {s : Shared}
mutual
theorem NK.is (I : Inv X pins σ H s) : ∀ {k : NestedKey} {v : V} {u : Value}, NK H k v → RelV v u → NestedIs s.heap k u
  | _, _, _, .int i, r => by
    obtain ⟨t, rfl⟩ := r
    exact .int i t
  | _, _, _, .text x, r => by
    obtain ⟨t, rfl⟩ := r
    exact .text x t
  | _, _, _, .tup h1 h2, r => by
    cases r
    obtain ⟨_, its, rv, o, e1, e2, n, e3⟩ := I.hok _ _ h1
    exact .tup e1 e2 e3 (by simpa using NKs.is I h2 rv)
theorem NKs.is (I : Inv X pins σ H s) : ∀ {ks : List NestedKey} {vs : List V} {us : List Value}, NKs H ks vs → Vals vs us → NestedAll s.heap ks us
  | _, _, _, .nil, r => by cases r; exact .nil
  | _, _, _, .cons a b, r => by
    cases r with
    | cons r1 r2 => exact .cons (NK.is I a r1) (NKs.is I b r2)
end
mutual
theorem NK.keep (f : ∀ b xs, H b = some (.tup xs) → H' b = some (.tup xs)) : ∀ {k : NestedKey} {v : V}, NK H k v → NK H' k v
  | _, _, .int i => .int i
  | _, _, .text x => .text x
  | _, _, .tup h1 h2 => .tup (f _ _ h1) (NKs.keep f h2)
theorem NKs.keep (f : ∀ b xs, H b = some (.tup xs) → H' b = some (.tup xs)) : ∀ {ks : List NestedKey} {vs : List V}, NKs H ks vs → NKs H' ks vs
  | _, _, .nil => .nil
  | _, _, .cons a b => .cons (NK.keep f a) (NKs.keep f b)
end
end
abbrev NRow := NestedKey × Addr × V
def DictN (P : Program) (w : World) (a : Addr) (xs : List NRow) : HO := .ext fun h => (a == sysModules) = false ∧ xs.length ≤ sizeLine ∧ ∃ us : List (NestedKey × Addr × Value), Paired (fun (p : NRow) (q : NestedKey × Addr × Value) => p.1 = q.1 ∧ p.2.1 = q.2.1 ∧ RelV p.2.2 q.2.2) xs us ∧
  ∃ o es ep, h.get? a = some o ∧ o.ExactDict ∧ o.data = .dict es ep ∧ es.toList = us.map (entryOfKey (nestedKind P w)) ∧ (us.map (·.1)).Nodup
theorem dictN_ok {P : Program} {w : World} {H : Hp} {h : Heap} {a : Addr} {xs : List NRow} (h1 : (a == sysModules) = false) (h2 : xs.length ≤ sizeLine) {us : List (NestedKey × Addr × Value)} (h3 : Paired (fun (p : NRow) (q : NestedKey × Addr × Value) => p.1 = q.1 ∧ p.2.1 = q.2.1 ∧ RelV p.2.2 q.2.2) xs us)
    (h4 : ∃ o es ep, h.get? a = some o ∧ o.ExactDict ∧ o.data = .dict es ep ∧ es.toList = us.map (entryOfKey (nestedKind P w)) ∧ (us.map (·.1)).Nodup) : ObjOk P w H h a (DictN P w a xs) :=
  ⟨⟨h1, h2, us, h3, h4⟩, (let ⟨o, _, _, e, _⟩ := h4; ⟨o, e⟩), fun _ _ ⟨b1, b2, us, b3, o, es, ep, e, r⟩ k => ⟨b1, b2, us, b3, o, es, ep, k o e, r⟩⟩
def RowsN (H : Hp) (xs : List NRow) : Prop := ∀ x ∈ xs, NK H x.1 (.ref x.2.1) ∧ x.1.depth ≤ 8
def atN (xs : List NRow) (k : NestedKey) : Option V := (xs.find? fun x => decide (x.1 = k)).map (·.2.2)
section
variable {X : Cx} {pins : List (Addr × Obj)} {σ : L2.St} {H : Hp} {s : Shared} {a : Addr} {xs : List NRow}
theorem dictN_of (I : Inv X pins σ H s) (h : H a = some (DictN X.prog X.w a xs)) (hk : RowsN H xs) : (a == sysModules) = false ∧ ∃ us : List (NestedKey × Addr × Value), Paired (fun (p : NRow) (q : NestedKey × Addr × Value) => p.1 = q.1 ∧ p.2.1 = q.2.1 ∧ RelV p.2.2 q.2.2) xs us ∧ s.heap.DictOfH (nestedKind X.prog X.w) a us := by
  obtain ⟨⟨h1, h2, us, h3, o, es, ep, e1, e2, e3, e4, e5⟩, _, _⟩ := I.hok _ _ h
  refine ⟨h1, us, h3, o, es, ep, e1, e2, e3, e4, fun u hu => ?_, e5⟩
  have : ∀ (xs : List NRow) (us : List (NestedKey × Addr × Value)), Paired (fun (p : NRow) (q : NestedKey × Addr × Value) => p.1 = q.1 ∧ p.2.1 = q.2.1 ∧ RelV p.2.2 q.2.2) xs us → RowsN H xs → ∀ u ∈ us, (nestedKind X.prog X.w).is s.heap u.1 u.2.1 := by
    intro xs us p
    induction p with
    | nil => intro _ u hu; cases hu
    | cons r t ih =>
      intro hk u hu
      rcases List.mem_cons.mp hu with rfl | hu
      · obtain ⟨n1, n2⟩ := hk _ List.mem_cons_self
        refine ⟨?_, ?_⟩
        · rw [← r.1, ← r.2.1]
          exact NK.is I n1 rfl
        · rw [← r.1]
          exact n2
      · exact ih (fun x hx => hk x (List.mem_cons_of_mem _ hx)) u hu
  exact this _ _ h3 hk u hu
def tDGetN (P : Program) (w : World) (td ty : TE) : TE := fun σ H Q => td σ H fun x H1 => ty σ H1 fun y H2 => ∃ (a b : Addr) (xs : List NRow) (k : NestedKey) (v : V), x = .ref a ∧ y = .ref b ∧ H2 a = some (DictN P w a xs) ∧ RowsN H2 xs ∧ NK H2 k (.ref b) ∧ k.depth ≤ 8 ∧ atN xs k = some v ∧ Q v H2
theorem atN_pairs {k : NestedKey} {xs : List NRow} {us : List (NestedKey × Addr × Value)} (p : Paired (fun (p : NRow) (q : NestedKey × Addr × Value) => p.1 = q.1 ∧ p.2.1 = q.2.1 ∧ RelV p.2.2 q.2.2) xs us) : (∃ v u, atN xs k = some v ∧ valueAt (pairsH us) k = some u ∧ RelV v u) ∨ (atN xs k = none ∧ valueAt (pairsH us) k = none) := by
  induction p with
  | nil => exact .inr ⟨rfl, rfl⟩
  | cons r t ih =>
    rename_i x u xs us
    by_cases e : x.1 = k
    · have e2 : u.1 = k := r.1.symm.trans e
      exact .inl ⟨x.2.2, u.2.2, by simp [atN, e], by simp [valueAt, pairsH, e2], r.2.2⟩
    · have e2 : ¬ u.1 = k := fun z => e (r.1.trans z)
      have a1 : atN (x :: xs) k = atN xs k := by simp [atN, List.find?_cons, e]
      have a2 : valueAt (pairsH (u :: us)) k = valueAt (pairsH us) k := by simp [valueAt, pairsH, List.find?_cons, e2]
      rw [a1, a2]
      exact ih
theorem pe_dgetN {o i : PySem.Expr} {td ty : TE} {pos : Pos} (hu : X.A.units + 9 < cLine) (ho : PE X o td) (hi : PE X i ty) (hs : NoSl i) : PE X (.Subscript o i pos) (tDGetN X.prog X.w td ty) := by
  refine ⟨fun pins s σ H Q I h => ?_⟩
  refine subD_of PySem.F.slot_dict_getitem.lookup hs (thn (ho.run pins s σ H _ I h) fun u s1 ⟨x, H1, I1, rx, q1⟩ => thn (hi.run pins s1 σ H1 _ I1 q1) fun iv s2 ⟨y, H2, I2, ry, a, b, xs, k, v, ex, ey, g, gr, gk, gd, ga, q2⟩ => ?_)
  subst ex ey
  cases rx
  cases ry
  obtain ⟨ha, us, hp, hm⟩ := dictN_of I2 g gr
  rcases atN_pairs (k := k) hp with ⟨v', uv, e1, e2, rv⟩ | ⟨e1, _⟩
  · have ev := Option.some.inj (e1.symm.trans ga)
    subst ev
    exact ⟨hm.typeIs, getItem_keyed (knd := nestedKind X.prog X.w) (show X.A.units + 1 + 8 < cLine by omega) ⟨NK.is I2 gk rfl, gd⟩ ⟨us, hm, rfl⟩ e2 ⟨_, H2, I2.tok _, rv, q2⟩⟩
  · rw [ga] at e1
    cases e1
def rInN (P : Program) (w : World) : R2 := fun y x H Q => ∃ (a b : Addr) (xs : List NRow) (k : NestedKey), x = .ref a ∧ y = .ref b ∧ H a = some (DictN P w a xs) ∧ RowsN H xs ∧ NK H k (.ref b) ∧ k.depth ≤ 8 ∧ Q (.bl (atN xs k).isSome) H
theorem op_inN (hu : X.A.units + 9 < cLine) : OpR X (compareOp .In) (rInN X.prog X.w) := by
  intro pins s σ H y x u iv Q I ry rx h
  obtain ⟨a, b, xs, k, rfl, rfl, g, gr, gk, gd, q⟩ := h
  cases rx
  cases ry
  obtain ⟨ha, us, hp, hm⟩ := dictN_of I g gr
  refine in_keyed (knd := nestedKind X.prog X.w) (show X.A.units + 1 + 8 < cLine by omega) ⟨NK.is I gk rfl, gd⟩ ha ⟨us, hm, rfl⟩ ?_
  rcases atN_pairs (k := k) hp with ⟨v', uv, e1, e2, _⟩ | ⟨e1, e2⟩
  · rw [e1] at q
    rw [e2]
    exact ⟨.bl true, H, I.tok _, rfl, q⟩
  · rw [e1] at q
    rw [e2]
    exact ⟨.bl false, H, I.tok _, rfl, q⟩
def rNotInN (P : Program) (w : World) : R2 := fun y x H Q => ∃ (a b : Addr) (xs : List NRow) (k : NestedKey), x = .ref a ∧ y = .ref b ∧ H a = some (DictN P w a xs) ∧ RowsN H xs ∧ NK H k (.ref b) ∧ k.depth ≤ 8 ∧ Q (.bl (!(atN xs k).isSome)) H
theorem op_notInN (hu : X.A.units + 9 < cLine) : OpR X (compareOp .NotIn) (rNotInN X.prog X.w) := by
  intro pins s σ H y x u iv Q I ry rx h
  obtain ⟨a, b, xs, k, rfl, rfl, g, gr, gk, gd, q⟩ := h
  cases rx
  cases ry
  obtain ⟨ha, us, hp, hm⟩ := dictN_of I g gr
  refine notIn_keyed (knd := nestedKind X.prog X.w) (show X.A.units + 1 + 8 < cLine by omega) ⟨NK.is I gk rfl, gd⟩ ha ⟨us, hm, rfl⟩ ?_
  rcases atN_pairs (k := k) hp with ⟨v', uv, e1, e2, _⟩ | ⟨e1, e2⟩
  · rw [e1] at q
    rw [e2]
    exact ⟨.bl false, H, I.tok _, rfl, q⟩
  · rw [e1] at q
    rw [e2]
    exact ⟨.bl true, H, I.tok _, rfl, q⟩
def storedN (xs : List NRow) (k : NestedKey) (b : Addr) (v : V) : List NRow := if (atN xs k).isSome then xs.map (fun x => if x.1 = k then (x.1, x.2.1, v) else x) else xs ++ [(k, b, v)]
abbrev RowsP (xs : List NRow) (us : List (NestedKey × Addr × Value)) : Prop := Paired (fun (p : NRow) (q : NestedKey × Addr × Value) => p.1 = q.1 ∧ p.2.1 = q.2.1 ∧ RelV p.2.2 q.2.2) xs us
theorem rows_map {k : NestedKey} {v : V} {u : Value} (rv : RelV v u) : ∀ {xs : List NRow} {us : List (NestedKey × Addr × Value)}, RowsP xs us → RowsP (xs.map (fun x => if x.1 = k then (x.1, x.2.1, v) else x)) (us.map (putAt k u))
  | _, _, .nil => .nil
  | x :: xs, y :: us, .cons r t => by
    refine .cons ?_ (rows_map rv t)
    show (if x.1 = k then (x.1, x.2.1, v) else x).1 = (putAt k u y).1 ∧ (if x.1 = k then (x.1, x.2.1, v) else x).2.1 = (putAt k u y).2.1 ∧ RelV (if x.1 = k then (x.1, x.2.1, v) else x).2.2 (putAt k u y).2.2
    unfold putAt
    by_cases e : x.1 = k
    · rw [if_pos e, if_pos (r.1.symm.trans e)]
      exact ⟨r.1, r.2.1, rv⟩
    · rw [if_neg e, if_neg (fun z => e (r.1.trans z))]
      exact r
theorem rows_app {k : NestedKey} {b : Addr} {v : V} {u : Value} (rv : RelV v u) : ∀ {xs : List NRow} {us : List (NestedKey × Addr × Value)}, RowsP xs us → RowsP (xs ++ [(k, b, v)]) (us ++ [(k, b, u)])
  | _, _, .nil => .cons ⟨rfl, rfl, rv⟩ .nil
  | _ :: _, _ :: _, .cons r t => .cons r (rows_app rv t)
theorem stored_pairs {k : NestedKey} {b : Addr} {v : V} {u : Value} (rv : RelV v u) {xs : List NRow} {us : List (NestedKey × Addr × Value)} (p : Paired (fun (p : NRow) (q : NestedKey × Addr × Value) => p.1 = q.1 ∧ p.2.1 = q.2.1 ∧ RelV p.2.2 q.2.2) xs us) :
    Paired (fun (p : NRow) (q : NestedKey × Addr × Value) => p.1 = q.1 ∧ p.2.1 = q.2.1 ∧ RelV p.2.2 q.2.2) (storedN xs k b v) (storedH us k b u) := by
  have hs : (atN xs k).isSome = (atKey us k).isSome := by
    have e : valueAt (pairsH us) k = (atKey us k).map (·.2) := valueAt_pairsH us k
    rcases atN_pairs (k := k) p with ⟨v', u', e1, e2, _⟩ | ⟨e1, e2⟩
    · rw [e1]
      rw [e2] at e
      cases h : atKey us k with
      | none => rw [h] at e; cases e
      | some _ => rfl
    · rw [e1]
      rw [e2] at e
      cases h : atKey us k with
      | none => rfl
      | some _ => rw [h] at e; cases e
  unfold storedN storedH
  rw [hs]
  split
  · exact rows_map rv p
  · exact rows_app rv p
theorem storedN_len (xs : List NRow) (k : NestedKey) (b : Addr) (v : V) : (storedN xs k b v).length ≤ xs.length + 1 := by
  unfold storedN
  split
  · rw [List.length_map]; omega
  · rw [List.length_append]; exact Nat.le_refl _
def sDPutN (P : Program) (w : World) (td ty tv : TE) : TS := fun D σ H => tv σ H fun v H1 => td σ H1 fun x H2 => ty σ H2 fun y H3 => ∃ (a b : Addr) (xs : List NRow) (k : NestedKey), x = .ref a ∧ y = .ref b ∧ H3 a = some (DictN P w a xs) ∧ RowsN H3 xs ∧ NK H3 k (.ref b) ∧ k.depth ≤ 8 ∧ xs.length < sizeLine ∧ D.nx σ (upd H3 a (DictN P w a (storedN xs k b v)))
theorem ps_dputN {o i value : PySem.Expr} {td ty tv : TE} {pos pos' : Pos} (hu : X.A.units + 9 < cLine) (ho : PE X o td) (hi : PE X i ty) (hv : PE X value tv) (hs : swapsWith value (some (.Subscript o i pos')) pos.line X.env = pure false) :
    PS X (.Assign [.Subscript o i pos'] value pos) (sDPutN X.prog X.w td ty tv) := by
  refine ⟨fun pins s σ H D I h => ?_⟩
  refine wpAny_Assign_Subscript (thn (hv.run pins s σ H _ I h) fun r s1 ⟨v, H1, I1, rv, q1⟩ => thn (ho.run pins s1 σ H1 _ I1 q1) fun u s2 ⟨x, H2, I2, rx, q2⟩ => thn (hi.run pins s2 σ H2 _ I2 q2) fun iv s3 ⟨y, H3, I3, ry, a, b, xs, k, ex, ey, g, gr, gk, gd, gz, q3⟩ => ?_) hs
  subst ex ey
  cases rx
  cases ry
  obtain ⟨ha, us, hp, hm⟩ := dictN_of I3 g gr
  have hl : us.length ≤ sizeLine := by rw [← Paired.length hp]; omega
  refine wpAny_setItem_heap (knd := nestedKind X.prog X.w) (hsz := hl) (show X.A.units + 1 + 8 < cLine by omega) ⟨NK.is I3 gk rfl, gd⟩ hm fun h' hm' sb => ?_
  obtain ⟨ob, es, ep, e1, e2, e3, e4, _, e5⟩ := hm'
  have hz : (storedN xs k b v).length ≤ sizeLine := by have := storedN_len xs k b v; omega
  exact ⟨σ, _, d_write I3 (by rw [g]; exact True.intro) sb ⟨ob, e1⟩ (dictN_ok ha hz (stored_pairs rv hp) ⟨ob, es, ep, e1, e2, e3, e4, e5⟩), q3⟩
theorem pe_dnewN {pos : Pos} : PE X (.Dict [] [] pos) (fun _ H Q => ∀ p, H p = none → Q (.ref p) (upd H p (DictN X.prog X.w p []))) := ⟨fun pins s σ H Q I h =>
  wpAny_Dict_empty ⟨.ref s.heap.objs.size, _, I.laid (a := s.heap.objs.size) (o := DictN X.prog X.w s.heap.objs.size []) (t' := s.toks) (fun _ _ q => Heap.get?_push_of_some _ q) (Nat.le_refl _)
    (dictN_ok (beq_eq_false_iff_ne.mpr (Ne.symm (Nat.ne_of_lt I.big))) (Nat.zero_le _) .nil ⟨_, #[], 0, Heap.get?_push_size _ rfl, ⟨rfl, rfl, rfl⟩, rfl, rfl, List.nodup_nil⟩), rfl, h _ (I.hok.fresh (Nat.le_refl _))⟩⟩
end
theorem frzN {X : Cx} {pins : List (Addr × Obj)} {σ : L2.St} {H : Hp} {s : Shared} {a : Addr} {o : Obj} {xs : List NRow} (I : Inv X pins σ H s) (h : H a = some (.frz o (DictN X.prog X.w a xs))) :
    (a == sysModules) = false ∧ s.heap.get? a = some o ∧ o.ExactDict ∧ ∃ (es : Array DictEntry) (ep : Nat), o.data = .dict es ep ∧ es.size = xs.length ∧ ∀ (i : Nat) (row : NRow), xs[i]? = some row → ∃ en : DictEntry, es[i]? = some en ∧ en.key = Value.ref row.2.1 ∧ RelV row.2.2 en.val := by
  obtain ⟨hg, ⟨h1, h2, us, h3, o2, es, ep, e1, e2, e3, e4, e5⟩, _, _⟩ := I.hok _ _ h
  have eo : o2 = o := Option.some.inj (e1.symm.trans hg)
  subst eo
  have hl : us.length = es.size := by
    have := congrArg List.length e4
    rw [List.length_map, Array.length_toList] at this
    exact this.symm
  refine ⟨h1, hg, e2, es, ep, e3, by rw [← hl]; exact (Paired.length h3).symm, fun i row hr => ?_⟩
  have : ∀ (xs : List NRow) (us : List (NestedKey × Addr × Value)), RowsP xs us → ∀ (i : Nat) (row : NRow), xs[i]? = some row → ∃ u : NestedKey × Addr × Value, us[i]? = some u ∧ u.2.1 = row.2.1 ∧ RelV row.2.2 u.2.2 := by
    intro xs us p
    induction p with
    | nil => intro i row h; cases h
    | cons r t ih =>
      intro i row h
      cases i with
      | zero => cases h; exact ⟨_, rfl, r.2.1.symm, r.2.2⟩
      | succ i => exact ih i row (by simpa using h)
  obtain ⟨u, hu, k1, k2⟩ := this _ _ h3 i row hr
  refine ⟨entryOfKey (nestedKind X.prog X.w) u, ?_, by show Value.ref u.2.1 = _; rw [k1], k2⟩
  rw [← Array.getElem?_toList, e4, List.getElem?_map, hu]
  rfl
def ItkN (P : Program) (w : World) (d : Addr) (o : Obj) (xs : List NRow) : It :=
  ⟨fun i H => H d = some (.frz o (DictN P w d xs)) ∧ i < xs.length, fun i H x H' => H' = H ∧ ∃ row, xs[i]? = some row ∧ x = .ref row.2.1, fun i H => H d = some (.frz o (DictN P w d xs)) ∧ xs.length ≤ i⟩
theorem turn_keysN {P : Program} {w : World} {K : PySem.W.Frag} {tg : PySem.Expr} {d : Addr} {o : Obj} {es : Array DictEntry} {ep : Nat} {xs : List NRow} (it : Addr) (hod : o.data = .dict es ep) : Turn P w K tg (ItkN P w d o xs) [it] it (fun i h => h.IsKeyIter it d i xs.length ep) where
  mem := List.mem_singleton.mpr rfl
  obj := by
    intro i h st b hb
    cases List.mem_singleton.mp hb
    obtain ⟨x, e, c, dd⟩ := st
    exact ⟨x, e, fun v z => by rw [dd] at z; cases z⟩
  keep := by
    intro i h h' st k
    exact st.at fun x e => k it (List.mem_singleton.mpr rfl) x e
  item := by
    intro X hP hw hK hc i pins s σ H E I hf st hg
    subst hP hw hK
    obtain ⟨hd, hi⟩ := hg
    obtain ⟨z0, z1, z2, z3, z4, z5⟩ := hf it (List.mem_singleton.mpr rfl)
    obtain ⟨hs, hgd, hx, es2, ep2, hdt, hsz, ent⟩ := frzN I hd
    obtain ⟨rfl, rfl⟩ := dict_ep hod hdt
    obtain ⟨row, hrow⟩ : ∃ row, xs[i]? = some row := ⟨_, List.getElem?_eq_getElem hi⟩
    obtain ⟨en, hen, hkey, _⟩ := ent i row hrow
    refine next_key_item st hgd hdt hsz hen fun h' st' sb => ?_
    have J : Inv X pins σ H { s with heap := h' } := I.turned (t' := s.toks) (fun b ob hb e => (sb.2 b hb).trans e) z0 z1 z3 z4 z5
    obtain ⟨x, e, c, dd⟩ := id st'
    exact ⟨en.key, rfl, go_of (s := { s with heap := h' }) e c dd (by decide) ⟨.ref row.2.1, H, J, hkey, ⟨rfl, row, hrow, rfl⟩, st', fun b hb => (hf b hb).1⟩⟩
  done := by
    intro X hP hw hK hc i pins s σ H E I hf st hg
    subst hP hw hK
    obtain ⟨hd, hi⟩ := hg
    obtain ⟨z0, z1, z2, z3, z4, z5⟩ := hf it (List.mem_singleton.mpr rfl)
    obtain ⟨hs, hgd, hx, es2, ep2, hdt, hsz, ent⟩ := frzN I hd
    obtain ⟨rfl, rfl⟩ := dict_ep hod hdt
    exact next_key_end (I.ok.hd hc) st hgd hdt hsz hi fun h' eb => ⟨rfl, I.turned (t' := s.toks) (fun b ob hb e => eb b ob hb e) z0 z1 z3 z4 z5⟩
  self := fun A i s Q E st h => wpAny_pyIter_keyiter st h
def iKeysN (P : Program) (w : World) (td : TE) : TI := fun σ H R => td σ H fun x H1 => ∃ d o xs, x = .ref d ∧ H1 d = some (.frz o (DictN P w d xs)) ∧ R (ItkN P w d o xs) H1
theorem pi_keysN {X : Cx} {tg e : PySem.Expr} {td : TE} (he : PE X e td) : PI X tg e (iKeysN X.prog X.w td) := by
  refine ⟨fun pins s σ H R I h => ?_⟩
  refine thn (he.run pins s σ H _ I h) fun u s1 ⟨x, H1, I1, rx, d, o, xs, ex, hd, q⟩ => ?_
  subst ex
  cases rx
  obtain ⟨hs, hgd, hx, es, ep, hdt, hsz, ent⟩ := frzN I1 hd
  refine iter_keys hs hgd hx hdt (pi_one (tk := s1.toks) I1 _ (turn_keysN _ hdt) ⟨_, Heap.get?_push_size _ rfl, rfl, ?_⟩ q)
  rw [hsz] <;> rfl
theorem walk_keysN {P : Program} {w : World} {d : Addr} {o : Obj} {xs : List NRow} : Walk (ItkN P w d o xs) xs.length (fun H => H d = some (.frz o (DictN P w d xs))) (fun i H x H' => H' = H ∧ ∃ row, xs[i]? = some row ∧ x = .ref row.2.1) :=
  ⟨fun _ _ hi q => ⟨q, hi⟩, fun _ q => ⟨q, Nat.le_refl _⟩, fun _ _ _ _ _ _ y => y⟩
theorem roomN {k : Nat} {A : Around} (r : Room k A) : A.units + 9 < cLine := by have := r.un; omega
theorem call_lenN {X : Cx} : CallR X (.builtin "len") (fun xs H Q => ∃ (a : Addr) (rows : List NRow), xs = [.ref a] ∧ H a = some (DictN X.prog X.w a rows) ∧ RowsN H rows ∧ Q (.int (rows.length : Nat)) H) := by
  intro pins s σ H xs us Q I r h
  obtain ⟨a, rows, rfl, g, gr, q⟩ := h
  have hz : rows.length ≤ sizeLine := by
    obtain ⟨⟨_, h2, _⟩, _, _⟩ := I.hok _ _ g
    exact h2
  cases r with
  | cons r1 r2 =>
    cases r2
    cases r1
    obtain ⟨ha, us, hp, hm⟩ := dictN_of I g gr
    have hl : (pairsH us).length = rows.length := by
      rw [pairsH_length]
      exact (Paired.length hp).symm
    refine PyProof.Rows.call_len_slot (n := (pairsH us).length) hm.typeIs PySem.F.slot_dict_len (fun Q' hq => len_keyed (knd := nestedKind X.prog X.w) ha ⟨us, hm, rfl⟩ hq) (by omega) (by rw [hl]; rw [sizeLine_eq] at hz; omega) ?_
    rw [hl]
    exact ⟨.int _, H, I.tok _, ⟨_, rfl⟩, q⟩

def ItiN (P : Program) (w : World) (d : Addr) (o : Obj) (xs : List NRow) : It :=
  ⟨fun n H => H d = some (.frz o (DictN P w d xs)) ∧ n < xs.length, fun n H v H' => ∃ (p : Addr) (row : NRow), xs[n]? = some row ∧ v = .ref p ∧ H p = none ∧ H' = upd H p (.tup [.ref row.2.1, row.2.2]), fun n H => H d = some (.frz o (DictN P w d xs)) ∧ xs.length ≤ n⟩
theorem turn_itemsN {P : Program} {w : World} {K : PySem.W.Frag} {parts : List PySem.Expr} {many : Nat} {at_ : Pos} {d : Addr} {o : Obj} {es : Array DictEntry} {ep : Nat} {xs : List NRow} (it : Addr) (hod : o.data = .dict es ep) :
    Turn P w K (.Tuple parts many at_) (ItiN P w d o xs) [it] it (fun n h => ∃ x y, IsItemIter h it d n xs.length ep x y) where
  mem := List.mem_singleton.mpr rfl
  obj := by
    rintro n h ⟨x, y, e⟩ b hb
    cases List.mem_singleton.mp hb
    exact ⟨_, e, fun v z => nomatch z⟩
  keep := by
    rintro n h h' ⟨x, y, e⟩ k
    exact ⟨x, y, k it (List.mem_singleton.mpr rfl) _ e⟩
  item := by
    rintro X rfl rfl rfl calm n pins s σ H E I free ⟨x, y, here⟩ ⟨hd, more⟩
    obtain ⟨sys, got, exact_, es2, ep2, hdt, hsz, ent⟩ := frzN I hd
    obtain ⟨rfl, rfl⟩ := dict_ep hod hdt
    obtain ⟨row, hrow⟩ : ∃ row, xs[n]? = some row := ⟨_, List.getElem?_eq_getElem more⟩
    obtain ⟨en, hen, hkey, hval⟩ := ent n row hrow
    rw [← hsz] at here more
    have een : es2[n] = en := by
      have := List.getElem?_eq_some_iff.mp (show es2.toList[n]? = some en by rw [Array.getElem?_toList]; exact hen)
      simpa using this.2
    have low : it < s.heap.objs.size := Heap.lt_size here
    refine DT.nextI here ⟨o, got, exact_, hdt⟩ more fun h1 out tup _ stays => ?_
    refine ⟨_, rfl, wpAny_letOwnedTupleGo_items (s := { s with heap := h1 }) out fun h2 back but => ?_⟩
    rw [een] at tup back
    have tup2 : h2.get? s.heap.objs.size = some { cls := .type "tuple", data := .seq #[en.key, en.val] } := (but.2 _ (Nat.ne_of_gt low)).trans tup
    have made : ObjOk X.prog X.w (upd H s.heap.objs.size (.tup [.ref row.2.1, row.2.2])) h2 s.heap.objs.size (.tup [.ref row.2.1, row.2.2]) :=
      ⟨by show 2 ≤ sizeLine; decide, [en.key, en.val], .cons hkey (.cons hval .nil), _, tup2, rfl, _, rfl⟩
    have J : Inv X pins σ (upd H s.heap.objs.size (.tup [.ref row.2.1, row.2.2])) { s with heap := h2 } :=
      I.turnedNew (t' := s.toks) (ch := [it]) (fun b ob hb e => by
        have ne : b ≠ it := fun z => hb (by rw [z]; exact List.mem_singleton.mpr rfl)
        exact (but.2 b ne).trans (stays b ob ne e)) free (Nat.le_refl _) made
    refine ⟨.ref s.heap.objs.size, _, J, rfl, ⟨_, row, hrow, rfl, I.hok.fresh (Nat.le_refl _), rfl⟩, ⟨en.key, en.val, ?_⟩, fun b hb => ?_⟩
    · rw [← hsz]
      exact back
    · cases List.mem_singleton.mp hb
      rw [upd_ne (Nat.ne_of_lt low)]
      exact (free it (List.mem_singleton.mpr rfl)).1
  done := by
    rintro X rfl rfl rfl calm n pins s σ H E I free ⟨x, y, here⟩ ⟨hd, over⟩
    obtain ⟨z0, z1, z2, z3, z4, z5⟩ := free it (List.mem_singleton.mpr rfl)
    obtain ⟨sys, got, exact_, es2, ep2, hdt, hsz, _⟩ := frzN I hd
    obtain ⟨rfl, rfl⟩ := dict_ep hod hdt
    rw [← hsz] at here over
    exact DT.endI (I.ok.hd calm) here ⟨o, got, exact_, hdt⟩ over fun h' eb => ⟨rfl, I.turned (t' := s.toks) (fun b ob hb e => eb b ob hb e) z0 z1 z3 z4 z5⟩
  self := fun A i s Q E st h => let ⟨_, _, e⟩ := st; PySem.W.kcp_self e h
def iItemsN (P : Program) (w : World) (td : TE) : TI := fun σ H R => td σ H fun x H1 => ∃ d o xs, x = .ref d ∧ H1 d = some (.frz o (DictN P w d xs)) ∧ R (ItiN P w d o xs) H1
theorem pi_itemsN {X : Cx} {e : PySem.Expr} {td : TE} {parts : List PySem.Expr} {many : Nat} {at_ at1 at2 : Pos} (he : PE X e td) (base : attributeBase e "items" X.env (eval e X.env) = eval e X.env := by rfl) (line : (at1.endLine == at2.line) = true := by rfl) :
    PI X (.Tuple parts many at_) (.Call (.Attribute e "items" at1) [] [] at2) (iItemsN X.prog X.w td) := by
  refine ⟨fun pins s σ H R I h => wpAny_Call_method (T := "dict") (id := "dict.items") base rfl line F.plainAttrs_dict F.slot_dict_items F.type_dict_items (thn (he.run pins s σ H _ I h) ?_)⟩
  rintro u s1 ⟨x, H1, I1, rx, d, o, xs, rfl, hd, q⟩
  obtain rfl : u = Value.ref d := rx
  obtain ⟨sys, got, exact_, es, ep, hdt, hsz, _⟩ := frzN I1 hd
  have raw : DT.Raw s1.heap d es ep := ⟨o, got, exact_, hdt⟩
  refine ⟨raw.typeIs, (fun a e => by cases e; exact ⟨o, got, exact_.2.1⟩), ?_⟩
  have I2 : Inv X pins σ H1 { s1 with heap := s1.heap.push { cls := .type "dict_items", data := .fields #[.ref d] } } := I1.kept (t' := s1.toks) fun b ob z => Heap.get?_push_of_some _ z
  have go : wpAny (model X.prog X.w) X.A (pyIter (.ref s1.heap.objs.size)) (PIE X pins σ (.Tuple parts many at_) R) X.xe { s1 with heap := s1.heap.push { cls := .type "dict_items", data := .fields #[.ref d] } } := by
    refine DT.iterI (d := d) (es := es) (ep := ep) ⟨_, Heap.get?_push_size _ rfl, rfl, rfl⟩ (raw.push _) (pi_one (tk := s1.toks) I2 _ (turn_itemsN _ hdt) ⟨.none, .none, ?_⟩ q)
    rw [← hsz]
    exact Heap.get?_push_size _ rfl
  show wpAny _ _ (callWith at2 (.builtin "dict.items") [.ref d] [] []) _ X.xe s1
  exact method_meetsIn F.slot_dict_items F.entry_dict_items rfl (PySem.evalArgs_none ⟨rfl, raw.typeIs, F.args_dict_items_1 _, _, DT.meetsItems (es := es) (ep := ep) sys, raw, go⟩)
theorem walk_itemsN {P : Program} {w : World} {d : Addr} {o : Obj} {xs : List NRow} : Walk (ItiN P w d o xs) xs.length (fun H => H d = some (.frz o (DictN P w d xs))) (fun i H x H' => ∃ (p : Addr) (row : NRow), xs[i]? = some row ∧ x = .ref p ∧ H p = none ∧ H' = upd H p (.tup [.ref row.2.1, row.2.2])) :=
  ⟨fun _ _ hi q => ⟨q, hi⟩, fun _ q => ⟨q, Nat.le_refl _⟩, fun _ _ _ _ _ _ y => y⟩
def rIsN (P : Program) (w : World) (K : PySem.W.Frag) : List V → Hp → VK → Prop := fun xs H Q => ∃ (a : Addr) (rows : List NRow) (y : V) (u : Value) (b : Bool), xs = [.ref a, y] ∧ H a = some (DictN P w a rows) ∧ ClsV y u ∧ PySem.W.kitOne K (.type "dict") u = some b ∧ Q (.bl b) H
theorem call_isN {X : Cx} : CallR X (.builtin "isinstance") (rIsN X.prog X.w X.K) := by
  rintro pins s σ H _ us Q I r ⟨a, rows, y, u, b, rfl, ha, hy, hk, q⟩
  obtain ⟨_, u2, rfl, r1, r2⟩ := vals2 r
  obtain rfl := hy.eq r2
  cases r1
  obtain ⟨⟨_, _, _, _, o, _, _, e1, e2, _⟩, _, _⟩ := I.hok a _ ha
  exact PySem.W.kia_one PySem.W.kitx_dict I.kIn ⟨o, e1, e2.1⟩ hk (fun z => nomatch z) fun tk => ⟨.bl b, H, I.tok tk, rfl, q⟩

abbrev InBlk (X : Cx) (scope : PySem.Scope) (F : Cx → Prop) : Prop := ∀ (s : Shared) (H : Hp) (C : Addr) (cl : List (Str × Addr)) (fp : List Addr), F (X.blk s H scope (compEnvC scope cl C X.env) fp)
def tDcN (P : Program) (w : World) (wi : TI) (g : TG) (tt : TT) (tk tv : TE) (vs : List Nat) : TE := fun σ H Q => wi σ H fun J H1 => ∀ D, H1 D = none → ∃ W : Nat → Nat → Hp → Prop, (∃ m, W 0 m (upd H1 D (DictN P w D []))) ∧ ∀ n m H, W n m H →
  ((J.stop n H ∧ Q (.ref D) H) ∨ (J.go n H ∧ ∃ Nx : Hp → Prop, (∀ H', Nx H' → ∃ less, less < m ∧ W (n + 1) less H') ∧ ∀ x H', J.yld n H x H' → g x (wipe σ vs) H' fun σ2 H2 => wipe σ2 vs = wipe σ vs ∧ tt σ2 H2 fun yes H3 =>
    if yes = true then tk σ2 H3 fun y H4 => tv σ2 H4 fun z H5 => ∃ (xs : List NRow) (k : NestedKey) (b : Addr), y = .ref b ∧ H5 D = some (DictN P w D xs) ∧ RowsN H5 xs ∧ NK H5 k (.ref b) ∧ k.depth ≤ 8 ∧ xs.length < sizeLine ∧ Nx (upd H5 D (DictN P w D (storedN xs k b z))) else Nx H3))
section
variable {X : Cx} {pins : List (Addr × Obj)} {σ : L2.St} {H : Hp} {s : Shared}
theorem put_rowN {D b : Addr} {xs : List NRow} {k : NestedKey} {z : V} {r : Value} {E : Value → Shared → Prop} {Q : Unit → Shared → Prop} (hu : X.A.units + 9 < cLine) (I : Inv X pins σ H s) (hD : H D = some (DictN X.prog X.w D xs)) (hr : RowsN H xs) (hk : NK H k (.ref b)) (hd : k.depth ≤ 8) (hz : xs.length < sizeLine) (rv : RelV z r)
    (h : ∀ s', Inv X pins σ (upd H D (DictN X.prog X.w D (storedN xs k b z))) s' → Q () s') : wpAny (model X.prog X.w) X.A (dictSet D (.ref b) r) Q E s := by
  obtain ⟨hs, us, hp, hm⟩ := dictN_of I hD hr
  have hl : us.length ≤ sizeLine := by rw [← Paired.length hp]; omega
  refine wpAny_dictSet_heap (knd := nestedKind X.prog X.w) (hsz := hl) (show X.A.units + 8 < cLine by omega) ⟨NK.is I hk rfl, hd⟩ hm fun h' hm' but => h _ ?_
  obtain ⟨ob, es, ep, e1, e2, e3, e4, _, e5⟩ := hm'
  have fits : (storedN xs k b z).length ≤ sizeLine := by have := storedN_len xs k b z; omega
  exact d_write I (by rw [hD]; exact True.intro) but ⟨ob, e1⟩ (dictN_ok hs fits (stored_pairs rv hp) ⟨ob, es, ep, e1, e2, e3, e4, e5⟩)
theorem pe_dcN {kx vx tg iter : PySem.Expr} {ifs : List PySem.Expr} {scope : PySem.Scope} {own : List (Str × Nat)} {pos : Pos} {wi : TI} {g : TG} {tt : TT} {tk tv : TE} (hu : X.A.units + 9 < cLine) (calm : X.calm = true) (nd : X.N.Nodup) (hi : PI X tg iter wi) (ok : BlkOk X.N X.env.scope scope own)
    (hg : InBlk X scope fun Y => PG Y tg g) (ht : InBlk X scope fun Y => PTs Y ifs tt) (hk : InBlk X scope fun Y => PE Y kx tk) (he : InBlk X scope fun Y => PE Y vx tv) (plain : ∀ x, foldedSetIterable iter X.env x = pure x := by intro _; rfl) :
    PE X (.DictComp kx vx [⟨tg, iter, ifs, 0⟩] scope pos) (tDcN X.prog X.w wi g tt tk tv (own.map (·.2))) := by
  refine ⟨fun pins s σ H Q I h => ?_⟩
  rw [arm_eval_DictComp]
  have known : ∀ y ∈ scope.names, y.2 = .free → ∃ c, X.env.cells.lookup y.1 = some c := fun y hy e => (ok.free y hy e).elim (fun k => I.ok.has _ (.inl k)) (fun k => I.ok.has _ (.inr k))
  refine wpAny_comprehension_free (use := none) rfl plain (closure_ok known) ok.kind (fun y hy e => by rw [ok.uniq y hy, e]) (thn (hi.run pins s σ H _ I h) fun _ t1 a1 => thn a1 fun _ t2 a2 => ?_)
  obtain ⟨it, fp, tn, J, H2, rfl, I2, T, st2, apart, q⟩ := a2
  refine wpAny_newObj_type (newEnv_comp ?_)
  obtain ⟨W, ⟨m0, w0⟩, turn⟩ := q _ (I2.hok.fresh (Nat.le_refl _))
  have nsys : (t2.heap.objs.size == sysModules) = false := beq_eq_false_iff_ne.mpr (Ne.symm (Nat.ne_of_lt I2.big))
  have I3 : Inv X pins σ (upd H2 t2.heap.objs.size (DictN X.prog X.w t2.heap.objs.size [])) { t2 with heap := t2.heap.push { cls := .type "dict", data := .dict #[] } } :=
    I2.laid (t' := t2.toks) (fun _ _ z => Heap.get?_push_of_some _ z) (Nat.le_refl _) (dictN_ok nsys (Nat.zero_le _) .nil ⟨_, #[], 0, Heap.get?_push_size _ rfl, ⟨rfl, rfl, rfl⟩, rfl, rfl, List.nodup_nil⟩)
  have ahead : ∀ b ∈ fp, b < t2.heap.objs.size := fun b hb => let ⟨_, z, _⟩ := T.obj _ _ st2 b hb; Heap.lt_size z
  generalize e3 : ({ t2 with heap := t2.heap.push { cls := .type "dict", data := .dict #[] } } : Shared) = t3 at I3
  have h3 : t3.heap = t2.heap.push { cls := .type "dict", data := .dict #[] } := by rw [← e3]
  have fp3 : ∀ b ∈ fp, FpOk X pins (upd H2 t2.heap.objs.size (DictN X.prog X.w t2.heap.objs.size [])) b ∧ b < t3.heap.objs.size := fun b hb => by
    refine ⟨⟨?_, (apart b hb).2⟩, ?_⟩
    · rw [upd_ne (Nat.ne_of_lt (ahead b hb))]
      exact (apart b hb).1
    · rw [h3, Heap.size_push]
      exact Nat.lt_succ_of_lt (ahead b hb)
  have st3 : tn 0 t3.heap := T.keep _ _ _ st2 fun b _ o z => by rw [h3]; exact Heap.get?_push_of_some _ z
  have I4 := block_start I3 ok nd fp3
  generalize eD : t2.heap.objs.size = D at *
  generalize eH : upd H2 D (DictN X.prog X.w D []) = H3 at *
  have pg := hg t3 H3 t3.heap.objs.size (cellsFrom (t3.heap.objs.size + 1) scope.names (cloFrom X.env.cells scope.names [])) fp
  have pt := ht t3 H3 t3.heap.objs.size (cellsFrom (t3.heap.objs.size + 1) scope.names (cloFrom X.env.cells scope.names [])) fp
  have pk := hk t3 H3 t3.heap.objs.size (cellsFrom (t3.heap.objs.size + 1) scope.names (cloFrom X.env.cells scope.names [])) fp
  have pv := he t3 H3 t3.heap.objs.size (cellsFrom (t3.heap.objs.size + 1) scope.names (cloFrom X.env.cells scope.names [])) fp
  show codeAny _ _ (.compStart (.DictComp kx vx [⟨tg, iter, ifs, 0⟩] scope pos) 0 (.ref it) (.ref D) (compEnvC scope (cellsFrom (t3.heap.objs.size + 1) scope.names (cloFrom X.env.cells scope.names [])) t3.heap.objs.size X.env)) (compPost (model X.prog X.w) X.A X.xe none (EP X pins σ Q) (.ref D) t3.heap.objs.size) { t3 with heap := pushCells (t3.heap.push { cls := .type "dict", data := .dict #[] }) scope.names }
  have off : ∀ b ∈ fp, H3 b = none := fun b hb => (fp3 b hb).1.1
  generalize eC : compEnvC scope (cellsFrom (t3.heap.objs.size + 1) scope.names (cloFrom X.env.cells scope.names [])) t3.heap.objs.size X.env = ce at I4 pg pt pk pv ⊢
  have place : ce.locals = t3.heap.objs.size := by rw [← eC]; rfl
  generalize e4 : ({ t3 with heap := pushCells (t3.heap.push { cls := .type "dict", data := .dict #[] }) scope.names } : Shared) = t4 at I4 ⊢
  have st4 : tn 0 t4.heap := T.keep _ _ _ st3 fun b _ o z => by rw [← e4]; exact pushCells_keeps _ _ _ _ (Heap.get?_push_of_some _ z)
  have still : ∀ {σ' : L2.St} {H' : Hp} {t : Shared}, Inv (X.blk t3 H3 scope ce fp) [] σ' H' t → (∀ b ∈ fp, H' b = none) → ∀ b ∈ fp, FpOk (X.blk t3 H3 scope ce fp) [] H' b := fun J n b hb =>
    ⟨n b hb, (J.ok.exf b hb).1, J.ok.exfs b hb, .inl hb, fun x c z => (J.ok.exf b hb).2 x c z, fun z hz => absurd (show z ∈ ([] : List (Addr × Obj)) ++ [] from hz) (by simp)⟩
  have main : codeAny (model X.prog X.w) X.A (.compLoop (.DictComp kx vx [⟨tg, iter, ifs, 0⟩] scope pos) 0 (.ref it) (.ref D) ce) (compPost (model X.prog X.w) X.A X.xe none (EP X pins σ Q) (.ref D) t3.heap.objs.size) t4 := by
    refine compLoop_anyD (fun m t => ∃ n Hn, Inv (X.blk t3 H3 scope ce fp) [] (wipe σ (own.map (·.2))) Hn t ∧ tn n t.heap ∧ (∀ b ∈ fp, Hn b = none) ∧ W n m Hn) ?_ m0 ⟨0, H3, I4, st4, off, w0⟩
    rintro m t5 ⟨n, H5, I5, st5, off5, w5⟩
    rcases turn n m H5 w5 with ⟨stop, over⟩ | ⟨go, Nx, lower, step⟩
    · refine thnF (T.done (X.blk t3 H3 scope ce fp) rfl rfl rfl calm n [] t5 _ H5 (fun _ _ => False) I5 (still I5 off5) st5 stop) ?_
      rintro _ t6 ⟨rfl, I6⟩
      have I7 : Inv X pins σ H5 t6 := I3.call' (ch := fp) I6.os I6.base I6.hok I6.bare fun b hb => let z := (fp3 b hb).1.2; ⟨z.2.2.1, z.1, z.2.2.2.1, z.2.2.2.2⟩
      have gone : H5 t3.heap.objs.size = none := by rw [← place]; exact I6.free
      obtain ⟨names, hn, _⟩ := I6.loc
      have hn2 : t6.heap.Ns ce.locals names := hn
      rw [place] at hn2
      obtain ⟨z0, z1, z2, z3, z4, z5⟩ := I3.fpOk (Nat.le_refl _) gone
      exact ⟨names, hn2, fun h7 but => ⟨.ref D, H5, I7.turned (t' := t6.toks) (fun b ob hb z => (but.2 b hb).trans z) z0 z1 z3 z4 z5, rfl, over⟩⟩
    · refine thnF (T.item (X.blk t3 H3 scope ce fp) rfl rfl rfl calm n [] t5 _ H5 (fun _ _ => False) I5 (still I5 off5) st5 go) ?_
      rintro _ t6 ⟨u, rfl, a6⟩
      refine thnF a6 ?_
      rintro _ t7 ⟨x, H7, I7, rx, yx, st7, off7⟩
      refine thnF (pg.run _ t7 _ H7 x u _ (I7.pinned (still I7 off7) (T.obj _ _ st7)) rx (step x H7 yx)) ?_
      rintro _ t8 ⟨σ8, H8, I8, same8, q8⟩
      have close : ∀ {t : Shared} {Hn : Hp}, Inv (X.blk t3 H3 scope ce fp) ([] ++ pinsAt fp t7.heap) σ8 Hn t → Nx Hn → ∃ less, less < m ∧ ∃ n Hn, Inv (X.blk t3 H3 scope ce fp) [] (wipe σ (own.map (·.2))) Hn t ∧ tn n t.heap ∧ (∀ b ∈ fp, Hn b = none) ∧ W n less Hn := fun {t Hn} J nx => by
        obtain ⟨less, hl, wl⟩ := lower Hn nx
        have kept : ∀ b ∈ fp, ∀ o, t7.heap.get? b = some o → t.heap.get? b = some o ∧ Hn b = none := fun b hb o z =>
          let y := J.pin (b, o) (List.mem_append_right _ (List.mem_append_right _ (mem_pinsAt hb z)))
          ⟨y.1, y.2.1⟩
        refine ⟨less, hl, n + 1, Hn, (J.unpinned (pins := [])).weak (by rw [← same8, wipe_length]) fun j v z => ?_, T.keep _ _ _ st7 fun b hb o z => (kept b hb o z).1, fun b hb => ?_, wl⟩
        · rw [← same8] at z
          exact (wipe_some z).1
        · obtain ⟨o, z, _⟩ := T.obj _ _ st7 b hb
          exact (kept b hb o z).2
      refine thnF (pt.run _ t8 σ8 H8 _ I8 q8) ?_
      rintro yes t9 ⟨H9, I9, q9⟩
      cases yes with
      | false => exact close I9 (by simpa using q9)
      | true =>
        simp only [if_true] at q9 ⊢
        refine thnF (pk.run _ t9 σ8 H9 _ I9 q9) ?_
        rintro uk t10 ⟨y, H10, I10, ry, q10⟩
        refine thnF (pv.run _ t10 σ8 H10 _ I10 q10) ?_
        rintro uz t11 ⟨z, H11, I11, rz, xs, k, b, rfl, g1, g2, g3, g4, g5, nx⟩
        cases ry
        exact put_rowN (X := X.blk t3 H3 scope ce fp) hu I11 g1 g2 g3 g4 g5 rz fun t12 I12 => close I12 nx
  exact codeAny_compStart_dict main (T.self X.A 0 _ _ _ st4 main)
end

def Ents : List DictEntry → List (Str × Int) → Prop
  | [], [] => True
  | e :: r, q :: qs => (∃ h t u, e = ⟨h, .str q.1 t, .int q.2 u⟩) ∧ Ents r qs
  | [], _ :: _ => False
  | _ :: _, [] => False
def look : List (Str × Int) → Str → Option V
  | [], _ => none
  | q :: qs, x => if q.1 = x then some (.int q.2) else look qs x
def KTab (K : PySem.W.Frag) (w : World) (a : Addr) (qs : List (Str × Int)) : Prop :=
  (a == sysModules) = false ∧ ∃ es n, K.lookup a = some ⟨.type "dict", none, .dict es n, #[]⟩ ∧ PySem.W.KeysLit w.params es.toList ∧ Ents es.toList qs
def tKGet2 (K : PySem.W.Frag) (w : World) (td ty tx : TE) : TE := fun σ H Q => td σ H fun x H1 => ∃ a qs, x = .ref a ∧ KTab K w a qs ∧ ty σ H1 fun y H2 => tx σ H2 fun z H3 => ∃ s, y = .str s ∧ Q ((look qs s).getD z) H3
theorem ents_find : ∀ {es : List DictEntry} {qs : List (Str × Int)}, Ents es qs → ∀ (x : Str), RelO (look qs x) ((es.find? fun e => Value.isStrOf x e.key).map (·.val))
  | [], [], _, x => True.intro
  | e :: r, q :: qs, h, x => by
    obtain ⟨⟨hh, t, u, rfl⟩, h2⟩ := h
    have ih := ents_find h2 x
    unfold look
    rw [List.find?_cons]
    by_cases hx : q.1 = x
    · rw [if_pos hx]
      have e1 : Value.isStrOf x (Value.str q.1 t) = true := by show (q.1 == x) = true; rw [hx]; exact beq_self_eq_true x
      simp only [e1]
      exact ⟨u, rfl⟩
    · rw [if_neg hx]
      have e1 : Value.isStrOf x (Value.str q.1 t) = false := by show (q.1 == x) = false; exact beq_eq_false_iff_ne.mpr hx
      simp only [e1]
      exact ih
  | [], _ :: _, h, _ => h.elim
  | _ :: _, [], h, _ => h.elim
theorem pe_kget2 {X : Cx} {o e f : Expr} {apos cpos : Pos} {td ty tx : TE} (hc : X.calm = true) (ho : PE X o td) (he : PE X e ty) (hf : PE X f tx) (m : M2 X o "get" apos e f cpos) : PE X (.Call (.Attribute o "get" apos) [e, f] [] cpos) (tKGet2 X.K X.w td ty tx) := by
  refine ⟨fun pins s σ H Q I h => ?_⟩
  refine wpAny_Call_method m.base m.few m.line PySem.F.plainAttrs_dict PySem.F.slot_dict_get PySem.F.type_dict_get (thn (ho.run pins s σ H _ I h) fun u s1 ⟨x, H1, I1, rx, a, qs, ex, ⟨hs, es, n, hl, hk, hE⟩, q1⟩ => ?_)
  subst ex
  obtain rfl : u = Value.ref a := rx
  have hm1 := PySem.W.mapOf_K (prog := X.prog) (w := X.w) I1.kIn hl hk
  refine ⟨hm1.typeIs, fun b q => by cases q; exact ⟨_, I1.kIn _ _ hl, rfl⟩, ?_⟩
  rw [m.trees]
  refine Calls.callWith_builtin rfl (Calls.evalArgs_plain (Calls.spliced_cons (thn (he.run pins s1 σ H1 _ I1 q1) fun iv s2 ⟨y, H2, I2, ry, q2⟩ =>
    Calls.spliced_cons (thn (hf.run pins s2 σ H2 _ I2 q2) fun fv s3 ⟨z, H3, I3, rz, sx, ey, q3⟩ => Calls.spliced_nil ?_))))
  subst ey
  obtain ⟨t, rfl⟩ := (show ∃ t, iv = Value.str sx t from ry)
  have hm3 := PySem.W.mapOf_K (prog := X.prog) (w := X.w) I3.kIn hl hk
  refine call_meetsIn PySem.F.slot_dict_get hm3.typeIs PySem.F.entry_dict_get (PySem.F.args_dict_get_3 _ _ _) (meets_dict_get_default (strKind X.prog X.w) a (strKind_is X.prog X.w sx t) hs fv) ⟨_, hm3, ?_⟩
  refine ⟨_, H3, I3.tok _, ?_, q3⟩
  have r := ents_find hE sx
  have e2 : findBy Value.isStrOf es sx = (es.toList.find? fun e => Value.isStrOf sx e.key).map (·.val) := by
    unfold findBy
    rw [← Array.find?_toList]
  rw [e2]
  exact r.getD rz

def rLcm : List V → Hp → VK → Prop := fun vs H Q => ∃ a b : Nat, vs = [nI a, nI b] ∧ a < 1000 ∧ b < 1000 ∧ Q (nI (a.lcm b)) H
theorem cr_lcm {X : Cx} : CallR X (.builtin "math.lcm") rLcm := by
  intro pins s σ H vs us Q I r ⟨a, b, e, ha, hb, q⟩
  subst e
  obtain ⟨t, u, rfl⟩ := Vals.int2 r
  refine PySem.W.mc_lcm (by rw [Int.natAbs_natCast]; exact Nat.lt_trans ha (by decide)) (by rw [Int.natAbs_natCast]; exact Nat.lt_trans hb (by decide)) fun _ => ⟨nI (a.lcm b), H, I.tok _, ⟨s.toks, ?_⟩, q⟩
  simp

def rNotInT (K : PySem.W.Frag) (w : World) : R2 := fun x y H Q => ∃ (a : Addr) (qs : List (Str × Int)) (u : Str), x = .str u ∧ y = .ref a ∧ KTab K w a qs ∧ Q (.bl (!(look qs u).isSome)) H
theorem op_notInT {X : Cx} : OpR X (compareOp .NotIn) (rNotInT X.K X.w) := by
  intro pins s σ H x y v u Q I rx ry ⟨a, qs, z, e1, e2, ⟨sys, es, n, hl, lit, hE⟩, q⟩
  subst e1 e2
  cases ry
  obtain ⟨t, rfl⟩ := rx
  refine wpAny_notIn_of (strKind_is X.prog X.w z t) sys (PySem.W.mapOf_K (prog := X.prog) (w := X.w) I.kIn hl lit) ⟨.bl (!(look qs z).isSome), H, I.tok _, ?_, q⟩
  have r := ents_find hE z
  have e : findBy Value.isStrOf es z = (es.toList.find? fun e => Value.isStrOf z e.key).map (·.val) := by
    unfold findBy
    rw [← Array.find?_toList]
  rw [e]
  cases h1 : look qs z with
  | none =>
    rw [h1] at r
    cases h2 : (es.toList.find? fun e => Value.isStrOf z e.key).map (·.val) with
    | none => rfl
    | some _ => rw [h2] at r; exact (show False from r).elim
  | some _ =>
    rw [h1] at r
    cases h2 : (es.toList.find? fun e => Value.isStrOf z e.key).map (·.val) with
    | none => rw [h2] at r; exact (show False from r).elim
    | some _ => rfl

theorem lc_outT {K : PySem.W.Frag} {a : Addr} {xs : List V} {Bd : V → Hp → (Hp → Prop) → Prop} {Qd : Hp → Prop} {H0 : Hp} (Pv : Nat → Hp → Prop) (h0 : Pv 0 H0) (hl : ∀ i H, i ≤ xs.length → Pv i H → SqT K H a xs)
    (hs : ∀ i x H, xs[i]? = some x → Pv i H → Bd x H (Pv (i + 1))) (hd : ∀ H, Pv xs.length H → Qd H) :
    ∃ W : Nat → Nat → Hp → Prop, (∃ m, W 0 m H0) ∧ ∀ i m H, W i m H → ((Itt K a).stop i H ∧ Qd H) ∨ ((Itt K a).go i H ∧ ∃ Nx : Hp → Prop, (∀ H', Nx H' → ∃ m', m' < m ∧ W (i + 1) m' H') ∧ ∀ x H', (Itt K a).yld i H x H' → Bd x H' Nx) := by
  refine ⟨fun i m H => m = xs.length - i ∧ i ≤ xs.length ∧ Pv i H, ⟨xs.length, by simp, Nat.zero_le _, h0⟩, ?_⟩
  rintro i m H ⟨rfl, hi, p⟩
  have q := hl i H hi p
  rcases Nat.lt_or_ge i xs.length with lt | ge
  · exact .inr ⟨⟨xs, xs[i], q, by simp [lt]⟩, Pv (i + 1), fun H' p' => ⟨_, by omega, rfl, lt, p'⟩, fun x H' y => by
      obtain ⟨e, y⟩ := y
      subst e
      exact hs i x _ (y xs q) p⟩
  · obtain rfl : i = xs.length := by omega
    exact .inl ⟨⟨xs, q, Nat.le_refl _⟩, hd H p⟩
theorem cut1 {x : V} {r : List V} : cutV (x :: r) (some 1) none = r := by
  have h1 : HT.sIx (x :: r).length 0 (some 1) = 1 := by
    have := HT.sIx_nat (x :: r).length 0 1
    rw [show ((1 : Nat) : Int) = 1 from rfl] at this
    rw [this, List.length_cons]
    omega
  unfold cutV
  rw [h1, HT.sIx_none, List.length_cons, List.drop_succ_cons, List.drop_zero, Nat.add_sub_cancel, List.take_length]
theorem cut1_not {x : V} {r : List V} : ¬ (HT.sIx (x :: r).length 0 (some 1) = 0 ∧ HT.sIx (x :: r).length (x :: r).length none = (x :: r).length) := by
  have h1 : HT.sIx (x :: r).length 0 (some 1) = 1 := by
    have := HT.sIx_nat (x :: r).length 0 1
    rw [show ((1 : Nat) : Int) = 1 from rfl] at this
    rw [this, List.length_cons]
    omega
  rw [h1]
  omega
theorem dtAll_app {ok : Addr → Prop} {H : Hp} : ∀ {xs ys : List V} {ds es : List PyData}, DtAll ok H xs ds → DtAll ok H ys es → DtAll ok H (xs ++ ys) (ds ++ es)
  | _, _, _, _, .nil, y => y
  | _, _, _, _, .cons a b, y => .cons a (dtAll_app b y)
theorem flat_take {α β : Type} (f : α → List β) {l : List α} {i : Nat} {x : α} (h : l[i]? = some x) : (l.take (i + 1)).flatMap f = (l.take i).flatMap f ++ f x := by
  rw [take_succ_of h, List.flatMap_append]
  simp


def Cd.plains : Cd → List Cd
  | .least w b => [.least w b]
  | .turns w m r => [.turns w m r]
  | .neg c => c.plains
  | .both c d => c.plains ++ d.plains
  | .either c d => c.plains ++ d.plains
def made : List (Str × Int) := [(Str.ofString "not", 2), (Str.ofString "both", 3), (Str.ofString "either", 3)]
def sp__plain_ones (n : Nat) : Sp := fun vs H Q _ => ∃ (v : V) (c : Cd) (ok : Addr → Prop), vs = [v] ∧ Dt ok H v c.dat ∧ c.deep ≤ n ∧ n ≤ 5 ∧ ∀ r ws H', Same H H' → H r = none → H' r = some (.lst ws) → DtAll ok H' ws (c.plains.map Cd.dat) → Q (.ref r) H'
theorem plains_len : ∀ c : Cd, c.plains.length ≤ 2 ^ c.deep
  | .least _ _ => by simp [Cd.plains, Cd.deep]
  | .turns _ _ _ => by simp [Cd.plains, Cd.deep]
  | .neg c => by
    have := plains_len c
    simp only [Cd.plains, Cd.deep, Nat.pow_add]
    omega
  | .both c d => by
    have h1 := plains_len c
    have h2 := plains_len d
    have k1 := Nat.pow_le_pow_right (n := 2) (by decide) (Nat.le_max_left c.deep d.deep)
    have k2 := Nat.pow_le_pow_right (n := 2) (by decide) (Nat.le_max_right c.deep d.deep)
    simp only [Cd.plains, Cd.deep, Nat.pow_add, List.length_append]
    omega
  | .either c d => by
    have h1 := plains_len c
    have h2 := plains_len d
    have k1 := Nat.pow_le_pow_right (n := 2) (by decide) (Nat.le_max_left c.deep d.deep)
    have k2 := Nat.pow_le_pow_right (n := 2) (by decide) (Nat.le_max_right c.deep d.deep)
    simp only [Cd.plains, Cd.deep, Nat.pow_add, List.length_append]
    omega
theorem Cd.shape (c : Cd) : (c.plains = [c] ∧ ∃ (x : Str) (ds : List PyData), c.dat = .tuple (.str x :: ds) ∧ (!(look made x).isSome) = true) ∨
    ∃ (x : Str) (cs : List Cd), c.dat = .tuple (.str x :: cs.map Cd.dat) ∧ (!(look made x).isSome) = false ∧ c.plains = cs.flatMap Cd.plains ∧ (∀ d ∈ cs, d.deep < c.deep) ∧ cs.length ≤ 2 := by
  cases c with
  | least w b => exact .inl ⟨rfl, _, _, rfl, by decide +kernel⟩
  | turns w m r => exact .inl ⟨rfl, _, _, rfl, by decide +kernel⟩
  | neg c => exact .inr ⟨_, [c], rfl, by decide +kernel, by simp [Cd.plains], fun d hd => by simp at hd; subst hd; simp only [Cd.deep]; omega, by simp⟩
  | both c d => exact .inr ⟨_, [c, d], rfl, by decide +kernel, by simp [Cd.plains], fun x hx => by simp at hx; rcases hx with rfl | rfl <;> simp only [Cd.deep] <;> omega, by simp⟩
  | either c d => exact .inr ⟨_, [c, d], rfl, by decide +kernel, by simp [Cd.plains], fun x hx => by simp at hx; rcases hx with rfl | rfl <;> simp only [Cd.deep] <;> omega, by simp⟩
section
variable {P : Program} {w : World} {K : PySem.W.Frag} {mg : Str → Option Value} {base : Heap}
theorem ok__plain_ones (T : Txt K mg) (M : KTab K w T.a_MADE_OF_OTHERS made) : ∀ n : Nat, FnOk P w K mg base CX0 n T.f__plain_ones T.d__plain_ones ["condition"] (sp__plain_ones n)
  | 0 => noneOf fun vs H Q E ⟨v, c, ok, _, _, h, _⟩ => by have := c.deep_pos; omega
  | n + 1 => by
    have G__plain_ones : FnOk P w K mg base CX0 n T.f__plain_ones T.d__plain_ones ["condition"] (sp__plain_ones n) := ok__plain_ones T M n
    refine T.F__plain_ones.ok sc__plain_ones (fun vs H Q E h => ?_) (fun cdv A outer s H vs Q E hr h => ?_)
    · obtain ⟨v, c, ok, rfl, _⟩ := h
      rfl
    obtain ⟨v, c, ok, rfl, ht, hn, h5, q⟩ := h
    refine ⟨_, (pss_cons (ps_if (pt_cmpR op_notInT (pe_ix ix_tup (pv 0) pe_int (fun _ _ => rfl)) (pe_glob (v := .ref T.a_MADE_OF_OTHERS) rfl T.g_MADE_OF_OTHERS rfl) (by rfl)) (pss_one (ps_ret (pe_lst (pa_cons (pv 0) pa_nil)))) pss_nil) (pss_one (ps_ret (pe_lc2 (own := [("part", 1), ("plain", 2)]) (vs1 := [2]) (g := gName 1) (g1 := gName 2) (tt := tYes) (tt1 := tYes) (wi1 := iList K (tCall (sp__plain_ones n) [] E0 (tCons (tVar 1) tNil))) rfl sc__plain_ones.nd (pi_tup (pe_slice sl_tup (pv 0) (po_some pe_int) po_none)) (blkOk_by (own := [("part", 1), ("plain", 2)]) (N := ["condition", "part", "plain"]) (sc := (defScope s__plain_ones)) (by decide +kernel)) (by decide) (fun _ _ _ _ _ => (pg_name (i := 1) sc__plain_ones.nd rfl (Or.inl rfl))) (fun _ _ _ _ _ => pts_nil) (fun _ _ _ _ _ => by exact (pi_list (pe_call G__plain_ones (hr.mono (by omega)) (by rfl) T.m__plain_ones T.F__plain_ones.kp T.b__plain_ones .nil pass0 (pa_cons (pv 1) pa_nil)))) (fun _ _ _ _ _ => (pg_name (i := 2) sc__plain_ones.nd rfl (Or.inl rfl))) (fun _ _ _ _ _ => pts_nil) (fun _ _ _ _ _ => (pv 2)))))), ?_⟩
    rcases c.shape with ⟨hp, x, ds, hd, hm⟩ | ⟨x, cs, hd, hm, hp, hdeep, h2⟩
    · have ht0 := ht
      rw [hd] at ht0
      cases ht0 with
      | @tup a xs _ e _ l r =>
      cases r with
      | @cons v0 vs0 d0 ds0 r0 r1 =>
      cases r0
      refine ⟨_, rfl, a, _, 0, _, rfl, rfl, SqT.of e, atI_nat (j := 0) rfl, _, made, x, rfl, rfl, M, _, rfl, ?_⟩
      rw [hm]
      refine iteT ⟨_, rfl, (by show 1 ≤ sizeLine; decide), fun r hr => ?_⟩
      rw [hp] at q
      exact q r _ _ (same_new hr) hr upd_same (.cons (ht.same (same_new hr)) .nil)
    · have ht0 := ht
      rw [hd] at ht0
      cases ht0 with
      | @tup a xs _ e _ l r =>
      cases r with
      | @cons v0 vs0 d0 ds0 r0 r1 =>
      cases r0
      refine ⟨_, rfl, a, _, 0, _, rfl, rfl, SqT.of e, atI_nat (j := 0) rfl, _, made, x, rfl, rfl, M, _, rfl, ?_⟩
      rw [hm]
      refine iteF ⟨_, rfl, 1, rfl, a, _, rfl, SqT.of e, cut1_not, fun p hpn => ?_⟩
      rw [cut1]
      have sp := same_new hpn (o := .tup vs0)
      have kp := upd_same (H := H) (a := p) (o := .tup vs0)
      generalize upd H p (.tup vs0) = H1 at *
      refine ⟨p, rfl, ⟨_, SqT.of kp⟩, fun D hD => ?_⟩
      have lr := r1.len
      rw [List.length_map] at lr
      have hD0 := sp.free hD
      refine lc_outT (xs := vs0) (fun i H2 => ∃ acc, H2 D = some (.lst acc) ∧ acc.length ≤ 100 * i ∧ DtAll (fun b => ok b ∧ b ≠ D) H2 acc (((cs.take i).flatMap Cd.plains).map Cd.dat) ∧ Same H1 H2) ⟨[], upd_same, Nat.le_refl _, .nil, same_new hD⟩ (fun i H2 _ ⟨_, _, _, _, s⟩ => SqT.of (s _ _ kp)) ?_ ?_
      · rintro i y H2 hy ⟨acc, g1, gl, g2, g3⟩
        obtain ⟨dy, hdy, hy2⟩ := r1.getV hy
        rw [List.getElem?_map] at hdy
        cases hc : cs[i]? with
        | none => rw [hc] at hdy; cases hdy
        | some c1 =>
        rw [hc] at hdy
        cases hdy
        have hm1 := List.mem_of_getElem? hc
        have dp1 := hdeep c1 hm1
        have hi := (List.getElem?_eq_some_iff.mp hc).1
        have pl := plains_len c1
        have pl2 : c1.plains.length ≤ 2 ^ 4 := Nat.le_trans pl (Nat.pow_le_pow_right (by decide) (by omega))
        refine ⟨rfl, _, rfl, y, c1, fun b => ok b ∧ b ≠ D, rfl, ((hy2.off hD0).same sp).same g3, by omega, by omega, fun r ws H3 s3 hr3 kr offD => ?_⟩
        have g13 := s3 _ _ g1
        have nrD : r ≠ D := fun z => by rw [z, g1] at hr3; cases hr3
        have lw := offD.len
        rw [List.length_map] at lw
        refine ⟨r, rfl, ⟨_, SqL.of kr⟩, ?_⟩
        refine lc_outer (xs := ws) (fun j H4 => ∃ acc', H4 D = some (.lst (acc ++ ws.take j)) ∧ acc' = acc ∧ DtAll (fun b => ok b ∧ b ≠ D) H4 acc (((cs.take i).flatMap Cd.plains).map Cd.dat) ∧ DtAll (fun b => ok b ∧ b ≠ D) H4 ws (c1.plains.map Cd.dat) ∧ Same H1 H4 ∧ H4 r = some (.lst ws))
          ⟨acc, by simpa using g13, rfl, g2.same s3, offD, g3.trans s3, kr⟩ (fun j H4 _ ⟨_, _, _, _, _, _, h⟩ => SqL.of h) ?_ ?_
        · rintro j z H4 hz ⟨_, k1, _, k2, k3, k4, k5⟩
          have hj := (List.getElem?_eq_some_iff.mp hz).1
          refine ⟨rfl, _, rfl, _, k1, ?_, acc, ?_, rfl, k2.keep (upd_keep fun b h => h.2), k3.keep (upd_keep fun b h => h.2), same_add k4 hD, ?_⟩
          · rw [List.length_append, List.length_take]
            exact Nat.lt_of_le_of_lt (show _ ≤ 1000000 by omega) (by decide)
          · rw [upd_same, take_succ_of hz, List.append_assoc]
          · rw [upd_ne nrD]; exact k5
        · rintro H4 ⟨_, k1, _, k2, k3, k4, k5⟩
          rw [List.take_length] at k1
          refine ⟨acc ++ ws, k1, by rw [List.length_append]; omega, ?_, k4⟩
          rw [flat_take _ hc, List.map_append]
          exact dtAll_app k2 k3
      · rintro H2 ⟨acc, g1, gl, g2, g3⟩
        rw [lr, List.take_length, ← hp] at g2
        exact q D acc H2 (sp.trans g3) hD0 g1 (g2.weak fun b h => h.1)
end
def fewP (f : Nat) : List Cd → Nat
  | [] => f
  | .least _ b :: r => fewP (max f b.toNat) r
  | _ :: r => fewP f r
def turnP (t : Nat) : List Cd → Nat
  | [] => t
  | .turns _ m _ :: r => turnP (t.lcm m.toNat) r
  | _ :: r => turnP t r
def fewC (cs : List Cd) : Nat := fewP 0 (cs.flatMap Cd.plains)
def turnC (cs : List Cd) : Nat := turnP 1 (cs.flatMap Cd.plains)
def isPlain : Cd → Prop
  | .least _ _ => True
  | .turns _ _ _ => True
  | _ => False
theorem plains_plain (n : Nat) : ∀ c : Cd, c.ok n → ∀ p ∈ c.plains, isPlain p ∧ p.ok n
  | .least _ _, h, p, hp => by simp [Cd.plains] at hp; subst hp; exact ⟨trivial, h⟩
  | .turns _ _ _, h, p, hp => by simp [Cd.plains] at hp; subst hp; exact ⟨trivial, h⟩
  | .neg c, h, p, hp => plains_plain n c h p (by simpa [Cd.plains] using hp)
  | .both c d, h, p, hp => by
    simp only [Cd.plains, List.mem_append] at hp
    exact hp.elim (plains_plain n c h.1 p) (plains_plain n d h.2 p)
  | .either c d, h, p, hp => by
    simp only [Cd.plains, List.mem_append] at hp
    exact hp.elim (plains_plain n c h.1 p) (plains_plain n d h.2 p)
theorem fewP_app (f : Nat) : ∀ (a b : List Cd), fewP f (a ++ b) = fewP (fewP f a) b
  | [], _ => rfl
  | c :: r, b => by cases c <;> simp only [List.cons_append, fewP, fewP_app _ r b]
theorem turnP_app (f : Nat) : ∀ (a b : List Cd), turnP f (a ++ b) = turnP (turnP f a) b
  | [], _ => rfl
  | c :: r, b => by cases c <;> simp only [List.cons_append, turnP, turnP_app _ r b]
theorem fewP_le {n : Nat} : ∀ (l : List Cd) (f : Nat), f ≤ 4 → (∀ c ∈ l, c.ok n) → fewP f l ≤ 4
  | [], f, h, _ => h
  | c :: r, f, h, hk => by
    have hr := fun x hx => hk x (List.mem_cons_of_mem _ hx)
    have hc := hk c List.mem_cons_self
    cases c with
    | least w b =>
      obtain ⟨_, b0, b4⟩ := hc
      simp only [fewP]
      exact fewP_le r _ (by omega) hr
    | _ => simp only [fewP]; exact fewP_le r f h hr
theorem lcm12 {t m : Nat} (h : t ∣ 12) (h1 : 1 ≤ m) (h4 : m ≤ 4) : t.lcm m ∣ 12 := by
  refine Nat.lcm_dvd h ?_
  rcases m with _ | _ | _ | _ | _ | m
  · omega
  · exact ⟨12, rfl⟩
  · exact ⟨6, rfl⟩
  · exact ⟨4, rfl⟩
  · exact ⟨3, rfl⟩
  · omega
theorem turnP_12 {n : Nat} : ∀ (l : List Cd) (t : Nat), t ∣ 12 → (∀ c ∈ l, c.ok n) → turnP t l ∣ 12
  | [], t, h, _ => h
  | c :: r, t, h, hk => by
    have hr := fun x hx => hk x (List.mem_cons_of_mem _ hx)
    have hc := hk c List.mem_cons_self
    cases c with
    | turns w m q =>
      obtain ⟨_, m1, m4, _⟩ := hc
      simp only [turnP]
      exact turnP_12 r _ (lcm12 h (by omega) (by omega)) hr
    | _ => simp only [turnP]; exact turnP_12 r t h hr
theorem le12 {t : Nat} (h : t ∣ 12) : 1 ≤ t ∧ t ≤ 12 := ⟨Nat.pos_of_dvd_of_pos h (by decide), Nat.le_of_dvd (by decide) h⟩
def sp__few_and_turn : Sp := fun vs H Q _ => ∃ (a : Addr) (ws : List V) (cs : List Cd) (n : Nat), vs = [.ref a] ∧ H a = some (.lst ws) ∧ DtAll (fun _ => True) H ws (cs.map Cd.dat) ∧ (∀ c ∈ cs, c.ok n ∧ c.deep ≤ 4) ∧ cs.length ≤ 5000 ∧ ∀ p H', Same H H' → H' p = some (.tup [nI (fewC cs), nI (turnC cs)]) → Q (.ref p) H'
section
variable {P : Program} {w : World} {K : PySem.W.Frag} {mg : Str → Option Value} {base : Heap}
theorem ok__few_and_turn (T : Txt K mg) (M : KTab K w T.a_MADE_OF_OTHERS made) : FnOk P w K mg base CX0 5 T.f__few_and_turn T.d__few_and_turn ["conditions"] sp__few_and_turn := by
  have G__plain_ones : FnOk P w K mg base CX0 4 T.f__plain_ones T.d__plain_ones ["condition"] (sp__plain_ones 4) := ok__plain_ones T M 4
  refine T.F__few_and_turn.ok sc__few_and_turn (fun vs H Q E h => ?_) (fun cdv A outer s H vs Q E hr h => ?_)
  · obtain ⟨a, ws, cs, n, rfl, _⟩ := h
    rfl
  obtain ⟨a, ws, cs, n, rfl, ha, hws, hcs, h5, q⟩ := h
  refine ⟨_, (pss_cons (ps_set (i := 1) sc__few_and_turn.nd rfl (Or.inl rfl) pe_int) (pss_cons (ps_set (i := 2) sc__few_and_turn.nd rfl (Or.inl rfl) pe_int) (pss_cons (ps_setLc2 (i := 3) (own := [("condition", 5), ("plain", 6)]) (vs1 := [6]) (g := gName 5) (g1 := gName 6) (tt := tYes) (tt1 := tYes) (wi1 := iList K (tCall (sp__plain_ones 4) [] E0 (tCons (tVar 5) tNil))) rfl sc__few_and_turn.nd rfl rfl (sw_true rfl rfl rfl (by decide +kernel)) (pi_list (pv 0)) (blkOk_by (own := [("condition", 5), ("plain", 6)]) (N := ["conditions", "few", "turn", "plain_ones", "row", "condition", "plain"]) (sc := (defScope s__few_and_turn)) (by decide +kernel)) (by decide) (fun _ _ _ _ _ => (pg_name (i := 5) sc__few_and_turn.nd rfl (Or.inl rfl))) (fun _ _ _ _ _ => pts_nil) (fun _ _ _ _ _ => by exact (pi_list (pe_call G__plain_ones (hr.mono (by omega)) (by rfl) T.m__plain_ones T.F__plain_ones.kp T.b__plain_ones .nil pass0 (pa_cons (pv 5) pa_nil)))) (fun _ _ _ _ _ => (pg_name (i := 6) sc__few_and_turn.nd rfl (Or.inl rfl))) (fun _ _ _ _ _ => pts_nil) (fun _ _ _ _ _ => (pv 6))) (pss_cons (ps_for PassesOwn.never rfl (pi_list (pv 3)) (pg_name (i := 4) sc__few_and_turn.nd rfl (Or.inl rfl)) (pss_one (ps_if (pt_cmpR op_eq (pe_ix ix_tup (pv 4) pe_int (fun _ _ => rfl)) pe_str (nomark _)) (pss_one (ps_set (i := 1) sc__few_and_turn.nd rfl (Or.inl rfl) (pe_callB (call_max2 rfl) (by rfl) T.z_max (by decide +kernel) (pa_cons (pv 1) (pa_cons (pe_ix ix_tup (pv 4) pe_int (fun _ _ => rfl)) pa_nil))))) (pss_one (ps_set (i := 2) sc__few_and_turn.nd rfl (Or.inl rfl) (pe_callBfun cr_lcm (by rfl) T.g_lcm (pa_cons (pv 2) (pa_cons (pe_ix ix_tup (pv 4) pe_int (fun _ _ => rfl)) pa_nil)))))))) (pss_one (ps_ret (pe_tup (pa_cons (pv 1) (pa_cons (pv 2) pa_nil))))))))), ?_⟩
  have lw := hws.len
  rw [List.length_map] at lw
  refine ⟨_, rfl, a, rfl, ⟨_, SqL.of ha⟩, fun D hD => ?_⟩
  refine lc_outer (xs := ws) (fun i H2 => ∃ acc, H2 D = some (.lst acc) ∧ acc.length ≤ 100 * i ∧ DtAll (fun b => b ≠ D) H2 acc (((cs.take i).flatMap Cd.plains).map Cd.dat) ∧ Same H H2) ⟨[], upd_same, Nat.le_refl _, .nil, same_new hD⟩ (fun i H2 _ ⟨_, _, _, _, s⟩ => SqL.of (s _ _ ha)) ?_ ?_
  · rintro i y H2 hy ⟨acc, g1, gl, g2, g3⟩
    obtain ⟨dy, hdy, hy2⟩ := hws.getV hy
    rw [List.getElem?_map] at hdy
    cases hc : cs[i]? with
    | none => rw [hc] at hdy; cases hdy
    | some c1 =>
    rw [hc] at hdy
    cases hdy
    have hi := (List.getElem?_eq_some_iff.mp hc).1
    obtain ⟨co, cd⟩ := hcs c1 (List.mem_of_getElem? hc)
    have pl : c1.plains.length ≤ 2 ^ 4 := Nat.le_trans (plains_len c1) (Nat.pow_le_pow_right (by decide) cd)
    refine ⟨rfl, _, rfl, y, c1, fun b => b ≠ D, rfl, ((hy2.off hD).weak fun b h => h.2).same g3, cd, by decide, fun r us H3 s3 hr3 kr offD => ?_⟩
    have g13 := s3 _ _ g1
    have nrD : r ≠ D := fun z => by rw [z, g1] at hr3; cases hr3
    have lu := offD.len
    rw [List.length_map] at lu
    refine ⟨r, rfl, ⟨_, SqL.of kr⟩, ?_⟩
    refine lc_outer (xs := us) (fun j H4 => H4 D = some (.lst (acc ++ us.take j)) ∧ DtAll (fun b => b ≠ D) H4 acc (((cs.take i).flatMap Cd.plains).map Cd.dat) ∧ DtAll (fun b => b ≠ D) H4 us (c1.plains.map Cd.dat) ∧ Same H H4 ∧ H4 r = some (.lst us))
      ⟨by simpa using g13, g2.same s3, offD, g3.trans s3, kr⟩ (fun j H4 _ ⟨_, _, _, _, h⟩ => SqL.of h) ?_ ?_
    · rintro j z H4 hz ⟨k1, k2, k3, k4, k5⟩
      have hj := (List.getElem?_eq_some_iff.mp hz).1
      refine ⟨rfl, _, rfl, _, k1, ?_, ?_, k2.keep (upd_keep fun b h => h), k3.keep (upd_keep fun b h => h), same_add k4 hD, ?_⟩
      · rw [List.length_append, List.length_take]
        exact Nat.lt_of_le_of_lt (show _ ≤ 1000000 by omega) (by decide)
      · rw [upd_same, take_succ_of hz, List.append_assoc]
      · rw [upd_ne nrD]; exact k5
    · rintro H4 ⟨k1, k2, k3, k4, k5⟩
      rw [List.take_length] at k1
      refine ⟨acc ++ us, k1, by rw [List.length_append]; omega, ?_, k4⟩
      rw [flat_take _ hc, List.map_append]
      exact dtAll_app k2 k3
  · rintro H2 ⟨acc, g1, gl, g2, g3⟩
    rw [lw, List.take_length] at g2
    have pk : ∀ p ∈ cs.flatMap Cd.plains, isPlain p ∧ p.ok n := fun p hp => by
      obtain ⟨c, hc, hp⟩ := List.mem_flatMap.mp hp
      exact plains_plain n c (hcs c hc).1 p hp
    have lg := g2.len
    rw [List.length_map] at lg
    unfold fewC turnC at q
    generalize cs.flatMap Cd.plains = pl at *
    refine ⟨_, rfl, D, rfl, ⟨_, SqL.of g1⟩, for_list (xs := acc) (fun i σ H' => ∃ y4 y5 y6, σ = [some (.ref a), some (nI (fewP 0 (pl.take i))), some (nI (turnP 1 (pl.take i))), some (.ref D), y4, y5, y6] ∧ Same H2 H') ⟨_, _, _, rfl, Same.refl _⟩ (fun i σ H' _ ⟨_, _, _, _, s⟩ => SqL.of (s _ _ g1)) ?_ ?_⟩
    · rintro i x σ H3 hx ⟨y4, y5, y6, rfl, s3⟩
      obtain ⟨dx, hdx, hx2⟩ := g2.getV hx
      rw [List.getElem?_map] at hdx
      cases hc : pl[i]? with
      | none => rw [hc] at hdx; cases hdx
      | some c1 =>
      rw [hc] at hdx
      cases hdx
      obtain ⟨cp, co⟩ := pk c1 (List.mem_of_getElem? hc)
      have fl := fewP_le (n := n) (pl.take i) 0 (by decide) fun c hc => (pk c (List.mem_of_mem_take hc)).2
      obtain ⟨t1, t12⟩ := le12 (turnP_12 (n := n) (pl.take i) 1 (by decide) fun c hc => (pk c (List.mem_of_mem_take hc)).2)
      have hx3 := hx2.same s3
      cases c1 with
      | least w b =>
        cases hx3 with
        | @tup p xs _ e _ l r =>
        cases r with
        | cons r0 r1 =>
        cases r0
        cases r1 with
        | cons r1 r2 =>
        cases r2 with
        | cons r2 r3 =>
        cases r2
        obtain ⟨_, b0, b4⟩ := co
        refine ⟨_, rfl, p, _, 0, _, rfl, rfl, SqT.of e, atI_nat (j := 0) rfl, rfl, _, rfl, ?_⟩
        refine eqT rfl ⟨_, rfl, _, rfl, p, _, 2, _, rfl, rfl, SqT.of e, atI_nat (j := 2) rfl, _, _, rfl, ?_⟩
        refine ⟨some (.ref p), y5, y6, ?_, s3⟩
        have e1 : fewP 0 (pl.take (i + 1)) = max (fewP 0 (pl.take i)) b.toNat := by rw [take_succ_of hc, fewP_app]; rfl
        have e2 : turnP 1 (pl.take (i + 1)) = turnP 1 (pl.take i) := by rw [take_succ_of hc, turnP_app]; rfl
        have e3 : (if b > ((fewP 0 (pl.take i) : Nat) : Int) then b else ((fewP 0 (pl.take i) : Nat) : Int)) = ((max (fewP 0 (pl.take i)) b.toNat : Nat) : Int) := by split <;> omega
        rw [e1, e2]
        show List.set _ 1 (some (V.int (if b > ((fewP 0 (pl.take i) : Nat) : Int) then b else ((fewP 0 (pl.take i) : Nat) : Int)))) = _
        rw [e3]
        rfl
      | turns w m z =>
        cases hx3 with
        | @tup p xs _ e _ l r =>
        cases r with
        | cons r0 r1 =>
        cases r0
        cases r1 with
        | cons r1 r2 =>
        cases r2 with
        | cons r2 r3 =>
        cases r2
        obtain ⟨_, m1, m4, _⟩ := co
        refine ⟨_, rfl, p, _, 0, _, rfl, rfl, SqT.of e, atI_nat (j := 0) rfl, rfl, _, rfl, ?_⟩
        have em : (m : Int) = ((m.toNat : Nat) : Int) := by omega
        refine eqF (sne (by decide +kernel)) ⟨_, rfl, _, rfl, p, _, 2, _, rfl, rfl, SqT.of e, atI_nat (j := 2) rfl, turnP 1 (pl.take i), m.toNat, ?_, by omega, by omega, ?_⟩
        · show [_, V.int m] = [_, V.int _]
          rw [← em]
        refine ⟨some (.ref p), y5, y6, ?_, s3⟩
        have e1 : fewP 0 (pl.take (i + 1)) = fewP 0 (pl.take i) := by rw [take_succ_of hc, fewP_app]; rfl
        have e2 : turnP 1 (pl.take (i + 1)) = (turnP 1 (pl.take i)).lcm m.toNat := by rw [take_succ_of hc, turnP_app]; rfl
        rw [e1, e2]
        rfl
      | _ => exact cp.elim
    · rintro σ H3 ⟨y4, y5, y6, rfl, s3⟩
      rw [show acc.length = pl.length from lg, List.take_length]
      refine ⟨_, rfl, _, rfl, (by show 2 ≤ sizeLine; decide), fun p hp => ?_⟩
      exact q p _ ((g3.trans s3).trans (same_new hp)) upd_same
end


def rowsTo : Nat → Nat → List (List Nat)
  | 0, _ => [[]]
  | n + 1, k => (rowsTo n k).flatMap fun r => (List.range k).map fun x => r ++ [x]
def keysOf (L : Str) (n k : Nat) : List (Nat × List Nat) := L.cps.toList.flatMap fun c => (rowsTo n k).map fun r => (c, r)
def RowsAt (H : Hp) (as : List Addr) (rows : List (List Nat)) : Prop := Paired (fun (a : Addr) (row : List Nat) => H a = some (.tup (row.map nI))) as rows
def KeysAt (H : Hp) (bs : List Addr) (keys : List (Nat × List Nat)) : Prop := Paired (fun (b : Addr) (key : Nat × List Nat) => ∃ a, H b = some (.tup [.str (ch key.1), .ref a]) ∧ H a = some (.tup (key.2.map nI))) bs keys
theorem ext_len (k : Nat) : ∀ l : List (List Nat), (l.flatMap fun r => (List.range k).map fun x => r ++ [x]).length = l.length * k
  | [] => by simp
  | a :: t => by rw [List.flatMap_cons, List.length_append, List.length_map, List.length_range, ext_len k t, List.length_cons, Nat.succ_mul, Nat.add_comm]
theorem rowsTo_len (k : Nat) : ∀ n, (rowsTo n k).length = k ^ n
  | 0 => rfl
  | n + 1 => by rw [rowsTo, ext_len, rowsTo_len k n, Nat.pow_succ]
theorem rowsTo_mem {k : Nat} : ∀ {n : Nat} {r : List Nat}, r ∈ rowsTo n k → r.length = n ∧ ∀ x ∈ r, x < k
  | 0, r, h => by simp [rowsTo] at h; subst h; simp
  | n + 1, r, h => by
    simp only [rowsTo, List.mem_flatMap, List.mem_map, List.mem_range] at h
    obtain ⟨r0, h0, x, hx, rfl⟩ := h
    obtain ⟨a, b⟩ := rowsTo_mem h0
    refine ⟨by simp [a], fun y hy => ?_⟩
    rcases List.mem_append.mp hy with hy | hy
    · exact b y hy
    · rw [List.mem_singleton.mp hy]; exact hx
theorem prd_app {α β : Type} {F : α → β → Prop} : ∀ {as cs : List α} {bs ds : List β}, Paired F as bs → Paired F cs ds → Paired F (as ++ cs) (bs ++ ds)
  | _, _, _, _, .nil, y => y
  | _, _, _, _, .cons r t, y => .cons r (prd_app t y)
theorem prd_at {α β : Type} {F : α → β → Prop} : ∀ {as : List α} {bs : List β} {i : Nat} {a : α}, Paired F as bs → as[i]? = some a → ∃ b, bs[i]? = some b ∧ F a b
  | _, _, 0, _, .cons r _, h => by cases h; exact ⟨_, rfl, r⟩
  | _, _, i + 1, _, .cons _ t, h => by
    rw [List.getElem?_cons_succ] at h
    obtain ⟨b, h1, h2⟩ := prd_at t h
    exact ⟨b, by rw [List.getElem?_cons_succ]; exact h1, h2⟩
theorem RowsAt.keep {H H' : Hp} {as : List Addr} {rows : List (List Nat)} (x : RowsAt H as rows) (h : ∀ b xs, H b = some (.tup xs) → H' b = some (.tup xs)) : RowsAt H' as rows := Paired.mapP x fun _ _ e => h _ _ e
theorem KeysAt.keep {H H' : Hp} {as : List Addr} {ks : List (Nat × List Nat)} (x : KeysAt H as ks) (h : ∀ b xs, H b = some (.tup xs) → H' b = some (.tup xs)) : KeysAt H' as ks := Paired.mapP x fun _ _ ⟨a, e1, e2⟩ => ⟨a, h _ _ e1, h _ _ e2⟩
theorem upd_tup {H : Hp} {D : Addr} {xs : List V} {o : HO} (hD : H D = some (.lst xs)) : ∀ b ys, H b = some (.tup ys) → (upd H D o) b = some (.tup ys) := fun b ys e => by
  rw [upd_ne (fun z => by rw [z, hD] at e; cases e)]
  exact e
theorem lc_walk {J : It} {len : Nat} {G : Hp → Prop} {Y : Nat → Hp → V → Hp → Prop} (wk : Walk J len G Y) {Bd : V → Hp → (Hp → Prop) → Prop} {Qd : Hp → Prop} {H0 : Hp} (Pv : Nat → Hp → Prop) (h0 : Pv 0 H0) (hp : ∀ i H, i ≤ len → Pv i H → G H)
    (hs : ∀ i x H H', i < len → Pv i H → Y i H x H' → Bd x H' (Pv (i + 1))) (hd : ∀ H, Pv len H → Qd H) :
    ∃ W : Nat → Nat → Hp → Prop, (∃ m, W 0 m H0) ∧ ∀ i m H, W i m H → (J.stop i H ∧ Qd H) ∨ (J.go i H ∧ ∃ Nx : Hp → Prop, (∀ H', Nx H' → ∃ m', m' < m ∧ W (i + 1) m' H') ∧ ∀ x H', J.yld i H x H' → Bd x H' Nx) := by
  refine ⟨fun i m H => m = len - i ∧ i ≤ len ∧ Pv i H, ⟨len, by simp, Nat.zero_le _, h0⟩, ?_⟩
  rintro i m H ⟨rfl, hi, p⟩
  have g := hp i H hi p
  rcases Nat.lt_or_ge i len with lt | ge
  · exact .inr ⟨wk.goes i H lt g, Pv (i + 1), fun H' p' => ⟨_, by omega, rfl, lt, p'⟩, fun x H' y => hs i x H H' lt p (wk.yields i H x H' lt g y)⟩
  · obtain rfl : i = len := by omega
    exact .inl ⟨wk.stops H g, hd H p⟩
def sp_tuples_due : Sp := fun vs H Q _ => ∃ (L : Str) (n k : Nat), vs = [.str L, nI n, nI k] ∧ L.length ≤ 26 ∧ n ≤ 6 ∧ k ≤ 20 ∧ Q (nI (L.length * k ^ n)) H
def sp_class_rows : Sp := fun vs H Q _ => ∃ (n k : Nat), vs = [nI n, nI k] ∧ n ≤ 6 ∧ 1 ≤ k ∧ k ≤ 20 ∧ k ^ n ≤ 600 ∧ ∀ r as H', Same H H' → H r = none → H' r = some (.lst (as.map V.ref)) → RowsAt H' as (rowsTo n k) → Q (.ref r) H'
def sp_keys_due : Sp := fun vs H Q _ => ∃ (L : Str) (n k : Nat), vs = [.str L, nI n, nI k] ∧ Lets L ∧ n ≤ 6 ∧ 1 ≤ k ∧ k ≤ 20 ∧ L.length * k ^ n ≤ 600 ∧ ∀ r bs H', Same H H' → H r = none → H' r = some (.lst (bs.map V.ref)) → KeysAt H' bs (keysOf L n k) → Q (.ref r) H'
section
variable {P : Program} {w : World} {K : PySem.W.Frag} {mg : Str → Option Value} {base : Heap}
theorem ok_tuples_due (T : Txt K mg) : FnOk P w K mg base CX0 1 T.f_tuples_due T.d_tuples_due ["letters", "states", "classes"] sp_tuples_due := by
  refine T.F_tuples_due.ok sc_tuples_due (fun vs H Q E h => ?_) (fun cdv A outer s H vs Q E hr h => ?_)
  · obtain ⟨L, n, k, rfl, _⟩ := h
    rfl
  obtain ⟨L, n, k, rfl, hl, h6, k20, q⟩ := h
  refine ⟨_, (pss_cons (ps_set (i := 3) sc_tuples_due.nd rfl (Or.inl rfl) (pe_callB call_len_str (by rfl) T.z_len PySem.boot_len (pa_cons (pv 0) pa_nil))) (pss_cons (ps_for PassesOwn.never rfl (pi_range1 (by rfl) T.z_range (pa_cons (pv 1) pa_nil)) (pg_name (i := 4) sc_tuples_due.nd rfl (Or.inl rfl)) (pss_one (ps_set (i := 3) sc_tuples_due.nd rfl (Or.inl rfl) (pe_op op_mul (pv 3) (pv 2))))) (pss_one (ps_ret (pv 3))))), ?_⟩
  refine ⟨_, rfl, L, rfl, Nat.le_of_lt (Nat.lt_of_le_of_lt (show _ ≤ 1000000 by omega) (by decide)), _, rfl, n, rfl, by omega, by omega, for_range (lo := 0) (n := n) (fun i σ H' => ∃ y4, σ = [some (.str L), some (nI n), some (nI k), some (nI (L.length * k ^ i)), y4] ∧ H' = H) ⟨_, by rw [Nat.pow_zero, Nat.mul_one]; rfl, rfl⟩ ?_ ?_⟩
  · rintro i σ H1 hi ⟨y4, rfl, rfl⟩
    refine ⟨_, rfl, _, rfl, _, _, rfl, rfl, .inr ⟨by omega, by omega⟩, ?_⟩
    refine ⟨some (V.int (0 + (i : Int))), ?_, rfl⟩
    have e : ((L.length * k ^ i : Nat) : Int) * (k : Int) = ((L.length * k ^ (i + 1) : Nat) : Int) := by
      rw [Nat.pow_succ, ← Nat.mul_assoc]
      push_cast
      rfl
    show ([some (V.str L), some (nI n), some (nI k), some (V.int (((L.length * k ^ i : Nat) : Int) * (k : Int))), some (V.int (0 + (i : Int)))] : List (Option V)) = _
    rw [e]
  · rintro σ H1 ⟨y4, rfl, rfl⟩
    exact ⟨_, rfl, q⟩
theorem ok_class_rows (T : Txt K mg) : FnOk P w K mg base CX0 1 T.f_class_rows T.d_class_rows ["states", "classes"] sp_class_rows := by
  refine T.F_class_rows.ok sc_class_rows (fun vs H Q E h => ?_) (fun cdv A outer s H vs Q E hr h => ?_)
  · obtain ⟨n, k, rfl, _⟩ := h
    rfl
  obtain ⟨n, k, rfl, h6, k1, k20, h600, q⟩ := h
  refine ⟨_, (pss_cons (ps_set (i := 2) sc_class_rows.nd rfl (Or.inl rfl) (pe_lst (pa_cons (pe_tup pa_nil) pa_nil))) (pss_cons (ps_for PassesOwn.never rfl (pi_range1 (by rfl) T.z_range (pa_cons (pv 0) pa_nil)) (pg_name (i := 3) sc_class_rows.nd rfl (Or.inl rfl)) (pss_one (ps_setLc2 (i := 2) (own := [("row", 4), ("number", 5)]) (vs1 := [5]) (g := gName 4) (g1 := gName 5) (tt := tYes) (tt1 := tYes) (wi1 := iRng1 (tCons (tVar 1) tNil)) (te := tTup (StX.tStar K (tVar 4) (tCons (tVar 5) tNil))) rfl sc_class_rows.nd rfl rfl (sw_true rfl rfl rfl (by decide +kernel)) (pi_list (pv 2)) (blkOk_by (own := [("row", 4), ("number", 5)]) (N := ["states", "classes", "rows", "_", "row", "number"]) (sc := (defScope s_class_rows)) (by decide +kernel)) (by decide) (fun _ _ _ _ _ => (pg_name (i := 4) sc_class_rows.nd rfl (Or.inl rfl))) (fun _ _ _ _ _ => pts_nil) (fun _ _ _ _ _ => (pi_range1 (by rfl) T.z_range (pa_cons (pv 1) pa_nil))) (fun _ _ _ _ _ => (pg_name (i := 5) sc_class_rows.nd rfl (Or.inl rfl))) (fun _ _ _ _ _ => pts_nil) (fun _ _ _ _ _ => (pe_tup (StX.pa_star (pv 4) (pa_cons (pv 5) pa_nil))))))) (pss_one (ps_ret (pv 2))))), ?_⟩
  refine ⟨(by show 0 ≤ sizeLine; decide), fun p0 hp0 => ⟨(by show 1 ≤ sizeLine; decide), fun r0 hr0 => ?_⟩⟩
  have s0 := (same_new (o := .tup []) hp0).trans (same_new (o := .lst [V.ref p0]) hr0)
  have kp0 := same_new (o := .lst [V.ref p0]) hr0 _ _ (upd_same (H := H) (a := p0) (o := .tup []))
  have kr0 := upd_same (H := upd H p0 (.tup [])) (a := r0) (o := .lst [V.ref p0])
  have fr0 := (same_new (o := .tup []) hp0).free hr0
  generalize upd (upd H p0 (.tup [])) r0 (.lst [V.ref p0]) = H0 at *
  refine ⟨_, rfl, n, rfl, by omega, by omega, for_range (lo := 0) (n := n) (fun i σ H' => ∃ (r : Addr) (as : List Addr) (y3 y4 y5 : Option V), σ = [some (nI n), some (nI k), some (.ref r), y3, y4, y5] ∧ H' r = some (.lst (as.map V.ref)) ∧ RowsAt H' as (rowsTo i k) ∧ Same H H' ∧ H r = none) ⟨r0, [p0], none, none, none, rfl, kr0, .cons kp0 .nil, s0, fr0⟩ ?_ ?_⟩
  · rintro i σ H1 hi ⟨r, as, y3, y4, y5, rfl, hr1, ha, s1, fr1⟩
    have la : as.length = k ^ i := by rw [Paired.length ha, rowsTo_len]
    have pw : k ^ i ≤ 600 := Nat.le_trans (Nat.pow_le_pow_right k1 (by omega)) h600
    refine ⟨_, rfl, r, rfl, ⟨_, SqL.of hr1⟩, fun D hD => ?_⟩
    have nDr : r ≠ D := ne_of_none hr1 hD
    refine lc_outer (xs := as.map V.ref) (fun j H2 => ∃ bs : List Addr, H2 D = some (.lst (bs.map V.ref)) ∧ RowsAt H2 bs (((rowsTo i k).take j).flatMap fun r => (List.range k).map fun x => r ++ [x]) ∧ RowsAt H2 as (rowsTo i k) ∧ H2 r = some (.lst (as.map V.ref)) ∧ Same H1 H2)
      ⟨[], upd_same, .nil, ha.keep fun b xs e => same_new hD _ _ e, same_new hD _ _ hr1, same_new hD⟩ (fun j H2 _ ⟨_, _, _, _, h, _⟩ => SqL.of h) ?_ ?_
    · rintro j x H2 hx ⟨bs, g1, g2, g3, g4, g5⟩
      rw [List.getElem?_map] at hx
      cases haj : as[j]? with
      | none => rw [haj] at hx; cases hx
      | some aj =>
      rw [haj] at hx
      cases hx
      obtain ⟨row, hrow, kaj⟩ := prd_at g3 haj
      have hj := (List.getElem?_eq_some_iff.mp haj).1
      have lb := Paired.length g2
      rw [ext_len, List.length_take, rowsTo_len] at lb
      have lb2 : bs.length ≤ 600 * 20 := by rw [lb]; exact Nat.mul_le_mul (Nat.le_trans (Nat.min_le_right _ _) pw) k20
      refine ⟨rfl, _, rfl, k, rfl, by omega, by omega, ?_⟩
      refine lc_walk (len := k) (walk_range (lo := 0)) (fun m H3 => ∃ cs : List Addr, H3 D = some (.lst ((bs ++ cs).map V.ref)) ∧ RowsAt H3 bs (((rowsTo i k).take j).flatMap fun r => (List.range k).map fun x => r ++ [x]) ∧ RowsAt H3 cs ((List.range m).map fun x => row ++ [x]) ∧ RowsAt H3 as (rowsTo i k) ∧ H3 r = some (.lst (as.map V.ref)) ∧ H3 aj = some (.tup (row.map nI)) ∧ Same H1 H3)
        ⟨[], by simpa using g1, g2, .nil, g3, g4, kaj, g5⟩ (fun _ _ _ _ => trivial) ?_ ?_
      · rintro m z H3 H4 hm ⟨cs, k1', k2, k3, k4, k5, k6, k7⟩ ⟨rfl, rfl⟩
        have lc := Paired.length k3
        rw [List.length_map, List.length_range] at lc
        refine ⟨rfl, _, rfl, aj, _, rfl, .inl (SqT.of k6), _, rfl, ?_, fun b hb => ?_⟩
        · rw [List.length_append, List.length_map, (rowsTo_mem (List.mem_of_getElem? hrow)).1]
          exact Nat.le_of_lt (Nat.lt_of_le_of_lt (show _ ≤ 1000000 by simp; omega) (by decide))
        have sb := same_new (o := .tup (row.map nI ++ [V.int (0 + (m : Int))])) hb
        have kb := upd_same (H := H4) (a := b) (o := .tup (row.map nI ++ [V.int (0 + (m : Int))]))
        generalize upd H4 b (.tup (row.map nI ++ [V.int (0 + (m : Int))])) = H5 at *
        have kD := sb _ _ k1'
        have tk := upd_tup (o := .lst ((bs ++ cs).map V.ref ++ [V.ref b])) kD
        refine ⟨_, kD, ?_, cs ++ [b], ?_, (k2.keep fun b xs e => sb _ _ e).keep tk, ?_, (k4.keep fun b xs e => sb _ _ e).keep tk, ?_, tk _ _ (sb _ _ k6), same_add (k7.trans sb) hD⟩
        · rw [List.length_map, List.length_append, lc]
          exact Nat.lt_of_le_of_lt (show _ ≤ 1000000 by omega) (by decide)
        · rw [upd_same, ← List.append_assoc, List.map_append (l₂ := [b])]
          rfl
        · rw [List.range_succ, List.map_append (f := fun x => row ++ [x])]
          refine prd_app ((RowsAt.keep k3 fun b xs e => sb _ _ e).keep tk) (.cons ?_ .nil)
          have e : row.map nI ++ [V.int (0 + (m : Int))] = (row ++ [m]).map nI := by rw [List.map_append, Int.zero_add]; rfl
          rw [← e]
          exact tk _ _ kb
        · rw [upd_ne nDr]; exact sb _ _ k5
      · rintro H3 ⟨cs, k1', k2, k3, k4, k5, k6, k7⟩
        refine ⟨bs ++ cs, k1', ?_, k4, k5, k7⟩
        rw [flat_take _ hrow]
        exact prd_app k2 k3
    · rintro H2 ⟨bs, g1, g2, g3, g4, g5⟩
      rw [List.length_map, la, ← rowsTo_len k i, List.take_length] at g2
      exact ⟨D, bs, _, _, _, rfl, g1, g2, s1.trans g5, s1.free hD⟩
  · rintro σ H1 ⟨r, as, y3, y4, y5, rfl, hr1, ha, s1, fr1⟩
    exact ⟨_, rfl, q r as H1 s1 fr1 hr1 ha⟩
theorem ok_keys_due (T : Txt K mg) : FnOk P w K mg base CX0 2 T.f_keys_due T.d_keys_due ["letters", "states", "classes"] sp_keys_due := by
  have G_class_rows : FnOk P w K mg base CX0 1 T.f_class_rows T.d_class_rows ["states", "classes"] sp_class_rows := ok_class_rows T
  refine T.F_keys_due.ok sc_keys_due (fun vs H Q E h => ?_) (fun cdv A outer s H vs Q E hr h => ?_)
  · obtain ⟨L, n, k, rfl, _⟩ := h
    rfl
  obtain ⟨L, n, k, rfl, hL, h6, k1, k20, h600, q⟩ := h
  refine ⟨_, (pss_cons (ps_set (i := 3) sc_keys_due.nd rfl (Or.inr rfl) (pe_call G_class_rows (hr.mono (by omega)) (by rfl) T.m_class_rows T.F_class_rows.kp T.b_class_rows .nil pass0 (pa_cons (pv 1) (pa_cons (pv 2) pa_nil)))) (pss_one (ps_ret (pe_lc2 (own := [("letter", 4), ("row", 5)]) (vs1 := [5]) (g := gName 4) (g1 := gName 5) (tt := tYes) (tt1 := tYes) (wi1 := iList K (tVar 3)) (te := tTup (tCons (tVar 4) (tCons (tVar 5) tNil))) rfl sc_keys_due.nd (pi_str (pv 0)) (blkOk_by (own := [("letter", 4), ("row", 5)]) (N := ["letters", "states", "classes", "rows", "letter", "row"]) (sc := (defScope s_keys_due)) (by decide +kernel)) (by decide) (fun _ _ _ _ _ => (pg_name (i := 4) sc_keys_due.nd rfl (Or.inl rfl))) (fun _ _ _ _ _ => pts_nil) (fun _ _ _ _ _ => (pi_list (pv 3))) (fun _ _ _ _ _ => (pg_name (i := 5) sc_keys_due.nd rfl (Or.inl rfl))) (fun _ _ _ _ _ => pts_nil) (fun _ _ _ _ _ => (pe_tup (pa_cons (pv 4) (pa_cons (pv 5) pa_nil)))))))), ?_⟩
  have l1 := hL.1
  have hk : k ^ n ≤ 600 := Nat.le_trans (Nat.le_mul_of_pos_left _ l1) h600
  refine ⟨_, rfl, _, rfl, n, k, rfl, h6, k1, k20, hk, fun r as H1 s1 hr0 hr1 ha => ?_⟩
  refine ⟨_, rfl, L, rfl, fun D hD => ?_⟩
  have la : as.length = k ^ n := by rw [Paired.length ha, rowsTo_len]
  have nDr : r ≠ D := ne_of_none hr1 hD
  have lsz : L.cps.size = L.cps.toList.length := (Array.length_toList).symm
  have l26 : L.cps.toList.length ≤ 26 := by rw [← lsz]; exact hL.2.1
  refine lc_walk (len := L.cps.size) walk_str (fun j H2 => ∃ bs : List Addr, H2 D = some (.lst (bs.map V.ref)) ∧ KeysAt H2 bs ((L.cps.toList.take j).flatMap fun c => (rowsTo n k).map fun r => (c, r)) ∧ RowsAt H2 as (rowsTo n k) ∧ H2 r = some (.lst (as.map V.ref)) ∧ bs.length ≤ 600 * j ∧ Same H1 H2)
    ⟨[], upd_same, .nil, ha.keep fun b xs e => same_new hD _ _ e, same_new hD _ _ hr1, Nat.zero_le _, same_new hD⟩ (fun _ _ _ _ => trivial) ?_ ?_
  · rintro j x H2 H2' hj ⟨bs, g1, g2, g3, g4, g5, g6⟩ ⟨rfl, c, hc, rfl⟩
    have hc2 : L.cps.toList[j]? = some c := by rw [Array.getElem?_toList]; exact hc
    refine ⟨rfl, _, rfl, r, rfl, ⟨_, SqL.of g4⟩, ?_⟩
    refine lc_outer (xs := as.map V.ref) (fun m H3 => ∃ cs : List Addr, H3 D = some (.lst ((bs ++ cs).map V.ref)) ∧ KeysAt H3 bs ((L.cps.toList.take j).flatMap fun c => (rowsTo n k).map fun r => (c, r)) ∧ KeysAt H3 cs (((rowsTo n k).take m).map fun r => (c, r)) ∧ RowsAt H3 as (rowsTo n k) ∧ H3 r = some (.lst (as.map V.ref)) ∧ Same H1 H3)
      ⟨[], by simpa using g1, g2, .nil, g3, g4, g6⟩ (fun m H3 _ ⟨_, _, _, _, _, h, _⟩ => SqL.of h) ?_ ?_
    · rintro m z H3 hz ⟨cs, k1', k2, k3, k4, k5, k7⟩
      rw [List.getElem?_map] at hz
      cases ham : as[m]? with
      | none => rw [ham] at hz; cases hz
      | some am =>
      rw [ham] at hz
      cases hz
      obtain ⟨row, hrow, kam⟩ := prd_at k4 ham
      have lc := Paired.length k3
      rw [List.length_map, List.length_take, rowsTo_len] at lc
      refine ⟨rfl, _, rfl, _, rfl, (by show 2 ≤ sizeLine; decide), fun b hb => ?_⟩
      have sb := same_new (o := .tup [.str ⟨#[c]⟩, V.ref am]) hb
      have kb := upd_same (H := H3) (a := b) (o := .tup [.str ⟨#[c]⟩, V.ref am])
      generalize upd H3 b (.tup [.str ⟨#[c]⟩, V.ref am]) = H5 at *
      have kD := sb _ _ k1'
      have tk := upd_tup (o := .lst ((bs ++ cs).map V.ref ++ [V.ref b])) kD
      refine ⟨_, kD, ?_, cs ++ [b], ?_, (k2.keep fun b xs e => sb _ _ e).keep tk, ?_, (k4.keep fun b xs e => sb _ _ e).keep tk, ?_, same_add (k7.trans sb) hD⟩
      · rw [List.length_map, List.length_append]
        have : j < 26 := by omega
        exact Nat.lt_of_le_of_lt (show _ ≤ 1000000 by omega) (by decide)
      · rw [upd_same, ← List.append_assoc, List.map_append (l₂ := [b])]
        rfl
      · rw [take_succ_of hrow, List.map_append (f := fun r => (c, r))]
        exact prd_app ((KeysAt.keep k3 fun b xs e => sb _ _ e).keep tk) (.cons ⟨am, tk _ _ kb, tk _ _ (sb _ _ kam)⟩ .nil)
      · rw [upd_ne nDr]; exact sb _ _ k5
    · rintro H3 ⟨cs, k1', k2, k3, k4, k5, k7⟩
      rw [List.length_map, la, ← rowsTo_len k n, List.take_length] at k3
      have lc := Paired.length k3
      rw [List.length_map, rowsTo_len] at lc
      refine ⟨bs ++ cs, k1', ?_, k4, k5, by rw [List.length_append]; omega, k7⟩
      rw [flat_take _ hc2]
      exact prd_app k2 k3
  · rintro H2 ⟨bs, g1, g2, g3, g4, g5, g6⟩
    rw [lsz, List.take_length] at g2
    exact q D bs H2 (s1.trans g6) (s1.free hD) g1 g2
end

def keyN (c : Nat) (row : List Nat) : NestedKey := .tup [.text (ch c), .tup (row.map fun x : Nat => .num (x : Int))]
def RowsJ (xs : List NRow) (keys : List (Nat × List Nat)) (fs : Nat → List Nat → Nat) : Prop := Paired (fun (x : NRow) (key : Nat × List Nat) => x.1 = keyN key.1 key.2 ∧ x.2.2 = nI (fs key.1 key.2)) xs keys
def Rises (L : Str) : Prop := L.cps.toList.Pairwise (· < ·)
def sp_at (L : Str) (n : Nat) (fs : Nat → List Nat → Nat) : Sp := fun vs H Q _ => ∃ (c : Nat) (b : Addr) (row : List Nat), vs = [.str (ch c), .ref b] ∧ c ∈ L.cps.toList ∧ row.length = n ∧ H b = some (.tup (row.map nI)) ∧ ∀ H', Same H H' → Q (nI (fs c row)) H'
def sp_table_made (P : Program) (w : World) (K : PySem.W.Frag) (mg : Str → Option Value) (base : Heap) : Sp := fun vs H Q _ => ∃ (L : Str) (n few turn : Nat) (f : Addr) (fs : Nat → List Nat → Nat), vs = [.str L, nI n, nI few, nI turn, .ref f] ∧ Lets L ∧ Rises L ∧ n ≤ 6 ∧ few ≤ 4 ∧ 1 ≤ turn ∧ turn ≤ 4 ∧ L.length * (few + turn) ^ n ≤ 600 ∧
  CalX P w K mg base 8 f (fun H' => Same H H') 2 (sp_at L n fs) ∧ ∀ d xs H', Same H H' → H d = none → H' d = some (DictN P w d xs) → RowsN H' xs → RowsJ xs (keysOf L n (few + turn)) fs → Q (.ref d) H'
theorem ch_inj {a b : Nat} (h : ch a = ch b) : a = b := by
  have := congrArg (fun s : Str => s.cps.toList) h
  simpa [ch] using this
theorem keyN_inj {c c' : Nat} {r r' : List Nat} (h : keyN c r = keyN c' r') : c = c' ∧ r = r' := by
  unfold keyN at h
  injection h with h
  injection h with h1 h2
  injection h1 with h1
  injection h2 with h2
  injection h2 with h2
  refine ⟨ch_inj h1, ?_⟩
  clear h1
  induction r generalizing r' with
  | nil => cases r' with | nil => rfl | cons a b => cases h2
  | cons a b ih => cases r' with
    | nil => cases h2
    | cons a' b' =>
      rw [List.map_cons, List.map_cons] at h2
      injection h2 with e1 e2
      injection e1 with e1
      rw [ih e2, show a = a' by omega]
theorem keyN_depth (c : Nat) (r : List Nat) : (keyN c r).depth ≤ 8 := by
  have : ∀ r : List Nat, NestedKey.depthAll (r.map fun x : Nat => NestedKey.num (x : Int)) ≤ 1 := by
    intro r
    induction r with
    | nil => simp [NestedKey.depthAll]
    | cons a b ih => simp only [List.map_cons, NestedKey.depthAll, NestedKey.depth]; omega
  have := this r
  simp only [keyN, NestedKey.depth, NestedKey.depthAll]
  omega
theorem nk_nums {H : Hp} : ∀ r : List Nat, NKs H (r.map fun x : Nat => .num (x : Int)) (r.map nI)
  | [] => .nil
  | x :: r => .cons (.int _) (nk_nums r)
theorem nk_key {H : Hp} {b a : Addr} {c : Nat} {r : List Nat} (hb : H b = some (.tup [.str (ch c), .ref a])) (ha : H a = some (.tup (r.map nI))) : NK H (keyN c r) (.ref b) := .tup hb (.cons (.text _) (.cons (.tup ha (nk_nums r)) .nil))
theorem rowsTo_nd (k : Nat) : ∀ n, (rowsTo n k).Pairwise (· ≠ ·)
  | 0 => by simp [rowsTo]
  | n + 1 => by
    rw [rowsTo, List.pairwise_flatMap]
    refine ⟨fun r _ => ?_, (rowsTo_nd k n).imp fun {a b} hab x hx y hy e => ?_⟩
    · rw [List.pairwise_map]
      exact List.nodup_range.imp fun h e => h (by simpa using e)
    · simp only [List.mem_map] at hx hy
      obtain ⟨p, _, rfl⟩ := hx
      obtain ⟨q, _, rfl⟩ := hy
      exact hab (List.append_inj' e rfl).1
theorem keysOf_nd {L : Str} (h : Rises L) (n k : Nat) : (keysOf L n k).Pairwise (· ≠ ·) := by
  unfold keysOf
  rw [List.pairwise_flatMap]
  refine ⟨fun c _ => ?_, h.imp fun {a b} hab x hx y hy e => ?_⟩
  · rw [List.pairwise_map]
    exact (rowsTo_nd k n).imp fun h e => h (by simpa using e)
  · simp only [List.mem_map] at hx hy
    obtain ⟨p, _, rfl⟩ := hx
    obtain ⟨q, _, rfl⟩ := hy
    have : a = b := (Prod.mk.inj e).1
    omega
theorem atN_none {xs : List NRow} {k : NestedKey} (h : ∀ x ∈ xs, x.1 ≠ k) : atN xs k = none := by
  unfold atN
  rw [List.find?_eq_none.mpr fun x hx => by simpa using h x hx]
  rfl
theorem storedN_new {xs : List NRow} {k : NestedKey} {b : Addr} {v : V} (h : ∀ x ∈ xs, x.1 ≠ k) : storedN xs k b v = xs ++ [(k, b, v)] := by
  unfold storedN
  rw [atN_none h]
  rfl
theorem prd_mem {α β : Type} {F : α → β → Prop} {as : List α} {bs : List β} {a : α} (p : Paired F as bs) (h : a ∈ as) : ∃ b ∈ bs, F a b := by
  obtain ⟨i, hi⟩ := List.getElem?_of_mem h
  obtain ⟨b, h1, h2⟩ := prd_at p hi
  exact ⟨b, List.mem_of_getElem? h1, h2⟩
theorem ahead_ne {α : Type} {l : List α} {i : Nat} {x : α} (h : l.Pairwise (· ≠ ·)) (hx : l[i]? = some x) : ∀ y ∈ l.take i, y ≠ x := fun y hy e => by
  obtain ⟨j, hj⟩ := List.getElem?_of_mem hy
  have lt := (List.getElem?_eq_some_iff.mp hj).1
  rw [List.length_take] at lt
  rw [List.getElem?_take_of_lt (by omega)] at hj
  have h1 := List.getElem?_eq_some_iff.mp hj
  have h2 := List.getElem?_eq_some_iff.mp hx
  exact (List.pairwise_iff_getElem.mp h) j i h1.1 h2.1 (by omega) (by rw [h1.2, h2.2]; exact e)
theorem dF {p : Prop} {i : Decidable p} {A B : Prop} (h : ¬p) (k : B) : if (@decide p i) = true then A else B := by
  rw [decide_eq_false h]
  exact iteF k
theorem dT {p : Prop} {i : Decidable p} {A B : Prop} (h : p) (k : A) : if (@decide p i) = true then A else B := by
  rw [decide_eq_true h]
  exact iteT k
theorem RowsN.keep {H H' : Hp} {xs : List NRow} (x : RowsN H xs) (h : ∀ b ys, H b = some (.tup ys) → H' b = some (.tup ys)) : RowsN H' xs := fun r hr => ⟨NK.keep h (x r hr).1, (x r hr).2⟩
theorem upd_tupN {H : Hp} {D : Addr} {P : Program} {w : World} {d : Addr} {xs : List NRow} {o : HO} (hD : H D = some (DictN P w d xs)) : ∀ b ys, H b = some (.tup ys) → (upd H D o) b = some (.tup ys) := fun b ys e => by
  rw [upd_ne (fun z => by rw [z, hD] at e; unfold DictN at e; cases e)]
  exact e
theorem upd_lstN {H : Hp} {D : Addr} {P : Program} {w : World} {d : Addr} {xs : List NRow} {o : HO} (hD : H D = some (DictN P w d xs)) : ∀ b ys, H b = some (.lst ys) → (upd H D o) b = some (.lst ys) := fun b ys e => by
  rw [upd_ne (fun z => by rw [z, hD] at e; unfold DictN at e; cases e)]
  exact e
section
variable {P : Program} {w : World} {K : PySem.W.Frag} {mg : Str → Option Value} {base : Heap}
theorem ok_table_made (T : Txt K mg) : FnOk P w K mg base CX0 10 T.f_table_made T.d_table_made ["letters", "states", "few", "turn", "state_at"] (sp_table_made P w K mg base) := by
  have G_tuples_due : FnOk P w K mg base CX0 1 T.f_tuples_due T.d_tuples_due ["letters", "states", "classes"] sp_tuples_due := ok_tuples_due T
  have G_keys_due : FnOk P w K mg base CX0 2 T.f_keys_due T.d_keys_due ["letters", "states", "classes"] sp_keys_due := ok_keys_due T
  refine T.F_table_made.ok sc_table_made (fun vs H Q E h => ?_) (fun cdv A outer s H vs Q E hr h => ?_)
  · obtain ⟨L, n, few, turn, f, fs, rfl, _⟩ := h
    rfl
  obtain ⟨L, n, few, turn, f, fs, rfl, hL, hR, h6, f4, t1, t4, h600, C_state_at, q⟩ := h
  refine ⟨_, (pss_cons (ps_if (pt_cmpR op_gt (pv 3) (pe_glob (v := .int (4)) rfl T.g_MOST_TURN ⟨_, rfl⟩) (nomark _)) (pss_one ps_never) pss_nil) (pss_cons (ps_if (pt_cmpR op_gt (pe_call G_tuples_due (hr.mono (by omega)) (by rfl) T.m_tuples_due T.F_tuples_due.kp T.b_tuples_due .nil pass0 (pa_cons (pv 0) (pa_cons (pv 1) (pa_cons (pe_op op_add (pv 2) (pv 3)) pa_nil)))) (pe_glob (v := .int (600)) rfl T.g_MOST_TUPLES ⟨_, rfl⟩) (nomark _)) (pss_one ps_never) pss_nil) (pss_cons (ps_set (i := 5) sc_table_made.nd rfl (Or.inl rfl) (pe_call G_keys_due (hr.mono (by omega)) (by rfl) T.m_keys_due T.F_keys_due.kp T.b_keys_due .nil pass0 (pa_cons (pv 0) (pa_cons (pv 1) (pa_cons (pe_op op_add (pv 2) (pv 3)) pa_nil))))) (pss_one (ps_ret (pe_dcN (own := [("letter", 6), ("row", 7)]) (tt := tYes) (g := (gTup K 2 (gCons (gName 6) (gCons (gName 7) gNil))))  (roomN hr) rfl sc_table_made.nd (pi_list (pv 5)) (blkOk_by (own := [("letter", 6), ("row", 7)]) (N := ["letters", "states", "few", "turn", "state_at", "keys", "letter", "row"]) (sc := (defScope s_table_made)) (by decide +kernel)) (fun _ _ _ _ _ => (pg_tup rfl (pgs_cons (pg_name (i := 6) sc_table_made.nd rfl (Or.inl rfl)) (pgs_cons (pg_name (i := 7) sc_table_made.nd rfl (Or.inl rfl)) pgs_nil)))) (fun _ _ _ _ _ => pts_nil) (fun _ _ _ _ _ => (pe_tup (pa_cons (pv 6) (pa_cons (pv 7) pa_nil)))) (fun _ _ _ _ _ => (pe_calX (i := 4) C_state_at (hr.mono (by omega)) rfl (.inr (.inl (by rfl))) (pa_cons (pv 6) (pa_cons (pv 7) pa_nil)))))))))), ?_⟩
  refine ⟨_, rfl, _, _, rfl, rfl, _, rfl, dF (by omega) ?_⟩
  refine ⟨_, rfl, _, rfl, _, rfl, _, rfl, _, _, rfl, rfl, L, n, few + turn, rfl, hL.2.1, h6, by omega, _, _, rfl, rfl, _, rfl, dF (by omega) ?_⟩
  refine ⟨_, rfl, _, rfl, _, rfl, _, rfl, _, _, rfl, rfl, L, n, few + turn, rfl, hL, h6, by omega, by omega, h600, fun r bs H1 s1 hr0 hr1 hk => ?_⟩
  refine ⟨_, rfl, r, rfl, ⟨_, SqL.of hr1⟩, fun D hD => ?_⟩
  have nDr : r ≠ D := ne_of_none hr1 hD
  have knd := keysOf_nd hR n (few + turn)
  have kmem : ∀ key ∈ keysOf L n (few + turn), key.1 ∈ L.cps.toList ∧ key.2.length = n := fun key hm => by
    simp only [keysOf, List.mem_flatMap, List.mem_map] at hm
    obtain ⟨c, hc, row, hrow, rfl⟩ := hm
    exact ⟨hc, (rowsTo_mem hrow).1⟩
  have lk : bs.length ≤ 600 := by
    have e : (keysOf L n (few + turn)).length = L.cps.toList.length * (rowsTo n (few + turn)).length := by
      unfold keysOf
      generalize L.cps.toList = l
      induction l with
      | nil => simp
      | cons a t ih => rw [List.flatMap_cons, List.length_append, List.length_map, ih, List.length_cons, Nat.succ_mul, Nat.add_comm]
    rw [Paired.length hk, e, rowsTo_len, show L.cps.toList.length = L.length from Array.length_toList]
    exact h600
  generalize keysOf L n (few + turn) = keys at *
  refine lc_outer (xs := bs.map V.ref) (fun i H2 => ∃ xs : List NRow, H2 D = some (DictN P w D xs) ∧ RowsN H2 xs ∧ RowsJ xs (keys.take i) fs ∧ KeysAt H2 bs keys ∧ H2 r = some (.lst (bs.map V.ref)) ∧ Same H1 H2)
    ⟨[], upd_same, (fun x h => by cases h), .nil, hk.keep fun b xs e => same_new hD _ _ e, same_new hD _ _ hr1, same_new hD⟩ (fun i H2 _ ⟨_, _, _, _, _, h, _⟩ => SqL.of h) ?_ ?_
  · rintro i x H2 hx ⟨xs, g1, g2, g3, g4, g5, g6⟩
    rw [List.getElem?_map] at hx
    cases hb : bs[i]? with
    | none => rw [hb] at hx; cases hx
    | some b =>
    rw [hb] at hx
    cases hx
    obtain ⟨⟨c, row⟩, hkey, a, kb, ka⟩ := prd_at g4 hb
    obtain ⟨hc, hlen⟩ := kmem _ (List.mem_of_getElem? hkey)
    have hi := (List.getElem?_eq_some_iff.mp hb).1
    have lx := Paired.length g3
    rw [List.length_take] at lx
    refine ⟨b, _, rfl, SqT.of kb, rfl, _, _, rfl, _, _, rfl, rfl, rfl, ?_⟩
    refine ⟨_, rfl, _, rfl, (by show 2 ≤ sizeLine; decide), fun b2 hb2 => ?_⟩
    have s2 := same_new (o := .tup [.str (ch c), V.ref a]) hb2
    have kb2 := upd_same (H := H2) (a := b2) (o := .tup [.str (ch c), V.ref a])
    generalize upd H2 b2 (.tup [.str (ch c), V.ref a]) = H3 at *
    have S3 : Same H H3 := (s1.trans g6).trans s2
    refine ⟨rfl, S3, _, rfl, _, rfl, S3, c, a, row, rfl, hc, hlen, s2 _ _ ka, fun H4 s4 => ?_⟩
    have s24 := s2.trans s4
    have kD := s24 _ _ g1
    have tk := fun b ys e => upd_tupN (o := DictN P w D (storedN xs (keyN c row) b2 (nI (fs c row)))) kD b ys (s24 _ _ e)
    refine ⟨xs, keyN c row, b2, rfl, kD, g2.keep fun b ys e => s24 _ _ e, nk_key (s4 _ _ kb2) (s24 _ _ ka), keyN_depth c row, ?_, ?_⟩
    · exact Nat.lt_of_le_of_lt (show _ ≤ 1000000 by omega) (by decide)
    have fresh : ∀ x ∈ xs, x.1 ≠ keyN c row := fun x hx e => by
      obtain ⟨key, hm, e1, _⟩ := prd_mem g3 hx
      rw [e1] at e
      obtain ⟨e2, e3⟩ := keyN_inj e
      exact ahead_ne knd hkey key hm (Prod.ext e2 e3)
    rw [storedN_new fresh] at tk ⊢
    refine ⟨_, upd_same, ?_, ?_, g4.keep tk, upd_lstN kD _ _ (s24 _ _ g5), same_add (g6.trans s24) hD⟩
    · intro x hx
      rcases List.mem_append.mp hx with hx | hx
      · exact (g2.keep tk) x hx
      · rw [List.mem_singleton.mp hx]
        exact ⟨nk_key (upd_tupN kD _ _ (s4 _ _ kb2)) (tk _ _ ka), keyN_depth c row⟩
    · rw [take_succ_of hkey]
      exact prd_app g3 (.cons ⟨rfl, rfl⟩ .nil)
  · rintro H2 ⟨xs, g1, g2, g3, g4, g5, g6⟩
    rw [List.length_map, Paired.length hk, List.take_length] at g3
    exact q D xs H2 (s1.trans g6) (s1.free hD) g1 g2 g3
end


structure TTj {K : PySem.W.Frag} {mg : Str → Option Value} (T : Txt K mg) (TT : List NdefX.NTab) : Prop where
  r1 : (T.P_judge_made, fun _ _ => q_judge_made) ∈ TT
  r2 : ∀ z ∈ TT, z.1 = T.P_judge_made → z.2 = fun _ _ => q_judge_made
def condsOf (R : Rl) : List Cd := R.L.cps.toList.flatMap fun c => ((R.rows.lookup c).getD []).map (·.1)
def fewR (R : Rl) : Nat := fewC (condsOf R)
def turnR (R : Rl) : Nat := turnC (condsOf R)
def sp_judge_made (P : Program) (w : World) (TT : List NdefX.NTab) : Sp := fun vs H Q _ => ∃ (v : V) (R : Rl), vs = [v] ∧ RlAt (fun _ => True) H v R ∧ R.ok ∧ Rises R.L ∧ NdefX.TabsN TT H ∧ turnR R ≤ 4 ∧ R.L.length * (fewR R + turnR R) ^ R.n ≤ 600 ∧
  ∀ j d g xs H', LamX.ExtN H H' → NdefX.TabsN TT H' → H d = none → H g = none → H' j = some (.tup [.str R.L, nI R.n, nI (fewR R), nI (turnR R), .ref d, .ref g]) → H' d = some (DictN P w d xs) → RowsN H' xs → RowsJ xs (keysOf R.L R.n (fewR R + turnR R)) (fsR R) → H' g = some (.lst (R.good.map nI)) → Q (.ref j) H'
def sp_made_lam (R : Rl) (d : Addr) : Sp := fun vs H Q _ => ∃ (c : Nat) (b : Addr) (row : List Nat) (es : List (Key × V)), vs = [.str (ch c), .ref b] ∧ c ∈ R.L.cps.toList ∧ row.length = R.n ∧ H b = some (.tup (row.map nI)) ∧ H d = some (.dK es) ∧ rowsIn (fun _ => True) H es R.rows ∧ ∀ H', Same H H' → Q (nI (fsR R c row)) H'
section
variable {P : Program} {w : World} {K : PySem.W.Frag} {mg : Str → Option Value} {base : Heap}
theorem ok_judge_made (T : Txt K mg) (B : Tbs T base) (M : KTab K w T.a_MADE_OF_OTHERS made) {TT : List NdefX.NTab} (hTT : TTj T TT) : FnOk P w K mg base CX0 15 T.f_judge_made T.d_judge_made ["rules"] (sp_judge_made P w TT) := by
  have G__few_and_turn : FnOk P w K mg base CX0 5 T.f__few_and_turn T.d__few_and_turn ["conditions"] sp__few_and_turn := ok__few_and_turn T M
  have G_table_made : FnOk P w K mg base CX0 10 T.f_table_made T.d_table_made ["letters", "states", "few", "turn", "state_at"] (sp_table_made P w K mg base) := ok_table_made T
  refine okC T.F_judge_made T.h_judge_made sc_judge_made (fun vs H Q E h => ?_) (fun A outer s H vs Q E hr h => ?_)
  · obtain ⟨v, R, rfl, _⟩ := h
    rfl
  obtain ⟨v, R, rfl, hR, hok, hri, hT, ht4, h600, q⟩ := h
  obtain ⟨a, d, g, es, rfl, ha, _, hd, _, hes, hg, _⟩ := hR
  refine ⟨_, (pss_cons (ps_asg (pv 0) (pg_tup rfl (pgs_cons (pg_name (i := 1) sc_judge_made.nd rfl (Or.inl rfl)) (pgs_cons (pg_name (i := 2) sc_judge_made.nd rfl (Or.inl rfl)) (pgs_cons (pg_name (i := 3) sc_judge_made.nd rfl (Or.inr rfl)) (pgs_cons (pg_name (i := 4) sc_judge_made.nd rfl (Or.inl rfl)) pgs_nil)))))) (pss_cons (ps_asg (pe_call G__few_and_turn (hr.mono (by omega)) (by rfl) T.m__few_and_turn T.F__few_and_turn.kp T.b__few_and_turn .nil pass0 (pa_cons (pe_lc2 (own := [("letter", 8), ("condition", 9), ("_", 10)]) (vs1 := [9, 10]) (g := gName 8) (g1 := gTup K 2 (gCons (gName 9) (gCons (gName 10) gNil))) (tt := tYes) (tt1 := tYes) (wi1 := iList K (tDGet (tVar 3) (tVar 8))) (te := tVar 9) rfl sc_judge_made.nd (pi_str (pv 1)) (blkOk_by (own := [("letter", 8), ("condition", 9), ("_", 10)]) (N := ["rules", "letters", "states", "rows", "good", "few", "turn", "table", "letter", "condition", "_"]) (sc := (defScope s_judge_made)) (by decide +kernel)) (by decide) (fun _ _ _ _ _ => (pg_name (i := 8) sc_judge_made.nd rfl (Or.inl rfl))) (fun _ _ _ _ _ => pts_nil) (fun _ _ _ _ _ => (pi_list (pe_dget (hu_of hr) (pv 3) (pv 8) (fun _ _ => rfl)))) (fun _ _ _ _ _ => (pg_tup rfl (pgs_cons (pg_name (i := 9) sc_judge_made.nd rfl (Or.inl rfl)) (pgs_cons (pg_name (i := 10) sc_judge_made.nd rfl (Or.inl rfl)) pgs_nil)))) (fun _ _ _ _ _ => pts_nil) (fun _ _ _ _ _ => (pv 9))) pa_nil)) (pg_tup rfl (pgs_cons (pg_name (i := 5) sc_judge_made.nd rfl (Or.inl rfl)) (pgs_cons (pg_name (i := 6) sc_judge_made.nd rfl (Or.inl rfl)) pgs_nil)))) (pss_cons (ps_set (i := 7) sc_judge_made.nd rfl (Or.inl rfl) (pe_callLd G_table_made (hr.mono (by omega)) (by rfl) T.m_table_made T.F_table_made.kp T.b_table_made (fun _ => rfl) (pa_cons (pv 1) (pa_cons (pv 2) (pa_cons (pv 5) (pa_cons (pv 6) (pa_cons (pe_lamXc B.tb_judge_made rfl (by rfl) (fr := ["rows"]) (by show NdefX.ndefB (defScope s_judge_made) _ _ = true; decide +kernel)) pa_nil))))))) (pss_one (ps_ret (pe_tup (pa_cons (pv 1) (pa_cons (pv 2) (pa_cons (pv 5) (pa_cons (pv 6) (pa_cons (pv 7) (pa_cons (pe_callTy call_list_of (by rfl) T.z_list (by decide +kernel) (pa_cons (pv 4) pa_nil)) pa_nil)))))))))))), ?_⟩
  refine ⟨_, rfl, _, _, rfl, SqT.of ha, rfl, ?_⟩
  refine ⟨_, _, rfl, _, _, rfl, _, _, rfl, _, _, rfl, rfl, ?_⟩
  refine ⟨_, rfl, R.L, rfl, fun D hD => ?_⟩
  have lsz : R.L.cps.size = R.L.cps.toList.length := (Array.length_toList).symm
  have l26 : R.L.cps.toList.length ≤ 26 := by rw [← lsz]; exact hok.L.2.1
  have nDd : d ≠ D := ne_of_none hd hD
  refine lc_walk (len := R.L.cps.size) walk_str (fun j H2 => ∃ ws : List V, H2 D = some (.lst ws) ∧ ws.length ≤ 100 * j ∧ DtAll (fun b => b ≠ D) H2 ws (((R.L.cps.toList.take j).flatMap fun c => ((R.rows.lookup c).getD []).map (·.1)).map Cd.dat) ∧ Same H H2)
    ⟨[], upd_same, Nat.le_refl _, .nil, same_new hD⟩ (fun _ _ _ _ => trivial) ?_ ?_
  · rintro j x H2 H2' hj ⟨ws, g1, g2, g3, g4⟩ ⟨rfl, c, hc, rfl⟩
    have hc2 : R.L.cps.toList[j]? = some c := by rw [Array.getElem?_toList]; exact hc
    obtain ⟨rs, hrs, hro⟩ := hok.at (List.mem_of_getElem? hc2)
    obtain ⟨rv, hv1, hv2⟩ := rows_val hes hrs
    have hv3 := hv2.off hD
    obtain ⟨r100, _, _⟩ := id hro
    cases hv3 with
    | @lst p xs ds hp _ hl r =>
    have lr := r.len
    rw [List.length_map] at lr
    refine ⟨rfl, _, rfl, _, rfl, d, _, rfl, ?_, p, rfl, ⟨_, SqL.of (g4 _ _ hp)⟩, ?_⟩
    · have := DGet.k (k := .inr (ch c)) (g4 _ _ hd)
      rw [hv1] at this
      exact this
    refine lc_outer (xs := xs) (fun m H3 => ∃ us : List V, H3 D = some (.lst (ws ++ us)) ∧ us.length = m ∧ DtAll (fun b => b ≠ D) H3 ws (((R.L.cps.toList.take j).flatMap fun c => ((R.rows.lookup c).getD []).map (·.1)).map Cd.dat) ∧ DtAll (fun b => b ≠ D) H3 us (((rs.take m).map (·.1)).map Cd.dat) ∧ Same H H3)
      ⟨[], by simpa using g1, rfl, g3, .nil, g4⟩ (fun m H3 _ ⟨_, _, _, _, _, s⟩ => SqL.of (s _ _ hp)) ?_ ?_
    · rintro m z H3 hz ⟨us, k1, k2, k3, k4, k5⟩
      obtain ⟨dz, hdz, hz2⟩ := r.getV hz
      rw [List.getElem?_map] at hdz
      cases hcm : rs[m]? with
      | none => rw [hcm] at hdz; cases hdz
      | some r1 =>
      rw [hcm] at hdz
      cases hdz
      have hm := (List.getElem?_eq_some_iff.mp hcm).1
      cases hz2 with
      | @tup pr ys _ hpr _ _ rr =>
      cases rr with
      | @cons cv _ _ _ c1 c2 =>
      cases c2 with
      | cons c2 c3 =>
      cases c2
      cases c3
      refine ⟨pr, _, rfl, SqT.of (k5 _ _ hpr), rfl, _, _, rfl, _, _, rfl, rfl, rfl, _, rfl, _, k1, ?_, us ++ [cv], ?_, by rw [List.length_append, k2]; rfl, k3.keep (upd_keep fun b h => h), ?_, same_add k5 hD⟩
      · rw [List.length_append]
        exact Nat.lt_of_le_of_lt (show _ ≤ 1000000 by omega) (by decide)
      · rw [upd_same, List.append_assoc]
      · rw [take_succ_of hcm, List.map_append, List.map_append]
        exact (dtAll_app k4 (.cons ((c1.weak fun b h => h.2).same k5) .nil)).keep (upd_keep fun b h => h)
    · rintro H3 ⟨us, k1, k2, k3, k4, k5⟩
      refine ⟨ws ++ us, k1, by rw [List.length_append]; omega, ?_, k5⟩
      rw [flat_take _ hc2, List.map_append, hrs]
      rw [lr, List.take_length] at k4
      exact dtAll_app k3 k4
  · rintro H2 ⟨ws, g1, g2, g3, g4⟩
    rw [lsz, List.take_length] at g3
    have cok : ∀ c ∈ condsOf R, c.ok R.n ∧ c.deep ≤ 4 := fun c hc => by
      obtain ⟨l, hl, hc⟩ := List.mem_flatMap.mp hc
      obtain ⟨rs, hrs, hro⟩ := hok.at hl
      rw [hrs] at hc
      obtain ⟨r, hr, rfl⟩ := List.mem_map.mp hc
      obtain ⟨_, h2, _⟩ := hro
      exact ⟨(h2 r hr).1, (h2 r hr).2.1⟩
    have lg := g3.len
    rw [List.length_map] at lg
    refine ⟨D, ws, condsOf R, R.n, rfl, g1, g3.weak fun _ _ => trivial, cok, by show (condsOf R).length ≤ 5000; unfold condsOf; omega, fun p H3 s3 hp => ?_⟩
    have S3 := g4.trans s3
    have pok : ∀ p ∈ (condsOf R).flatMap Cd.plains, p.ok R.n := fun p hp => by
      obtain ⟨c, hc, hp⟩ := List.mem_flatMap.mp hp
      exact (plains_plain R.n c (cok c hc).1 p hp).2
    have few4 : fewR R ≤ 4 := fewP_le _ 0 (by decide) pok
    have turn1 : 1 ≤ turnR R := (le12 (turnP_12 (n := R.n) _ 1 (by decide) pok)).1
    refine ⟨p, _, rfl, SqT.of hp, rfl, _, _, rfl, _, _, rfl, rfl, ?_⟩
    have T3 := hT.ext S3
    refine ⟨_, rfl, _, rfl, _, rfl, _, rfl, NdefX.TabN.to (T3 _ hTT.r1), fun f c H1 f1 n1 T1 hf0 hf hc cs hcs => ?_⟩
    have hnew := hcs.new
    have E1 : LamX.ExtN H3 H1 := extN_of_frP T3 hTT.r1 f1
    have TN1 : NdefX.TabsN TT H1 := tabsN_frP T3 hTT.r1 hTT.r2 f1 T1
    have E01 : LamX.ExtN H H1 := fun b o e n => E1 b o (S3 b o e) n
    have hd1 : H1 d = some (.dK es) := E01 _ _ hd (fun _ z => by cases z)
    have hg1 : H1 g = some (.lst (R.good.map nI)) := E01 _ _ hg (fun _ z => by cases z)
    have hes1 : rowsIn (fun _ => True) H1 es R.rows := Paired.mapP hes fun _ _ k => ⟨k.1, k.2.extN E01⟩
    refine ⟨R.L, R.n, fewR R, turnR R, f, fsR R, rfl, hok.L, hri, hok.n6, few4, turn1, ht4, h600, ?_, fun dd xs H5 e5 hd0 hd5 hrn hrj => ?_⟩
    · refine CalX.imp2 (k := 7 + 1) (calX_lamC (k := 7) (N := ["letter", "row", "rows"]) (ps := ["letter", "row"]) (f := f) (F := _) (sp := sp_made_lam R d) (NdefX.nscope_by (by dsimp only; decide +kernel)) (hcs.got _ ["rows"] [3] (by show NdefX.ndefB (defScope s_judge_made) _ _ = true; decide +kernel) rfl) hcs.cel (fun pm ctv us hl => match us, hl with | [_, _], _ => rfl) (fun vs H Q E h => ?_) (fun A outer s H vs Q E hr h => ?_)) (Nat.le_refl _) (fun vs H Q E h => ?_) (fun H' e => ⟨e _ _ (lend_some hnew hf), e _ _ (lend_some hnew hc), lent_extN (.of e)⟩) (fun vs H' Q E e h => ?_)
      · obtain ⟨c, b, row, es, rfl, _⟩ := h
        rfl
      · obtain ⟨c, b, row, es, rfl, hc, hl, hb, hd', hes', qq⟩ := h
        have G__state_by_rows : FnOk P w K mg base CX0 6 T.f__state_by_rows T.d__state_by_rows ["rows", "numbers"] sp__state_by_rows := ok__state_by_rows T
        refine ⟨_, (pe_call G__state_by_rows (hr.mono (by omega)) (by rfl) T.m__state_by_rows T.F__state_by_rows.kp T.b__state_by_rows .nil pass0 (pa_cons (pe_dget (hu_of hr) (pv 2) (pv 0) (fun _ _ => rfl)) (pa_cons (pe_callTy call_list_of (by rfl) T.z_list (by decide +kernel) (pa_cons (pv 1) pa_nil)) pa_nil))), ?_⟩
        obtain ⟨rs, hrs, hro⟩ := hok.at hc
        obtain ⟨rv, hv1, hv2⟩ := rows_val hes' hrs
        refine ⟨_, rfl, _, rfl, d, rv, rfl, ?_, _, rfl, b, _, rfl, .inr (SqT.of hb), fun lp hlp => ?_⟩
        · have := DGet.k (k := .inr (ch c)) hd'
          rw [hv1] at this
          exact this
        have sl := same_new (o := .lst (row.map nI)) hlp
        refine ⟨rv, lp, rs, row.map (fun x : Nat => (x : Int)), R.n, rfl, hv2.same sl, ?_, hro, by rw [List.length_map]; exact hl, hok.n6, fun s' H2 hs s2 => ?_⟩
        · rw [← nI_map]; exact upd_same
        · have e3 : fsR R c row = s' := by
            unfold fsR
            rw [hrs]
            show (stR rs _).getD 0 = s'
            rw [hs]
            rfl
          rw [← e3]
          exact qq H2 (sl.trans s2)
      · obtain ⟨c, b, row, rfl, _⟩ := h
        rfl
      · obtain ⟨c, b, row, rfl, hc', hl, hb, qq⟩ := h
        have lt : LentAt cs H' := lent_extN (.of e)
        refine ⟨c, b, row, es, rfl, hc', hl, unl_keep lt hb (fun _ z => by cases z), extN_unl hnew (.of e) _ _ hd1 (fun _ z => by cases z), Paired.mapP hes1 fun _ _ k => ⟨k.1, k.2.extN (extN_unl hnew (.of e))⟩, fun H2 s2 => qq _ (same_lend lt s2)⟩
    · have lt : LentAt cs H5 := lent_extN (.of e5)
      refine ⟨lt, ?_⟩
      have free1 : ∀ b, (unl H5 cs) b = none → H b = none := fun b h => S3.free (n1 b (by
        cases e : H1 b with
        | none => rfl
        | some o => rw [unl_out (hnew.out e), e5 _ _ (lend_some hnew e)] at h; cases h))
      have dout : cs.lookup dd = none := by
        cases e : cs.lookup dd with
        | none => rfl
        | some o => rw [lend_in e] at hd0; cases hd0
      have hdd : (unl H5 cs) dd = some (DictN P w dd xs) := by rw [unl_out dout]; exact hd5
      have hd0' : H dd = none := S3.free (n1 dd (by rw [lend_out dout] at hd0; exact hd0))
      have E6 : LamX.ExtN H (unl H5 cs) := E01.trans (extN_unl hnew (.of e5))
      have T6 : NdefX.TabsN TT (unl H5 cs) := tabsN_unl hnew ((TN1.ext (fun b o e => lend_some hnew e)).ext e5) lt hcs.cel
      have hg6 : (unl H5 cs) g = some (.lst (R.good.map nI)) := E6 _ _ hg (fun _ z => by cases z)
      have hrn6 : RowsN (unl H5 cs) xs := hrn.keep fun b ys e => unl_keep lt e (fun _ z => by cases z)
      generalize unl H5 cs = H6 at *
      refine ⟨_, rfl, _, rfl, _, rfl, _, rfl, _, rfl, _, rfl, g, _, rfl, .inl (SqL.of hg6), fun g2 hg2 => ⟨(by show 6 ≤ sizeLine; decide), fun j hj => ?_⟩⟩
      have s7 := same_new (o := .lst (R.good.map nI)) hg2
      have kg2 := upd_same (H := H6) (a := g2) (o := .lst (R.good.map nI))
      generalize upd H6 g2 (.lst (R.good.map nI)) = H7 at *
      have s8 := same_new (o := .tup [V.str R.L, nI R.n, nI (fewC (condsOf R)), nI (turnC (condsOf R)), V.ref dd, V.ref g2]) hj
      have S8 := s7.trans s8
      exact q j dd g2 xs _ (E6.trans (.of S8)) (T6.ext S8) hd0' (free1 g2 hg2) upd_same (S8 _ _ hdd) (hrn6.keep fun b ys e => S8 _ _ e) hrj (s8 _ _ kg2)
end

def ExX (a : Addr) (cls : Value) (d : Option Addr) : HO := .ext fun h => ∃ (o : Obj) (vs : Array Value), h.get? a = some o ∧ Zc cls d o ∧ o.data = .fields vs
theorem exX_ok {P : Program} {w : World} {H : Hp} {h : Heap} {a : Addr} {cls : Value} {d : Option Addr} (x : ∃ (o : Obj) (vs : Array Value), h.get? a = some o ∧ Zc cls d o ∧ o.data = .fields vs) : ObjOk P w H h a (ExX a cls d) :=
  ⟨x, (let ⟨o, _, e, _⟩ := x; ⟨o, e⟩), fun _ _ ⟨o, vs, e, r⟩ k => ⟨o, vs, k o e, r⟩⟩
section
variable {X : Cx} {pins : List (Addr × Obj)} {σ : L2.St} {H : Hp} {sI t : Shared} {B : Heap} {a : Addr} {o : HO}
theorem inv_tracked (I : Inv X pins σ H sI) (gr : ∀ b u, sI.heap.get? b = some u → b ∉ frs X.stack → B.get? b = some u) (st : B.StaysIn t.heap) (up : sI.heap.UpToSlots t.heap) (os : t.os = sI.os) (ag : AllBare t.gens)
    (ha : sI.heap.get? a = none) (na : H a = none) (new : ObjOk X.prog X.w (upd H a o) t.heap a o) : Inv X pins σ (upd H a o) t := by
  have far : ∀ b u, sI.heap.get? b = some u → b ≠ a := fun b u e z => by rw [z, ha] at e; cases e
  have fr : ∀ b u, sI.heap.get? b = some u → b ∈ frs X.stack → ∃ sl, t.heap.get? b = some { u with slots := sl } := fun b u e hb => by
    obtain ⟨_, u2, e2, hd⟩ := I.stack.mem hb
    have := e.symm.trans e2
    cases this
    exact up b u e hd
  have on : ∀ b u, H b = some u → (upd H a o) b = some u := fun b u e => by
    rw [upd_ne (ne_of_none e na)]
    exact e
  refine I.call' (ch := []) os { keep := ?k, slot := ?s, free := ?f, there := ?t, tups := fun b xs e => on b _ e, frzs := fun b u xs e => on b _ e, tbls := fun b ps e => ⟨#[], (on b _ e).trans (by simp)⟩ } (((I.inGround gr).kept st).laidN (fun _ _ e => e) na new) ag (by intro b hb; cases hb)
  case k => intro b u e _ hb _; exact st b u (gr b u e hb)
  case s => intro b u e _ hb _; exact fr b u e hb
  case f => intro b u e n _; rw [upd_ne (far b u e)]; exact n
  case t =>
    intro b u e _
    by_cases hb : b ∈ frs X.stack
    · obtain ⟨sl, q⟩ := fr b u e hb
      exact ⟨_, q⟩
    · exact ⟨u, st b u (gr b u e hb)⟩
theorem inv_suite0 (I : Inv X pins σ H t) (a : Addr) : Inv (X.suite a (X.pn ++ pins)) [] σ H t where
  ok := I.ok.suite _ _
  os := I.os
  bare := I.bare
  base := I.base
  loc := I.loc
  cell := I.cell
  free := I.free
  freeC := I.freeC
  pin := by
    intro p hp
    rw [List.append_nil] at hp
    exact I.pin p hp
  hok := I.hok
  len := I.len
theorem inv_unsuite0 {pn2 : List (Addr × Obj)} (I : Inv (X.suite a (X.pn ++ pins)) pn2 σ H t) (ok : X.Ok) : Inv X pins σ H t where
  ok := ok
  os := I.os
  bare := I.bare
  base := I.base
  loc := I.loc
  cell := I.cell
  free := I.free
  freeC := I.freeC
  pin := by
    intro p hp
    exact I.pin p (List.mem_append_left _ hp)
  hok := I.hok
  len := I.len
end
def wKeep (K : PySem.W.Frag) (c : Value) (i : Nat) (ts : Addr → Value → Option Addr → TS) (D : Ends) : WX := fun cls d σ H =>
  PySem.W.exmOne K cls c = some true ∧ ∀ a, H a = none → ts a cls d ⟨fun σ2 H2 => D.nx (σ2.set i none) H2, D.rt, fun σ2 H2 => D.bk (σ2.set i none) H2, fun σ2 H2 => D.ct (σ2.set i none) H2⟩ (σ.set i (some (.ref a))) (upd H a (ExX a cls d))
section
variable {X : Cx} {x n : Str} {c : Value} {i : Nat} {body more : List Stmt} {st0 : Stmt} {np pos pos2 : Pos} {tb : WX → TS} {ts : Addr → Value → Option Addr → TS}
theorem ps_try_keep (hst : X.stack = X.env :: X.outer) (hfm : X.env.frame = some X.env.locals) (hnd : X.N.Nodup) (hix : X.N[i]? = some n) (hkd : X.env.kindOf n = some .local) (hnm : Names X x c)
    (hbody : ∀ (W : WX) (pn : List (Addr × Obj)) (xe : Value → Shared → Prop), L2.Takes (X.tr pn xe) W → PassesOwn (model X.prog X.w) X.A X.env xe → PSs (X.tr pn xe) body (tb W))
    (hsuite : ∀ (a : Addr) (cls : Value) (d : Option Addr) (pn : List (Addr × Obj)), PSs (X.suite a pn) (st0 :: more) (ts a cls d)) :
    PS X (.Try body [.ExceptHandler (some (.Name x np)) (some n) (st0 :: more) pos2] [] [] pos) (fun D σ H => tb (wKeep X.K c i ts D) D σ H) := by
  refine ⟨fun pins s σ H D I hw => ?_⟩
  have oX := I.ok
  have frA := oX.frames.trans (congrArg some hst)
  have slot_n : Loc X.env.scope n := Or.inl hkd
  refine wpAny_Try_except ?_
  refine wpAny_mono ((hbody (wKeep X.K c i ts D) (X.pn ++ pins) (fun e r1 => wpAny (model X.prog X.w) X.A (noteFrame e X.env) (fun _ r2 => wpAny (model X.prog X.w) X.A (setFlight e none)
    (fun _ r3 => wpAny (model X.prog X.w) X.A (handleBy e X.env [.ExceptHandler (some (.Name x np)) (some n) (st0 :: more) pos2]) (SP X pins D) X.xe r3) X.xe r2) X.xe r1) ?grab PassesOwn.looking).run [] s σ H D (I.toTry _) hw) ?fin fun _ _ z => z
  case fin =>
    intro f r1 hf
    cases f with
    | next => exact let ⟨σ2, H2, J, q⟩ := hf; wpAny_execs_nil ⟨σ2, H2, J.ofTry oX, q⟩
    | brk => exact let ⟨σ2, H2, J, q⟩ := hf; ⟨σ2, H2, J.ofTry oX, q⟩
    | cont => exact let ⟨σ2, H2, J, q⟩ := hf; ⟨σ2, H2, J.ofTry oX, q⟩
    | ret u => exact let ⟨v, σ2, H2, J, r, q⟩ := hf; ⟨v, σ2, H2, J.ofTry oX, r, q⟩
  case grab =>
    rintro u t0 ⟨a, B, sI, pins2, σ2, H2, cls, d, rfl, I2, gr, up, sky, na, os, ag, hkind, hgo⟩
    have J := I2.ofTry oX
    have sky2 := sky
    rw [show (X.tr (X.pn ++ pins) _).stack = X.env :: X.outer from hst] at sky2
    show wpAny (model X.prog X.w) X.A (noteFrame (.ref a) X.env) _ _ _
    refine Sky.land Zc.steady frA hfm sky2 fun h3 fl3 up3 => ?_
    have track : ∀ h, HandSPX.FlyingZ B (X.env :: X.outer) a (Zc cls d) h → sI.heap.UpToSlots h → Inv X pins σ2 (upd H2 a (ExX a cls d)) { t0 with heap := h } := fun h fl u2 => by
      obtain ⟨oe, vs, he, hz, hd⟩ := fl.there
      refine inv_tracked (B := B) J gr fl.1 u2 os ag ?_ na (exX_ok ⟨oe, vs, he, hz, hd⟩)
      cases e : sI.heap.get? a with
      | none => rfl
      | some u3 =>
        exfalso
        by_cases hm : a ∈ frs X.stack
        · rw [hst] at hm
          obtain ⟨_, o4, e4, n4⟩ := fl.2.2.1.mem hm
          have e5 := he.symm.trans e4
          cases e5
          exact n4 _ hd
        · have e4 := gr a u3 e hm
          rw [fl.2.1] at e4
          cases e4
    obtain ⟨oe3, vs3, he3, hz3, _⟩ := fl3.there
    have S3 := inv_suite0 (track h3 fl3 (up.trans up3)) a
    refine wpAny_handleBy_cons (codeAny_handlers_test ?_) (by intro z; cases z)
    have kind3 : PySem.W.Looks (model X.prog X.w) h3 (typeOf (.ref a)) cls := by
      intro A Q E r k q
      refine wpAny_typeOf_ref (k _ _ he3) ?_
      rw [hz3.1]
      exact q
    have hit := PySem.W.exm_one (M := model X.prog X.w) S3.kIn kind3 hkind
    have named : ∀ {Q : Value → Shared → Prop} {E : Value → Shared → Prop}, Q c { t0 with heap := h3 } → wpAny (model X.prog X.w) (X.A.mark (some (.ref a))) (eval (.Name x np) X.env) Q E { t0 with heap := h3 } := fun {Q E} q => by
      rcases hnm with ⟨g1, g2, g3 | ⟨g3, g4, g5⟩⟩
      · exact ld_glob (X := X.suite a (X.pn ++ pins)) S3 g1 g3 q g2
      · exact ld_blt (X := X.suite a (X.pn ++ pins)) S3 g1 g3 g4 q g5 g2
    refine named (hit.here (codeAny_handlers_suite_as (HandSPX.lands_againZ fl3 fun h4 fl4 up4 => ?_)))
    have S4 := inv_suite0 (track h4 fl4 ((up.trans up3).trans up4)) a
    refine store_ok (X := X.suite a (X.pn ++ pins)) (v := .ref a) S4 hnd hix slot_n rfl (fun s5 S5 => ?_) (Or.inr hkd)
    refine wpAny_mono ((hsuite a cls d (X.pn ++ pins)).run [] s5 _ _ _ S5 (hgo a na)) (fun f s6 hf => ?_) fun _ _ z => z.elim
    have close : ∀ {σ6 : L2.St} {H6 : Hp} {Q : Shared → Prop}, Inv (X.suite a (X.pn ++ pins)) [] σ6 H6 s6 → (∀ s7, Inv X pins (σ6.set i none) H6 s7 → Q s7) →
        wpAny (model X.prog X.w) X.A (do bindName X.env n .none; unbindBehindTheSuite X.env n pos2) (fun _ s7 => Q s7) X.xe s6 := fun J6 hq => gone_ok (inv_unsuite0 J6 oX) hnd hix hkd hq
    cases f with
    | next => exact let ⟨σ6, H6, J6, q⟩ := hf; close J6 fun s7 J7 => ⟨_, _, J7, q⟩
    | brk => exact let ⟨σ6, H6, J6, q⟩ := hf; close J6 fun s7 J7 => ⟨_, _, J7, q⟩
    | cont => exact let ⟨σ6, H6, J6, q⟩ := hf; close J6 fun s7 J7 => ⟨_, _, J7, q⟩
    | ret u => exact let ⟨v6, σ6, H6, J6, r6, q⟩ := hf; close J6 fun s7 J7 => ⟨_, _, _, J7, r6, q⟩
def rIsX (K : PySem.W.Frag) (D : Addr) : List V → Hp → VK → Prop := fun xs H Q => ∃ (a : Addr) (y : V) (u : Value) (b : Bool), xs = [.ref a, y] ∧ H a = some (ExX a (.ref D) none) ∧ ClsV y u ∧ PySem.W.kitOne K (.ref D) u = some b ∧ Q (.bl b) H
theorem call_isX {D : Addr} (C : ExcC X.K D) : CallR X (.builtin "isinstance") (rIsX X.K D) := by
  intro pins s σ H xs us Q I r hq
  obtain ⟨a, y, u, b, rfl, ha, hy, hk, q⟩ := hq
  obtain ⟨u1, u2, rfl, r1, r2⟩ := vals2 r
  have e2 := hy.eq r2
  subst e2
  cases (show u1 = Value.ref a from r1)
  obtain ⟨⟨oe, vs, he, hz, hd⟩, _, _⟩ := I.hok a _ ha
  obtain ⟨oc, od, dt, sl⟩ := oe
  obtain ⟨z1, z2⟩ := hz
  dsimp only at z1 z2 hd
  subst z1 z2 hd
  have J : PySem.W.InstAt s.heap a _ D none := ⟨he, rfl, rfl, trivial⟩
  exact PySem.W.kia_one (PySem.W.handS_kitx_exc C.hg C.hk C.hs C.hd C.ha C.hn C.ht C.hm) I.kIn J hk (fun z => nomatch z) fun tk => ⟨.bl b, H, I.tok tk, rfl, q⟩
end
def rIsXT (K : PySem.W.Frag) (D : Addr) : List V → Hp → VK → Prop := fun xs H Q => ∃ (a tp : Addr) (ys : List V) (us : List Value) (b : Bool), xs = [.ref a, .ref tp] ∧ H a = some (ExX a (.ref D) none) ∧ H tp = some (.tup ys) ∧ Paired ClsV ys us ∧ PySem.W.kitAny K (.ref D) us = some b ∧ Q (.bl b) H
theorem call_isXT {X : Cx} {D : Addr} (C : ExcC X.K D) : CallR X (.builtin "isinstance") (rIsXT X.K D) := by
  intro pins s σ H xs us Q I r hq
  obtain ⟨a, tp, ys, cs, b, rfl, ha, ht, hy, hk, q⟩ := hq
  obtain ⟨u1, u2, rfl, r1, r2⟩ := vals2 r
  cases (show u2 = Value.ref tp from r2)
  cases (show u1 = Value.ref a from r1)
  obtain ⟨⟨oe, vs, he, hz, hd⟩, _, _⟩ := I.hok a _ ha
  obtain ⟨oc, od, dt, sl⟩ := oe
  obtain ⟨z1, z2⟩ := hz
  dsimp only at z1 z2 hd
  subst z1 z2 hd
  have J : PySem.W.InstAt s.heap a _ D none := ⟨he, rfl, rfl, trivial⟩
  obtain ⟨_, its, rv, o, h1, h2, n, h3⟩ := (show ObjOk X.prog X.w H s.heap tp (.tup ys) from I.hok tp _ ht)
  have e3 := ClsV.all hy rv
  subst e3
  obtain ⟨tc, td, tdt, tsl⟩ := o
  simp only at h2 h3
  subst h2 h3
  exact PySem.W.kia_tup (PySem.W.handS_kitx_exc C.hg C.hk C.hs C.hd C.ha C.hn C.ht C.hm) I.kIn J h1 hk (fun z => nomatch z) fun tk => ⟨.bl b, H, I.tok tk, rfl, q⟩
theorem kit_own {K : PySem.W.Frag} {C : Addr} {t : Value} {b : Bool} (h1 : PySem.W.hasDictIn K C = true) (h2 : PySem.W.typeIn K (.ref C) = some (.type "type")) (h3 : PySem.W.subIn K t (.ref C) = some b) (h4 : b = true ∨ (t == .ref C) = false) : PySem.W.kitOne K t (.ref C) = some b := by
  obtain ⟨cd, hc, _⟩ := PySem.W.any_some h1
  unfold PySem.W.kitOne
  split
  · rename_i e
    rcases h4 with rfl | h4
    · rfl
    · rw [h4] at e; cases e
  · show (if ((PySem.W.clsIn K C).isSome && PySem.W.typeIn K (.ref C) == some (.type "type")) = true then PySem.W.subIn K t (.ref C) else none) = some b
    rw [if_pos (by rw [hc, h2]; rfl), h3]
theorem kit_val {K : PySem.W.Frag} {D : Addr} (h : PySem.W.subIn K (.ref D) (.type "ValueError") = some true) : PySem.W.kitOne K (.ref D) (.type "ValueError") = some true := by
  have hm : PySem.W.kitMeta "ValueError" = true := by decide +kernel
  show (if (Value.ref D == Value.type "ValueError") = true then some true else if PySem.W.kitMeta "ValueError" = true then PySem.W.subIn K (.ref D) (.type "ValueError") else none) = some true
  rw [if_neg (by intro z; exact absurd (beq_iff_eq.mp z) (by simp)), if_pos hm, h]

theorem okXC {P : Program} {w : World} {K : PySem.W.Frag} {mg : Str → Option Value} {base : Heap} {x qual : Str} {st : Stmt} {f c : Addr} {fd : FuncData} {N ps : List Str} {k : Nat} {sp : Sp} (F : Fun K x qual st f fd) (hc : fd.code = .ref c) (S : FnScope N ps (defScope st))
    (len : ∀ vs H Q E, sp vs H Q E → vs.length = ps.length)
    (hb : ∀ (A : Around) (outer : List Env) (s : Shared) (H : Hp) (vs : List V) (Q : VK) (E : XK), Room k (A.deeper (envOfC qual (defScope st) s.heap.objs.size f (.ref c))) → sp vs H Q E →
      ∃ t, PSs (cxOf (L2.CX P w) P w K mg base N qual (defScope st) f (.ref c) A outer s H E) (defBody st) t ∧ t { nx := fun _ H' => Q .non H', rt := Q } (L2.start N vs) H) : FnOk P w K mg base (L2.CX P w) (k + 1) f fd ps sp := by
  obtain ⟨oc, od, kV, doc, pm, an, cdv, ct, osl, rfl, lk, hcd⟩ := F.ex
  cases hc
  exact fn_of lk hcd S len fun A outer s H vs Q E hr hsp => hb A outer s H vs Q E hr hsp
theorem toX {P : Program} {w : World} {K : PySem.W.Frag} {mg : Str → Option Value} {base : Heap} {CX : CXT} {k : Nat} {f : Addr} {fd : FuncData} {ps : List Str} {sp : Sp} (F : FnOk P w K mg base CX0 k f fd ps sp) : FnOk P w K mg base CX k f fd ps sp :=
  ⟨F.len, fun A outer s H args us vs Q E hr e0 hb r h => codeAny_mono (F.run A outer s H args us vs Q E hr e0 hb r h) fun r s' hq => by
    cases r with
    | error e => exact (show False from hq).elim
    | ok fl => cases fl <;> exact hq⟩

def spB_table_made (C : Addr) : Sp := fun vs H Q E => ∃ (L : Str) (n few turn : Nat) (f : V), vs = [.str L, nI n, nI few, nI turn, f] ∧ L.length ≤ 26 ∧ n ≤ 6 ∧ few + turn ≤ 20 ∧ (4 < turn ∨ 600 < L.length * (few + turn) ^ n) ∧ E (.ref C) none H
def spB_judge_made (C : Addr) (TT : List NdefX.NTab) : Sp := fun vs H Q E => ∃ (v : V) (R : Rl), vs = [v] ∧ RlAt (fun _ => True) H v R ∧ R.ok ∧ NdefX.TabsN TT H ∧ (4 < turnR R ∨ 600 < R.L.length * (fewR R + turnR R) ^ R.n) ∧ ∀ H', LamX.ExtN H H' → NdefX.TabsN TT H' → E (.ref C) none H'
section
variable {P : Program} {w : World} {K : PySem.W.Frag} {mg : Str → Option Value} {base : Heap}
theorem okB_table_made (T : Txt K mg) : FnOk P w K mg base (L2.CX P w) 4 T.f_table_made T.d_table_made ["letters", "states", "few", "turn", "state_at"] (spB_table_made T.C_TooMany) := by
  have G_tuples_due : FnOk P w K mg base CX0 1 T.f_tuples_due T.d_tuples_due ["letters", "states", "classes"] sp_tuples_due := ok_tuples_due T
  have G_keys_due : FnOk P w K mg base CX0 2 T.f_keys_due T.d_keys_due ["letters", "states", "classes"] sp_keys_due := ok_keys_due T
  refine T.F_table_made.okX sc_table_made (fun vs H Q E h => ?_) (fun cdv A outer s H vs Q E hr h => ?_)
  · obtain ⟨L, n, few, turn, f, rfl, _⟩ := h
    rfl
  obtain ⟨L, n, few, turn, f, rfl, h26, h6, h20, hbad, q⟩ := h
  have C_state_at : CalX P w K mg base 1 0 (fun _ => False) 2 (fun _ _ _ _ => False) := ⟨fun _ _ _ _ h => h.elim, fun _ _ _ _ h => h.elim, fun _ _ _ _ _ _ _ _ _ _ h => h.elim⟩
  refine ⟨_, (pss_cons (ps_if (pt_cmpR op_gt (pv 3) (pe_glob (v := .int (4)) rfl T.g_MOST_TURN ⟨_, rfl⟩) (nomark _)) (pss_one (ps_raise rfl (takes_of rfl rfl rfl rfl) (pmk_own PySem.F.excBase_ValueError T.x_TooMany T.g_TooMany T.k_TooMany (raises_own T.b_TooMany T.t_TooMany) rfl))) pss_nil) (pss_cons (ps_if (pt_cmpR op_gt (pe_call G_tuples_due (hr.mono (by omega)) (by rfl) T.m_tuples_due T.F_tuples_due.kp T.b_tuples_due .nil pass0 (pa_cons (pv 0) (pa_cons (pv 1) (pa_cons (pe_op op_add (pv 2) (pv 3)) pa_nil)))) (pe_glob (v := .int (600)) rfl T.g_MOST_TUPLES ⟨_, rfl⟩) (nomark _)) (pss_one (ps_raise rfl (takes_of rfl rfl rfl rfl) (pmk_own PySem.F.excBase_ValueError T.x_TooMany T.g_TooMany T.k_TooMany (raises_own T.b_TooMany T.t_TooMany) rfl))) pss_nil) (pss_cons (ps_set (i := 5) sc_table_made.nd rfl (Or.inl rfl) (pe_call G_keys_due (hr.mono (by omega)) (by rfl) T.m_keys_due T.F_keys_due.kp T.b_keys_due .nil pass0 (pa_cons (pv 0) (pa_cons (pv 1) (pa_cons (pe_op op_add (pv 2) (pv 3)) pa_nil))))) (pss_one (ps_ret (pe_dcN (own := [("letter", 6), ("row", 7)]) (tt := tYes) (g := (gTup K 2 (gCons (gName 6) (gCons (gName 7) gNil))))  (roomN hr) rfl sc_table_made.nd (pi_list (pv 5)) (blkOk_by (own := [("letter", 6), ("row", 7)]) (N := ["letters", "states", "few", "turn", "state_at", "keys", "letter", "row"]) (sc := (defScope s_table_made)) (by decide +kernel)) (fun _ _ _ _ _ => (pg_tup rfl (pgs_cons (pg_name (i := 6) sc_table_made.nd rfl (Or.inl rfl)) (pgs_cons (pg_name (i := 7) sc_table_made.nd rfl (Or.inl rfl)) pgs_nil)))) (fun _ _ _ _ _ => pts_nil) (fun _ _ _ _ _ => (pe_tup (pa_cons (pv 6) (pa_cons (pv 7) pa_nil)))) (fun _ _ _ _ _ => (pe_calX (i := 4) C_state_at (hr.mono (by omega)) rfl (.inr (.inl (by rfl))) (pa_cons (pv 6) (pa_cons (pv 7) pa_nil)))))))))), ?_⟩
  by_cases h4 : 4 < turn
  · exact ⟨_, rfl, _, _, rfl, rfl, _, rfl, dT (by omega) q⟩
  · refine ⟨_, rfl, _, _, rfl, rfl, _, rfl, dF (by omega) ?_⟩
    refine ⟨_, rfl, _, rfl, _, rfl, _, rfl, _, _, rfl, rfl, L, n, few + turn, rfl, h26, h6, h20, _, _, rfl, rfl, _, rfl, dT (by omega) q⟩
theorem okB_judge_made (T : Txt K mg) (B : Tbs T base) (M : KTab K w T.a_MADE_OF_OTHERS made) {TT : List NdefX.NTab} (hTT : TTj T TT) : FnOk P w K mg base (L2.CX P w) 15 T.f_judge_made T.d_judge_made ["rules"] (spB_judge_made T.C_TooMany TT) := by
  have G__few_and_turn : FnOk P w K mg base CX0 5 T.f__few_and_turn T.d__few_and_turn ["conditions"] sp__few_and_turn := ok__few_and_turn T M
  have G_table_made : FnOk P w K mg base (L2.CX P w) 4 T.f_table_made T.d_table_made ["letters", "states", "few", "turn", "state_at"] (spB_table_made T.C_TooMany) := okB_table_made T
  refine okXC T.F_judge_made T.h_judge_made sc_judge_made (fun vs H Q E h => ?_) (fun A outer s H vs Q E hr h => ?_)
  · obtain ⟨v, R, rfl, _⟩ := h
    rfl
  obtain ⟨v, R, rfl, hR, hok, hT, hbad, q⟩ := h
  obtain ⟨a, d, g, es, rfl, ha, _, hd, _, hes, hg, _⟩ := hR
  refine ⟨_, (pss_cons (ps_asg (pv 0) (pg_tup rfl (pgs_cons (pg_name (i := 1) sc_judge_made.nd rfl (Or.inl rfl)) (pgs_cons (pg_name (i := 2) sc_judge_made.nd rfl (Or.inl rfl)) (pgs_cons (pg_name (i := 3) sc_judge_made.nd rfl (Or.inr rfl)) (pgs_cons (pg_name (i := 4) sc_judge_made.nd rfl (Or.inl rfl)) pgs_nil)))))) (pss_cons (ps_asg (pe_call G__few_and_turn (hr.mono (by omega)) (by rfl) T.m__few_and_turn T.F__few_and_turn.kp T.b__few_and_turn .nil pass0 (pa_cons (pe_lc2 (own := [("letter", 8), ("condition", 9), ("_", 10)]) (vs1 := [9, 10]) (g := gName 8) (g1 := gTup K 2 (gCons (gName 9) (gCons (gName 10) gNil))) (tt := tYes) (tt1 := tYes) (wi1 := iList K (tDGet (tVar 3) (tVar 8))) (te := tVar 9) rfl sc_judge_made.nd (pi_str (pv 1)) (blkOk_by (own := [("letter", 8), ("condition", 9), ("_", 10)]) (N := ["rules", "letters", "states", "rows", "good", "few", "turn", "table", "letter", "condition", "_"]) (sc := (defScope s_judge_made)) (by decide +kernel)) (by decide) (fun _ _ _ _ _ => (pg_name (i := 8) sc_judge_made.nd rfl (Or.inl rfl))) (fun _ _ _ _ _ => pts_nil) (fun _ _ _ _ _ => (pi_list (pe_dget (hu_of hr) (pv 3) (pv 8) (fun _ _ => rfl)))) (fun _ _ _ _ _ => (pg_tup rfl (pgs_cons (pg_name (i := 9) sc_judge_made.nd rfl (Or.inl rfl)) (pgs_cons (pg_name (i := 10) sc_judge_made.nd rfl (Or.inl rfl)) pgs_nil)))) (fun _ _ _ _ _ => pts_nil) (fun _ _ _ _ _ => (pv 9))) pa_nil)) (pg_tup rfl (pgs_cons (pg_name (i := 5) sc_judge_made.nd rfl (Or.inl rfl)) (pgs_cons (pg_name (i := 6) sc_judge_made.nd rfl (Or.inl rfl)) pgs_nil)))) (pss_cons (ps_set (i := 7) sc_judge_made.nd rfl (Or.inl rfl) (pe_call G_table_made (hr.mono (by omega)) (by rfl) T.m_table_made T.F_table_made.kp T.b_table_made .nil (passes_call (takes_of rfl rfl rfl rfl) fun _ _ _ _ h => h) (pa_cons (pv 1) (pa_cons (pv 2) (pa_cons (pv 5) (pa_cons (pv 6) (pa_cons (pe_lamXc B.tb_judge_made rfl (by rfl) (fr := ["rows"]) (by show NdefX.ndefB (defScope s_judge_made) _ _ = true; decide +kernel)) pa_nil))))))) (pss_one (ps_ret (pe_tup (pa_cons (pv 1) (pa_cons (pv 2) (pa_cons (pv 5) (pa_cons (pv 6) (pa_cons (pv 7) (pa_cons (pe_callTy call_list_of (by rfl) T.z_list (by decide +kernel) (pa_cons (pv 4) pa_nil)) pa_nil)))))))))))), ?_⟩
  refine ⟨_, rfl, _, _, rfl, SqT.of ha, rfl, ?_⟩
  refine ⟨_, _, rfl, _, _, rfl, _, _, rfl, _, _, rfl, rfl, ?_⟩
  refine ⟨_, rfl, R.L, rfl, fun D hD => ?_⟩
  have lsz : R.L.cps.size = R.L.cps.toList.length := (Array.length_toList).symm
  have l26 : R.L.cps.toList.length ≤ 26 := by rw [← lsz]; exact hok.L.2.1
  have nDd : d ≠ D := ne_of_none hd hD
  refine lc_walk (len := R.L.cps.size) walk_str (fun j H2 => ∃ ws : List V, H2 D = some (.lst ws) ∧ ws.length ≤ 100 * j ∧ DtAll (fun b => b ≠ D) H2 ws (((R.L.cps.toList.take j).flatMap fun c => ((R.rows.lookup c).getD []).map (·.1)).map Cd.dat) ∧ Same H H2)
    ⟨[], upd_same, Nat.le_refl _, .nil, same_new hD⟩ (fun _ _ _ _ => trivial) ?_ ?_
  · rintro j x H2 H2' hj ⟨ws, g1, g2, g3, g4⟩ ⟨rfl, c, hc, rfl⟩
    have hc2 : R.L.cps.toList[j]? = some c := by rw [Array.getElem?_toList]; exact hc
    obtain ⟨rs, hrs, hro⟩ := hok.at (List.mem_of_getElem? hc2)
    obtain ⟨rv, hv1, hv2⟩ := rows_val hes hrs
    have hv3 := hv2.off hD
    obtain ⟨r100, _, _⟩ := id hro
    cases hv3 with
    | @lst p xs ds hp _ hl r =>
    have lr := r.len
    rw [List.length_map] at lr
    refine ⟨rfl, _, rfl, _, rfl, d, _, rfl, ?_, p, rfl, ⟨_, SqL.of (g4 _ _ hp)⟩, ?_⟩
    · have := DGet.k (k := .inr (ch c)) (g4 _ _ hd)
      rw [hv1] at this
      exact this
    refine lc_outer (xs := xs) (fun m H3 => ∃ us : List V, H3 D = some (.lst (ws ++ us)) ∧ us.length = m ∧ DtAll (fun b => b ≠ D) H3 ws (((R.L.cps.toList.take j).flatMap fun c => ((R.rows.lookup c).getD []).map (·.1)).map Cd.dat) ∧ DtAll (fun b => b ≠ D) H3 us (((rs.take m).map (·.1)).map Cd.dat) ∧ Same H H3)
      ⟨[], by simpa using g1, rfl, g3, .nil, g4⟩ (fun m H3 _ ⟨_, _, _, _, _, s⟩ => SqL.of (s _ _ hp)) ?_ ?_
    · rintro m z H3 hz ⟨us, k1, k2, k3, k4, k5⟩
      obtain ⟨dz, hdz, hz2⟩ := r.getV hz
      rw [List.getElem?_map] at hdz
      cases hcm : rs[m]? with
      | none => rw [hcm] at hdz; cases hdz
      | some r1 =>
      rw [hcm] at hdz
      cases hdz
      have hm := (List.getElem?_eq_some_iff.mp hcm).1
      cases hz2 with
      | @tup pr ys _ hpr _ _ rr =>
      cases rr with
      | @cons cv _ _ _ c1 c2 =>
      cases c2 with
      | cons c2 c3 =>
      cases c2
      cases c3
      refine ⟨pr, _, rfl, SqT.of (k5 _ _ hpr), rfl, _, _, rfl, _, _, rfl, rfl, rfl, _, rfl, _, k1, ?_, us ++ [cv], ?_, by rw [List.length_append, k2]; rfl, k3.keep (upd_keep fun b h => h), ?_, same_add k5 hD⟩
      · rw [List.length_append]
        exact Nat.lt_of_le_of_lt (show _ ≤ 1000000 by omega) (by decide)
      · rw [upd_same, List.append_assoc]
      · rw [take_succ_of hcm, List.map_append, List.map_append]
        exact (dtAll_app k4 (.cons ((c1.weak fun b h => h.2).same k5) .nil)).keep (upd_keep fun b h => h)
    · rintro H3 ⟨us, k1, k2, k3, k4, k5⟩
      refine ⟨ws ++ us, k1, by rw [List.length_append]; omega, ?_, k5⟩
      rw [flat_take _ hc2, List.map_append, hrs]
      rw [lr, List.take_length] at k4
      exact dtAll_app k3 k4
  · rintro H2 ⟨ws, g1, g2, g3, g4⟩
    rw [lsz, List.take_length] at g3
    have cok : ∀ c ∈ condsOf R, c.ok R.n ∧ c.deep ≤ 4 := fun c hc => by
      obtain ⟨l, hl, hc⟩ := List.mem_flatMap.mp hc
      obtain ⟨rs, hrs, hro⟩ := hok.at hl
      rw [hrs] at hc
      obtain ⟨r, hr, rfl⟩ := List.mem_map.mp hc
      obtain ⟨_, h2, _⟩ := hro
      exact ⟨(h2 r hr).1, (h2 r hr).2.1⟩
    have lg := g3.len
    rw [List.length_map] at lg
    refine ⟨D, ws, condsOf R, R.n, rfl, g1, g3.weak fun _ _ => trivial, cok, by show (condsOf R).length ≤ 5000; unfold condsOf; omega, fun p H3 s3 hp => ?_⟩
    have S3 := g4.trans s3
    have pok : ∀ p ∈ (condsOf R).flatMap Cd.plains, p.ok R.n := fun p hp => by
      obtain ⟨c, hc, hp⟩ := List.mem_flatMap.mp hp
      exact (plains_plain R.n c (cok c hc).1 p hp).2
    have few4 : fewR R ≤ 4 := fewP_le _ 0 (by decide) pok
    have turn1 : 1 ≤ turnR R := (le12 (turnP_12 (n := R.n) _ 1 (by decide) pok)).1
    refine ⟨p, _, rfl, SqT.of hp, rfl, _, _, rfl, _, _, rfl, rfl, ?_⟩
    have T3 := hT.ext S3
    have t12 : turnR R ≤ 12 := (le12 (turnP_12 (n := R.n) _ 1 (by decide) pok)).2
    refine ⟨_, rfl, _, rfl, _, rfl, _, rfl, NdefX.TabN.to (T3 _ hTT.r1), fun f c H1 f1 n1 T1 hf0 hf hc => ?_⟩
    have E1 : LamX.ExtN H3 H1 := extN_of_frP T3 hTT.r1 f1
    have TN1 : NdefX.TabsN TT H1 := tabsN_frP T3 hTT.r1 hTT.r2 f1 T1
    have E01 : LamX.ExtN H H1 := fun b o e n => E1 b o (S3 b o e) n
    exact ⟨R.L, R.n, fewR R, turnR R, .ref f, rfl, hok.L.2.1, hok.n6, by omega, hbad, q _ E01 TN1⟩
end

def ItzS (x y : Str) : It := ⟨fun n _ => n < x.cps.size ∧ n < y.cps.size,
  fun n H v H' => ∃ (p : Addr) (c d : Nat), v = .ref p ∧ H p = none ∧ H' = upd H p (.tup [.str (ch c), .str (ch d)]) ∧ x.cps[n]? = some c ∧ y.cps[n]? = some d,
  fun n _ => n ≤ x.cps.size ∧ n ≤ y.cps.size ∧ (n = x.cps.size ∨ n = y.cps.size)⟩
theorem five {z TI TO i1 i2 b : Addr} (h : b ∈ [z, TI, TO, i1, i2]) : b = z ∨ b = TI ∨ b = TO ∨ b = i1 ∨ b = i2 := by simpa using h
theorem turn_zipS {P : Program} {w : World} {K : PySem.W.Frag} {parts : List PySem.Expr} {many : Nat} {at_ : Pos} {z TI TO i1 i2 : Addr} (S : ZipSep2 z TI TO i1 i2 [i1] [i2]) (x y : Str) (t u : Tok) :
    Turn P w K (.Tuple parts many at_) (ItzS x y) [z, TI, TO, i1, i2] z (fun n h => IsZip h z TI TO .none ∧ IsTupOf2 h TI (.ref i1) (.ref i2) ∧ (∃ a b, IsTupOf2 h TO a b) ∧ h.IsStrIter i1 (strIterType x) x t n ∧ h.IsStrIter i2 (strIterType y) y u n) where
  mem := List.mem_cons_self
  obj := by
    rintro n h ⟨hz, hTI, ⟨a, b, hTO⟩, ⟨o1, e1, _, d1⟩, ⟨o2, e2, _, d2⟩⟩ c hc
    rcases five hc with rfl | rfl | rfl | rfl | rfl
    · exact ⟨_, hz, fun v q => nomatch q⟩
    · exact ⟨_, hTI, fun v q => nomatch q⟩
    · exact ⟨_, hTO, fun v q => nomatch q⟩
    · exact ⟨o1, e1, fun v q => by rw [d1] at q; cases q⟩
    · exact ⟨o2, e2, fun v q => by rw [d2] at q; cases q⟩
  keep := by
    rintro n h h' ⟨hz, hTI, ⟨a, b, hTO⟩, ⟨o1, e1, r1⟩, ⟨o2, e2, r2⟩⟩ k
    exact ⟨k z (by simp) _ hz, k TI (by simp) _ hTI, ⟨a, b, k TO (by simp) _ hTO⟩, ⟨o1, k i1 (by simp) _ e1, r1⟩, ⟨o2, k i2 (by simp) _ e2, r2⟩⟩
  item := by
    rintro X rfl rfl rfl calm n pins s σ H E I free ⟨hz, hTI, ⟨a, b, hTO⟩, h1, h2⟩ ⟨lt1, lt2⟩
    have D1 := Draws.text (prog := X.prog) (w := X.w) (A := X.A.in1) (I.ok.hd calm) i1 x t
    have D2 := Draws.text (prog := X.prog) (w := X.w) (A := X.A.in1) (I.ok.hd calm) i2 y u
    have low : z < s.heap.objs.size := Heap.lt_size hz
    refine wpAny_pyNext_zipD2_item S D1 D2 hz hTI hTO h1 h2 lt1 lt2 ?_
    rintro _ _ h3 tk ⟨c, tc, hc, rfl⟩ ⟨d, td, hd, rfl⟩ out pair n1 n2 made _ stays
    refine ⟨_, rfl, wpAny_letOwnedTupleGo_zip (s := { s with heap := h3, toks := tk }) out fun h4 back but => ?_⟩
    have made4 : h4.get? s.heap.objs.size = some { cls := .type "tuple", data := .seq #[.str ⟨#[c]⟩ tc, .str ⟨#[d]⟩ td] } := (but.2 _ (Nat.ne_of_gt low)).trans made
    have new : ObjOk X.prog X.w (upd H s.heap.objs.size (.tup [.str (ch c), .str (ch d)])) h4 s.heap.objs.size (.tup [.str (ch c), .str (ch d)]) :=
      ⟨by show 2 ≤ sizeLine; decide, [.str ⟨#[c]⟩ tc, .str ⟨#[d]⟩ td], .cons ⟨_, rfl⟩ (.cons ⟨_, rfl⟩ .nil), _, made4, rfl, _, rfl⟩
    have J : Inv X pins σ (upd H s.heap.objs.size (.tup [.str (ch c), .str (ch d)])) { s with heap := h4, toks := tk } :=
      I.turnedNew (t' := tk) (ch := [z, TI, TO, i1, i2]) (fun b ob hb e => by
        have ne : b ≠ z ∧ b ≠ TO ∧ b ≠ i1 ∧ b ≠ i2 := ⟨fun q => hb (by simp [q]), fun q => hb (by simp [q]), fun q => hb (by simp [q]), fun q => hb (by simp [q])⟩
        exact (but.2 b ne.1).trans (stays b ob ne.1 ne.2.1 ne.2.2.1 ne.2.2.2 e)) free (Nat.le_refl _) new
    refine ⟨.ref s.heap.objs.size, _, J, rfl, ⟨_, c, d, rfl, I.hok.fresh (Nat.le_refl _), rfl, hc, hd⟩, ⟨back, ?_, ⟨_, _, (but.2 _ S.TOz).trans pair⟩, D1.over n1 but S.zf1, D2.over n2 but S.zf2⟩, fun b hb => ?_⟩
    · exact (but.2 _ S.TIz).trans (stays _ _ S.TIz S.TITO S.TIi1 S.TIi2 hTI)
    · have lt : b < s.heap.objs.size := by
        rcases five hb with rfl | rfl | rfl | rfl | rfl
        · exact low
        · exact Heap.lt_size hTI
        · exact Heap.lt_size hTO
        · obtain ⟨_, e, _⟩ := h1; exact Heap.lt_size e
        · obtain ⟨_, e, _⟩ := h2; exact Heap.lt_size e
      rw [upd_ne (Nat.ne_of_lt lt)]
      exact (free b hb).1
  done := by
    rintro X rfl rfl rfl calm n pins s σ H E I free ⟨hz, hTI, ⟨a, b, hTO⟩, h1, h2⟩ ⟨le1, le2, over⟩
    have D1 := Draws.text (prog := X.prog) (w := X.w) (A := X.A.in1) (I.ok.hd calm) i1 x t
    have D2 := Draws.text (prog := X.prog) (w := X.w) (A := X.A.in1) (I.ok.hd calm) i2 y u
    exact wpAny_pyNext_zipD2_end S D1 D2 hz hTI hTO h1 h2 le1 le2 over fun h' tk stays => ⟨rfl, I.turnedL (t' := tk) (ch := [z, TI, TO, i1, i2]) (fun b ob hb e =>
      stays b ob (fun q => hb (by simp [q])) (fun q => hb (by simp [q])) (fun q => hb (by simp [q])) (fun q => hb (by simp [q])) e) free⟩
  self := fun A n s Q E st h => wpAny_pyIter_zip st.1 h
def iZipS (ta : TA) : TI := fun σ H R => ta σ H fun vs H1 => ∃ x y, vs = [.str x, .str y] ∧ R (ItzS x y) H1
theorem sep_new (n : Nat) : ZipSep2 (n + 4) (n + 2) (n + 3) n (n + 1) [n] [n + 1] := by
  constructor <;> simp <;> omega
theorem pi_zipS {X : Cx} {e e2 : PySem.Expr} {ta : TA} {p pos at_ : Pos} {parts : List PySem.Expr} {many : Nat} (hg : Gl X "zip") (hm : X.mg "zip" = none) (ha : PA X [e, e2] ta)
    (hs : starEach [e, e2] X.env = (false, eval e X.env) :: starEach [e2] X.env := by rfl) (hpl : (backTo pos (starEach [e2] X.env)).any (·.1) = false := by rfl) :
    PI X (.Tuple parts many at_) (.Call (.Name "zip" p) [e, e2] [] pos) (iZipS ta) := by
  refine ⟨fun pins s σ H R I h => Call_ (ld_blt I hg hm PyProof.Rows.boot_zip (PyProof.Rows.callWith_type1 (thn (ha.run pos pins s σ H _ I h) ?_) hs hpl))⟩
  rintro us s1 ⟨_, H1, I1, r1, x, y, rfl, q⟩
  obtain ⟨_, _, rfl, ⟨t, rfl⟩, u, rfl⟩ := Vals.two r1
  refine zip_begins2 (begins_text x t) (begins_text y u) trivial trivial fun h' hz hTI hTO g1 g2 _ keep => wpAny_pyIter_zip hz ?_
  refine ⟨s1.heap.objs.size + 4, [s1.heap.objs.size + 4, s1.heap.objs.size + 2, s1.heap.objs.size + 3, s1.heap.objs.size, s1.heap.objs.size + 1], _, _, H1, rfl, I1.kept (t' := s1.toks) keep, turn_zipS (sep_new _) x y t u, ⟨hz, hTI, ⟨_, _, hTO⟩, ⟨_, g1, rfl, rfl⟩, ⟨_, g2, rfl, rfl⟩⟩, fun b hb => ?_, q⟩
  have hle : s1.heap.objs.size ≤ b := by rcases five hb with rfl | rfl | rfl | rfl | rfl <;> omega
  exact I1.fpOk hle (I1.hok.fresh hle)
theorem walk_zipS {x y : Str} {n : Nat} (hn : n = min x.cps.size y.cps.size) : Walk (ItzS x y) n (fun _ => True) (fun i H v H' => ∃ (p : Addr) (c d : Nat), v = .ref p ∧ H p = none ∧ H' = upd H p (.tup [.str (ch c), .str (ch d)]) ∧ x.cps[i]? = some c ∧ y.cps[i]? = some d) :=
  ⟨fun i _ hi _ => ⟨by omega, by omega⟩, fun _ _ => ⟨by omega, by omega, by omega⟩, fun _ _ _ _ _ _ y => y⟩

def sp_is_letter : Sp := fun vs H Q _ => ∃ c : Nat, vs = [.str (ch c)] ∧ 97 ≤ c ∧ c ≤ 122 ∧ Q (.bl true) H
theorem le_a {c : Nat} (h : 97 ≤ c) : (!decide ((ch c).cps.toList < (Str.ofString "a").cps.toList)) = true := by
  have e : (Str.ofString "a").cps.toList = [97] := by decide +kernel
  rw [e]
  show (!decide (([c] : List Nat) < [97])) = true
  have : ¬ (([c] : List Nat) < [97]) := by
    intro q
    have := List.cons_lt_cons_iff.mp q
    rcases this with z | ⟨z, y⟩
    · omega
    · exact absurd y (by decide)
  simp [this]
theorem le_z {c : Nat} (h : c ≤ 122) : (!decide ((Str.ofString "z").cps.toList < (ch c).cps.toList)) = true := by
  have e : (Str.ofString "z").cps.toList = [122] := by decide +kernel
  rw [e]
  show (!decide (([122] : List Nat) < [c])) = true
  have : ¬ (([122] : List Nat) < [c]) := by
    intro q
    have := List.cons_lt_cons_iff.mp q
    rcases this with z | ⟨z, y⟩
    · omega
    · exact absurd y (by decide)
  simp [this]
section
variable {P : Program} {w : World} {K : PySem.W.Frag} {mg : Str → Option Value} {base : Heap}
theorem ok_is_letter (T : Txt K mg) : FnOk P w K mg base CX0 1 T.f_is_letter T.d_is_letter ["thing"] sp_is_letter := by
  refine T.F_is_letter.ok sc_is_letter (fun vs H Q E h => ?_) (fun cdv A outer s H vs Q E hr h => ?_)
  · obtain ⟨c, rfl, _⟩ := h
    rfl
  obtain ⟨c, rfl, h0, h1, q⟩ := h
  refine ⟨_, (pss_one (ps_ret (pe_and (pe_callB call_isi (by rfl) T.z_isinstance (by decide +kernel) (pa_cons (pv 0) (pa_cons (pe_bltn (v := .ty "str") (by rfl) T.z_str (by decide +kernel) rfl) pa_nil))) (pe_and (pe_cmpR op_eq (pe_callB call_len_str (by rfl) T.z_len PySem.boot_len (pa_cons (pv 0) pa_nil)) pe_int (nomark _)) (pe_one (pe_chain op_le_str op_le_str pe_str (pv 0) pe_str)))))), ?_⟩
  refine ⟨_, rfl, _, _, _, _, true, rfl, .ty "str", .base (.str _), kit_ty (by decide +kernel), _, rfl, iteT ?_⟩
  refine ⟨_, rfl, _, rfl, (by show 1 ≤ sizeLine; decide), rfl, _, rfl, iteT ?_⟩
  refine ⟨_, rfl, _, _, rfl, rfl, _, rfl, ?_⟩
  rw [if_pos (le_a h0)]
  refine ⟨_, _, rfl, rfl, ?_⟩
  rw [le_z h1]
  exact q
end



def sp_is_whole : Sp := fun vs H Q _ => ∃ i : Int, vs = [.int i] ∧ Q (.bl true) H
def sp_is_whole_within : Sp := fun vs H Q _ => ∃ i lo hi : Int, vs = [.int i, .int lo, .int hi] ∧ lo ≤ i ∧ i ≤ hi ∧ Q (.bl true) H
def sp__rises_str : Sp := fun vs H Q _ => ∃ L : Str, vs = [.str L] ∧ Lets L ∧ Rises L ∧ ∀ H', Same H H' → Q (.bl true) H'
def sp__rises_lst (K : PySem.W.Frag) : Sp := fun vs H Q _ => ∃ (a : Addr) (g : List Nat), vs = [.ref a] ∧ H a = some (.lst (g.map nI)) ∧ g.Pairwise (· < ·) ∧ g.length ≤ 100 ∧ ∀ H', Same H H' → Q (.bl true) H'
def sp_are_letters : Sp := fun vs H Q _ => ∃ L : Str, vs = [.str L] ∧ Lets L ∧ Rises L ∧ ∀ H', Same H H' → Q (.bl true) H'
def sp_are_rising_states : Sp := fun vs H Q _ => ∃ (a : Addr) (g : List Nat) (n : Nat), vs = [.ref a, nI n] ∧ H a = some (.lst (g.map nI)) ∧ g.Pairwise (· < ·) ∧ g.length ≤ 100 ∧ (∀ x ∈ g, x < n) ∧ ∀ H', Same H H' → Q (.bl true) H'
theorem rep_succ {α : Type} (n : Nat) (x : α) : List.replicate (n + 1) x = List.replicate n x ++ [x] := by
  rw [List.replicate_succ']
theorem all_rep (n : Nat) : (List.replicate n true).all id = true := by
  rw [List.all_eq_true]
  intro x hx
  rw [List.eq_of_mem_replicate hx]
  rfl
theorem cut_str {L : Str} (h : 1 ≤ L.length) : (cutS L (some 1) none).cps = (L.cps.toList.drop 1).toArray := by
  have h1 : HT.sIx L.length 0 (some 1) = 1 := by
    have := HT.sIx_nat L.length 0 1
    rw [show ((1 : Nat) : Int) = 1 from rfl] at this
    rw [this]
    omega
  unfold cutS
  rw [h1, HT.sIx_none]
  have : (L.cps.toList.drop 1).take (L.length - 1) = L.cps.toList.drop 1 := List.take_of_length_le (by rw [List.length_drop, Array.length_toList]; exact Nat.le_refl _)
  rw [this]
theorem cut_one {L : Str} (h : 1 ≤ L.length) (j : Nat) : (cutS L (some 1) none).cps[j]? = L.cps[j + 1]? := by
  rw [cut_str h, List.getElem?_toArray, List.getElem?_drop, Array.getElem?_toList, Nat.add_comm]
theorem cut_size {L : Str} (h : 1 ≤ L.length) : (cutS L (some 1) none).cps.size = L.cps.size - 1 := by
  rw [cut_str h, List.size_toArray, List.length_drop, Array.length_toList]
section
variable {P : Program} {w : World} {K : PySem.W.Frag} {mg : Str → Option Value} {base : Heap}
theorem ok_is_whole (T : Txt K mg) : FnOk P w K mg base CX0 1 T.f_is_whole T.d_is_whole ["thing"] sp_is_whole := by
  refine T.F_is_whole.ok sc_is_whole (fun vs H Q E h => ?_) (fun cdv A outer s H vs Q E hr h => ?_)
  · obtain ⟨i, rfl, _⟩ := h
    rfl
  obtain ⟨i, rfl, q⟩ := h
  refine ⟨_, (pss_one (ps_ret (pe_and (pe_callB call_isi (by rfl) T.z_isinstance (by decide +kernel) (pa_cons (pv 0) (pa_cons (pe_bltn (v := .ty "int") (by rfl) T.z_int (by decide +kernel) rfl) pa_nil))) (pe_one (pe_not (pe_callB call_isi (by rfl) T.z_isinstance (by decide +kernel) (pa_cons (pv 0) (pa_cons (pe_bltn (v := .ty "bool") (by rfl) T.z_bool (by decide +kernel) rfl) pa_nil)))))))), ?_⟩
  refine ⟨_, rfl, _, _, _, _, true, rfl, .ty "int", .base (.int _), kit_ty (by decide +kernel), _, rfl, iteT ?_⟩
  exact ⟨_, rfl, _, _, _, _, false, rfl, .ty "bool", .base (.int _), kit_ty (by decide +kernel), _, rfl, q⟩
theorem ok_is_whole_within (T : Txt K mg) : FnOk P w K mg base CX0 2 T.f_is_whole_within T.d_is_whole_within ["thing", "low", "high"] sp_is_whole_within := by
  have G_is_whole : FnOk P w K mg base CX0 1 T.f_is_whole T.d_is_whole ["thing"] sp_is_whole := ok_is_whole T
  refine T.F_is_whole_within.ok sc_is_whole_within (fun vs H Q E h => ?_) (fun cdv A outer s H vs Q E hr h => ?_)
  · obtain ⟨i, lo, hi, rfl, _⟩ := h
    rfl
  obtain ⟨i, lo, hi, rfl, h1, h2, q⟩ := h
  refine ⟨_, (pss_one (ps_ret (pe_and (pe_call G_is_whole (hr.mono (by omega)) (by rfl) T.m_is_whole T.F_is_whole.kp T.b_is_whole .nil pass0 (pa_cons (pv 0) pa_nil)) (pe_one (pe_chain op_le op_le (pv 1) (pv 0) (pv 2)))))), ?_⟩
  refine ⟨_, rfl, i, rfl, _, rfl, iteT ?_⟩
  refine ⟨_, rfl, _, rfl, _, _, rfl, rfl, _, rfl, dT h1 ?_⟩
  refine ⟨_, rfl, _, _, rfl, rfl, ?_⟩
  show Q (V.bl (decide (i ≤ hi))) H
  rw [decide_eq_true h2]
  exact q
theorem ok__rises_str (T : Txt K mg) : FnOk P w K mg base CX0 1 T.f__rises T.d__rises ["row"] sp__rises_str := by
  refine T.F__rises.ok sc__rises (fun vs H Q E h => ?_) (fun cdv A outer s H vs Q E hr h => ?_)
  · obtain ⟨L, rfl, _⟩ := h
    rfl
  obtain ⟨L, rfl, hL, hR, q⟩ := h
  refine ⟨_, (pss_one (ps_ret (pe_callB (cr_all rfl) (by rfl) T.z_all (by decide +kernel) (pa_cons (pe_lc (own := [("low", 1), ("high", 2)]) (g := gTup K 2 (gCons (gName 1) (gCons (gName 2) gNil))) (tt := tYes) rfl sc__rises.nd (pi_zipS (by rfl) T.z_zip (pa_cons (pv 0) (pa_cons (pe_slice sl_str (pv 0) (po_some pe_int) po_none) pa_nil))) (blkOk_by (own := [("low", 1), ("high", 2)]) (N := ["row", "low", "high"]) (sc := (defScope s__rises)) (by decide +kernel)) (fun _ _ _ _ _ => (pg_tup rfl (pgs_cons (pg_name (i := 1) sc__rises.nd rfl (Or.inl rfl)) (pgs_cons (pg_name (i := 2) sc__rises.nd rfl (Or.inl rfl)) pgs_nil)))) (fun _ _ _ _ _ => pts_nil) (fun _ _ _ _ _ => (pe_cmpR op_lt_str (pv 1) (pv 2) (nomark _)))) pa_nil)))), ?_⟩
  have lsz : L.cps.size = L.cps.toList.length := (Array.length_toList).symm
  have l26 : L.cps.toList.length ≤ 26 := by rw [← lsz]; exact hL.2.1
  have hcut : ∀ j : Nat, (cutS L (some 1) none).cps[j]? = L.cps[j + 1]? := cut_one hL.1
  have hsz : (cutS L (some 1) none).cps.size = L.cps.size - 1 := cut_size hL.1
  refine ⟨_, rfl, _, rfl, 1, rfl, L, rfl, Nat.le_of_lt (Nat.lt_of_le_of_lt (show _ ≤ 1000000 by have := hL.2.1; omega) (by decide)), L, _, rfl, fun D hD => ?_⟩
  refine lc_it (n := L.cps.size - 1) (walk_zipS (by rw [hsz]; omega)) (fun i H2 => H2 D = some (.lst ((List.replicate i true).map V.bl)) ∧ Same H H2) ⟨upd_same, same_new hD⟩ (fun _ _ _ _ => trivial) ?_ ?_
  · rintro i x H2 H3 hi ⟨g1, g2⟩ ⟨p, c, d, rfl, hp, rfl, hc, hd⟩
    rw [hcut] at hd
    have lt : c < d := by
      have h1 := Array.getElem?_eq_some_iff.mp hc
      have h2 := Array.getElem?_eq_some_iff.mp hd
      have := (List.pairwise_iff_getElem.mp hR) i (i + 1) (by rw [← lsz]; exact h1.1) (by rw [← lsz]; exact h2.1) (by omega)
      simpa [h1.2, h2.2] using this
    have sp := same_new (o := .tup [.str (ch c), .str (ch d)]) hp
    have kp := upd_same (H := H2) (a := p) (o := .tup [.str (ch c), .str (ch d)])
    generalize upd H2 p (.tup [.str (ch c), .str (ch d)]) = H4 at *
    refine ⟨p, _, rfl, SqT.of kp, rfl, _, _, rfl, _, _, rfl, rfl, rfl, _, rfl, _, rfl, _, _, rfl, rfl, ?_⟩
    have e : decide ((ch c).cps.toList < (ch d).cps.toList) = true := decide_eq_true (List.cons_lt_cons_iff.mpr (.inl lt))
    rw [e]
    refine ⟨_, sp _ _ g1, ?_, ?_, same_add (g2.trans sp) hD⟩
    · rw [List.length_map, List.length_replicate]
      exact Nat.lt_of_le_of_lt (show _ ≤ 1000000 by omega) (by decide)
    · rw [upd_same, rep_succ, List.map_append]
      rfl
  · rintro H2 ⟨g1, g2⟩
    refine ⟨D, _, rfl, SqL.of g1, ?_⟩
    rw [all_rep]
    exact q H2 g2
end

theorem tru_str {K : PySem.W.Frag} {H : Hp} {L : Str} (h : 1 ≤ L.length) (h2 : L.length ≤ 26) : TruV K (.str L) H true := by
  refine ⟨Nat.le_of_lt (Nat.lt_of_le_of_lt (show _ ≤ 1000000 by omega) (by decide)), ?_⟩
  have : (L.length : Int) ≠ 0 := by omega
  have h3 : ¬ L.length = 0 := by omega
  simp [h3]
section
variable {P : Program} {w : World} {K : PySem.W.Frag} {mg : Str → Option Value} {base : Heap}
theorem ok__rises_lst (T : Txt K mg) : FnOk P w K mg base CX0 1 T.f__rises T.d__rises ["row"] (sp__rises_lst K) := by
  refine T.F__rises.ok sc__rises (fun vs H Q E h => ?_) (fun cdv A outer s H vs Q E hr h => ?_)
  · obtain ⟨a, g, rfl, _⟩ := h
    rfl
  obtain ⟨a, g, rfl, ha, hR, h100, q⟩ := h
  refine ⟨_, (pss_one (ps_ret (pe_callB (cr_all rfl) (by rfl) T.z_all (by decide +kernel) (pa_cons (pe_lc (own := [("low", 1), ("high", 2)]) (g := gTup K 2 (gCons (gName 1) (gCons (gName 2) gNil))) (tt := tYes) rfl sc__rises.nd (pi_zip (by rfl) T.z_zip (pa_cons (pv 0) (pa_cons (pe_slice sl_list (pv 0) (po_some pe_int) po_none) pa_nil))) (blkOk_by (own := [("low", 1), ("high", 2)]) (N := ["row", "low", "high"]) (sc := (defScope s__rises)) (by decide +kernel)) (fun _ _ _ _ _ => (pg_tup rfl (pgs_cons (pg_name (i := 1) sc__rises.nd rfl (Or.inl rfl)) (pgs_cons (pg_name (i := 2) sc__rises.nd rfl (Or.inl rfl)) pgs_nil)))) (fun _ _ _ _ _ => pts_nil) (fun _ _ _ _ _ => (pe_cmpR op_lt (pv 1) (pv 2) (nomark _)))) pa_nil)))), ?_⟩
  have hcut : cutV (g.map nI) (some 1) none = (g.drop 1).map nI := by
    cases g with
    | nil => rfl
    | cons x r => rw [List.map_cons, cut1]; rfl
  refine ⟨_, rfl, _, rfl, 1, rfl, a, _, rfl, SqL.of ha, fun p hp => ?_⟩
  rw [hcut]
  have sp := same_new (o := .lst ((g.drop 1).map nI)) hp
  have kp := upd_same (H := H) (a := p) (o := .lst ((g.drop 1).map nI))
  have ka := sp _ _ ha
  generalize upd H p (.lst ((g.drop 1).map nI)) = H1 at *
  refine ⟨a, p, _, _, rfl, SqL.of ka, SqL.of kp, fun D hD => ?_⟩
  refine lc_it (n := g.length - 1) (walk_zip (K := K) (a := a) (b := p) (xs := g.map nI) (ys := (g.drop 1).map nI) (by rw [List.length_map, List.length_map, List.length_drop]; omega)) (fun i H2 => H2 D = some (.lst ((List.replicate i true).map V.bl)) ∧ Same H1 H2) ⟨upd_same, same_new hD⟩ (fun i H2 _ h => ⟨SqL.of (h.2 _ _ ka), SqL.of (h.2 _ _ kp)⟩) ?_ ?_
  · rintro i x H2 H3 hi ⟨g1, g2⟩ ⟨T, u, v, rfl, hT, rfl, hu, hv⟩
    dsimp only at hu hv
    rw [List.getElem?_map] at hu hv
    rw [List.getElem?_drop] at hv
    cases hc : g[i]? with
    | none => rw [hc] at hu; cases hu
    | some c =>
    cases hd : g[1 + i]? with
    | none => rw [hd] at hv; cases hv
    | some d =>
    rw [hc] at hu
    rw [hd] at hv
    cases hu
    cases hv
    have lt : c < d := by
      have h1 := List.getElem?_eq_some_iff.mp hc
      have h2 := List.getElem?_eq_some_iff.mp hd
      have := (List.pairwise_iff_getElem.mp hR) i (1 + i) h1.1 h2.1 (by omega)
      simpa [h1.2, h2.2] using this
    have sT := same_new (o := .tup [nI c, nI d]) hT
    have kT := upd_same (H := H2) (a := T) (o := .tup [nI c, nI d])
    generalize upd H2 T (.tup [nI c, nI d]) = H4 at *
    refine ⟨T, _, rfl, SqT.of kT, rfl, _, _, rfl, _, _, rfl, rfl, rfl, _, rfl, _, rfl, _, _, rfl, rfl, ?_⟩
    have e : decide ((c : Int) < (d : Int)) = true := decide_eq_true (by omega)
    refine ⟨_, sT _ _ g1, ?_, ?_, same_add (g2.trans sT) hD⟩
    · rw [List.length_map, List.length_replicate]
      exact Nat.lt_of_le_of_lt (show _ ≤ 1000000 by omega) (by decide)
    · show (upd H4 D (.lst ((List.replicate i true).map V.bl ++ [V.bl (decide ((c : Int) < (d : Int)))]))) D = _
      rw [upd_same, e, rep_succ, List.map_append]
      rfl
  · rintro H2 ⟨g1, g2⟩
    refine ⟨D, _, rfl, SqL.of g1, ?_⟩
    rw [all_rep]
    exact q H2 (sp.trans g2)
theorem ok_are_letters (T : Txt K mg) : FnOk P w K mg base CX0 2 T.f_are_letters T.d_are_letters ["thing"] sp_are_letters := by
  have G_is_letter : FnOk P w K mg base CX0 1 T.f_is_letter T.d_is_letter ["thing"] sp_is_letter := ok_is_letter T
  have G__rises : FnOk P w K mg base CX0 1 T.f__rises T.d__rises ["row"] sp__rises_str := ok__rises_str T
  refine T.F_are_letters.ok sc_are_letters (fun vs H Q E h => ?_) (fun cdv A outer s H vs Q E hr h => ?_)
  · obtain ⟨L, rfl, _⟩ := h
    rfl
  obtain ⟨L, rfl, hL, hR, q⟩ := h
  refine ⟨_, (pss_cons (ps_if (PW.pt (pw_or (pt_not (pt_val (pe_callB call_isi (by rfl) T.z_isinstance (by decide +kernel) (pa_cons (pv 0) (pa_cons (pe_bltn (v := .ty "str") (by rfl) T.z_str (by decide +kernel) rfl) pa_nil))))) (pw_or1 (pt_not (pt_truth (pv 0) (by intro _; rfl)))))) (pss_one (ps_ret pe_bl)) pss_nil) (pss_one (ps_ret (pe_and (pe_callB (cr_all rfl) (by rfl) T.z_all (by decide +kernel) (pa_cons (pe_lc (own := [("sign", 1)]) (g := gName 1) (tt := tYes) rfl sc_are_letters.nd (pi_str (pv 0)) (blkOk_by (own := [("sign", 1)]) (N := ["thing", "sign"]) (sc := (defScope s_are_letters)) (by decide +kernel)) (fun _ _ _ _ _ => (pg_name (i := 1) sc_are_letters.nd rfl (Or.inl rfl))) (fun _ _ _ _ _ => pts_nil) (fun _ _ _ _ _ => (pe_call G_is_letter (hr.mono (by omega)) (by rfl) T.m_is_letter T.F_is_letter.kp T.b_is_letter .nil pass0 (pa_cons (pv 1) pa_nil)))) pa_nil)) (pe_one (pe_call G__rises (hr.mono (by omega)) (by rfl) T.m__rises T.F__rises.kp T.b__rises .nil pass0 (pa_cons (pv 0) pa_nil))))))), ?_⟩
  have lsz : L.cps.size = L.cps.toList.length := (Array.length_toList).symm
  have l26 : L.cps.toList.length ≤ 26 := by rw [← lsz]; exact hL.2.1
  refine ⟨_, rfl, _, _, _, _, true, rfl, .ty "str", .base (.str _), kit_ty (by decide +kernel), _, rfl, iteF ?_⟩
  refine ⟨_, rfl, true, tru_str hL.1 hL.2.1, iteF ?_⟩
  refine ⟨_, rfl, L, rfl, fun D hD => ?_⟩
  refine lc_it (n := L.cps.size) walk_str (fun i H2 => H2 D = some (.lst ((List.replicate i true).map V.bl)) ∧ Same H H2) ⟨upd_same, same_new hD⟩ (fun _ _ _ _ => trivial) ?_ ?_
  · rintro i x H2 H3 hi ⟨g1, g2⟩ ⟨rfl, c, hc, rfl⟩
    have hm := hL.2.2 c (by have := Array.getElem?_eq_some_iff.mp hc; rw [← this.2]; exact Array.mem_toList_iff.mpr (Array.getElem_mem this.1))
    refine ⟨rfl, _, rfl, c, rfl, hm.1, hm.2, _, g1, ?_, ?_, same_add g2 hD⟩
    · rw [List.length_map, List.length_replicate]
      exact Nat.lt_of_le_of_lt (show _ ≤ 1000000 by omega) (by decide)
    · rw [upd_same, rep_succ, List.map_append]
      rfl
  · rintro H2 ⟨g1, g2⟩
    refine ⟨D, _, rfl, SqL.of g1, ?_⟩
    rw [all_rep]
    exact ⟨_, rfl, iteT ⟨_, rfl, L, rfl, hL, hR, fun H3 s3 => q H3 (g2.trans s3)⟩⟩
theorem ok_are_rising_states (T : Txt K mg) : FnOk P w K mg base CX0 3 T.f_are_rising_states T.d_are_rising_states ["thing", "states"] sp_are_rising_states := by
  have G_is_whole_within : FnOk P w K mg base CX0 2 T.f_is_whole_within T.d_is_whole_within ["thing", "low", "high"] sp_is_whole_within := ok_is_whole_within T
  have G__rises : FnOk P w K mg base CX0 1 T.f__rises T.d__rises ["row"] (sp__rises_lst K) := ok__rises_lst T
  refine T.F_are_rising_states.ok sc_are_rising_states (fun vs H Q E h => ?_) (fun cdv A outer s H vs Q E hr h => ?_)
  · obtain ⟨a, g, n, rfl, _⟩ := h
    rfl
  obtain ⟨a, g, n, rfl, ha, hR, h100, hn, q⟩ := h
  refine ⟨_, (pss_cons (ps_if (pt_not (pt_val (pe_callB call_isi (by rfl) T.z_isinstance (by decide +kernel) (pa_cons (pv 0) (pa_cons (pe_bltn (v := .ty "list") (by rfl) T.z_list (by decide +kernel) rfl) pa_nil))))) (pss_one (ps_ret pe_bl)) pss_nil) (pss_one (ps_ret (pe_and (pe_callB (cr_all rfl) (by rfl) T.z_all (by decide +kernel) (pa_cons (pe_lc (own := [("state", 2)]) (g := gName 2) (tt := tYes) rfl sc_are_rising_states.nd (pi_list (pv 0)) (blkOk_by (own := [("state", 2)]) (N := ["thing", "states", "state"]) (sc := (defScope s_are_rising_states)) (by decide +kernel)) (fun _ _ _ _ _ => (pg_name (i := 2) sc_are_rising_states.nd rfl (Or.inl rfl))) (fun _ _ _ _ _ => pts_nil) (fun _ _ _ _ _ => (pe_call G_is_whole_within (hr.mono (by omega)) (by rfl) T.m_is_whole_within T.F_is_whole_within.kp T.b_is_whole_within .nil pass0 (pa_cons (pv 2) (pa_cons pe_int (pa_cons (pe_op op_sub (pv 1) pe_int) pa_nil)))))) pa_nil)) (pe_one (pe_call G__rises (hr.mono (by omega)) (by rfl) T.m__rises T.F__rises.kp T.b__rises .nil pass0 (pa_cons (pv 0) pa_nil))))))), ?_⟩
  refine ⟨_, rfl, _, _, _, _, true, rfl, .ty "list", .base (.lst ha), kit_ty (by decide +kernel), _, rfl, iteF ?_⟩
  refine ⟨_, rfl, a, rfl, ⟨_, SqL.of ha⟩, fun D hD => ?_⟩
  refine lc_list (xs := g.map nI) (fun i H2 => H2 D = some (.lst ((List.replicate i true).map V.bl)) ∧ Same H H2) ⟨upd_same, same_new hD⟩ (fun i H2 _ ⟨_, s⟩ => SqL.of (s _ _ ha)) ?_ ?_
  · rintro i x H2 hx ⟨g1, g2⟩
    rw [List.getElem?_map] at hx
    cases hc : g[i]? with
    | none => rw [hc] at hx; cases hx
    | some z =>
    rw [hc] at hx
    cases hx
    have hz := hn z (List.mem_of_getElem? hc)
    have hi := (List.getElem?_eq_some_iff.mp hc).1
    refine ⟨rfl, _, rfl, _, rfl, _, _, rfl, rfl, z, 0, n - 1, rfl, by omega, by omega, _, g1, ?_, ?_, same_add g2 hD⟩
    · rw [List.length_map, List.length_replicate]
      exact Nat.lt_of_le_of_lt (show _ ≤ 1000000 by omega) (by decide)
    · rw [upd_same, rep_succ, List.map_append]
      rfl
  · rintro H2 ⟨g1, g2⟩
    refine ⟨D, _, rfl, SqL.of g1, ?_⟩
    rw [all_rep]
    exact ⟨_, rfl, iteT ⟨_, rfl, a, g, rfl, g2 _ _ ha, hR, h100, fun H3 s3 => q H3 (g2.trans s3)⟩⟩
end

theorem neS {x y : V} {i : Decidable (x = y)} {A B : Prop} (h : x = y) (k : B) : if (!@decide (x = y) i) = true then A else B := by
  rw [decide_eq_true h]
  exact iteF k
def FrD (d : Addr) (H H' : Hp) : Prop := ∀ b o, b ≠ d → H b = some o → H' b = some o
theorem keysOf_len (L : Str) (n k : Nat) : (keysOf L n k).length = L.length * k ^ n := by
  have e : (keysOf L n k).length = L.cps.toList.length * (rowsTo n k).length := by
    unfold keysOf
    generalize L.cps.toList = l
    induction l with
    | nil => simp
    | cons a t ih => rw [List.flatMap_cons, List.length_append, List.length_map, ih, List.length_cons, Nat.succ_mul, Nat.add_comm]
  rw [e, rowsTo_len, Array.length_toList]
  rfl
theorem keysOf_mem {L : Str} {n k : Nat} {key : Nat × List Nat} (h : key ∈ keysOf L n k) : key.1 ∈ L.cps.toList ∧ key.2.length = n ∧ ∀ x ∈ key.2, x < k := by
  simp only [keysOf, List.mem_flatMap, List.mem_map] at h
  obtain ⟨c, hc, row, hrow, rfl⟩ := h
  exact ⟨hc, rowsTo_mem hrow⟩
theorem nks_nums {H : Hp} : ∀ {r : List Nat} {vs : List V}, NKs H (r.map fun x : Nat => .num (x : Int)) vs → vs = r.map nI
  | [], _, h => by cases h; rfl
  | x :: r, _, h => by
    cases h with
    | cons a b =>
      cases a
      rw [nks_nums b]
      rfl
theorem nk_inv {H : Hp} {b : Addr} {c : Nat} {r : List Nat} (h : NK H (keyN c r) (.ref b)) : ∃ a, H b = some (.tup [.str (ch c), .ref a]) ∧ H a = some (.tup (r.map nI)) := by
  unfold keyN at h
  cases h with
  | tup h1 h2 =>
    cases h2 with
    | cons a1 a2 =>
    cases a1
    cases a2 with
    | cons b1 b2 =>
    cases b2
    cases b1 with
    | tup c1 c2 =>
    rw [nks_nums c2] at c1
    exact ⟨_, h1, c1⟩

/- may_have_table of letters and numbers within a judge's bounds: whether the tuples due are not too many. -/
def sp_may_have_table : Sp := fun vs H Q _ => ∃ (L : Str) (n few turn : Nat), vs = [.str L, nI n, nI few, nI turn] ∧ Lets L ∧ Rises L ∧ 1 ≤ n ∧ n ≤ 6 ∧ few ≤ 4 ∧ 1 ≤ turn ∧ turn ≤ 4 ∧ ∀ H', Same H H' → Q (.bl (decide (L.length * (few + turn) ^ n ≤ 600))) H'
section
variable {P : Program} {w : World} {K : PySem.W.Frag} {mg : Str → Option Value} {base : Heap}
theorem ok_may_have_table (T : Txt K mg) : FnOk P w K mg base CX0 4 T.f_may_have_table T.d_may_have_table ["letters", "states", "few", "turn"] sp_may_have_table := by
  have G_are_letters : FnOk P w K mg base CX0 2 T.f_are_letters T.d_are_letters ["thing"] sp_are_letters := ok_are_letters T
  have G_is_whole_within : FnOk P w K mg base CX0 2 T.f_is_whole_within T.d_is_whole_within ["thing", "low", "high"] sp_is_whole_within := ok_is_whole_within T
  have G_tuples_due : FnOk P w K mg base CX0 1 T.f_tuples_due T.d_tuples_due ["letters", "states", "classes"] sp_tuples_due := ok_tuples_due T
  refine T.F_may_have_table.ok sc_may_have_table (fun vs H Q E h => ?_) (fun cdv A outer s H vs Q E hr h => ?_)
  · obtain ⟨L, n, few, turn, rfl, _⟩ := h
    rfl
  obtain ⟨L, n, few, turn, rfl, hL, hR, n1, n6, f4, t1, t4, q⟩ := h
  refine ⟨_, (pss_cons (ps_if (PW.pt (pw_or (pt_not (pt_val (pe_call G_are_letters (hr.mono (by omega)) (by rfl) T.m_are_letters T.F_are_letters.kp T.b_are_letters .nil pass0 (pa_cons (pv 0) pa_nil)))) (pw_or1 (pt_not (pt_val (pe_call G_is_whole_within (hr.mono (by omega)) (by rfl) T.m_is_whole_within T.F_is_whole_within.kp T.b_is_whole_within .nil pass0 (pa_cons (pv 1) (pa_cons pe_int (pa_cons (pe_glob (v := .int (6)) rfl T.g_MOST_STATES ⟨_, rfl⟩) pa_nil))))))))) (pss_one (ps_ret pe_bl)) pss_nil) (pss_cons (ps_if (PW.pt (pw_or (pt_not (pt_val (pe_call G_is_whole_within (hr.mono (by omega)) (by rfl) T.m_is_whole_within T.F_is_whole_within.kp T.b_is_whole_within .nil pass0 (pa_cons (pv 2) (pa_cons pe_int (pa_cons (pe_glob (v := .int (4)) rfl T.g_MOST_FEW ⟨_, rfl⟩) pa_nil)))))) (pw_or1 (pt_not (pt_val (pe_call G_is_whole_within (hr.mono (by omega)) (by rfl) T.m_is_whole_within T.F_is_whole_within.kp T.b_is_whole_within .nil pass0 (pa_cons (pv 3) (pa_cons pe_int (pa_cons (pe_glob (v := .int (4)) rfl T.g_MOST_TURN ⟨_, rfl⟩) pa_nil))))))))) (pss_one (ps_ret pe_bl)) pss_nil) (pss_one (ps_ret (pe_cmpR op_le (pe_call G_tuples_due (hr.mono (by omega)) (by rfl) T.m_tuples_due T.F_tuples_due.kp T.b_tuples_due .nil pass0 (pa_cons (pv 0) (pa_cons (pv 1) (pa_cons (pe_op op_add (pv 2) (pv 3)) pa_nil)))) (pe_glob (v := .int (600)) rfl T.g_MOST_TUPLES ⟨_, rfl⟩) (nomark _)))))), ?_⟩
  refine ⟨_, rfl, L, rfl, hL, hR, fun H1 s1 => ⟨_, rfl, iteF ?_⟩⟩
  refine ⟨_, rfl, n, 1, 6, rfl, by omega, by omega, _, rfl, iteF ?_⟩
  refine ⟨_, rfl, few, 0, 4, rfl, by omega, by omega, _, rfl, iteF ?_⟩
  refine ⟨_, rfl, turn, 1, 4, rfl, by omega, by omega, _, rfl, iteF ?_⟩
  refine ⟨_, rfl, _, rfl, _, rfl, _, rfl, _, _, rfl, rfl, L, n, few + turn, rfl, hL.2.1, n6, by omega, ?_⟩
  have e : decide (((L.length * (few + turn) ^ n : Nat) : Int) ≤ 600) = decide (L.length * (few + turn) ^ n ≤ 600) := by
    by_cases h : L.length * (few + turn) ^ n ≤ 600
    · rw [decide_eq_true h, decide_eq_true (by omega)]
    · rw [decide_eq_false h, decide_eq_false (by omega)]
  have q1 := q H1 s1
  rw [← e] at q1
  exact ⟨_, _, rfl, rfl, q1⟩
end

def sp__is_key : Sp := fun vs H Q _ => ∃ (b a : Addr) (L : Str) (n k c : Nat) (row : List Nat), vs = [.ref b, .str L, nI n, nI k] ∧ H b = some (.tup [.str (ch c), .ref a]) ∧ H a = some (.tup (row.map nI)) ∧ Lets L ∧ c ∈ L.cps.toList ∧ row.length = n ∧ n ≤ 6 ∧ (∀ x ∈ row, x < k) ∧ ∀ H', Same H H' → Q (.bl true) H'
def sp__is_table (P : Program) (w : World) : Sp := fun vs H Q _ => ∃ (d : Addr) (L : Str) (n k : Nat) (xs : List NRow) (fs : Nat → List Nat → Nat), vs = [.ref d, .str L, nI n, nI k] ∧ H d = some (DictN P w d xs) ∧ RowsN H xs ∧ RowsJ xs (keysOf L n k) fs ∧ Lets L ∧ n ≤ 6 ∧ k ≤ 20 ∧ L.length * k ^ n ≤ 600 ∧ (∀ key ∈ keysOf L n k, fs key.1 key.2 < n) ∧ ∀ H', Same H H' → Q (.bl true) H'
def sp_is_judge (P : Program) (w : World) : Sp := fun vs H Q _ => ∃ (j d g : Addr) (L : Str) (n few turn : Nat) (xs : List NRow) (fs : Nat → List Nat → Nat) (good : List Nat), vs = [.ref j] ∧ H j = some (.tup [.str L, nI n, nI few, nI turn, .ref d, .ref g]) ∧ H d = some (DictN P w d xs) ∧ RowsN H xs ∧ RowsJ xs (keysOf L n (few + turn)) fs ∧ Lets L ∧ Rises L ∧ 1 ≤ n ∧ n ≤ 6 ∧ few ≤ 4 ∧ 1 ≤ turn ∧ turn ≤ 4 ∧ L.length * (few + turn) ^ n ≤ 600 ∧
  (∀ key ∈ keysOf L n (few + turn), fs key.1 key.2 < n) ∧ H g = some (.lst (good.map nI)) ∧ good.Pairwise (· < ·) ∧ good.length ≤ 100 ∧ (∀ x ∈ good, x < n) ∧ ∀ H', Same H H' → Q (.bl true) H'
section
variable {P : Program} {w : World} {K : PySem.W.Frag} {mg : Str → Option Value} {base : Heap}
theorem ok__is_key (T : Txt K mg) : FnOk P w K mg base CX0 3 T.f__is_key T.d__is_key ["thing", "letters", "states", "classes"] sp__is_key := by
  have G_is_letter : FnOk P w K mg base CX0 1 T.f_is_letter T.d_is_letter ["thing"] sp_is_letter := ok_is_letter T
  have G_is_whole_within : FnOk P w K mg base CX0 2 T.f_is_whole_within T.d_is_whole_within ["thing", "low", "high"] sp_is_whole_within := ok_is_whole_within T
  refine T.F__is_key.ok sc__is_key (fun vs H Q E h => ?_) (fun cdv A outer s H vs Q E hr h => ?_)
  · obtain ⟨b, a, L, n, k, c, row, rfl, _⟩ := h
    rfl
  obtain ⟨b, a, L, n, k, c, row, rfl, hb, ha, hL, hc, hl, h6, hk, q⟩ := h
  refine ⟨_, (pss_cons (ps_if (PW.pt (pw_or (pt_not (pt_val (pe_callB call_isi (by rfl) T.z_isinstance (by decide +kernel) (pa_cons (pv 0) (pa_cons (pe_bltn (v := .ty "tuple") (by rfl) T.z_tuple (by decide +kernel) rfl) pa_nil))))) (pw_or1 (pt_cmpR op_ne (pe_callB call_len_seq (by rfl) T.z_len PySem.boot_len (pa_cons (pv 0) pa_nil)) pe_int (nomark _))))) (pss_one (ps_ret pe_bl)) pss_nil) (pss_cons (ps_asg (pv 0) (pg_tup rfl (pgs_cons (pg_name (i := 4) sc__is_key.nd rfl (Or.inl rfl)) (pgs_cons (pg_name (i := 5) sc__is_key.nd rfl (Or.inl rfl)) pgs_nil)))) (pss_cons (ps_if (PW.pt (pw_or (pt_not (pt_val (pe_call G_is_letter (hr.mono (by omega)) (by rfl) T.m_is_letter T.F_is_letter.kp T.b_is_letter .nil pass0 (pa_cons (pv 4) pa_nil)))) (pw_or1 (pt_cmpR op_notInS (pv 4) (pv 1) (by rfl))))) (pss_one (ps_ret pe_bl)) pss_nil) (pss_cons (ps_if (PW.pt (pw_or (pt_not (pt_val (pe_callB call_isi (by rfl) T.z_isinstance (by decide +kernel) (pa_cons (pv 5) (pa_cons (pe_bltn (v := .ty "tuple") (by rfl) T.z_tuple (by decide +kernel) rfl) pa_nil))))) (pw_or1 (pt_cmpR op_ne (pe_callB call_len_seq (by rfl) T.z_len PySem.boot_len (pa_cons (pv 5) pa_nil)) (pv 2) (nomark _))))) (pss_one (ps_ret pe_bl)) pss_nil) (pss_one (ps_ret (pe_callB (cr_all rfl) (by rfl) T.z_all (by decide +kernel) (pa_cons (pe_lc (own := [("number", 6)]) (g := gName 6) (tt := tYes) rfl sc__is_key.nd (pi_tup (pv 5)) (blkOk_by (own := [("number", 6)]) (N := ["thing", "letters", "states", "classes", "letter", "row", "number"]) (sc := (defScope s__is_key)) (by decide +kernel)) (fun _ _ _ _ _ => (pg_name (i := 6) sc__is_key.nd rfl (Or.inl rfl))) (fun _ _ _ _ _ => pts_nil) (fun _ _ _ _ _ => (pe_call G_is_whole_within (hr.mono (by omega)) (by rfl) T.m_is_whole_within T.F_is_whole_within.kp T.b_is_whole_within .nil pass0 (pa_cons (pv 6) (pa_cons pe_int (pa_cons (pe_op op_sub (pv 3) pe_int) pa_nil)))))) pa_nil)))))))), ?_⟩
  have hm := hL.2.2 c hc
  refine ⟨_, rfl, _, _, _, _, true, rfl, .ty "tuple", .base (.tup hb), kit_ty (by decide +kernel), _, rfl, iteF ?_⟩
  refine ⟨_, rfl, b, _, rfl, .inr (SqT.of hb), rfl, _, rfl, neS rfl ?_⟩
  refine ⟨_, rfl, b, _, rfl, SqT.of hb, rfl, _, _, rfl, _, _, rfl, rfl, ?_⟩
  refine ⟨_, rfl, c, rfl, hm.1, hm.2, _, rfl, iteF ?_⟩
  refine ⟨_, rfl, _, rfl, c, L, rfl, rfl, _, rfl, ?_⟩
  rw [decide_eq_true hc]
  refine iteF ?_
  refine ⟨_, rfl, _, _, _, _, true, rfl, .ty "tuple", .base (.tup ha), kit_ty (by decide +kernel), _, rfl, iteF ?_⟩
  refine ⟨_, rfl, a, _, rfl, .inr (SqT.of ha), _, rfl, rfl, _, rfl, neS (by rw [List.length_map, hl]) ?_⟩
  refine ⟨_, rfl, a, rfl, ⟨_, SqT.of ha⟩, fun D hD => ?_⟩
  refine lc_tup (xs := row.map nI) (fun i H2 => H2 D = some (.lst ((List.replicate i true).map V.bl)) ∧ Same H H2) ⟨upd_same, same_new hD⟩ (fun i H2 _ ⟨_, s⟩ => SqT.of (s _ _ ha)) ?_ ?_
  · rintro i x H2 hx ⟨g1, g2⟩
    rw [List.getElem?_map] at hx
    cases hz : row[i]? with
    | none => rw [hz] at hx; cases hx
    | some z =>
    rw [hz] at hx
    cases hx
    have hk1 := hk z (List.mem_of_getElem? hz)
    have hi := (List.getElem?_eq_some_iff.mp hz).1
    refine ⟨rfl, _, rfl, _, rfl, _, _, rfl, rfl, z, 0, k - 1, rfl, by omega, by omega, _, g1, ?_, ?_, same_add g2 hD⟩
    · rw [List.length_map, List.length_replicate]
      exact Nat.lt_of_le_of_lt (show _ ≤ 1000000 by omega) (by decide)
    · rw [upd_same, rep_succ, List.map_append]
      rfl
  · rintro H2 ⟨g1, g2⟩
    refine ⟨D, _, rfl, SqL.of g1, ?_⟩
    rw [all_rep]
    exact q H2 g2
theorem ok__is_table (T : Txt K mg) : FnOk P w K mg base CX0 4 T.f__is_table T.d__is_table ["thing", "letters", "states", "classes"] (sp__is_table P w) := by
  have G_tuples_due : FnOk P w K mg base CX0 1 T.f_tuples_due T.d_tuples_due ["letters", "states", "classes"] sp_tuples_due := ok_tuples_due T
  have G__is_key : FnOk P w K mg base CX0 3 T.f__is_key T.d__is_key ["thing", "letters", "states", "classes"] sp__is_key := ok__is_key T
  have G_is_whole_within : FnOk P w K mg base CX0 2 T.f_is_whole_within T.d_is_whole_within ["thing", "low", "high"] sp_is_whole_within := ok_is_whole_within T
  refine T.F__is_table.ok sc__is_table (fun vs H Q E h => ?_) (fun cdv A outer s H vs Q E hr h => ?_)
  · obtain ⟨d, L, n, k, xs, fs, rfl, _⟩ := h
    rfl
  obtain ⟨d, L, n, k, xs, fs, rfl, hd, hrn, hrj, hL, h6, k20, h600, hfs, q⟩ := h
  refine ⟨_, (pss_cons (ps_if (PW.pt (pw_or (pt_not (pt_val (pe_callB call_isN (by rfl) T.z_isinstance (by decide +kernel) (pa_cons (pv 0) (pa_cons (pe_bltn (v := .ty "dict") (by rfl) T.z_dict (by decide +kernel) rfl) pa_nil))))) (pw_or1 (pt_cmpR op_ne (pe_callB call_lenN (by rfl) T.z_len PySem.boot_len (pa_cons (pv 0) pa_nil)) (pe_call G_tuples_due (hr.mono (by omega)) (by rfl) T.m_tuples_due T.F_tuples_due.kp T.b_tuples_due .nil pass0 (pa_cons (pv 1) (pa_cons (pv 2) (pa_cons (pv 3) pa_nil)))) (nomark _))))) (pss_one (ps_ret pe_bl)) pss_nil) (pss_cons (ps_lock (ps_for PassesOwn.never rfl (pi_itemsN (pv 0)) (pg_tup rfl (pgs_cons (pg_name (i := 4) sc__is_table.nd rfl (Or.inl rfl)) (pgs_cons (pg_name (i := 5) sc__is_table.nd rfl (Or.inl rfl)) pgs_nil))) (pss_one (ps_if (PW.pt (pw_or (pt_not (pt_val (pe_call G__is_key (hr.mono (by omega)) (by rfl) T.m__is_key T.F__is_key.kp T.b__is_key .nil pass0 (pa_cons (pv 4) (pa_cons (pv 1) (pa_cons (pv 2) (pa_cons (pv 3) pa_nil))))))) (pw_or1 (pt_not (pt_val (pe_call G_is_whole_within (hr.mono (by omega)) (by rfl) T.m_is_whole_within T.F_is_whole_within.kp T.b_is_whole_within .nil pass0 (pa_cons (pv 5) (pa_cons pe_int (pa_cons (pe_op op_sub (pv 2) pe_int) pa_nil))))))))) (pss_one (ps_ret pe_bl)) pss_nil)))) (pss_one (ps_ret pe_bl)))), ?_⟩
  have lk : xs.length = L.length * k ^ n := by rw [Paired.length hrj, keysOf_len]
  refine ⟨_, rfl, d, xs, _, _, true, rfl, hd, .ty "dict", kit_ty (by decide +kernel), _, rfl, iteF ?_⟩
  refine ⟨_, rfl, d, xs, rfl, hd, hrn, _, rfl, _, rfl, _, rfl, L, n, k, rfl, hL.2.1, h6, k20, rfl, _, rfl, neS (by rw [lk]) ?_⟩
  refine ⟨d, _, hd, trivial, fun od => ?_⟩
  refine ⟨_, rfl, d, od, xs, rfl, upd_same, ?_⟩
  have base0 : FrD d H (upd H d (.frz od (DictN P w d xs))) := fun b o ne e => by rw [upd_ne ne]; exact e
  refine for_it walk_itemsN (fun i σ H' => (∃ y5 y6, σ = [some (.ref d), some (.str L), some (nI n), some (nI k), y5, y6]) ∧ H' d = some (.frz od (DictN P w d xs)) ∧ FrD d H H') ⟨⟨_, _, rfl⟩, upd_same, base0⟩ (fun i σ H' _ h => h.2.1) ?_ ?_
  · rintro i x σ H2 H3 hi ⟨⟨y5, y6, rfl⟩, g1, g2⟩ ⟨p, row, hrow, rfl, hp, rfl⟩
    obtain ⟨⟨c, rw0⟩, hkey, e1, e2⟩ := prd_at hrj hrow
    have hm := List.mem_of_getElem? hkey
    obtain ⟨hc, hlen, hkk⟩ := keysOf_mem hm
    have hv : fs c rw0 < n := hfs _ hm
    obtain ⟨hn1, _⟩ := hrn row (List.mem_of_getElem? hrow)
    rw [e1] at hn1
    obtain ⟨a, kb, ka⟩ := nk_inv hn1
    have ntup : ∀ (q : Addr) (ys : List V), H q = some (.tup ys) → q ≠ d := fun q ys e z => by rw [z, hd] at e; unfold DictN at e; cases e
    have sp := same_new (o := .tup [.ref row.2.1, row.2.2]) hp
    have kp := upd_same (H := H2) (a := p) (o := .tup [.ref row.2.1, row.2.2])
    have g1' := sp _ _ g1
    generalize upd H2 p (.tup [.ref row.2.1, row.2.2]) = H4 at *
    rw [e2] at kp
    refine ⟨p, _, rfl, SqT.of kp, rfl, _, _, rfl, _, _, rfl, rfl, ?_⟩
    have G4 : FrD d H H4 := fun b o ne e => sp _ _ (g2 b o ne e)
    refine ⟨_, rfl, _, rfl, _, rfl, _, rfl, row.2.1, a, L, n, k, c, rw0, rfl, G4 _ _ (ntup _ _ kb) kb, G4 _ _ (ntup _ _ ka) ka, hL, hc, hlen, h6, hkk, fun H5 s5 => ⟨_, rfl, iteF ?_⟩⟩
    refine ⟨_, rfl, _, rfl, _, _, rfl, rfl, fs c rw0, 0, n - 1, rfl, by omega, by omega, _, rfl, iteF ?_⟩
    exact ⟨⟨_, _, rfl⟩, s5 _ _ g1', fun b o ne e => s5 _ _ (G4 b o ne e)⟩
  · rintro σ H2 ⟨⟨y5, y6, rfl⟩, g1, g2⟩
    refine ⟨g1, q _ fun b o e => ?_⟩
    by_cases hb : b = d
    · rw [hb, upd_same, ← e, hb]; exact hd.symm
    · rw [upd_ne hb]; exact g2 b o hb e
theorem ok_is_judge (T : Txt K mg) : FnOk P w K mg base CX0 5 T.f_is_judge T.d_is_judge ["thing"] (sp_is_judge P w) := by
  have G_may_have_table : FnOk P w K mg base CX0 4 T.f_may_have_table T.d_may_have_table ["letters", "states", "few", "turn"] sp_may_have_table := ok_may_have_table T
  have G__is_table : FnOk P w K mg base CX0 4 T.f__is_table T.d__is_table ["thing", "letters", "states", "classes"] (sp__is_table P w) := ok__is_table T
  have G_are_rising_states : FnOk P w K mg base CX0 3 T.f_are_rising_states T.d_are_rising_states ["thing", "states"] sp_are_rising_states := ok_are_rising_states T
  refine T.F_is_judge.ok sc_is_judge (fun vs H Q E h => ?_) (fun cdv A outer s H vs Q E hr h => ?_)
  · obtain ⟨j, d, g, L, n, few, turn, xs, fs, good, rfl, _⟩ := h
    rfl
  obtain ⟨j, d, g, L, n, few, turn, xs, fs, good, rfl, hj, hd, hrn, hrj, hL, hR, n1, n6, f4, t1, t4, h600, hfs, hg, hup, h100, hgn, q⟩ := h
  refine ⟨_, (pss_cons (ps_if (PW.pt (pw_or (pt_not (pt_val (pe_callB call_isi (by rfl) T.z_isinstance (by decide +kernel) (pa_cons (pv 0) (pa_cons (pe_bltn (v := .ty "tuple") (by rfl) T.z_tuple (by decide +kernel) rfl) pa_nil))))) (pw_or1 (pt_cmpR op_ne (pe_callB call_len_seq (by rfl) T.z_len PySem.boot_len (pa_cons (pv 0) pa_nil)) pe_int (nomark _))))) (pss_one (ps_ret pe_bl)) pss_nil) (pss_cons (ps_asg (pv 0) (pg_tup rfl (pgs_cons (pg_name (i := 1) sc_is_judge.nd rfl (Or.inl rfl)) (pgs_cons (pg_name (i := 2) sc_is_judge.nd rfl (Or.inl rfl)) (pgs_cons (pg_name (i := 3) sc_is_judge.nd rfl (Or.inl rfl)) (pgs_cons (pg_name (i := 4) sc_is_judge.nd rfl (Or.inl rfl)) (pgs_cons (pg_name (i := 5) sc_is_judge.nd rfl (Or.inl rfl)) (pgs_cons (pg_name (i := 6) sc_is_judge.nd rfl (Or.inl rfl)) pgs_nil)))))))) (pss_cons (ps_if (pt_not (pt_val (pe_call G_may_have_table (hr.mono (by omega)) (by rfl) T.m_may_have_table T.F_may_have_table.kp T.b_may_have_table .nil pass0 (pa_cons (pv 1) (pa_cons (pv 2) (pa_cons (pv 3) (pa_cons (pv 4) pa_nil))))))) (pss_one (ps_ret pe_bl)) pss_nil) (pss_one (ps_ret (pe_and (pe_call G__is_table (hr.mono (by omega)) (by rfl) T.m__is_table T.F__is_table.kp T.b__is_table .nil pass0 (pa_cons (pv 5) (pa_cons (pv 1) (pa_cons (pv 2) (pa_cons (pe_op op_add (pv 3) (pv 4)) pa_nil))))) (pe_one (pe_call G_are_rising_states (hr.mono (by omega)) (by rfl) T.m_are_rising_states T.F_are_rising_states.kp T.b_are_rising_states .nil pass0 (pa_cons (pv 6) (pa_cons (pv 2) pa_nil)))))))))), ?_⟩
  refine ⟨_, rfl, _, _, _, _, true, rfl, .ty "tuple", .base (.tup hj), kit_ty (by decide +kernel), _, rfl, iteF ?_⟩
  refine ⟨_, rfl, j, _, rfl, .inr (SqT.of hj), rfl, _, rfl, neS rfl ?_⟩
  refine ⟨_, rfl, j, _, rfl, SqT.of hj, rfl, _, _, rfl, _, _, rfl, _, _, rfl, _, _, rfl, _, _, rfl, _, _, rfl, rfl, ?_⟩
  refine ⟨_, rfl, _, rfl, _, rfl, _, rfl, L, n, few, turn, rfl, hL, hR, n1, n6, f4, t1, t4, fun H1 s1 => ?_⟩
  rw [decide_eq_true h600]
  refine ⟨_, rfl, iteF ?_⟩
  refine ⟨_, rfl, _, rfl, _, rfl, _, rfl, _, rfl, _, _, rfl, rfl, d, L, n, few + turn, xs, fs, rfl, s1 _ _ hd, hrn.keep fun b ys e => s1 _ _ e, hrj, hL, n6, by omega, h600, hfs, fun H2 s2 => ⟨_, rfl, iteT ?_⟩⟩
  have s12 := s1.trans s2
  exact ⟨_, rfl, _, rfl, g, good, n, rfl, s12 _ _ hg, hup, h100, hgn, fun H3 s3 => q H3 (s12.trans s3)⟩
end

def revS (z : Str) : Str := ⟨z.cps.toList.reverse.toArray⟩
def tRevS (te : TE) : TE := fun σ H Q => te σ H fun x H1 => ∃ z : Str, x = .str z ∧ z.length ≤ sizeLine ∧ Q (.str (revS z)) H1
theorem pe_revS {X : Cx} {e : PySem.Expr} {te : TE} {k : Nat} {p1 p2 p3 pos : Pos} (he : PE X e te) : PE X (.Subscript e (.Slice none none (some (.UnaryOp .USub (.Constant (.int 1) k p1) p2)) p3) pos) (tRevS te) := by
  refine ⟨fun pins s σ H Q I h => ?_⟩
  refine Subscript_ (thn (he.run pins s σ H _ I h) fun v s1 ⟨x, H1, I1, r1, z, ex, hz, q⟩ => ?_)
  subst ex
  obtain ⟨t, rfl⟩ := r1
  have step : PO X (some (.UnaryOp .USub (.Constant (.int 1) k p1) p2)) (tPart (tUn (rU fun i => .int (-i)) (tC (.int 1)))) := po_some (pe_un un_neg pe_int)
  refine wpAny_Slice (thn (po_none.run pins s1 σ H1 (fun o H2 => o = none ∧ H2 = H1) I1 ⟨rfl, rfl⟩) fun v1 s2 ⟨o1, H2, I2, g1, f1, f2⟩ => ?_)
  subst f1 f2
  refine thn (po_none.run pins s2 σ H2 (fun o H3 => o = none ∧ H3 = H2) I2 ⟨rfl, rfl⟩) fun v2 s3 ⟨o2, H3, I3, g2, f3, f4⟩ => ?_
  subst f3 f4
  refine thn (step.run pins s3 σ H3 (fun o H4 => o = some (-1) ∧ H4 = H3) I3 ⟨1, rfl, -1, rfl, rfl, rfl⟩) fun v3 s4 ⟨o3, H4, I4, g3, f5, f6⟩ => ?_
  subst f5 f6
  obtain ⟨l, rfl, el⟩ := IsPart.raw g1
  obtain ⟨u, rfl, eu⟩ := IsPart.raw g2
  obtain ⟨st, rfl, es⟩ := IsPart.raw g3
  have I5 : Inv X pins σ H4 { s4 with heap := s4.heap.push { cls := .type "slice", data := .fields #[partValue l, partValue u, partValue st] } } := I4.kept (t' := s4.toks) fun b ob q => Heap.get?_push_of_some _ q
  show wpAny (model X.prog X.w) X.A (subscriptTail e (.Slice none none (some (.UnaryOp .USub (.Constant (.int 1) k p1) p2)) p3) (.str z t) (.ref s4.heap.objs.size)) (EP X pins σ Q) X.xe { s4 with heap := s4.heap.push { cls := .type "slice", data := .fields #[partValue l, partValue u, partValue st] } }
  refine tail_any (ops := [.str z t, .ref s4.heap.objs.size]) (typeIs_str _ _ _) PySem.F.slot_str_getitem.lookup ?_ (by with_unfolding_all rfl)
  refine wpAny_getItem_str_slice (l := l) (u := u) (st := st) ⟨_, Heap.get?_push_size _ rfl, rfl, rfl⟩ (by rw [es]; rfl) ?_
  have ep : slicePicked z l u st = (List.range z.length).reverse := by
    unfold slicePicked
    rw [el, eu, es]
    show Builtin.Str.strSliceIndices none none (-1) z.length = _
    rw [PyProof.Rows.picked_rev, PySem.W.krv_range]
  have em : sliceMade z t l u st = .str (revS z) := by
    unfold sliceMade
    rw [es, ep, if_neg (by simp), List.filterMap_reverse]
    have e : (List.range z.length).filterMap (z.cps[·]?) = z.cps.toList := PySem.W.krv_all z.cps
    rw [e]
    rfl
  rw [em]
  have hl : (revS z).length ≤ sizeLine := by
    show (z.cps.toList.reverse.toArray).size ≤ sizeLine
    rw [List.size_toArray, List.length_reverse, Array.length_toList]
    exact hz
  exact ⟨hl, .str _, H4, I5.tok _, ⟨_, rfl⟩, q⟩

def IteS (x : Str) : It := ⟨fun i _ => i < x.cps.size, fun i H v H' => ∃ (T : Addr) (c : Nat), v = .ref T ∧ H T = none ∧ H' = upd H T (.tup [.int (i : Nat), .str (ch c)]) ∧ x.cps[i]? = some c, fun i _ => x.cps.size = i⟩
theorem drawsS {prog : Program} {w : World} {A : Around} (hh : A.handled = none) (it : Addr) (x : Str) (t : Tok) :
    Draws prog w A it [it] x.cps.size (fun i v => ∃ c u, x.cps[i]? = some c ∧ v = .str ⟨#[c]⟩ u) (fun i h => h.IsStrIter it (strIterType x) x t i) := by
  unfold strIterType
  split
  · exact Draws.strAscii hh it x t
  · exact Draws.strWide hh it x t
theorem turn_enumS {P : Program} {w : World} {K : PySem.W.Frag} {elts : List PySem.Expr} {kk : Nat} {tpos : Pos} (x : Str) (t : Tok) (en it : Addr) :
    Turn P w K (.Tuple elts kk tpos) (IteS x) [en, it] en (fun i h => (∃ old, IsEnum h en it ((i : Nat) : Int) old) ∧ h.IsStrIter it (strIterType x) x t i ∧ en ≠ it) where
  mem := by simp
  obj := fun i h st b hb => by
    obtain ⟨⟨old, h1⟩, ⟨o, ho, _, hd⟩, _⟩ := st
    rcases (by simpa using hb : b = en ∨ b = it) with z | z
    · subst z; exact ⟨_, h1, fun v q => nomatch q⟩
    · subst z; exact ⟨o, ho, fun v q => by rw [hd] at q; cases q⟩
  keep := fun i h h' st k => by
    obtain ⟨⟨old, h1⟩, ⟨o, ho, r⟩, ne⟩ := st
    exact ⟨⟨old, k en (by simp) _ h1⟩, ⟨o, k it (by simp) _ ho, r⟩, ne⟩
  item := by
    intro X e1 e2 e3 hc i pins s σ H E I hf st hg
    subst e1 e2 e3
    obtain ⟨⟨old, h1⟩, h2, ne⟩ := st
    have D := drawsS (prog := X.prog) (w := X.w) (A := X.A.in1) (I.ok.hd hc) it x t
    have hel : en < s.heap.objs.size := Heap.lt_size h1
    have hil : it < s.heap.objs.size := by obtain ⟨_, q⟩ := D.live _ _ h2; exact Heap.lt_size q
    refine wpAny_pyNext_enum_itemD D h1 h2 hg ne (fun z => ne (List.mem_singleton.mp z)) fun u h' tk hP ho hit' hT hsz hk => ?_
    obtain ⟨c, tu, hcx, rfl⟩ := hP
    refine ⟨_, rfl, wpAny_letOwnedTupleGo_enum (s := { s with heap := h', toks := tk + 1 }) ho fun h'' he' sb => ?_⟩
    have hT2 : h''.get? s.heap.objs.size = some { cls := .type "tuple", data := .seq #[.int i tk, .str ⟨#[c]⟩ tu] } := (sb.2 _ (Nat.ne_of_gt hel)).trans hT
    have nw : ObjOk X.prog X.w (upd H s.heap.objs.size (.tup [.int (i : Nat), .str (ch c)])) h'' s.heap.objs.size (.tup [.int (i : Nat), .str (ch c)]) :=
      ⟨(show 2 ≤ sizeLine by decide), [.int i tk, .str ⟨#[c]⟩ tu], .cons ⟨_, rfl⟩ (.cons ⟨_, rfl⟩ .nil), _, hT2, rfl, _, rfl⟩
    have I1 : Inv X pins σ (upd H s.heap.objs.size (.tup [.int (i : Nat), .str (ch c)])) { s with heap := h'', toks := tk + 1 } :=
      I.turnedNew (ch := [en, it]) (fun b ob hb q => (sb.2 b (fun z => hb (by simp [z]))).trans (hk b ob (fun z => hb (by simp [z])) (fun z => hb (by simp [z])) q)) hf (Nat.le_refl _) nw
    refine ⟨.ref s.heap.objs.size, _, I1, rfl, ⟨_, c, rfl, I.hok.fresh (Nat.le_refl _), rfl, hcx⟩, ⟨⟨.str ⟨#[c]⟩ tu, ?_⟩, D.frame (i + 1) h' h'' hit' (fun b hb o q => (sb.2 b (fun z => ne (by rw [← z]; exact List.mem_singleton.mp hb))).trans q), ne⟩, fun b hb => ?_⟩
    · have e9 : ((i + 1 : Nat) : Int) = (i : Int) + 1 := by omega
      rw [e9]; exact he'
    · have hb' : b < s.heap.objs.size := by
        rcases (by simpa using hb : b = en ∨ b = it) with z | z
        · rw [z]; exact hel
        · rw [z]; exact hil
      rw [upd_ne (Nat.ne_of_lt hb')]
      exact (hf b hb).1
  done := by
    intro X e1 e2 e3 hc i pins s σ H E I hf st hg
    subst e1 e2 e3
    obtain ⟨⟨old, h1⟩, h2, ne⟩ := st
    obtain ⟨f0, f1, f2, f3, f4, f5⟩ := hf it (by simp)
    have D := drawsS (prog := X.prog) (w := X.w) (A := X.A.in1) (I.ok.hd hc) it x t
    have hg' : x.cps.size = i := hg
    subst hg'
    exact wpAny_pyNext_enum_endD D h1 h2 fun h' eb => ⟨rfl, I.turned (t' := s.toks) (fun b o hb q => eb b o hb q) f0 f1 f3 f4 f5⟩
  self := fun A i s Q E st h => let ⟨⟨_, h1⟩, _⟩ := st; wpAny_pyIter_enum h1 h
def iEnumS (ta : TA) : TI := fun σ H R => ta σ H fun vs H1 => ∃ x, vs = [.str x] ∧ R (IteS x) H1
theorem pi_enumS {X : Cx} {e : PySem.Expr} {ta : TA} {p pos tpos : Pos} {elts : List PySem.Expr} {kk : Nat} (hg : Gl X "enumerate") (hm : X.mg "enumerate" = none) (ha : PA X [e] ta) (hs : starEach [e] X.env = [(false, eval e X.env)] := by rfl) :
    PI X (.Tuple elts kk tpos) (.Call (.Name "enumerate" p) [e] [] pos) (iEnumS ta) := by
  refine ⟨fun pins s σ H R I h => ?_⟩
  refine Call_ (ld_blt I hg hm boot_enumerate (PyProof.Rows.callWith_type1 (thn (ha.run pos pins s σ H _ I h) fun us s1 ⟨vs, H1, I1, r1, q1⟩ => ?_) hs rfl))
  obtain ⟨x, ex, q⟩ := q1
  subst ex
  obtain ⟨u, rfl, ru⟩ := r1.one
  obtain ⟨t, rfl⟩ := ru
  refine call_enumerate_str fun h' he hit hsz hk => wpAny_pyIter_enum he ?_
  have I2 : Inv X pins σ H1 { s1 with heap := h' } := I1.kept (t' := s1.toks) hk
  refine ⟨s1.heap.objs.size + 1, [s1.heap.objs.size + 1, s1.heap.objs.size], _, _, H1, rfl, I2, turn_enumS x t (s1.heap.objs.size + 1) s1.heap.objs.size, ⟨⟨.none, he⟩, hit, Nat.succ_ne_self _⟩, fun b hb => ?_, q⟩
  have hle : s1.heap.objs.size ≤ b := by
    rcases (by simpa using hb : b = s1.heap.objs.size + 1 ∨ b = s1.heap.objs.size) with z | z
    · rw [z]; exact Nat.le_add_right _ _
    · rw [z]; exact Nat.le_refl _
  exact I1.fpOk hle (I1.hok.fresh hle)
theorem walk_enumS {x : Str} : Walk (IteS x) x.cps.size (fun _ => True) (fun i H v H' => ∃ (T : Addr) (c : Nat), v = .ref T ∧ H T = none ∧ H' = upd H T (.tup [.int (i : Nat), .str (ch c)]) ∧ x.cps[i]? = some c) :=
  ⟨fun _ _ hi _ => hi, fun _ _ => rfl, fun _ _ _ _ _ _ y => y⟩


theorem join_goc (g : Str) (hg : g.cps = #[]) : ∀ (cs : List Nat) (a : Array Nat), (cs.map ch).foldl (fun acc p => acc ++ g.cps ++ p.cps) a = a ++ cs.toArray
  | [], a => by simp
  | c :: r, a => by
    rw [List.map_cons, List.foldl_cons, join_goc g hg r, hg]
    show a ++ #[] ++ #[c] ++ r.toArray = a ++ (c :: r).toArray
    simp
theorem join_chs : ∀ cs : List Nat, Txt.join (Str.ofString "") (cs.map ch) = ⟨cs.toArray⟩
  | [] => rfl
  | c :: r => by
    show Str.mk ((r.map ch).foldl (fun acc p => acc ++ (Str.ofString "").cps ++ p.cps) (ch c).cps) = _
    rw [join_goc _ (by decide +kernel)]
    show Str.mk (#[c] ++ r.toArray) = _
    simp
def subL (a : List Int) (i : Nat) : List Nat := ((List.range i).filter fun j : Nat => decide ((j : Int) ∈ a)).map fun j => 97 + j
theorem subL_succ (a : List Int) (i : Nat) : subL a (i + 1) = subL a i ++ (if (i : Int) ∈ a then [97 + i] else []) := by
  unfold subL
  rw [List.range_succ, List.filter_append, List.map_append]
  by_cases h : (i : Int) ∈ a
  · rw [if_pos h]; simp [h]
  · rw [if_neg h]; simp [h]
theorem subL_mem {a : List Int} {i c : Nat} (h : c ∈ subL a i) : 97 ≤ c ∧ c < 97 + i := by
  unfold subL at h
  obtain ⟨j, hj, rfl⟩ := List.mem_map.mp h
  have := List.mem_range.mp (List.mem_filter.mp hj).1
  omega
theorem subL_nd (a : List Int) (i : Nat) : (subL a i).Nodup := by
  unfold subL
  have h1 : ((List.range i).filter fun j : Nat => decide ((j : Int) ∈ a)).Nodup := List.nodup_range.sublist List.filter_sublist
  generalize (List.range i).filter (fun j : Nat => decide ((j : Int) ∈ a)) = l at h1
  induction l with
  | nil => exact List.nodup_nil
  | cons x r ih =>
    rw [List.map_cons, List.nodup_cons]
    obtain ⟨n1, n2⟩ := List.nodup_cons.mp h1
    refine ⟨fun hm => ?_, ih n2⟩
    obtain ⟨y, hy, e⟩ := List.mem_map.mp hm
    have : y = x := by omega
    exact n1 (this ▸ hy)
theorem subL_len (a : List Int) (i : Nat) : (subL a i).length ≤ i := by
  unfold subL
  rw [List.length_map]
  have := List.length_filter_le (fun j : Nat => decide ((j : Int) ∈ a)) (List.range i)
  rw [List.length_range] at this
  exact this
def LetsN (L : Str) : Prop := Lets L ∧ L.cps.toList.Nodup
theorem subL_lets {a : List Int} (h : ∃ x ∈ a, 0 ≤ x ∧ x < 26) : LetsN ⟨(subL a 26).toArray⟩ := by
  obtain ⟨x, hx, h0, h1⟩ := h
  have hm : 97 + x.toNat ∈ subL a 26 := by
    unfold subL
    refine List.mem_map.mpr ⟨x.toNat, List.mem_filter.mpr ⟨List.mem_range.mpr (by omega), ?_⟩, rfl⟩
    rw [show ((x.toNat : Nat) : Int) = x by omega]
    simpa using hx
  refine ⟨⟨?_, ?_, fun c hc => ?_⟩, ?_⟩
  · show 1 ≤ (subL a 26).toArray.size
    rw [List.size_toArray]
    exact List.length_pos_of_mem hm
  · show (subL a 26).toArray.size ≤ 26
    rw [List.size_toArray]
    exact subL_len a 26
  · have := subL_mem (show c ∈ subL a 26 by simpa using hc)
    omega
  · simpa using subL_nd a 26
theorem inV_int (x : Int) : ∀ g : List Int, inV (.int x) (g.map V.int) = decide (x ∈ g)
  | [] => rfl
  | y :: r => by
    have ih := inV_int x r
    unfold inV at ih ⊢
    rw [List.map_cons, List.any_cons, ih]
    have e : eqV (.int y) (.int x) = decide (x = y) := by
      show (y == x) = _
      rw [Bool.eq_iff_iff]
      simp
      exact eq_comm
    rw [e]
    simp
theorem flat_int : ∀ g : List Int, (g.map V.int).all flatV = true
  | [] => rfl
  | y :: r => by rw [List.map_cons, List.all_cons, flat_int r]; rfl
theorem alpha_at : ∀ i, i < 26 → (Str.ofString "abcdefghijklmnopqrstuvwxyz").cps[i]? = some (97 + i) := by decide +kernel
theorem look_of_mem {α β : Type} [BEq α] [LawfulBEq α] {a : α} : ∀ {l : List (α × β)}, a ∈ l.map (·.1) → ∃ b, l.lookup a = some b
  | (x, y) :: r, h => by
    by_cases e : a = x
    · subst e
      exact ⟨y, by simp [List.lookup]⟩
    · rw [List.map_cons] at h
      have h2 := (List.mem_cons.mp h).resolve_left e
      obtain ⟨b, hb⟩ := look_of_mem h2
      refine ⟨b, ?_⟩
      have : (a == x) = false := by simpa using e
      simp [List.lookup, this, hb]
theorem LetsN.rev {L : Str} (h : LetsN L) : ∀ {c : Nat}, c ∈ (revS L).cps.toList ↔ c ∈ L.cps.toList := by
  intro c
  unfold revS
  simp
theorem keys_new {ok : Addr → Prop} {H : Hp} {es : List (Key × V)} {kvs : List (Nat × RR)} {c : Nat} (h : rowsIn ok H es kvs) (hc : c ∉ kvs.map (·.1)) : valV es (.inr (ch c)) = none := by
  unfold valV
  rw [Option.map_eq_none_iff, List.find?_eq_none]
  intro e he
  have : ∀ (es : List (Key × V)) (kvs : List (Nat × RR)), rowsIn ok H es kvs → ∀ e ∈ es, ∃ kv ∈ kvs, e.1 = .inr (ch kv.1) := by
    intro es kvs p
    induction p with
    | nil => intro e he; cases he
    | cons r t ih =>
      intro e he
      rcases List.mem_cons.mp he with rfl | he
      · exact ⟨_, List.mem_cons_self, r.1⟩
      · obtain ⟨kv, h1, h2⟩ := ih e he
        exact ⟨kv, List.mem_cons_of_mem _ h1, h2⟩
  obtain ⟨kv, h1, h2⟩ := this _ _ h e he
  intro z
  have z1 := of_decide_eq_true z
  rw [h2] at z1
  have z2 := congrArg (fun s : Str => s.cps.toList) (Sum.inr.inj z1)
  simp [ch] at z2
  exact hc (List.mem_map.mpr ⟨kv, h1, z2⟩)
theorem rowsIn_snoc {ok : Addr → Prop} {H : Hp} {es : List (Key × V)} {kvs : List (Nat × RR)} {k : Key} {v : V} {kv : Nat × RR} (h : rowsIn ok H es kvs) (h1 : k = .inr (ch kv.1)) (h2 : Dt ok H v (rowsD kv.2)) : rowsIn ok H (es ++ [(k, v)]) (kvs ++ [kv]) := by
  unfold rowsIn at h ⊢
  induction h with
  | nil => exact .cons ⟨h1, h2⟩ .nil
  | cons r t ih => exact .cons r ih
theorem rowsIn.same {ok : Addr → Prop} {H H' : Hp} {es : List (Key × V)} {kvs : List (Nat × RR)} (x : rowsIn ok H es kvs) (s : Same H H') : rowsIn ok H' es kvs := x.keep fun b o _ e => s b o e
theorem rep0 (n : Nat) : (List.replicate n [V.int 0]).flatten = (List.replicate n (0 : Int)).map V.int := by
  induction n with
  | zero => rfl
  | succ k ih => rw [List.replicate_succ, List.flatten_cons, ih]; rfl

def LetsR (L : Str) : Prop := LetsN L ∧ Rises L
theorem subL_rises (a : List Int) (i : Nat) : (subL a i).Pairwise (· < ·) := by
  unfold subL
  rw [List.pairwise_map]
  exact (List.pairwise_lt_range.sublist List.filter_sublist).imp fun h => by omega
theorem subL_letsR {a : List Int} (h : ∃ x ∈ a, 0 ≤ x ∧ x < 26) : LetsR ⟨(subL a 26).toArray⟩ := ⟨subL_lets h, by simpa [Rises] using subL_rises a 26⟩
def sp__law_rules : Sp := fun vs H Q _ => ∃ (p : Addr) (m : Int), vs = [.ref p, .int m] ∧ Dk H p ∧ 1 ≤ m ∧ m ≤ 6 ∧ ∀ v (R : Rl) H', R.ok → Rises R.L → R.good.Pairwise (· < ·) → (R.n : Int) ≤ m → Fr p H H' → Dk H' p → RlAt (fun b => b ≠ p) H' v R → Q v H'
section
variable {P : Program} {w : World} {K : PySem.W.Frag} {mg : Str → Option Value} {base : Heap}
theorem ok__law_rules (T : Txt K mg) : FnOk P w K mg base CX0 8 T.f__law_rules T.d__law_rules ["deck", "most"] sp__law_rules := by
  have G__law_take : FnOk P w K mg base CX0 1 T.f__law_take T.d__law_take ["deck", "many"] sp__law_take := ok__law_take T
  have G__law_condition : FnOk P w K mg base CX0 6 T.f__law_condition T.d__law_condition ["deck", "s", "deep"] (sp__law_condition 4) := ok__law_condition T 4
  refine T.F__law_rules.ok sc__law_rules (fun vs H Q E h => ?_) (fun cdv A outer s H vs Q E hr h => ?_)
  · obtain ⟨p, m, rfl, _⟩ := h
    rfl
  obtain ⟨p, m, rfl, hp, h1, h6, q⟩ := h
  refine ⟨_, (pss_cons (ps_set (i := 2) sc__law_rules.nd rfl (Or.inl rfl) (pe_ix ix_list (pe_lst (pa_cons pe_str (pa_cons pe_str (pa_cons pe_str (pa_cons pe_str (pa_cons pe_str pa_nil)))))) (pe_call G__law_take (hr.mono (by omega)) (by rfl) T.m__law_take T.F__law_take.kp T.b__law_take .nil pass0 (pa_cons (pv 0) (pa_cons pe_int pa_nil))) (fun _ _ => rfl))) (C8.pss_cut (ps_if (pt_cmpR op_eq (pe_call G__law_take (hr.mono (by omega)) (by rfl) T.m__law_take T.F__law_take.kp T.b__law_take .nil pass0 (pa_cons (pv 0) (pa_cons pe_int pa_nil))) pe_int (nomark _)) (pss_cons (ps_set (i := 3) sc__law_rules.nd rfl (Or.inr rfl) (pe_lc (own := [("k", 8)]) (g := gName 8) (tt := tYes) rfl sc__law_rules.nd (pi_range1 (by rfl) T.z_range (pa_cons (pe_op op_add pe_int (pe_call G__law_take (hr.mono (by omega)) (by rfl) T.m__law_take T.F__law_take.kp T.b__law_take .nil pass0 (pa_cons (pv 0) (pa_cons pe_int pa_nil)))) pa_nil)) (blkOk_by (own := [("k", 8)]) (N := ["deck", "most", "letters", "some", "letter", "states", "rows", "deep", "k", "condition"]) (sc := (defScope s__law_rules)) (by decide +kernel)) (fun _ _ _ _ _ => (pg_name (i := 8) sc__law_rules.nd rfl (Or.inl rfl))) (fun _ _ _ _ _ => pts_nil) (fun _ _ _ _ _ => (pe_call G__law_take (hr.mono (by omega)) (by rfl) T.m__law_take T.F__law_take.kp T.b__law_take .nil pass0 (pa_cons (pv 0) (pa_cons pe_int pa_nil)))))) (pss_one (ps_set (i := 2) sc__law_rules.nd rfl (Or.inl rfl) (pe_join pe_str (pe_lc (own := [("k", 8), ("letter", 4)]) (g := gTup K 2 (gCons (gName 8) (gCons (gName 4) gNil))) (tt := tTest (tOp (rIn K false) (tVar 8) (tVar 3))) rfl sc__law_rules.nd (pi_enumS (by rfl) T.z_enumerate (pa_cons pe_str pa_nil)) (blkOk_by (own := [("k", 8), ("letter", 4)]) (N := ["deck", "most", "letters", "some", "letter", "states", "rows", "deep", "k", "condition"]) (sc := (defScope s__law_rules)) (by decide +kernel)) (fun _ _ _ _ _ => (pg_tup rfl (pgs_cons (pg_name (i := 8) sc__law_rules.nd rfl (Or.inl rfl)) (pgs_cons (pg_name (i := 4) sc__law_rules.nd rfl (Or.inl rfl)) pgs_nil)))) (fun _ _ _ _ _ => pts_one (pt_cmpR op_in_seq (pv 8) (pv 3) (by rfl))) (fun _ _ _ _ _ => (pv 4))))))) pss_nil) (pss_cons (ps_set (i := 5) sc__law_rules.nd rfl (Or.inr rfl) (pe_op op_add pe_int (pe_call G__law_take (hr.mono (by omega)) (by rfl) T.m__law_take T.F__law_take.kp T.b__law_take .nil pass0 (pa_cons (pv 0) (pa_cons (pv 1) pa_nil))))) (pss_cons (ps_set (i := 6) sc__law_rules.nd rfl (Or.inl rfl) pe_dnewK) (pss_cons (ps_for PassesOwn.never rfl (pi_str (pe_ix ix_list (pe_lst (pa_cons (pv 2) (pa_cons (pe_revS (pv 2)) pa_nil))) (pe_call G__law_take (hr.mono (by omega)) (by rfl) T.m__law_take T.F__law_take.kp T.b__law_take .nil pass0 (pa_cons (pv 0) (pa_cons pe_int pa_nil))) (fun _ _ => rfl))) (pg_name (i := 4) sc__law_rules.nd rfl (Or.inl rfl)) (pss_cons (ps_set (i := 7) sc__law_rules.nd rfl (Or.inr rfl) (pe_ix ix_list (pe_lst (pa_cons pe_int (pa_cons pe_int (pa_cons pe_int (pa_cons pe_int pa_nil))))) (pe_call G__law_take (hr.mono (by omega)) (by rfl) T.m__law_take T.F__law_take.kp T.b__law_take .nil pass0 (pa_cons (pv 0) (pa_cons pe_int pa_nil))) (fun _ _ => rfl))) (pss_cons (ps_set (i := 3) sc__law_rules.nd rfl (Or.inr rfl) (pe_lc (own := [("k", 8)]) (g := gName 8) (tt := tYes) rfl sc__law_rules.nd (pi_range1 (by rfl) T.z_range (pa_cons (pe_call G__law_take (hr.mono (by omega)) (by rfl) T.m__law_take T.F__law_take.kp T.b__law_take .nil pass0 (pa_cons (pv 0) (pa_cons pe_int pa_nil))) pa_nil)) (blkOk_by (own := [("k", 8)]) (N := ["deck", "most", "letters", "some", "letter", "states", "rows", "deep", "k", "condition"]) (sc := (defScope s__law_rules)) (by decide +kernel)) (fun _ _ _ _ _ => (pg_name (i := 8) sc__law_rules.nd rfl (Or.inl rfl))) (fun _ _ _ _ _ => pts_nil) (fun _ _ _ _ _ => (pe_call G__law_condition (hr.mono (by omega)) (by rfl) T.m__law_condition T.F__law_condition.kp T.b__law_condition .nil pass0 (pa_cons (pv 0) (pa_cons (pv 5) (pa_cons (pv 7) pa_nil))))))) (pss_cons (ps_set (i := 3) sc__law_rules.nd rfl (Or.inr rfl) (pe_lc (own := [("condition", 9)]) (g := gName 9) (tt := tYes) rfl sc__law_rules.nd (pi_list (pv 3)) (blkOk_by (own := [("condition", 9)]) (N := ["deck", "most", "letters", "some", "letter", "states", "rows", "deep", "k", "condition"]) (sc := (defScope s__law_rules)) (by decide +kernel)) (fun _ _ _ _ _ => (pg_name (i := 9) sc__law_rules.nd rfl (Or.inl rfl))) (fun _ _ _ _ _ => pts_nil) (fun _ _ _ _ _ => (pe_tup (pa_cons (pv 9) (pa_cons (pe_call G__law_take (hr.mono (by omega)) (by rfl) T.m__law_take T.F__law_take.kp T.b__law_take .nil pass0 (pa_cons (pv 0) (pa_cons (pv 5) pa_nil))) pa_nil)))))) (pss_one (ps_dput (hu_of hr) (pv 6) (pv 4) (pe_op op_cat (pv 3) (pe_lst (pa_cons (pe_tup (pa_cons (pe_tup (pa_cons pe_str (pa_cons (pe_op op_rep (pe_lst (pa_cons pe_int pa_nil)) (pv 5)) (pa_cons pe_int pa_nil)))) (pa_cons (pe_call G__law_take (hr.mono (by omega)) (by rfl) T.m__law_take T.F__law_take.kp T.b__law_take .nil pass0 (pa_cons (pv 0) (pa_cons (pv 5) pa_nil))) pa_nil))) pa_nil))) rfl)))))) (pss_one (ps_ret (pe_tup (pa_cons (pv 2) (pa_cons (pv 5) (pa_cons (pv 6) (pa_cons (pe_lc (own := [("k", 8)]) (g := gName 8) rfl sc__law_rules.nd (pi_range1 (by rfl) T.z_range (pa_cons (pv 5) pa_nil)) (blkOk_by (own := [("k", 8)]) (N := ["deck", "most", "letters", "some", "letter", "states", "rows", "deep", "k", "condition"]) (sc := (defScope s__law_rules)) (by decide +kernel)) (fun _ _ _ _ _ => (pg_name (i := 8) sc__law_rules.nd rfl (Or.inl rfl))) (fun _ _ _ _ _ => pts_one (pt_cmpR op_eq (pe_call G__law_take (hr.mono (by omega)) (by rfl) T.m__law_take T.F__law_take.kp T.b__law_take .nil pass0 (pa_cons (pv 0) (pa_cons pe_int pa_nil))) pe_int (nomark _))) (fun _ _ _ _ _ => (pv 8))) pa_nil)))))))))))), ?_⟩
  refine ⟨(by show 5 ≤ sizeLine; decide), fun l hl => ?_⟩
  have sl := same_new hl (o := .lst [.str (Str.ofString "a"), .str (Str.ofString "ab"), .str (Str.ofString "bx"), .str (Str.ofString "ace"), .str (Str.ofString "xyz")])
  refine ⟨_, rfl, p, 5, rfl, hp.keep sl, by decide, fun r0 H1 r00 r01 f1 d1 => ?_⟩
  have hl1 := f1 l _ (hp.ne hl) upd_same
  have F1 : Fr p H H1 := (Fr.same sl).trans f1
  obtain ⟨L0, hL0, hLn0⟩ : ∃ L0 : Str, atI [V.str (Str.ofString "a"), .str (Str.ofString "ab"), .str (Str.ofString "bx"), .str (Str.ofString "ace"), .str (Str.ofString "xyz")] r0 = some (V.str L0) ∧ LetsR L0 := by
    have mk : ∀ L : Str, 1 ≤ L.length → L.length ≤ 26 → (∀ c ∈ L.cps.toList, 97 ≤ c ∧ c ≤ 122) → L.cps.toList.Nodup → L.cps.toList.Pairwise (· < ·) → LetsR L := fun L a b c d e => ⟨⟨⟨a, b, c⟩, d⟩, e⟩
    rcases (by omega : r0 = 0 ∨ r0 = 1 ∨ r0 = 2 ∨ r0 = 3 ∨ r0 = 4) with rfl | rfl | rfl | rfl | rfl
    · exact ⟨_, atI_nat (j := 0) rfl, mk _ (by decide +kernel) (by decide +kernel) (by decide +kernel) (by decide +kernel) (by decide +kernel)⟩
    · exact ⟨_, atI_nat (j := 1) rfl, mk _ (by decide +kernel) (by decide +kernel) (by decide +kernel) (by decide +kernel) (by decide +kernel)⟩
    · exact ⟨_, atI_nat (j := 2) rfl, mk _ (by decide +kernel) (by decide +kernel) (by decide +kernel) (by decide +kernel) (by decide +kernel)⟩
    · exact ⟨_, atI_nat (j := 3) rfl, mk _ (by decide +kernel) (by decide +kernel) (by decide +kernel) (by decide +kernel) (by decide +kernel)⟩
    · exact ⟨_, atI_nat (j := 4) rfl, mk _ (by decide +kernel) (by decide +kernel) (by decide +kernel) (by decide +kernel) (by decide +kernel)⟩
  refine ⟨l, _, r0, V.str L0, rfl, rfl, SqL.of hl1, hL0, ?_⟩
  refine ⟨fun σ H' => ∃ L y3 y4 y9, σ = [some (.ref p), some (.int m), some (.str L), y3, y4, none, none, none, y9, none] ∧ LetsR L ∧ Fr p H H' ∧ Dk H' p, ?_, ?_⟩
  · refine ⟨_, rfl, p, 4, rfl, d1, by decide, fun r1 H2 r10 r11 f2 d2 => ⟨rfl, _, rfl, ?_⟩⟩
    have F2 := F1.trans f2
    refine ite2 (fun _ => ?_) (fun _ => ⟨L0, _, _, _, rfl, hLn0, F2, d2⟩)
    refine ⟨_, rfl, p, 3, rfl, d2, by decide, fun r3 H3 r30 r31 f3 d3 => ⟨1, r3, rfl, rfl, 1 + r3, rfl, by omega, by omega, fun D hD => ?_⟩⟩
    have F3 := F2.trans f3
    have hD0 : H D = none := F3.free d3.some hD
    refine lc_range (lo := 0) (n := (1 + r3).toNat) (fun i H4 => ∃ a : List Int, a.length = i ∧ (∀ x ∈ a, 0 ≤ x ∧ x < 26) ∧ H4 D = some (.lst (a.map V.int)) ∧ Fr p H H4 ∧ Dk H4 p)
      ⟨[], rfl, (fun _ h => by cases h), upd_same, F3.new hD0, d3.keep (same_new hD)⟩ ?_ ?_
    · rintro i H4 hi ⟨a, g1, g2, g3, g4, g5⟩
      have nD : D ≠ p := d3.ne hD
      refine ⟨rfl, _, rfl, p, 26, rfl, g5, by decide, fun x H5 x0 x1 f5 d5 => ⟨_, f5 _ _ nD g3, ?_, a ++ [x], by simp [g1], fun y hy => ?_, by rw [upd_same, List.map_append]; rfl, (g4.trans f5).new hD0, d5.upd nD⟩⟩
      · rw [List.length_map]
        exact Nat.lt_of_le_of_lt (show _ ≤ 1000000 by omega) (by decide)
      · rcases List.mem_append.mp hy with hy | hy
        · exact g2 y hy
        · rw [List.mem_singleton.mp hy]; exact ⟨x0, x1⟩
    rintro H4 ⟨a, g1, g2, g3, g4, g5⟩
    have nD : D ≠ p := d3.ne hD
    refine ⟨⟨_, rfl⟩, _, rfl, fun D2 hD2 => ?_⟩
    have nDD : D ≠ D2 := ne_of_none g3 hD2
    have hD20 : H D2 = none := g4.free g5.some hD2
    have nD2 : D2 ≠ p := g5.ne hD2
    refine lc_it (walk_enumS (x := Str.ofString "abcdefghijklmnopqrstuvwxyz")) (fun i H5 => H5 D2 = some (.lst (((subL a i).map ch).map V.str)) ∧ H5 D = some (.lst (a.map V.int)) ∧ Fr p H H5 ∧ Dk H5 p)
      ⟨upd_same, by rw [upd_ne nDD]; exact g3, g4.new hD20, g5.keep (same_new hD2)⟩ (fun _ _ _ _ => trivial) ?_ ?_
    · rintro i x H5 H6 hi ⟨k1, k2, k3, k4⟩ ⟨Tt, c, rfl, hT, rfl, hc⟩
      have hi26 : i < 26 := hi
      rw [alpha_at i hi26] at hc
      cases hc
      have sT := same_new hT (o := .tup [.int (i : Nat), .str (ch (97 + i))])
      have k1' := sT _ _ k1
      have k2' := sT _ _ k2
      have k3' : Fr p H (upd H5 Tt (.tup [.int (i : Nat), .str (ch (97 + i))])) := k3.trans (Fr.same sT)
      have k4' := k4.keep sT
      refine ⟨_, _, rfl, SqT.of upd_same, rfl, _, _, rfl, _, _, rfl, rfl, rfl, ?_⟩
      generalize upd H5 Tt (.tup [.int (i : Nat), .str (ch (97 + i))]) = H6 at *
      refine ⟨_, rfl, _, rfl, D, _, rfl, .inl (SqL.of k2'), rfl, flat_int _, _, rfl, ?_⟩
      rw [if_neg (by decide), inV_int]
      refine ite2 (fun hh => ?_) (fun hh => ?_)
      · have hin : (i : Int) ∈ a := of_decide_eq_true hh
        refine ⟨_, rfl, _, k1', ?_, ?_, by rw [upd_ne nDD]; exact k2', k3'.new hD20, k4'.upd nD2⟩
        · rw [List.length_map, List.length_map]
          exact Nat.lt_of_le_of_lt (show (subL a i).length ≤ 26 from Nat.le_trans (subL_len a i) (Nat.le_of_lt hi26)) (by decide)
        · rw [upd_same, subL_succ, if_pos hin, List.map_append, List.map_append]
          rfl
      · have hin : ¬ (i : Int) ∈ a := fun z => hh (decide_eq_true z)
        exact ⟨by rw [subL_succ, if_neg hin, List.append_nil]; exact k1', k2', k3', k4'⟩
    · rintro H5 ⟨k1, k2, k3, k4⟩
      refine ⟨Str.ofString "", D2, (subL a 26).map ch, rfl, rfl, .inl (SqL.of k1), ?_, ?_⟩
      · have e1 : (((subL a 26).map ch).map fun x : Str => x.length).sum ≤ 26 := by
          have : ∀ l : List Nat, ((l.map ch).map fun x : Str => x.length).sum = l.length := by
            intro l
            induction l with
            | nil => rfl
            | cons c r ih =>
              rw [List.map_cons, List.map_cons, List.sum_cons, ih]
              show 1 + r.length = _
              rw [List.length_cons]
              omega
          rw [this]
          exact subL_len a 26
        have e2 : (Str.ofString "").length = 0 := by decide +kernel
        rw [e2]
        omega
      · rw [join_chs]
        refine ⟨_, _, _, _, rfl, subL_letsR ?_, k3, k4⟩
        cases a with
        | nil => simp at g1; omega
        | cons x r => exact ⟨x, List.mem_cons_self, g2 x List.mem_cons_self⟩
  rintro σ H1b ⟨L, y3, y4, y9, rfl, ⟨hL, hLr⟩, F1b, d1b⟩
  refine ⟨_, rfl, _, rfl, p, m, rfl, d1b, by omega, fun r5 H2 r50 r51 f2 d2 => ⟨1, r5, rfl, rfl, ?_⟩⟩
  have F2 := F1b.trans f2
  obtain ⟨n, hn⟩ : ∃ n : Nat, 1 + r5 = (n : Int) := ⟨(1 + r5).toNat, by omega⟩
  have hn1 : 1 ≤ n := by omega
  have hn6 : n ≤ 6 := by omega
  have hnm : (n : Int) ≤ m := by omega
  show gName 5 (.int (1 + r5)) _ _ _
  rw [hn]
  refine fun d hd => ?_
  have nd : d ≠ p := d2.ne hd
  have hd0 : H d = none := F2.free d2.some hd
  have F3 : Fr p H (upd H2 d (.dK [])) := F2.new hd0
  have d3 := d2.keep (same_new (o := .dK []) hd)
  have hd3 := upd_same (H := H2) (a := d) (o := .dK [])
  generalize upd H2 d (.dK []) = H3 at *
  have hLlen : L.length ≤ sizeLine := Nat.le_trans hL.1.2.1 (by decide)
  refine ⟨_, rfl, _, rfl, L, rfl, hLlen, (by show 2 ≤ sizeLine; decide), fun l2 hl2 => ?_⟩
  have s4 := same_new (o := .lst [.str L, .str (revS L)]) hl2
  have l2x := upd_same (H := H3) (a := l2) (o := .lst [.str L, .str (revS L)])
  have nl2 := d3.ne hl2
  have d4 := d3.keep s4
  have F4 := F3.trans (Fr.same s4)
  have hd4 := s4 _ _ hd3
  generalize upd H3 l2 (.lst [.str L, .str (revS L)]) = H4 at *
  refine ⟨_, rfl, p, 2, rfl, d4, by decide, fun r6 H5 r60 r61 f5 d5 => ?_⟩
  obtain ⟨LL, hLL, hLm, hLnd, hLen⟩ : ∃ LL : Str, atI [V.str L, .str (revS L)] r6 = some (V.str LL) ∧ (∀ c, c ∈ LL.cps.toList ↔ c ∈ L.cps.toList) ∧ LL.cps.toList.Nodup ∧ LL.cps.size ≤ 26 := by
    rcases (by omega : r6 = 0 ∨ r6 = 1) with rfl | rfl
    · exact ⟨L, atI_nat (j := 0) rfl, fun _ => Iff.rfl, hL.2, hL.1.2.1⟩
    · refine ⟨revS L, atI_nat (j := 1) rfl, fun c => hL.rev, ?_, ?_⟩
      · unfold revS
        rw [List.toList_toArray]
        exact List.pairwise_reverse.mpr (List.Pairwise.imp (fun h e => h e.symm) hL.2)
      · unfold revS
        have := hL.1.2.1
        rw [show L.length = L.cps.size from rfl] at this
        simpa using this
  have F5 := F4.trans f5
  have hd5 := f5 _ _ nd hd4
  refine ⟨l2, _, r6, V.str LL, rfl, rfl, SqL.of (f5 _ _ nl2 l2x), hLL, LL, rfl, ?_⟩
  clear hd3 hd4 l2x s4 f5 hLL
  refine for_it (walk_str (z := LL)) (fun i σ H' => ∃ y3 y4 y7 y9 y10 es kvs, σ = [some (.ref p), some (.int m), some (.str L), y3, y4, some (nI n), some (.ref d), y7, y9, y10] ∧ H' d = some (.dK es) ∧ rowsIn (fun b => b ≠ p ∧ b ≠ d) H' es kvs ∧ kvs.map (·.1) = LL.cps.toList.take i ∧ (∀ kv ∈ kvs, rsOk n kv.2) ∧ Fr p H H' ∧ Dk H' p)
    ⟨_, _, _, _, _, [], [], rfl, hd5, .nil, rfl, (fun _ h => by cases h), F5, d5⟩ (fun _ _ _ _ _ => trivial) ?_ ?_
  · rintro i x σ Hq Hk hi ⟨y3, y4, y7, y9, y10, es, kvs, rfl, ge, gr, gk, go, gF, gd⟩ ⟨rfl, c, hc, rfl⟩
    have hcL : LL.cps.toList[i]? = some c := by rw [Array.getElem?_toList]; exact hc
    have hlen : kvs.length ≤ 26 := by
      have := congrArg List.length gk
      have e0 : LL.cps.toList.length = LL.cps.size := Array.length_toList
      simp only [List.length_map, List.length_take] at this
      omega
    have hcn : c ∉ kvs.map (·.1) := by
      rw [gk]
      intro hm
      obtain ⟨j, hj⟩ := List.getElem?_of_mem hm
      have hji : j < i := by
        have := (List.getElem?_eq_some_iff.mp hj).1
        rw [List.length_take] at this
        omega
      rw [List.getElem?_take_of_lt hji] at hj
      have := (List.getElem?_inj (by
        have := (List.getElem?_eq_some_iff.mp hj).1
        exact this) hLnd).mp (hj.trans hcL.symm)
      omega
    refine ⟨(by show 4 ≤ sizeLine; decide), fun l3 hl3 => ?_⟩
    have s1 := same_new (o := .lst [.int 2, .int 3, .int 4, .int 4]) hl3
    refine ⟨_, rfl, p, 4, rfl, gd.keep s1, by decide, fun r7 H6 r70 r71 f6 d6 => ?_⟩
    have hl36 := f6 l3 _ (gd.ne hl3) upd_same
    obtain ⟨dv, hdv, dv1, dv4⟩ : ∃ dv : Int, atI [V.int 2, .int 3, .int 4, .int 4] r7 = some (V.int dv) ∧ 1 ≤ dv ∧ dv ≤ 4 := by
      rcases (by omega : r7 = 0 ∨ r7 = 1 ∨ r7 = 2 ∨ r7 = 3) with rfl | rfl | rfl | rfl
      · exact ⟨2, atI_nat (j := 0) rfl, by decide, by decide⟩
      · exact ⟨3, atI_nat (j := 1) rfl, by decide, by decide⟩
      · exact ⟨4, atI_nat (j := 2) rfl, by decide, by decide⟩
      · exact ⟨4, atI_nat (j := 3) rfl, by decide, by decide⟩
    refine ⟨l3, _, r7, V.int dv, rfl, rfl, SqL.of hl36, hdv, ?_⟩
    have K6 : Fr p Hk H6 := (Fr.same s1).trans f6
    clear s1 hl3
    refine ⟨_, rfl, p, 4, rfl, d6, by decide, fun mv Hm mv0 mv8 f7 dm => ?_⟩
    have Km := K6.trans f7
    refine ⟨mv, rfl, by omega, by omega, fun D1 hD1 => ?_⟩
    have hD10 : Hk D1 = none := Km.free dm.some hD1
    have nD1 : D1 ≠ p := dm.ne hD1
    refine lc_range (lo := 0) (n := mv.toNat) (fun i H4 => ∃ (acc : List V) (cds : List Cd), cds.length = i ∧ H4 D1 = some (.lst acc) ∧ DtAll (fun b => Hk b = none ∧ b ≠ D1) H4 acc (cds.map Cd.dat) ∧ (∀ c ∈ cds, c.ok n ∧ c.deep ≤ 4) ∧ Fr p Hk H4 ∧ Dk H4 p)
      ⟨[], [], rfl, upd_same, .nil, (fun _ h => by cases h), Km.new hD10, dm.keep (same_new hD1)⟩ ?_ ?_
    · rintro j H4 hj ⟨acc, cds, g1, g2, g3, g4, g5, g6⟩
      have ga := g3.len
      rw [List.length_map] at ga
      refine ⟨rfl, _, rfl, _, rfl, _, rfl, p, n, dv, rfl, g6, by omega, by omega, by omega, by omega, fun v cd H5 f5 d5 hv hok hdp => ⟨acc, f5 _ _ nD1 g2, ?_, acc ++ [v], cds ++ [cd], by simp [g1], upd_same, ?_, fun y hy => ?_, (g5.trans f5).new hD10, d5.upd nD1⟩⟩
      · exact Nat.lt_of_le_of_lt (show acc.length ≤ 1000000 by omega) (by decide)
      · rw [List.map_append]
        have gp : ∀ b, Hk b = none → b ≠ p := fun b h e => gd.some (by rw [← e]; exact h)
        have a1 : DtAll (fun b => Hk b = none ∧ b ≠ D1) H5 acc (cds.map Cd.dat) := g3.keep fun b o h e => f5 b o (gp b h.1) e
        have a2 : Dt (fun b => Hk b = none ∧ b ≠ D1) H5 v cd.dat := hv.weak fun b h => ⟨g5.free g6.some h.2, fun e => by rw [e, g2] at h; cases h.2⟩
        exact (a1.snoc a2).keep (upd_keep fun b h => h.2)
      · rcases List.mem_append.mp hy with hy | hy
        · exact g4 y hy
        · rw [List.mem_singleton.mp hy]
          exact ⟨by simpa using hok, by omega⟩
    rintro H4 ⟨acc, cds, g1, g2, g3, g4, g5, g6⟩
    have gp : ∀ b, Hk b = none → b ≠ p := fun b h e => gd.some (by rw [← e]; exact h)
    have ga := g3.len
    rw [List.length_map] at ga
    refine ⟨_, rfl, D1, rfl, ⟨_, SqL.of g2⟩, fun D2 hD2 => ?_⟩
    have hD20 : Hk D2 = none := g5.free g6.some hD2
    have nD2 : D2 ≠ p := g6.ne hD2
    have nDD : D1 ≠ D2 := ne_of_none g2 hD2
    have g3' : DtAll (fun b => Hk b = none ∧ b ≠ D1 ∧ b ≠ D2) H4 acc (cds.map Cd.dat) := g3.imp (fun b o h e => ⟨h.1, h.2, ne_of_none e hD2⟩) fun _ _ _ e => e
    refine lc_list (xs := acc) (fun i H5 => ∃ (acc2 : List V) (rs : RR), rs.map (·.1) = cds.take i ∧ H5 D2 = some (.lst acc2) ∧ DtAll (fun b => Hk b = none ∧ b ≠ D2) H5 acc2 (rs.map rowD) ∧ (∀ r ∈ rs, r.2 < n) ∧ Fr p Hk H5 ∧ Dk H5 p ∧ H5 D1 = some (.lst acc) ∧ DtAll (fun b => Hk b = none ∧ b ≠ D1 ∧ b ≠ D2) H5 acc (cds.map Cd.dat))
      ⟨[], [], rfl, upd_same, .nil, (fun _ h => by cases h), g5.new hD20, g6.keep (same_new hD2), by rw [upd_ne nDD]; exact g2, g3'.same (same_new hD2)⟩ (fun _ _ _ ⟨_, _, _, _, _, _, _, _, h, _⟩ => SqL.of h) ?_ ?_
    · rintro j x H5 hx ⟨acc2, rs, k1, k2, k3, k4, k5, k6, k7, k8⟩
      obtain ⟨dx, hdx, hx2⟩ := k8.getV hx
      rw [List.getElem?_map] at hdx
      cases hcd : cds[j]? with
      | none => rw [hcd] at hdx; cases hdx
      | some cd =>
      rw [hcd] at hdx
      cases hdx
      have ka := k3.len
      rw [List.length_map] at ka
      have kl := congrArg List.length k1
      rw [List.length_map, List.length_take] at kl
      refine ⟨rfl, _, rfl, _, rfl, _, rfl, p, n, rfl, k6, by omega, fun r11 H6 r110 r111 f6 d6 => ⟨(by show 2 ≤ sizeLine; decide), fun tt htt => ?_⟩⟩
      have st := same_new (o := .tup [x, .int r11]) htt
      have tt0 : Hk tt = none := (k5.trans f6).free d6.some htt
      have k26 := f6 _ _ nD2 k2
      have ntD : tt ≠ D2 := fun e => by rw [e, k26] at htt; cases htt
      refine ⟨acc2, st _ _ k26, ?_, acc2 ++ [.ref tt], rs ++ [(cd, r11.toNat)], ?_, upd_same, ?_, fun y hy => ?_, (((k5.trans f6).trans (Fr.same st)).new hD20), (d6.keep st).upd nD2, ?_, ?_⟩
      · exact Nat.lt_of_le_of_lt (show acc2.length ≤ 1000000 by omega) (by decide)
      · rw [List.map_append, k1, take_succ_of hcd]
        rfl
      · rw [List.map_append]
        have a1 : DtAll (fun b => Hk b = none ∧ b ≠ D2) (upd H6 tt (.tup [x, .int r11])) acc2 (rs.map rowD) := (k3.keep fun b o h e => f6 b o (gp b h.1) e).same st
        have a2 : Dt (fun b => Hk b = none ∧ b ≠ D2) (upd H6 tt (.tup [x, .int r11])) (.ref tt) (rowD (cd, r11.toNat)) := by
          unfold rowD
          rw [show ((r11.toNat : Nat) : Int) = r11 by omega]
          exact .tup upd_same ⟨tt0, ntD⟩ (by simp) (.cons (((hx2.keep fun b o h e => f6 b o (gp b h.1) e).same st).weak fun b h => ⟨h.1, h.2.2⟩) (.cons (.int _) .nil))
        exact (a1.snoc a2).keep (upd_keep fun b h => h.2)
      · rcases List.mem_append.mp hy with hy | hy
        · exact k4 y hy
        · rw [List.mem_singleton.mp hy]
          show r11.toNat < n
          omega
      · rw [upd_ne nDD]
        exact st _ _ (f6 _ _ nD1 k7)
      · exact ((k8.keep fun b o h e => f6 b o (gp b h.1) e).same st).keep (upd_keep fun b h => h.2.2)
    rintro H5 ⟨acc2, rs, k1, k2, k3, k4, k5, k6, k7, k8⟩
    rw [ga, List.take_length] at k1
    have nk : ∀ b, Hk b = none → b ≠ p ∧ b ≠ d := fun b h => ⟨gp b h, fun e => by rw [e, ge] at h; cases h⟩
    have k5' : ∀ b o, b ≠ p → Hk b = some o → H5 b = some o := fun b o n e => k5 b o n e
    refine ⟨_, rfl, (by show 1 ≤ sizeLine; decide), fun z hz => ⟨_, rfl, z, n, _, rfl, rfl, upd_same, by omega, by omega, ?_, fun pz hpz => ⟨(by show 3 ≤ sizeLine; decide), fun t1 ht1 => ?_⟩⟩⟩
    · rw [List.length_singleton]
      exact Nat.le_of_lt (Nat.lt_of_le_of_lt (show _ ≤ 1000000 by omega) (by decide))
    rw [Int.toNat_natCast, rep0] at ht1 ⊢
    have sz1 := same_new hz (o := .lst [V.int 0])
    have sz2 := same_new hpz (o := .lst ((List.replicate n (0 : Int)).map V.int))
    have sz3 := same_new ht1 (o := .tup [.str (Str.ofString "least"), .ref pz, .int 0])
    have pzx := sz3 _ _ (upd_same (H := upd H5 z (.lst [V.int 0])) (a := pz) (o := .lst ((List.replicate n (0 : Int)).map V.int)))
    have t1x := upd_same (H := upd (upd H5 z (.lst [V.int 0])) pz (.lst ((List.replicate n (0 : Int)).map V.int))) (a := t1) (o := .tup [.str (Str.ofString "least"), .ref pz, .int 0])
    have hpz0 : Hk pz = none := k5.free k6.some (sz1.free hpz)
    have ht10 : Hk t1 = none := k5.free k6.some ((sz1.trans sz2).free ht1)
    have S6 := (sz1.trans sz2).trans sz3
    generalize upd (upd (upd H5 z (.lst [V.int 0])) pz (.lst ((List.replicate n (0 : Int)).map V.int))) t1 (.tup [.str (Str.ofString "least"), .ref pz, .int 0]) = H6 at *
    refine ⟨_, rfl, _, rfl, p, n, rfl, k6.keep S6, by omega, fun r12 H7 r120 r121 f7 d7 => ⟨(by show 2 ≤ sizeLine; decide), fun t2 ht2 => ⟨(by show 1 ≤ sizeLine; decide), fun l4 hl4 => ?_⟩⟩⟩
    have K7 : Fr p Hk H7 := (k5.trans (Fr.same S6)).trans f7
    have st1 := same_new ht2 (o := .tup [.ref t1, .int r12])
    have st2 := same_new hl4 (o := .lst [V.ref t2])
    have ht20 : Hk t2 = none := K7.free d7.some ht2
    have t2x := st2 _ _ (upd_same (H := H7) (a := t2) (o := .tup [.ref t1, .int r12]))
    have l4x := upd_same (H := upd H7 t2 (.tup [.ref t1, .int r12])) (a := l4) (o := .lst [V.ref t2])
    have S8 := st1.trans st2
    generalize upd (upd H7 t2 (.tup [.ref t1, .int r12])) l4 (.lst [V.ref t2]) = H8 at *
    have D2x : H8 D2 = some (.lst acc2) := S8 _ _ (f7 _ _ nD2 (S6 _ _ k2))
    have ka := k3.len
    rw [List.length_map] at ka
    have kl := congrArg List.length k1
    rw [List.length_map] at kl
    have K8 : Fr p Hk H8 := K7.trans (Fr.same S8)
    have d8 := d7.keep S8
    refine ⟨D2, l4, _, _, rfl, rfl, D2x, l4x, ?_, fun D3 hD3 => ?_⟩
    · exact Nat.le_trans (show acc2.length + 1 ≤ 1000000 by omega) (by decide)
    have st3 := same_new hD3 (o := .lst (acc2 ++ [V.ref t2]))
    have hD30 : Hk D3 = none := K8.free d8.some hD3
    have D3x := upd_same (H := H8) (a := D3) (o := .lst (acc2 ++ [V.ref t2]))
    have S9 : Same H7 (upd H8 D3 (.lst (acc2 ++ [V.ref t2]))) := S8.trans st3
    have t2y := st3 _ _ t2x
    generalize upd H8 D3 (.lst (acc2 ++ [V.ref t2])) = H9 at *
    have K9 : Fr p Hk H9 := K8.trans (Fr.same st3)
    have d9 := d8.keep st3
    have hd9 : H9 d = some (.dK es) := K9 _ _ nd ge
    have np5 : ∀ b, H5 b = none → b ≠ p := fun b h => k6.ne h
    have hv : Dt (fun b => b ≠ p ∧ b ≠ d) H9 (.ref D3) (rowsD (rs ++ [(Cd.least (List.replicate n 0) 0, r12.toNat)])) := by
      unfold rowsD
      refine .lst D3x (nk _ hD30) (by rw [List.length_append, List.length_singleton]; omega) ?_
      rw [List.map_append]
      have a1 : DtAll (fun b => b ≠ p ∧ b ≠ d) H9 acc2 (rs.map rowD) := (((k3.same S6).keep fun b o h e => f7 b o (gp b h.1) e).same S9).weak fun b h => nk b h.1
      refine a1.snoc ?_
      unfold rowD
      rw [show ((r12.toNat : Nat) : Int) = r12 by omega]
      exact .tup t2y (nk _ ht20) (by simp) (.cons (.tup (S9 _ _ (f7 _ _ (gp _ ht10) t1x)) (nk _ ht10) (by simp) (.cons (.str _) (.cons (dt_intsL (S9 _ _ (f7 _ _ (gp _ hpz0) pzx)) (nk _ hpz0) (by rw [List.length_replicate]; omega)) (.cons (.int _) .nil)))) (.cons (.int _) .nil))
    refine ⟨_, rfl, _, rfl, d, _, rfl, DPut.k (k := .inr (ch c)) hd9 ?_, ?_⟩
    · have := Paired.length gr
      exact Nat.lt_of_le_of_lt (show es.length ≤ 1000000 by omega) (by decide)
    rw [putK_new _ (keys_new gr hcn)]
    refine ⟨_, _, _, _, _, _, kvs ++ [(c, rs ++ [(Cd.least (List.replicate n 0) 0, r12.toNat)])], rfl, upd_same, ?_, ?_, fun kv hkv => ?_, ?_, d9.upd nd⟩
    · refine rowsIn.keep (rowsIn_snoc ?_ rfl hv) (upd_keep fun b h => h.2)
      exact gr.keep fun b o h e => K9 b o h.1 e
    · rw [List.map_append, gk, take_succ_of hcL]
      rfl
    · rcases List.mem_append.mp hkv with hkv | hkv
      · exact go kv hkv
      · rw [List.mem_singleton.mp hkv]
        refine ⟨?_, fun r hr => ?_, rs, r12.toNat, rfl⟩
        · show (rs ++ [_]).length ≤ 100
          rw [List.length_append, List.length_singleton]
          omega
        · rcases List.mem_append.mp hr with hr | hr
          · have hm : r.1 ∈ cds := by rw [← k1]; exact List.mem_map.mpr ⟨r, hr, rfl⟩
            exact ⟨(g4 _ hm).1, (g4 _ hm).2, k4 r hr⟩
          · rw [List.mem_singleton.mp hr]
            refine ⟨⟨⟨List.length_replicate, fun x hx => ?_⟩, by decide, by decide⟩, by simp [Cd.deep], by show r12.toNat < n; omega⟩
            rw [List.eq_of_mem_replicate hx]
            decide
    · exact (gF.trans K9).new hd0
  · rintro σ H' ⟨y3, y4, y7, y9, y10, es, kvs, rfl, ge, gr, gk, go, gF, gd⟩
    have e0 : LL.cps.toList.length = LL.cps.size := Array.length_toList
    rw [show LL.cps.size = LL.cps.toList.length from e0.symm, List.take_length] at gk
    have hk26 : kvs.length ≤ 26 := by
      have := congrArg List.length gk
      rw [List.length_map] at this
      omega
    refine ⟨_, rfl, _, rfl, _, rfl, _, rfl, n, rfl, by omega, by omega, fun D hD => ?_⟩
    have nD : D ≠ p := gd.ne hD
    have hD0 : H D = none := gF.free gd.some hD
    have ndD : d ≠ D := ne_of_none ge hD
    have gr' : rowsIn (fun b => b ≠ p ∧ b ≠ D) H' es kvs := Paired.mapP gr fun e kv k => ⟨k.1, k.2.imp (fun b o h e => ⟨h.1, ne_of_none e hD⟩) fun _ _ _ e => e⟩
    refine lc_range (lo := 0) (n := n) (fun i H4 => ∃ gs : List Nat, gs.length ≤ i ∧ (∀ g ∈ gs, g < i) ∧ gs.Pairwise (· < ·) ∧ H4 D = some (.lst (gs.map nI)) ∧ Fr p H' H4 ∧ Dk H4 p)
      ⟨[], Nat.le_refl _, (fun _ h => by cases h), .nil, upd_same, (Fr.refl p H').new hD, gd.keep (same_new hD)⟩ ?_ ?_
    · rintro i H4 hi ⟨gs, g1, g2, gu, g3, g4, g5⟩
      refine ⟨rfl, _, rfl, p, 2, rfl, g5, by decide, fun r13 H5 _ _ f5 d5 => ⟨rfl, _, rfl, ?_⟩⟩
      refine ite2 (fun _ => ?_) (fun _ => ⟨gs, by omega, fun g hg => Nat.lt_succ_of_lt (g2 g hg), gu, f5 _ _ nD g3, g4.trans f5, d5⟩)
      refine ⟨_, rfl, _, f5 _ _ nD g3, ?_, gs ++ [i], by simp; exact g1, fun g hg => ?_, List.pairwise_append.mpr ⟨gu, List.pairwise_singleton _ _, fun x hx y hy => by rw [List.mem_singleton.mp hy]; exact g2 x hx⟩, ?_, (g4.trans f5).new hD, d5.upd nD⟩
      · rw [List.length_map]
        exact Nat.lt_of_le_of_lt (show gs.length ≤ 1000000 by omega) (by decide)
      · rcases List.mem_append.mp hg with hg | hg
        · exact Nat.lt_succ_of_lt (g2 g hg)
        · rw [List.mem_singleton.mp hg]; exact Nat.lt_succ_self _
      · rw [upd_same, List.map_append, List.map_cons, List.map_nil]
        show some (HO.lst (gs.map nI ++ [V.int ((0 : Int) + (i : Int))])) = _
        rw [Int.zero_add]
    · rintro H4 ⟨gs, g1, g2, gu, g3, g4, g5⟩
      refine ⟨(by show 4 ≤ sizeLine; decide), fun tt htt => ?_⟩
      have st := same_new (o := .tup [.str L, nI n, .ref d, .ref D]) htt
      refine q (.ref tt) ⟨L, n, kvs, gs⟩ _ ⟨hL.1, hn1, hn6, fun c hc => look_of_mem (by rw [gk]; exact (hLm c).mpr hc), fun kv hkv => ⟨go kv hkv, (hLm _).mp (by rw [← gk]; exact List.mem_map.mpr ⟨kv, hkv, rfl⟩)⟩, by rw [gk]; exact hLnd, by show gs.length ≤ 6; omega, g2, hk26⟩ hLr gu hnm ((gF.trans g4).trans (Fr.same st)) (g5.keep st) ?_
      exact ⟨tt, d, D, es, rfl, upd_same, g5.ne htt, st _ _ (g4 _ _ nd ge), nd, ((gr'.keep fun b o h e => g4 b o h.1 e).same st).weak fun b h => h.1, st _ _ g3, nD⟩
end


theorem look_nd {α β : Type} [BEq α] [LawfulBEq α] {a : α} {b : β} : ∀ {l : List (α × β)}, (l.map (·.1)).Nodup → (a, b) ∈ l → l.lookup a = some b
  | (x, y) :: r, nd, h => by
    rw [List.map_cons, List.nodup_cons] at nd
    rcases List.mem_cons.mp h with h | h
    · cases h
      simp [List.lookup]
    · have ne : ¬ a = x := fun e => nd.1 (by rw [← e]; exact List.mem_map.mpr ⟨_, h, rfl⟩)
      have : (a == x) = false := by simpa using ne
      simp only [List.lookup, this]
      exact look_nd nd.2 h

mutual
theorem Dt.offD {ok : Addr → Prop} {H : Hp} {a : Addr} {es : List (Key × V)} (ha : H a = some (.dK es)) (hne : es ≠ []) : ∀ {v : V} {d : PyData}, Dt ok H v d → Dt (fun b => ok b ∧ b ≠ a) H v d
  | _, _, .non => .non
  | _, _, .bl b => .bl b
  | _, _, .int i => .int i
  | _, _, .str x => .str x
  | _, _, .dic e k => .dic e ⟨k, fun z => by rw [z, ha] at e; cases e; exact hne rfl⟩
  | _, _, .lst e k l r => .lst e ⟨k, fun z => by rw [z, ha] at e; cases e⟩ l (DtAll.offD ha hne r)
  | _, _, .tup e k l r => .tup e ⟨k, fun z => by rw [z, ha] at e; cases e⟩ l (DtAll.offD ha hne r)
theorem DtAll.offD {ok : Addr → Prop} {H : Hp} {a : Addr} {es : List (Key × V)} (ha : H a = some (.dK es)) (hne : es ≠ []) : ∀ {vs : List V} {ds : List PyData}, DtAll ok H vs ds → DtAll (fun b => ok b ∧ b ≠ a) H vs ds
  | _, _, .nil => .nil
  | _, _, .cons a b => .cons (Dt.offD ha hne a) (DtAll.offD ha hne b)
end
theorem rows_at {ok : Addr → Prop} {H : Hp} : ∀ {es : List (Key × V)} {kvs : List (Nat × RR)} {i : Nat} {k : Key} {v : V}, rowsIn ok H es kvs → es[i]? = some (k, v) → ∃ c rs, kvs[i]? = some (c, rs) ∧ k = .inr (ch c)
  | _, _, 0, _, _, .cons r _, h => by cases h; exact ⟨_, _, rfl, r.1⟩
  | _, _, i + 1, _, _, .cons _ t, h => by
    rw [List.getElem?_cons_succ] at h
    obtain ⟨c, rs, h1, h2⟩ := rows_at t h
    exact ⟨c, rs, by rw [List.getElem?_cons_succ]; exact h1, h2⟩
theorem depth_rowsD {n : Nat} {rs : RR} (h : rsOk n rs) : (rowsD rs).depth ≤ 7 := by
  have : ∀ l : RR, (∀ r ∈ l, r.1.deep ≤ 4) → PyData.depthAll (l.map rowD) ≤ 6 := by
    intro l
    induction l with
    | nil => intro _; simp [PyData.depthAll]
    | cons r t ih =>
      intro hl
      have h1 := ih fun x hx => hl x (List.mem_cons_of_mem _ hx)
      have h2 := hl r List.mem_cons_self
      have h3 := r.1.dat_depth
      simp only [List.map_cons, PyData.depthAll, rowD, PyData.depth]
      omega
  have := this rs fun r hr => (h.2.1 r hr).2.1
  simp only [rowsD, PyData.depth]
  omega


def sp__law_copy (n : Nat) : Sp := fun vs H Q _ => ∃ (v : V) (d : PyData), vs = [v] ∧ Dt (fun _ => True) H v d ∧ d.depth < n ∧ ∀ r H', Same H H' → Dt (fun b => H b = none) H' r d → Q r H'
def sp_copyD (n : Nat) : Sp := fun vs H Q _ => ∃ (a : Addr) (es : List (Key × V)) (kvs : List (Nat × RR)), vs = [.ref a] ∧ H a = some (.dK es) ∧ rowsIn (fun _ => True) H es kvs ∧ (kvs.map (·.1)).Nodup ∧ kvs.length ≤ 26 ∧ (∀ kv ∈ kvs, (rowsD kv.2).depth < n) ∧
  ∀ r es' H', Same H H' → H r = none → H' r = some (.dK es') → rowsIn (fun b => H b = none ∧ b ≠ r) H' es' kvs → Q (.ref r) H'
def sp_copyR : Sp := fun vs H Q _ => ∃ (v : V) (R : Rl), vs = [v] ∧ RlAt (fun _ => True) H v R ∧ R.ok ∧ ∀ r H', Same H H' → RlAt (fun b => H b = none) H' r R → Q r H'
theorem fnOk_or {P : Program} {w : World} {K : PySem.W.Frag} {mg : Str → Option Value} {base : Heap} {CX : CXT} {k : Nat} {f : Addr} {fd : FuncData} {ps : List Str} {sp1 sp2 : Sp} (F1 : FnOk P w K mg base CX k f fd ps sp1) (F2 : FnOk P w K mg base CX k f fd ps sp2) : FnOk P w K mg base CX k f fd ps (fun vs H Q E => sp1 vs H Q E ∨ sp2 vs H Q E) :=
  ⟨fun vs H Q E h => h.elim (F1.len vs H Q E) (F2.len vs H Q E), fun A outer s H args us vs Q E hr e0 hb r h => h.elim (F1.run A outer s H args us vs Q E hr e0 hb r) (F2.run A outer s H args us vs Q E hr e0 hb r)⟩
section
variable {P : Program} {w : World} {K : PySem.W.Frag} {mg : Str → Option Value} {base : Heap}
theorem ok__law_copy (T : Txt K mg) : ∀ n : Nat, FnOk P w K mg base CX0 n T.f__law_copy T.d__law_copy ["thing"] (sp__law_copy n)
  | 0 => noneOf fun vs H Q E ⟨v, d, _, _, h, _⟩ => by omega
  | n + 1 => by
    have G__law_copy : FnOk P w K mg base CX0 n T.f__law_copy T.d__law_copy ["thing"] (sp__law_copy n) := ok__law_copy T n
    refine T.F__law_copy.ok sc__law_copy (fun vs H Q E h => ?_) (fun cdv A outer s H vs Q E hr h => ?_)
    · obtain ⟨v, d, rfl, _⟩ := h
      rfl
    obtain ⟨v, d, rfl, ht, hd, q⟩ := h
    refine ⟨_, (pss_cons (ps_if (pt_val (pe_callB call_isi (by rfl) T.z_isinstance (by decide +kernel) (pa_cons (pv 0) (pa_cons (pe_bltn (v := .ty "list") (by rfl) T.z_list (by decide +kernel) rfl) pa_nil)))) (pss_one (ps_ret (pe_lc (own := [("one", 3)]) (g := gName 3) (tt := tYes) rfl sc__law_copy.nd (pi_list (pv 0)) (blkOk_by (own := [("one", 3)]) (N := ["thing", "found", "key", "one"]) (sc := (defScope s__law_copy)) (by decide +kernel)) (fun _ _ _ _ _ => (pg_name (i := 3) sc__law_copy.nd rfl (Or.inl rfl))) (fun _ _ _ _ _ => pts_nil) (fun _ _ _ _ _ => (pe_call G__law_copy (hr.mono (by omega)) (by rfl) T.m__law_copy T.F__law_copy.kp T.b__law_copy .nil pass0 (pa_cons (pv 3) pa_nil)))))) pss_nil) (pss_cons (ps_if (pt_val (pe_callB call_isi (by rfl) T.z_isinstance (by decide +kernel) (pa_cons (pv 0) (pa_cons (pe_bltn (v := .ty "tuple") (by rfl) T.z_tuple (by decide +kernel) rfl) pa_nil)))) (pss_one (ps_ret (pe_callTy call_tuple_of (by rfl) T.z_tuple (by decide +kernel) (pa_cons (pe_lc (own := [("one", 3)]) (g := gName 3) (tt := tYes) rfl sc__law_copy.nd (pi_tup (pv 0)) (blkOk_by (own := [("one", 3)]) (N := ["thing", "found", "key", "one"]) (sc := (defScope s__law_copy)) (by decide +kernel)) (fun _ _ _ _ _ => (pg_name (i := 3) sc__law_copy.nd rfl (Or.inl rfl))) (fun _ _ _ _ _ => pts_nil) (fun _ _ _ _ _ => (pe_call G__law_copy (hr.mono (by omega)) (by rfl) T.m__law_copy T.F__law_copy.kp T.b__law_copy .nil pass0 (pa_cons (pv 3) pa_nil)))) pa_nil)))) pss_nil) (pss_cons (ps_if (pt_not (pt_val (pe_callB call_isi (by rfl) T.z_isinstance (by decide +kernel) (pa_cons (pv 0) (pa_cons (pe_bltn (v := .ty "dict") (by rfl) T.z_dict (by decide +kernel) rfl) pa_nil))))) (pss_one (ps_ret (pv 0))) pss_nil) (pss_cons (ps_set (i := 1) sc__law_copy.nd rfl (Or.inl rfl) pe_dnewK) (pss_cons (ps_lock (ps_for PassesOwn.never rfl (pi_keys (pv 0)) (pg_name (i := 2) sc__law_copy.nd rfl (Or.inl rfl)) (pss_one (ps_dput (hu_of hr) (pv 1) (pv 2) (pe_call G__law_copy (hr.mono (by omega)) (by rfl) T.m__law_copy T.F__law_copy.kp T.b__law_copy .nil pass0 (pa_cons (pe_dget (hu_of hr) (pv 0) (pv 2) (fun _ _ => rfl)) pa_nil)) rfl)))) (pss_one (ps_ret (pv 1)))))))), ?_⟩
    cases ht with
    | non =>
      refine ⟨_, rfl, _, _, _, _, false, rfl, .ty "list", .base .non, kit_ty (by decide +kernel), _, rfl, iteF ?_⟩
      refine ⟨_, rfl, _, _, _, _, false, rfl, .ty "tuple", .base .non, kit_ty (by decide +kernel), _, rfl, iteF ?_⟩
      refine ⟨_, rfl, _, _, _, _, false, rfl, .ty "dict", .base .non, kit_ty (by decide +kernel), _, rfl, iteT ?_⟩
      exact ⟨_, rfl, q _ _ (Same.refl _) .non⟩
    | bl i =>
      refine ⟨_, rfl, _, _, _, _, false, rfl, .ty "list", .base (.bl _), kit_ty (by decide +kernel), _, rfl, iteF ?_⟩
      refine ⟨_, rfl, _, _, _, _, false, rfl, .ty "tuple", .base (.bl _), kit_ty (by decide +kernel), _, rfl, iteF ?_⟩
      refine ⟨_, rfl, _, _, _, _, false, rfl, .ty "dict", .base (.bl _), kit_ty (by decide +kernel), _, rfl, iteT ?_⟩
      exact ⟨_, rfl, q _ _ (Same.refl _) (.bl i)⟩
    | @dic a e k =>
      refine ⟨_, rfl, _, _, _, _, false, rfl, .ty "list", .base (.dK e), kit_ty (by decide +kernel), _, rfl, iteF ?_⟩
      refine ⟨_, rfl, _, _, _, _, false, rfl, .ty "tuple", .base (.dK e), kit_ty (by decide +kernel), _, rfl, iteF ?_⟩
      refine ⟨_, rfl, _, _, _, _, true, rfl, .ty "dict", .base (.dK e), kit_ty (by decide +kernel), _, rfl, iteF ?_⟩
      refine fun p hp => ?_
      have nap : a ≠ p := ne_of_none e hp
      refine ⟨a, .dK [], by rw [upd_ne nap]; exact e, trivial, fun od => ?_⟩
      refine ⟨_, rfl, a, od, rfl, .inl ⟨[], upd_same, ?_⟩⟩
      refine for_it (walk_keys (kvs := [])) (fun i σ H' => (∃ y z, σ = [some (.ref a), some (.ref p), y, z]) ∧ H' = upd (upd H p (.dK [])) a (.frz od (.dK []))) ⟨⟨_, _, rfl⟩, rfl⟩ (fun i σ H' _ h => by rw [h.2]; exact upd_same) (fun i x σ H' H'' hi => absurd hi (Nat.not_lt_zero _)) ?_
      rintro σ H' ⟨⟨y, z, rfl⟩, rfl⟩
      refine ⟨upd_same, _, rfl, ?_⟩
      have eH : upd (upd (upd H p (.dK [])) a (.frz od (.dK []))) a (.dK []) = upd H p (.dK []) := by
        funext b
        by_cases hb : b = a
        · subst hb; rw [upd_same, upd_ne nap]; exact e.symm
        · rw [upd_ne hb, upd_ne hb]
      rw [eH]
      exact q (.ref p) _ (same_new hp) (.dic upd_same hp)
    | int i =>
      refine ⟨_, rfl, _, _, _, _, false, rfl, .ty "list", .base (.int _), kit_ty (by decide +kernel), _, rfl, iteF ?_⟩
      refine ⟨_, rfl, _, _, _, _, false, rfl, .ty "tuple", .base (.int _), kit_ty (by decide +kernel), _, rfl, iteF ?_⟩
      refine ⟨_, rfl, _, _, _, _, false, rfl, .ty "dict", .base (.int _), kit_ty (by decide +kernel), _, rfl, iteT ?_⟩
      exact ⟨_, rfl, q _ _ (Same.refl _) (.int i)⟩
    | str x =>
      refine ⟨_, rfl, _, _, _, _, false, rfl, .ty "list", .base (.str _), kit_ty (by decide +kernel), _, rfl, iteF ?_⟩
      refine ⟨_, rfl, _, _, _, _, false, rfl, .ty "tuple", .base (.str _), kit_ty (by decide +kernel), _, rfl, iteF ?_⟩
      refine ⟨_, rfl, _, _, _, _, false, rfl, .ty "dict", .base (.str _), kit_ty (by decide +kernel), _, rfl, iteT ?_⟩
      exact ⟨_, rfl, q _ _ (Same.refl _) (.str x)⟩
    | lst e k l r =>
      rename_i a xs ds
      simp only [PyData.depth] at hd
      have lr := r.len
      refine ⟨_, rfl, _, _, _, _, true, rfl, .ty "list", .base (.lst e), kit_ty (by decide +kernel), _, rfl, iteT ?_⟩
      refine ⟨_, rfl, a, rfl, ⟨_, SqL.of e⟩, fun D hD => ?_⟩
      refine lc_list (xs := xs) (fun i H2 => ∃ acc, H2 D = some (.lst acc) ∧ DtAll (fun b => H b = none ∧ b ≠ D) H2 acc (ds.take i) ∧ Same H H2) ⟨[], upd_same, .nil, same_new hD⟩ (fun i H2 _ ⟨_, _, _, s⟩ => SqL.of (s _ _ e)) ?_ ?_
      · rintro i x H2 hx ⟨acc, g1, g2, g3⟩
        obtain ⟨d1, hd1, hx2⟩ := r.getV hx
        have dd := depthAll_mem (List.mem_of_getElem? hd1)
        have la := g2.len
        rw [List.length_take] at la
        refine ⟨rfl, _, rfl, x, d1, rfl, hx2.same g3, by omega, fun y H3 s3 hy => ⟨acc, s3 _ _ g1, Nat.lt_of_le_of_lt (show acc.length ≤ 1000000 by omega) (by decide), acc ++ [y], upd_same, ?_, same_add (g3.trans s3) hD⟩⟩
        rw [take_succ_of hd1]
        have hy2 : Dt (fun b => H b = none ∧ b ≠ D) H3 y d1 := hy.weak fun b hb => ⟨g3.free hb, fun e => by rw [e, g1] at hb; cases hb⟩
        exact ((g2.same s3).snoc hy2).keep (upd_keep fun b h => h.2)
      · rintro H2 ⟨acc, g1, g2, g3⟩
        rw [lr, List.take_length] at g2
        exact q (.ref D) H2 g3 (.lst g1 hD (by rw [g2.len]; omega) (g2.weak fun b h => h.1))
    | tup e k l r =>
      rename_i a xs ds
      simp only [PyData.depth] at hd
      have lr := r.len
      refine ⟨_, rfl, _, _, _, _, false, rfl, .ty "list", .base (.tup e), kit_ty (by decide +kernel), _, rfl, iteF ?_⟩
      refine ⟨_, rfl, _, _, _, _, true, rfl, .ty "tuple", .base (.tup e), kit_ty (by decide +kernel), _, rfl, iteT ?_⟩
      refine ⟨_, rfl, a, rfl, ⟨_, SqT.of e⟩, fun D hD => ?_⟩
      refine lc_tup (xs := xs) (fun i H2 => ∃ acc, H2 D = some (.lst acc) ∧ DtAll (fun b => H b = none ∧ b ≠ D) H2 acc (ds.take i) ∧ Same H H2) ⟨[], upd_same, .nil, same_new hD⟩ (fun i H2 _ ⟨_, _, _, s⟩ => SqT.of (s _ _ e)) ?_ ?_
      · rintro i x H2 hx ⟨acc, g1, g2, g3⟩
        obtain ⟨d1, hd1, hx2⟩ := r.getV hx
        have dd := depthAll_mem (List.mem_of_getElem? hd1)
        have la := g2.len
        rw [List.length_take] at la
        refine ⟨rfl, _, rfl, x, d1, rfl, hx2.same g3, by omega, fun y H3 s3 hy => ⟨acc, s3 _ _ g1, Nat.lt_of_le_of_lt (show acc.length ≤ 1000000 by omega) (by decide), acc ++ [y], upd_same, ?_, same_add (g3.trans s3) hD⟩⟩
        rw [take_succ_of hd1]
        have hy2 : Dt (fun b => H b = none ∧ b ≠ D) H3 y d1 := hy.weak fun b hb => ⟨g3.free hb, fun e => by rw [e, g1] at hb; cases hb⟩
        exact ((g2.same s3).snoc hy2).keep (upd_keep fun b h => h.2)
      · rintro H2 ⟨acc, g1, g2, g3⟩
        rw [lr, List.take_length] at g2
        refine ⟨D, acc, rfl, .inl ⟨SqL.of g1, fun t ht => ?_⟩⟩
        have sT := same_new ht (o := .tup acc)
        exact q (.ref t) _ (g3.trans sT) (.tup upd_same (g3.free ht) (by rw [g2.len]; omega) ((g2.same sT).weak fun b h => h.1))
theorem ok_copyD (T : Txt K mg) (n : Nat) : FnOk P w K mg base CX0 (n + 1) T.f__law_copy T.d__law_copy ["thing"] (sp_copyD n) := by
  have G__law_copy : FnOk P w K mg base CX0 n T.f__law_copy T.d__law_copy ["thing"] (sp__law_copy n) := ok__law_copy T n
  refine T.F__law_copy.ok sc__law_copy (fun vs H Q E h => ?_) (fun cdv A outer s H vs Q E hr h => ?_)
  · obtain ⟨a, es, kvs, rfl, _⟩ := h
    rfl
  obtain ⟨a, es, kvs, rfl, e, hr0, hnd, h26, hdp, q⟩ := h
  refine ⟨_, (pss_cons (ps_if (pt_val (pe_callB call_isi (by rfl) T.z_isinstance (by decide +kernel) (pa_cons (pv 0) (pa_cons (pe_bltn (v := .ty "list") (by rfl) T.z_list (by decide +kernel) rfl) pa_nil)))) (pss_one (ps_ret (pe_lc (own := [("one", 3)]) (g := gName 3) (tt := tYes) rfl sc__law_copy.nd (pi_list (pv 0)) (blkOk_by (own := [("one", 3)]) (N := ["thing", "found", "key", "one"]) (sc := (defScope s__law_copy)) (by decide +kernel)) (fun _ _ _ _ _ => (pg_name (i := 3) sc__law_copy.nd rfl (Or.inl rfl))) (fun _ _ _ _ _ => pts_nil) (fun _ _ _ _ _ => (pe_call G__law_copy (hr.mono (by omega)) (by rfl) T.m__law_copy T.F__law_copy.kp T.b__law_copy .nil pass0 (pa_cons (pv 3) pa_nil)))))) pss_nil) (pss_cons (ps_if (pt_val (pe_callB call_isi (by rfl) T.z_isinstance (by decide +kernel) (pa_cons (pv 0) (pa_cons (pe_bltn (v := .ty "tuple") (by rfl) T.z_tuple (by decide +kernel) rfl) pa_nil)))) (pss_one (ps_ret (pe_callTy call_tuple_of (by rfl) T.z_tuple (by decide +kernel) (pa_cons (pe_lc (own := [("one", 3)]) (g := gName 3) (tt := tYes) rfl sc__law_copy.nd (pi_tup (pv 0)) (blkOk_by (own := [("one", 3)]) (N := ["thing", "found", "key", "one"]) (sc := (defScope s__law_copy)) (by decide +kernel)) (fun _ _ _ _ _ => (pg_name (i := 3) sc__law_copy.nd rfl (Or.inl rfl))) (fun _ _ _ _ _ => pts_nil) (fun _ _ _ _ _ => (pe_call G__law_copy (hr.mono (by omega)) (by rfl) T.m__law_copy T.F__law_copy.kp T.b__law_copy .nil pass0 (pa_cons (pv 3) pa_nil)))) pa_nil)))) pss_nil) (pss_cons (ps_if (pt_not (pt_val (pe_callB call_isi (by rfl) T.z_isinstance (by decide +kernel) (pa_cons (pv 0) (pa_cons (pe_bltn (v := .ty "dict") (by rfl) T.z_dict (by decide +kernel) rfl) pa_nil))))) (pss_one (ps_ret (pv 0))) pss_nil) (pss_cons (ps_set (i := 1) sc__law_copy.nd rfl (Or.inl rfl) pe_dnewK) (pss_cons (ps_lock (ps_for PassesOwn.never rfl (pi_keys (pv 0)) (pg_name (i := 2) sc__law_copy.nd rfl (Or.inl rfl)) (pss_one (ps_dput (hu_of hr) (pv 1) (pv 2) (pe_call G__law_copy (hr.mono (by omega)) (by rfl) T.m__law_copy T.F__law_copy.kp T.b__law_copy .nil pass0 (pa_cons (pe_dget (hu_of hr) (pv 0) (pv 2) (fun _ _ => rfl)) pa_nil)) rfl)))) (pss_one (ps_ret (pv 1)))))))), ?_⟩
  refine ⟨_, rfl, _, _, _, _, false, rfl, .ty "list", .base (.dK e), kit_ty (by decide +kernel), _, rfl, iteF ?_⟩
  refine ⟨_, rfl, _, _, _, _, false, rfl, .ty "tuple", .base (.dK e), kit_ty (by decide +kernel), _, rfl, iteF ?_⟩
  refine ⟨_, rfl, _, _, _, _, true, rfl, .ty "dict", .base (.dK e), kit_ty (by decide +kernel), _, rfl, iteF ?_⟩
  refine fun p hp => ?_
  have nap : a ≠ p := ne_of_none e hp
  have hlen : kvs.length = es.length := (Paired.length hr0).symm
  refine ⟨a, .dK es, by rw [upd_ne nap]; exact e, trivial, fun od => ?_⟩
  refine ⟨_, rfl, a, od, rfl, .inl ⟨es, upd_same, ?_⟩⟩
  refine for_it (walk_keys (kvs := es)) (fun i σ H' => (∃ y z, σ = [some (.ref a), some (.ref p), y, z]) ∧ H' a = some (.frz od (.dK es)) ∧ Fr a H H' ∧ ∃ es', H' p = some (.dK es') ∧ rowsIn (fun b => H b = none ∧ b ≠ p) H' es' (kvs.take i))
    ⟨⟨_, _, rfl⟩, upd_same, fun b o n e => by rw [upd_ne n, upd_ne (ne_of_none e hp)]; exact e, [], by rw [upd_ne nap.symm]; exact upd_same, .nil⟩ (fun i σ H' _ h => h.2.1) ?_ ?_
  · rintro i x σ Hq H2 hi ⟨⟨y, z, rfl⟩, ga, gF, es', gp, gr⟩ ⟨rfl, k, v, hkv, rfl⟩
    obtain ⟨c, rs, hc, rfl⟩ := rows_at hr0 hkv
    have hm := List.mem_of_getElem? hc
    obtain ⟨v2, hv1, hv2⟩ := rows_val hr0 (look_nd hnd hm)
    have hne : es ≠ [] := fun z => by rw [z] at hi; exact absurd hi (Nat.not_lt_zero _)
    have hv3 : Dt (fun _ => True) H2 v2 (rowsD rs) := ((Dt.offD e hne hv2).keep fun b o h e => gF b o h.2 e).weak fun _ _ => trivial
    refine ⟨_, rfl, _, rfl, a, v2, rfl, .inl ⟨es, .inr (ch c), .inr ⟨od, ga⟩, rfl, hv1.symm⟩, v2, rowsD rs, rfl, hv3, hdp _ hm, fun r H3 s3 hr3 => ?_⟩
    have hcn : c ∉ (kvs.take i).map (·.1) := by
      intro hm2
      rw [List.map_take] at hm2
      obtain ⟨j, hj⟩ := List.getElem?_of_mem hm2
      have hji : j < i := by
        have := (List.getElem?_eq_some_iff.mp hj).1
        rw [List.length_take] at this
        omega
      rw [List.getElem?_take_of_lt hji] at hj
      have h2 : (kvs.map (·.1))[i]? = some c := by rw [List.getElem?_map, hc]; rfl
      have := (List.getElem?_inj (List.getElem?_eq_some_iff.mp hj).1 hnd).mp (hj.trans h2.symm)
      omega
    have fr0 : ∀ b, H2 b = none → H b = none ∧ b ≠ p := fun b h => by
      refine ⟨?_, fun e1 => by rw [e1, gp] at h; cases h⟩
      cases e1 : H b with
      | none => rfl
      | some o =>
        by_cases e2 : b = a
        · rw [e2, ga] at h; cases h
        · rw [gF b o e2 e1] at h; cases h
    have hp3 := s3 _ _ gp
    refine ⟨_, rfl, _, rfl, p, _, rfl, DPut.k (k := .inr (ch c)) hp3 ?_, ?_⟩
    · have := Paired.length gr
      rw [List.length_take] at this
      exact Nat.lt_of_le_of_lt (show es'.length ≤ 1000000 by omega) (by decide)
    rw [putK_new _ (keys_new gr hcn)]
    refine ⟨⟨_, _, rfl⟩, by rw [upd_ne nap]; exact s3 _ _ ga, fun b o n e1 => ?_, _, upd_same, ?_⟩
    · rw [upd_ne (ne_of_none e1 hp)]
      exact s3 _ _ (gF b o n e1)
    · rw [take_succ_of hc]
      refine rowsIn.keep (rowsIn_snoc (gr.same s3) rfl (hr3.weak fr0)) (upd_keep fun b h => h.2)
  · rintro σ H2 ⟨⟨y, z, rfl⟩, ga, gF, es', gp, gr⟩
    rw [← hlen, List.take_length] at gr
    refine ⟨ga, _, rfl, q p es' _ (fun b o e1 => ?_) hp (by rw [upd_ne nap.symm]; exact gp) (gr.keep (upd_keep fun b h z => by rw [z, e] at h; cases h.1))⟩
    by_cases eb : b = a
    · rw [eb, upd_same, ← e1, eb]; exact e.symm
    · rw [upd_ne eb]; exact gF b o eb e1
theorem ok_copyR (T : Txt K mg) : FnOk P w K mg base CX0 10 T.f__law_copy T.d__law_copy ["thing"] sp_copyR := by
  have G__law_copy : FnOk P w K mg base CX0 9 T.f__law_copy T.d__law_copy ["thing"] (fun vs H Q E => sp__law_copy 9 vs H Q E ∨ sp_copyD 8 vs H Q E) := fnOk_or (ok__law_copy T 9) (ok_copyD T 8)
  refine T.F__law_copy.ok sc__law_copy (fun vs H Q E h => ?_) (fun cdv A outer s H vs Q E hr h => ?_)
  · obtain ⟨v, R, rfl, _⟩ := h
    rfl
  obtain ⟨v, R, rfl, hR, hok, q⟩ := h
  obtain ⟨a, d, g, es, rfl, ha, _, hd, _, hes, hg, _⟩ := hR
  refine ⟨_, (pss_cons (ps_if (pt_val (pe_callB call_isi (by rfl) T.z_isinstance (by decide +kernel) (pa_cons (pv 0) (pa_cons (pe_bltn (v := .ty "list") (by rfl) T.z_list (by decide +kernel) rfl) pa_nil)))) (pss_one (ps_ret (pe_lc (own := [("one", 3)]) (g := gName 3) (tt := tYes) rfl sc__law_copy.nd (pi_list (pv 0)) (blkOk_by (own := [("one", 3)]) (N := ["thing", "found", "key", "one"]) (sc := (defScope s__law_copy)) (by decide +kernel)) (fun _ _ _ _ _ => (pg_name (i := 3) sc__law_copy.nd rfl (Or.inl rfl))) (fun _ _ _ _ _ => pts_nil) (fun _ _ _ _ _ => (pe_call G__law_copy (hr.mono (by omega)) (by rfl) T.m__law_copy T.F__law_copy.kp T.b__law_copy .nil pass0 (pa_cons (pv 3) pa_nil)))))) pss_nil) (pss_cons (ps_if (pt_val (pe_callB call_isi (by rfl) T.z_isinstance (by decide +kernel) (pa_cons (pv 0) (pa_cons (pe_bltn (v := .ty "tuple") (by rfl) T.z_tuple (by decide +kernel) rfl) pa_nil)))) (pss_one (ps_ret (pe_callTy call_tuple_of (by rfl) T.z_tuple (by decide +kernel) (pa_cons (pe_lc (own := [("one", 3)]) (g := gName 3) (tt := tYes) rfl sc__law_copy.nd (pi_tup (pv 0)) (blkOk_by (own := [("one", 3)]) (N := ["thing", "found", "key", "one"]) (sc := (defScope s__law_copy)) (by decide +kernel)) (fun _ _ _ _ _ => (pg_name (i := 3) sc__law_copy.nd rfl (Or.inl rfl))) (fun _ _ _ _ _ => pts_nil) (fun _ _ _ _ _ => (pe_call G__law_copy (hr.mono (by omega)) (by rfl) T.m__law_copy T.F__law_copy.kp T.b__law_copy .nil pass0 (pa_cons (pv 3) pa_nil)))) pa_nil)))) pss_nil) (pss_cons (ps_if (pt_not (pt_val (pe_callB call_isi (by rfl) T.z_isinstance (by decide +kernel) (pa_cons (pv 0) (pa_cons (pe_bltn (v := .ty "dict") (by rfl) T.z_dict (by decide +kernel) rfl) pa_nil))))) (pss_one (ps_ret (pv 0))) pss_nil) (pss_cons (ps_set (i := 1) sc__law_copy.nd rfl (Or.inl rfl) pe_dnewK) (pss_cons (ps_lock (ps_for PassesOwn.never rfl (pi_keys (pv 0)) (pg_name (i := 2) sc__law_copy.nd rfl (Or.inl rfl)) (pss_one (ps_dput (hu_of hr) (pv 1) (pv 2) (pe_call G__law_copy (hr.mono (by omega)) (by rfl) T.m__law_copy T.F__law_copy.kp T.b__law_copy .nil pass0 (pa_cons (pe_dget (hu_of hr) (pv 0) (pv 2) (fun _ _ => rfl)) pa_nil)) rfl)))) (pss_one (ps_ret (pv 1)))))))), ?_⟩
  refine ⟨_, rfl, _, _, _, _, false, rfl, .ty "list", .base (.tup ha), kit_ty (by decide +kernel), _, rfl, iteF ?_⟩
  refine ⟨_, rfl, _, _, _, _, true, rfl, .ty "tuple", .base (.tup ha), kit_ty (by decide +kernel), _, rfl, iteT ?_⟩
  refine ⟨_, rfl, a, rfl, ⟨_, SqT.of ha⟩, fun D hD => ?_⟩
  have hgd : Dt (fun _ => True) H (.ref g) (.list ((R.good.map fun x : Nat => (x : Int)).map PyData.int)) := dt_intsL (by rw [← nI_map]; exact hg) trivial (by rw [List.length_map]; have := hok.g6; omega)
  have hd26 := hok.r26
  have small : ∀ xs : List V, xs.length ≤ 10 → xs.length < sizeLine := fun xs h => Nat.lt_of_le_of_lt h (by decide)
  have nl : ∀ b, (H b = none ∧ b ≠ D) → H b = none := fun b h => h.1
  refine lc_tup (xs := [.str R.L, nI R.n, .ref d, .ref g]) (fun i H2 => Same H H2 ∧ match i with
      | 0 => H2 D = some (.lst [])
      | 1 => H2 D = some (.lst [.str R.L])
      | 2 => H2 D = some (.lst [.str R.L, nI R.n])
      | 3 => ∃ d' es', H2 D = some (.lst [.str R.L, nI R.n, .ref d']) ∧ H2 d' = some (.dK es') ∧ H d' = none ∧ d' ≠ D ∧ rowsIn (fun b => H b = none ∧ b ≠ D) H2 es' R.rows
      | _ => ∃ d' es' g', H2 D = some (.lst [.str R.L, nI R.n, .ref d', .ref g']) ∧ H2 d' = some (.dK es') ∧ H d' = none ∧ d' ≠ D ∧ rowsIn (fun b => H b = none ∧ b ≠ D) H2 es' R.rows ∧ H2 g' = some (.lst (R.good.map nI)) ∧ H g' = none ∧ g' ≠ D) ⟨same_new hD, upd_same⟩ (fun i H2 _ ⟨s, _⟩ => SqT.of (s _ _ ha)) ?_ ?_
  · rintro i x H2 hx ⟨s2, gi⟩
    have nD : ∀ b, H2 b = none → H b = none ∧ b ≠ D := fun b h => by
      refine ⟨s2.free h, fun e => ?_⟩
      rw [e] at h
      rcases i with _ | _ | _ | _ | i
      · rw [gi] at h; cases h
      · rw [gi] at h; cases h
      · rw [gi] at h; cases h
      · obtain ⟨_, _, h1, _⟩ := gi; rw [h1] at h; cases h
      · simp at hx
    rcases i with _ | _ | _ | _ | i
    · cases hx
      refine ⟨rfl, _, rfl, .inl ⟨.str R.L, .str R.L, rfl, .str _, by simp [PyData.depth], fun r H3 s3 hr3 => ?_⟩⟩
      cases hr3
      exact ⟨_, s3 _ _ gi, small _ (by simp), same_add (s2.trans s3) hD, upd_same⟩
    · cases hx
      refine ⟨rfl, _, rfl, .inl ⟨nI R.n, .int R.n, rfl, .int _, by simp [PyData.depth], fun r H3 s3 hr3 => ?_⟩⟩
      cases hr3
      exact ⟨_, s3 _ _ gi, small _ (by simp), same_add (s2.trans s3) hD, upd_same⟩
    · cases hx
      refine ⟨rfl, _, rfl, .inr ⟨d, es, R.rows, rfl, s2 _ _ hd, hes.same s2, hok.nd, hd26, fun kv hkv => by have := depth_rowsD (hok.rs kv hkv).1; omega, fun r es' H3 s3 hr0 hr1 hr2 => ?_⟩⟩
      have n1 := nD r hr0
      refine ⟨_, s3 _ _ gi, small _ (by simp), same_add (s2.trans s3) hD, r, es', upd_same, by rw [upd_ne n1.2]; exact hr1, n1.1, n1.2, ?_⟩
      exact (hr2.weak fun b h => nD b h.1).keep (upd_keep fun b h => h.2)
    · cases hx
      obtain ⟨d', es', g1, g2, g3, g4, g5⟩ := gi
      refine ⟨rfl, _, rfl, .inl ⟨.ref g, _, rfl, hgd.same s2, by simp only [PyData.depth, dep0]; decide, fun r H3 s3 hr3 => ?_⟩⟩
      obtain ⟨g', rfl, h1, h2⟩ := hr3.intsL
      have n1 := nD g' h2
      rw [← nI_map] at h1
      refine ⟨_, s3 _ _ g1, small _ (by simp), same_add (s2.trans s3) hD, d', es', g', upd_same, by rw [upd_ne g4]; exact s3 _ _ g2, g3, g4, (g5.same s3).keep (upd_keep fun b h => h.2), by rw [upd_ne n1.2]; exact h1, n1.1, n1.2⟩
    · simp at hx
  · rintro H2 ⟨s2, d', es', g', g1, g2, g3, g4, g5, g6, g7, g8⟩
    refine ⟨D, _, rfl, .inl ⟨SqL.of g1, fun t ht => ?_⟩⟩
    have sT := same_new ht (o := .tup [.str R.L, nI R.n, .ref d', .ref g'])
    exact q (.ref t) _ (s2.trans sT) ⟨t, d', g', es', rfl, upd_same, s2.free ht, sT _ _ g2, g3, (g5.same sT).weak nl, sT _ _ g6, g7⟩
end

theorem fewP_iff : ∀ (l : List Cd) (f x : Nat), fewP f l ≤ x ↔ f ≤ x ∧ ∀ w b, Cd.least w b ∈ l → b.toNat ≤ x
  | [], f, x => by simp [fewP]
  | c :: r, f, x => by
    cases c with
    | least w b =>
      simp only [fewP, fewP_iff r, List.mem_cons, Cd.least.injEq]
      constructor
      · rintro ⟨h1, h2⟩
        refine ⟨by omega, fun w' b' h => ?_⟩
        rcases h with ⟨rfl, rfl⟩ | h
        · omega
        · exact h2 _ _ h
      · rintro ⟨h1, h2⟩
        have := h2 w b (.inl ⟨rfl, rfl⟩)
        exact ⟨by omega, fun w' b' h => h2 _ _ (.inr h)⟩
    | _ => simp [fewP, fewP_iff r]
theorem turnP_iff : ∀ (l : List Cd) (t x : Nat), turnP t l ∣ x ↔ t ∣ x ∧ ∀ w m q, Cd.turns w m q ∈ l → m.toNat ∣ x
  | [], t, x => by simp [turnP]
  | c :: r, t, x => by
    cases c with
    | turns w m q =>
      simp only [turnP, turnP_iff r, List.mem_cons, Cd.turns.injEq]
      constructor
      · rintro ⟨h1, h2⟩
        refine ⟨Nat.dvd_trans (Nat.dvd_lcm_left t m.toNat) h1, fun w' m' q' h => ?_⟩
        rcases h with ⟨rfl, rfl, rfl⟩ | h
        · exact Nat.dvd_trans (Nat.dvd_lcm_right t m'.toNat) h1
        · exact h2 _ _ _ h
      · rintro ⟨h1, h2⟩
        exact ⟨Nat.lcm_dvd h1 (h2 w m q (.inl ⟨rfl, rfl, rfl⟩)), fun w' m' q' h => h2 _ _ _ (.inr h)⟩
    | _ => simp [turnP, turnP_iff r]
theorem pl_ok {R : Rl} (h : R.ok) : ∀ p ∈ (condsOf R).flatMap Cd.plains, p.ok R.n := fun p hp => by
  obtain ⟨c, hc, hp⟩ := List.mem_flatMap.mp hp
  obtain ⟨l, hl, hc⟩ := List.mem_flatMap.mp hc
  obtain ⟨rs, hrs, hro⟩ := h.at hl
  rw [hrs] at hc
  obtain ⟨r, hr, rfl⟩ := List.mem_map.mp hc
  exact (plains_plain R.n r.1 (hro.2.1 r hr).1 p hp).2


def sumsK (kvs : List (Nat × RR)) : List Cd := kvs.flatMap fun kv => kv.2.flatMap fun r => r.1.plains
theorem sums_same {R : Rl} (h : R.ok) (c : Cd) : c ∈ (condsOf R).flatMap Cd.plains ↔ c ∈ sumsK R.rows := by
  simp only [condsOf, sumsK, List.mem_flatMap, List.mem_map]
  constructor
  · rintro ⟨_, ⟨l, hl, r, hr, rfl⟩, hc⟩
    obtain ⟨rs, hrs, _⟩ := h.at hl
    rw [hrs] at hr
    exact ⟨_, look_mem hrs, r, hr, hc⟩
  · rintro ⟨⟨l, rs⟩, hm, r, hr, hc⟩
    exact ⟨r.1, ⟨l, (h.rs _ hm).2, r, by rw [look_nd h.nd hm]; exact hr, rfl⟩, hc⟩
def leastB : Cd → Option Int
  | .least _ b => some b
  | _ => none
def turnM : Cd → Option Int
  | .turns _ m _ => some m
  | _ => none
theorem Cd.shape2 (c : Cd) : (c.plains = [c] ∧ ∃ (x : Str) (ds : List PyData), c.dat = .tuple (.str x :: ds) ∧ inV (.str x) [.str (Str.ofString "least"), .str (Str.ofString "turns")] = true) ∨
    ∃ (x : Str) (cs : List Cd), c.dat = .tuple (.str x :: cs.map Cd.dat) ∧ inV (.str x) [.str (Str.ofString "least"), .str (Str.ofString "turns")] = false ∧ c.plains = cs.flatMap Cd.plains ∧ (∀ d ∈ cs, d.deep < c.deep) ∧ cs.length ≤ 2 := by
  cases c with
  | least w b => exact .inl ⟨rfl, _, _, rfl, by decide +kernel⟩
  | turns w m r => exact .inl ⟨rfl, _, _, rfl, by decide +kernel⟩
  | neg c => exact .inr ⟨_, [c], rfl, by decide +kernel, by simp [Cd.plains], fun d hd => by simp at hd; subst hd; simp only [Cd.deep]; omega, by simp⟩
  | both c d => exact .inr ⟨_, [c, d], rfl, by decide +kernel, by simp [Cd.plains], fun x hx => by simp at hx; rcases hx with rfl | rfl <;> simp only [Cd.deep] <;> omega, by simp⟩
  | either c d => exact .inr ⟨_, [c, d], rfl, by decide +kernel, by simp [Cd.plains], fun x hx => by simp at hx; rcases hx with rfl | rfl <;> simp only [Cd.deep] <;> omega, by simp⟩
section
variable {P : Program} {w : World} {K : PySem.W.Frag} {mg : Str → Option Value} {base : Heap}
theorem ok__law_sums (T : Txt K mg) : ∀ n : Nat, FnOk P w K mg base CX0 n T.f__law_sums T.d__law_sums ["condition"] (sp__plain_ones n)
  | 0 => noneOf fun vs H Q E ⟨v, c, ok, _, _, h, _⟩ => by have := c.deep_pos; omega
  | n + 1 => by
    have G__law_sums : FnOk P w K mg base CX0 n T.f__law_sums T.d__law_sums ["condition"] (sp__plain_ones n) := ok__law_sums T n
    refine T.F__law_sums.ok sc__law_sums (fun vs H Q E h => ?_) (fun cdv A outer s H vs Q E hr h => ?_)
    · obtain ⟨v, c, ok, rfl, _⟩ := h
      rfl
    obtain ⟨v, c, ok, rfl, ht, hn, h5, q⟩ := h
    refine ⟨_, (pss_cons (ps_if (pt_cmpR op_in_seq (pe_ix ix_tup (pv 0) pe_int (fun _ _ => rfl)) (pe_lst (pa_cons pe_str (pa_cons pe_str pa_nil))) (by rfl)) (pss_one (ps_ret (pe_lst (pa_cons (pv 0) pa_nil)))) pss_nil) (pss_cons (ps_set (i := 1) sc__law_sums.nd rfl (Or.inl rfl) (pe_lst pa_nil)) (pss_cons (ps_for PassesOwn.never rfl (pi_tup (pe_slice sl_tup (pv 0) (po_some pe_int) po_none)) (pg_name (i := 2) sc__law_sums.nd rfl (Or.inl rfl)) (pss_one (ps_set (i := 1) sc__law_sums.nd rfl (Or.inl rfl) (pe_op op_cat (pv 1) (pe_call G__law_sums (hr.mono (by omega)) (by rfl) T.m__law_sums T.F__law_sums.kp T.b__law_sums .nil pass0 (pa_cons (pv 2) pa_nil)))))) (pss_one (ps_ret (pv 1)))))), ?_⟩
    rcases c.shape2 with ⟨hp, x, ds, hd, hm⟩ | ⟨x, cs, hd, hm, hp, hdeep, h2⟩
    · have ht0 := ht
      rw [hd] at ht0
      cases ht0 with
      | @tup a xs _ e _ l r =>
      cases r with
      | @cons v0 vs0 d0 ds0 r0 r1 =>
      cases r0
      refine ⟨_, rfl, a, _, 0, _, rfl, rfl, SqT.of e, atI_nat (j := 0) rfl, (by show 2 ≤ sizeLine; decide), fun wl hwl => ?_⟩
      have sw := same_new (o := .lst [.str (Str.ofString "least"), .str (Str.ofString "turns")]) hwl
      refine ⟨wl, _, rfl, .inl (SqL.of upd_same), rfl, rfl, _, rfl, ?_⟩
      rw [if_neg (by decide), hm]
      refine iteT ⟨_, rfl, (by show 1 ≤ sizeLine; decide), fun r hr => ?_⟩
      rw [hp] at q
      have sr := same_new (o := .lst [.ref a]) hr
      exact q r _ _ (sw.trans sr) (sw.free hr) upd_same (.cons ((ht.same sw).same sr) .nil)
    · have ht0 := ht
      rw [hd] at ht0
      cases ht0 with
      | @tup a xs _ e _ l r =>
      cases r with
      | @cons v0 vs0 d0 ds0 r0 r1 =>
      cases r0
      refine ⟨_, rfl, a, _, 0, _, rfl, rfl, SqT.of e, atI_nat (j := 0) rfl, (by show 2 ≤ sizeLine; decide), fun wl hwl => ?_⟩
      have sw := same_new (o := .lst [.str (Str.ofString "least"), .str (Str.ofString "turns")]) hwl
      refine ⟨wl, _, rfl, .inl (SqL.of upd_same), rfl, rfl, _, rfl, ?_⟩
      rw [if_neg (by decide), hm]
      refine iteF ⟨(by show 0 ≤ sizeLine; decide), fun D0 hD0 => ?_⟩
      have sD := same_new (o := .lst []) hD0
      have kD := upd_same (H := upd H wl (.lst [.str (Str.ofString "least"), .str (Str.ofString "turns")])) (a := D0) (o := .lst [])
      have s0 := sw.trans sD
      have fD0 := sw.free hD0
      generalize upd (upd H wl (.lst [.str (Str.ofString "least"), .str (Str.ofString "turns")])) D0 (.lst []) = H0 at *
      refine ⟨_, rfl, 1, rfl, a, _, rfl, SqT.of (s0 _ _ e), cut1_not, fun p hpn => ?_⟩
      rw [cut1]
      have sp := same_new hpn (o := .tup vs0)
      have kp := upd_same (H := H0) (a := p) (o := .tup vs0)
      have kD1 := sp _ _ kD
      have S1 := s0.trans sp
      generalize upd H0 p (.tup vs0) = H1 at *
      have lr := r1.len
      rw [List.length_map] at lr
      refine ⟨p, rfl, ⟨_, SqT.of kp⟩, for_tup (xs := vs0) (fun i σ H2 => ∃ (D : Addr) (acc : List V) (y2 : Option V), σ = [some (.ref a), some (.ref D), y2] ∧ H2 D = some (.lst acc) ∧ H D = none ∧ acc.length ≤ 100 * i ∧ DtAll ok H2 acc (((cs.take i).flatMap Cd.plains).map Cd.dat) ∧ Same H1 H2) ⟨D0, [], none, rfl, kD1, fD0, Nat.le_refl _, .nil, Same.refl _⟩ (fun i σ H2 _ ⟨_, _, _, _, _, _, _, _, s⟩ => SqT.of (s _ _ kp)) ?_ ?_⟩
      · rintro i y σ H2 hy ⟨D, acc, y2, rfl, g1, g0, gl, g2, g3⟩
        obtain ⟨dy, hdy, hy2⟩ := r1.getV hy
        rw [List.getElem?_map] at hdy
        cases hc : cs[i]? with
        | none => rw [hc] at hdy; cases hdy
        | some c1 =>
        rw [hc] at hdy
        cases hdy
        have hm1 := List.mem_of_getElem? hc
        have dp1 := hdeep c1 hm1
        have hi := (List.getElem?_eq_some_iff.mp hc).1
        have pl2 : c1.plains.length ≤ 2 ^ 4 := Nat.le_trans (plains_len c1) (Nat.pow_le_pow_right (by decide) (by omega))
        refine ⟨_, rfl, _, rfl, y, c1, ok, rfl, (hy2.same S1).same g3, by omega, by omega, fun r ws H3 s3 hr3 kr hws => ?_⟩
        have lw := hws.len
        rw [List.length_map] at lw
        have S3 := (S1.trans g3).trans s3
        refine ⟨D, r, _, _, rfl, rfl, s3 _ _ g1, kr, ?_, fun D2 hD2 => ?_⟩
        · exact Nat.le_trans (show acc.length + ws.length ≤ 1000000 by omega) (by decide)
        have s4 := same_new (o := .lst (acc ++ ws)) hD2
        refine ⟨D2, acc ++ ws, some y, rfl, upd_same, S3.free hD2, by rw [List.length_append]; omega, ?_, (g3.trans s3).trans s4⟩
        rw [flat_take _ hc, List.map_append]
        exact (dtAll_app (g2.same s3) hws).same s4
      · rintro σ H2 ⟨D, acc, y2, rfl, g1, g0, gl, g2, g3⟩
        rw [lr, List.take_length, ← hp] at g2
        exact ⟨_, rfl, q D acc H2 (S1.trans g3) g0 g1 g2⟩
def sp__law_few_and_turn : Sp := fun vs H Q _ => ∃ (v : V) (R : Rl), vs = [v] ∧ RlAt (fun _ => True) H v R ∧ R.ok ∧ ∀ p H', Same H H' → H' p = some (.tup [nI (fewR R), nI (turnR R)]) → Q (.ref p) H'
theorem ok__law_few_and_turn (T : Txt K mg) : FnOk P w K mg base CX0 6 T.f__law_few_and_turn T.d__law_few_and_turn ["rules"] sp__law_few_and_turn := by
  have G__law_sums : FnOk P w K mg base CX0 4 T.f__law_sums T.d__law_sums ["condition"] (sp__plain_ones 4) := ok__law_sums T 4
  refine T.F__law_few_and_turn.ok sc__law_few_and_turn (fun vs H Q E h => ?_) (fun cdv A outer s H vs Q E hr h => ?_)
  · obtain ⟨v, R, rfl, _⟩ := h
    rfl
  obtain ⟨v, R, rfl, hR, hok, q⟩ := h
  refine ⟨_, (pss_cons (ps_set (i := 1) sc__law_few_and_turn.nd rfl (Or.inl rfl) (pe_lst pa_nil)) (pss_cons (ps_lock (ps_for PassesOwn.never rfl (pi_keys (pe_ix ix_tup (pv 0) pe_int (fun _ _ => rfl))) (pg_name (i := 2) sc__law_few_and_turn.nd rfl (Or.inl rfl)) (pss_one (ps_for PassesOwn.never rfl (pi_list (pe_dget (hu_of hr) (pe_ix ix_tup (pv 0) pe_int (fun _ _ => rfl)) (pv 2) (fun _ _ => rfl))) (pg_tup rfl (pgs_cons (pg_name (i := 3) sc__law_few_and_turn.nd rfl (Or.inl rfl)) (pgs_cons (pg_name (i := 4) sc__law_few_and_turn.nd rfl (Or.inl rfl)) pgs_nil))) (pss_one (ps_set (i := 1) sc__law_few_and_turn.nd rfl (Or.inl rfl) (pe_op op_cat (pv 1) (pe_call G__law_sums (hr.mono (by omega)) (by rfl) T.m__law_sums T.F__law_sums.kp T.b__law_sums .nil pass0 (pa_cons (pv 3) pa_nil))))))))) (pss_cons (ps_set (i := 5) sc__law_few_and_turn.nd rfl (Or.inl rfl) (pe_callB (cr_max rfl) (by rfl) T.z_max (by decide +kernel) (pa_cons (pe_lc (own := [("one", 8)]) (g := gName 8) (te := tOp (rIxT K) (tVar 8) (tC (.int 2))) (tt := tTest (tOp rEq (tOp (rIxT K) (tVar 8) (tC (.int 0))) (tC (.str (Str.ofString "least"))))) rfl sc__law_few_and_turn.nd (pi_list (pv 1)) (blkOk_by (own := [("one", 8)]) (N := ["rules", "sums", "letter", "condition", "state", "few", "turns", "turn", "one"]) (sc := (defScope s__law_few_and_turn)) (by decide +kernel)) (fun _ _ _ _ _ => (pg_name (i := 8) sc__law_few_and_turn.nd rfl (Or.inl rfl))) (fun _ _ _ _ _ => pts_one (pt_cmpR op_eq (pe_ix ix_tup (pv 8) pe_int (fun _ _ => rfl)) pe_str (nomark _))) (fun _ _ _ _ _ => (pe_ix ix_tup (pv 8) pe_int (fun _ _ => rfl)))) pa_nil))) (pss_cons (ps_setLc (i := 6) (own := [("one", 8)]) (g := gName 8) (te := tOp (rIxT K) (tVar 8) (tC (.int 2))) (tt := tTest (tOp rEq (tOp (rIxT K) (tVar 8) (tC (.int 0))) (tC (.str (Str.ofString "turns"))))) rfl sc__law_few_and_turn.nd rfl rfl (sw_true rfl rfl rfl (by decide +kernel)) (pi_list (pv 1)) (blkOk_by (own := [("one", 8)]) (N := ["rules", "sums", "letter", "condition", "state", "few", "turns", "turn", "one"]) (sc := (defScope s__law_few_and_turn)) (by decide +kernel)) (fun _ _ _ _ _ => (pg_name (i := 8) sc__law_few_and_turn.nd rfl (Or.inl rfl))) (fun _ _ _ _ _ => pts_one (pt_cmpR op_eq (pe_ix ix_tup (pv 8) pe_int (fun _ _ => rfl)) pe_str (nomark _))) (fun _ _ _ _ _ => (pe_ix ix_tup (pv 8) pe_int (fun _ _ => rfl)))) (pss_cons (ps_set (i := 7) sc__law_few_and_turn.nd rfl (Or.inr rfl) pe_int) (pss_cons (ps_while PassesOwn.never (pt_cmpR (op_neD hr.units) (pe_lc (own := [("one", 8)]) (g := gName 8) (tt := tTest (tOp rNe (tOp (rI (fun _ j => 0 < j) fun i j => .int (i % j)) (tVar 7) (tVar 8)) (tC (.int 0)))) rfl sc__law_few_and_turn.nd (pi_list (pv 6)) (blkOk_by (own := [("one", 8)]) (N := ["rules", "sums", "letter", "condition", "state", "few", "turns", "turn", "one"]) (sc := (defScope s__law_few_and_turn)) (by decide +kernel)) (fun _ _ _ _ _ => (pg_name (i := 8) sc__law_few_and_turn.nd rfl (Or.inl rfl))) (fun _ _ _ _ _ => pts_one (pt_cmpR op_ne (pe_op op_mod (pv 7) (pv 8)) pe_int (nomark _))) (fun _ _ _ _ _ => (pv 8))) (pe_lst pa_nil) (nomark _)) (pss_one (ps_set (i := 7) sc__law_few_and_turn.nd rfl (Or.inr rfl) (pe_op op_add (pv 7) pe_int)))) (pss_one (ps_ret (pe_tup (pa_cons (pv 5) (pa_cons (pv 7) pa_nil))))))))))), ?_⟩
  have l26 := hok.r26
  obtain ⟨a, d, g, es, rfl, ha, _, hd, _, hes, hg, _⟩ := hR
  refine ⟨(by show 0 ≤ sizeLine; decide), fun D0 hD0 => ?_⟩
  have nd0 : d ≠ D0 := ne_of_none hd hD0
  have s0 := same_new (o := .lst []) hD0
  have kD0 := upd_same (H := H) (a := D0) (o := .lst [])
  generalize upd H D0 (.lst []) = H0 at *
  have hd0 := s0 _ _ hd
  have nda : a ≠ d := fun e => by rw [e, hd] at ha; cases ha
  have hlen : R.rows.length = es.length := (Paired.length hes).symm
  refine ⟨d, .dK es, hd0, trivial, fun od => ?_⟩
  have FD : ∀ b o, b ≠ d → H b = some o → (upd H0 d (.frz od (.dK es))) b = some o := fun b o ne e => by rw [upd_ne ne]; exact s0 _ _ e
  refine ⟨_, rfl, a, _, 2, .ref d, rfl, rfl, SqT.of (FD _ _ nda ha), atI_nat (j := 2) rfl, d, od, rfl, .inl ⟨es, upd_same, ?_⟩⟩
  refine for_it (walk_keys (kvs := es)) (fun i σ H' => ∃ (D : Addr) (acc : List V) (y2 y3 y4 : Option V), σ = [some (.ref a), some (.ref D), y2, y3, y4, none, none, none, none] ∧ H' D = some (.lst acc) ∧ D ≠ d ∧ H D = none ∧ acc.length ≤ 1600 * i ∧ DtAll (fun b => b ≠ d) H' acc ((sumsK (R.rows.take i)).map Cd.dat) ∧ H' d = some (.frz od (.dK es)) ∧ (∀ b o, b ≠ d → H b = some o → H' b = some o))
    ⟨D0, [], none, none, none, rfl, by rw [upd_ne nd0.symm]; exact kD0, nd0.symm, hD0, Nat.zero_le _, .nil, upd_same, FD⟩ (fun i σ H' _ ⟨_, _, _, _, _, _, _, _, _, _, _, h, _⟩ => h) ?_ ?_
  · rintro i x σ Hq H2 hi ⟨D, acc, y2, y3, y4, rfl, g1, g2, g0, gl, g3, g4, g5⟩ ⟨rfl, k, v, hkv, rfl⟩
    obtain ⟨c, rs, hc, rfl⟩ := rows_at hes hkv
    have hm := List.mem_of_getElem? hc
    obtain ⟨v2, hv1, hv2⟩ := rows_val hes (look_nd hok.nd hm)
    obtain ⟨r100, hrs, _⟩ := (hok.rs _ hm).1
    have r100 : rs.length ≤ 100 := r100
    have hne : es ≠ [] := fun z => by rw [z] at hi; exact absurd hi (Nat.not_lt_zero _)
    have hv3 : Dt (fun b => b ≠ d) H2 v2 (rowsD rs) := ((Dt.offD hd hne hv2).keep fun b o h e => g5 b o h.2 e).weak fun b h => h.2
    cases hv3 with
    | @lst pl xs ds hpl npl hl r =>
    have lr := r.len
    rw [List.length_map] at lr
    refine ⟨_, rfl, a, _, 2, .ref d, rfl, rfl, SqT.of (g5 _ _ nda ha), atI_nat (j := 2) rfl, _, rfl, d, _, rfl, .inl ⟨es, .inr (ch c), .inr ⟨od, g4⟩, rfl, hv1.symm⟩, pl, rfl, ⟨_, SqL.of hpl⟩, ?_⟩
    refine for_list (xs := xs) (fun j σ H' => ∃ (D : Addr) (acc : List V) (y3 y4 : Option V), σ = [some (.ref a), some (.ref D), some (.str (ch c)), y3, y4, none, none, none, none] ∧ H' D = some (.lst acc) ∧ D ≠ d ∧ H D = none ∧ acc.length ≤ 1600 * i + 16 * j ∧ DtAll (fun b => b ≠ d) H' acc (((sumsK (R.rows.take i)) ++ ((rs.take j).flatMap fun r => r.1.plains)).map Cd.dat) ∧ Same H2 H')
      ⟨D, acc, y3, y4, rfl, g1, g2, g0, by omega, by simpa using g3, Same.refl _⟩ (fun j σ H' _ ⟨_, _, _, _, _, _, _, _, _, _, s⟩ => SqL.of (s _ _ hpl)) ?_ ?_
    · rintro j z σ H3 hz ⟨D, acc, y3, y4, rfl, k1, k2, k0, kl, k3, k4⟩
      obtain ⟨dz, hdz, hz2⟩ := r.getV hz
      rw [List.getElem?_map] at hdz
      cases hcm : rs[j]? with
      | none => rw [hcm] at hdz; cases hdz
      | some r1 =>
      rw [hcm] at hdz
      cases hdz
      have hj := (List.getElem?_eq_some_iff.mp hcm).1
      obtain ⟨ok1, dp1, _⟩ := hrs r1 (List.mem_of_getElem? hcm)
      have pl2 : r1.1.plains.length ≤ 2 ^ 4 := Nat.le_trans (plains_len r1.1) (Nat.pow_le_pow_right (by decide) dp1)
      cases hz2 with
      | @tup pr ys _ hpr npr _ rr =>
      cases rr with
      | @cons cv _ _ _ c1 c2 =>
      cases c2 with
      | cons c2 c3 =>
      cases c2
      cases c3
      refine ⟨pr, _, rfl, SqT.of (k4 _ _ hpr), rfl, _, _, rfl, _, _, rfl, rfl, ?_⟩
      refine ⟨_, rfl, _, rfl, cv, r1.1, fun b => b ≠ d, rfl, c1.same k4, dp1, by decide, fun rr ws H4 s4 hr4 kr hws => ?_⟩
      have lw := hws.len
      rw [List.length_map] at lw
      have hfree : ∀ b, H4 b = none → b ≠ d ∧ H b = none := fun b h => by
        have h2 : H2 b = none := k4.free (s4.free h)
        have nb : b ≠ d := fun z => by rw [z, g4] at h2; cases h2
        refine ⟨nb, ?_⟩
        cases e : H b with
        | none => rfl
        | some o => rw [g5 b o nb e] at h2; cases h2
      refine ⟨D, rr, _, _, rfl, rfl, s4 _ _ k1, kr, ?_, fun D2 hD2 => ?_⟩
      · exact Nat.le_trans (show acc.length + ws.length ≤ 1000000 by omega) (by decide)
      obtain ⟨n2, n3⟩ := hfree D2 hD2
      have s5 := same_new (o := .lst (acc ++ ws)) hD2
      refine ⟨D2, acc ++ ws, _, _, rfl, upd_same, n2, n3, by rw [List.length_append]; omega, ?_, (k4.trans s4).trans s5⟩
      rw [flat_take _ hcm, ← List.append_assoc, List.map_append]
      exact (dtAll_app (k3.same s4) hws).same s5
    · rintro σ H3 ⟨D, acc, y3, y4, rfl, k1, k2, k0, kl, k3, k4⟩
      rw [lr, List.take_length] at k3
      refine ⟨D, acc, _, _, _, rfl, k1, k2, k0, by omega, ?_, k4 _ _ g4, fun b o n e => k4 _ _ (g5 b o n e)⟩
      have e : sumsK (R.rows.take (i + 1)) = sumsK (R.rows.take i) ++ rs.flatMap fun r => r.1.plains := by unfold sumsK; rw [flat_take _ hc]
      rw [e]
      exact k3
  · rintro σ H2 ⟨D, acc, y2, y3, y4, rfl, g1, g2, g0, gl, g3, g4, g5⟩
    rw [← hlen, List.take_length] at g3
    refine ⟨g4, ?_⟩
    have S3 : Same H (upd H2 d (.dK es)) := fun b o e => by
      by_cases hb : b = d
      · rw [hb, upd_same, ← e, hb]; exact hd.symm
      · rw [upd_ne hb]; exact g5 b o hb e
    have kD : (upd H2 d (.dK es)) D = some (.lst acc) := by rw [upd_ne g2]; exact g1
    have kdt : DtAll (fun b => b ≠ d) (upd H2 d (.dK es)) acc ((sumsK R.rows).map Cd.dat) := g3.keep (upd_keep fun b h => h)
    generalize upd H2 d (.dK es) = H3 at *
    have lg := kdt.len
    rw [List.length_map] at lg
    have same := sums_same hok
    have pok := pl_ok hok
    have pk : ∀ c ∈ sumsK R.rows, isPlain c ∧ c.ok R.n := fun c hc => by
      obtain ⟨kv, h1, h2⟩ := List.mem_flatMap.mp hc
      obtain ⟨r, h3, h4⟩ := List.mem_flatMap.mp h2
      exact plains_plain R.n r.1 ((hok.rs kv h1).1.2.1 r h3).1 c h4
    have some1 : ∃ w b, Cd.least w b ∈ sumsK R.rows := by
      obtain ⟨c, hc⟩ : ∃ c, c ∈ R.L.cps.toList := by
        have := hok.L.1
        rw [show R.L.length = R.L.cps.toList.length from Array.length_toList.symm] at this
        exact List.exists_mem_of_length_pos this
      obtain ⟨rs, hrs, hro⟩ := hok.at hc
      obtain ⟨_, _, init, sx, rfl⟩ := hro
      exact ⟨List.replicate R.n 0, 0, List.mem_flatMap.mpr ⟨_, look_mem hrs, List.mem_flatMap.mpr ⟨(Cd.least (List.replicate R.n 0) 0, sx), by simp, by simp [Cd.plains]⟩⟩⟩
    have few_iff : ∀ x, fewR R ≤ x ↔ ∀ w b, Cd.least w b ∈ sumsK R.rows → b.toNat ≤ x := fun x => by
      show fewP 0 _ ≤ x ↔ _
      rw [fewP_iff]
      exact ⟨fun h w b hb => h.2 w b ((same _).mpr hb), fun h => ⟨Nat.zero_le _, fun w b hb => h w b ((same _).mp hb)⟩⟩
    have turn_iff : ∀ x, turnR R ∣ x ↔ ∀ w m q, Cd.turns w m q ∈ sumsK R.rows → m.toNat ∣ x := fun x => by
      show turnP 1 _ ∣ x ↔ _
      rw [turnP_iff]
      exact ⟨fun h w b z hb => h.2 w b z ((same _).mpr hb), fun h => ⟨Nat.one_dvd x, fun w b z hb => h w b z ((same _).mp hb)⟩⟩
    obtain ⟨tr1, tr12⟩ := le12 (turnP_12 (n := R.n) ((condsOf R).flatMap Cd.plains) 1 (by decide) pok)
    change 1 ≤ turnR R at tr1
    change turnR R ≤ 12 at tr12
    generalize fewR R = few at *
    generalize turnR R = turn at *
    generalize sumsK R.rows = sl at *
    have row : ∀ (i : Nat) (x : V) (H' : Hp), Same H3 H' → acc[i]? = some x → ∃ c, sl[i]? = some c ∧ Dt (fun b => b ≠ d) H' x c.dat ∧ isPlain c ∧ c.ok R.n := fun i x H' s hx => by
      obtain ⟨dx, hdx, hx2⟩ := kdt.getV hx
      rw [List.getElem?_map] at hdx
      cases hc : sl[i]? with
      | none => rw [hc] at hdx; cases hdx
      | some c1 =>
        rw [hc] at hdx
        cases hdx
        exact ⟨c1, rfl, hx2.same s, pk c1 (List.mem_of_getElem? hc)⟩
    have len4 : acc.length ≤ 100000 := by omega
    refine ⟨_, rfl, D, rfl, ⟨_, SqL.of kD⟩, fun D1 hD1 => ?_⟩
    refine lc_list (xs := acc) (fun i H4 => H4 D1 = some (.lst (((sl.take i).filterMap leastB).map V.int)) ∧ Same H3 H4) ⟨upd_same, same_new hD1⟩ (fun i H4 _ h => SqL.of (h.2 _ _ kD)) ?_ ?_
    · rintro i x H4 hx ⟨k1, k2⟩
      have hi := (List.getElem?_eq_some_iff.mp hx).1
      obtain ⟨c1, hc, hx2, cp, co⟩ := row i x H4 k2 hx
      have ln : ((sl.take i).filterMap leastB).length ≤ 100000 := Nat.le_trans (List.length_filterMap_le _ _) (by rw [List.length_take]; omega)
      cases c1 with
      | least w b =>
        cases hx2 with
        | @tup p xs _ e _ l r =>
        cases r with
        | cons r0 r1 =>
        cases r0
        cases r1 with
        | cons r1 r2 =>
        cases r2 with
        | cons r2 r3 =>
        cases r2
        refine ⟨rfl, _, rfl, p, _, 0, _, rfl, rfl, SqT.of e, atI_nat (j := 0) rfl, rfl, _, rfl, eqT rfl ⟨_, rfl, p, _, 2, _, rfl, rfl, SqT.of e, atI_nat (j := 2) rfl, _, k1, ?_, ?_, same_add k2 hD1⟩⟩
        · rw [List.length_map]
          exact Nat.lt_of_le_of_lt (show _ ≤ 1000000 by omega) (by decide)
        · rw [upd_same, take_succ_of hc, List.filterMap_append, List.map_append]
          rfl
      | turns w m z =>
        cases hx2 with
        | @tup p xs _ e _ l r =>
        cases r with
        | cons r0 r1 =>
        cases r0
        refine ⟨rfl, _, rfl, p, _, 0, _, rfl, rfl, SqT.of e, atI_nat (j := 0) rfl, rfl, _, rfl, eqF (sne (by decide +kernel)) ⟨?_, k2⟩⟩
        rw [take_succ_of hc, List.filterMap_append]
        show _ = some (HO.lst ((_ ++ []).map V.int))
        rw [List.append_nil]
        exact k1
      | _ => exact cp.elim
    rintro H4 ⟨k1, k2⟩
    rw [lg, List.take_length] at k1
    have mem1 : ∀ m, m ∈ sl.filterMap leastB ↔ ∃ w, Cd.least w m ∈ sl := fun m => by
      rw [List.mem_filterMap]
      constructor
      · rintro ⟨c, hc, e⟩
        cases c with
        | least w b => cases e; exact ⟨w, hc⟩
        | _ => cases e
      · rintro ⟨w, h⟩
        exact ⟨_, h, rfl⟩
    refine ⟨D1, _, rfl, SqL.of k1, ?_, fun m hm hmax => ?_⟩
    · obtain ⟨w, b, h⟩ := some1
      exact List.length_pos_of_mem ((mem1 b).mpr ⟨w, h⟩)
    obtain ⟨w0, hw0⟩ := (mem1 m).mp hm
    obtain ⟨_, m0, m4⟩ := (pk _ hw0).2
    have em : m = (few : Int) := by
      have h1 : few ≤ m.toNat := (few_iff _).mpr fun w b hb => by
        have := hmax b ((mem1 b).mpr ⟨w, hb⟩)
        omega
      have h2 := (few_iff few).mp (Nat.le_refl _) w0 m hw0
      omega
    rw [em]
    clear hmax few_iff k1
    have kD4 := k2 _ _ kD
    refine ⟨_, rfl, D, rfl, ⟨_, SqL.of kD4⟩, fun D2 hD2 => ?_⟩
    refine lc_list (xs := acc) (fun i H5 => H5 D2 = some (.lst (((sl.take i).filterMap turnM).map V.int)) ∧ Same H4 H5) ⟨upd_same, same_new hD2⟩ (fun i H5 _ h => SqL.of (h.2 _ _ kD4)) ?_ ?_
    · rintro i x H5 hx ⟨j1, j2⟩
      have hi := (List.getElem?_eq_some_iff.mp hx).1
      obtain ⟨c1, hc, hx2, cp, co⟩ := row i x H5 (k2.trans j2) hx
      have ln : ((sl.take i).filterMap turnM).length ≤ 100000 := Nat.le_trans (List.length_filterMap_le _ _) (by rw [List.length_take]; omega)
      cases c1 with
      | turns w m z =>
        cases hx2 with
        | @tup p xs _ e _ l r =>
        cases r with
        | cons r0 r1 =>
        cases r0
        cases r1 with
        | cons r1 r2 =>
        cases r2 with
        | cons r2 r3 =>
        cases r2
        refine ⟨rfl, _, rfl, p, _, 0, _, rfl, rfl, SqT.of e, atI_nat (j := 0) rfl, rfl, _, rfl, eqT rfl ⟨_, rfl, p, _, 2, _, rfl, rfl, SqT.of e, atI_nat (j := 2) rfl, _, j1, ?_, ?_, same_add j2 hD2⟩⟩
        · rw [List.length_map]
          exact Nat.lt_of_le_of_lt (show _ ≤ 1000000 by omega) (by decide)
        · rw [upd_same, take_succ_of hc, List.filterMap_append, List.map_append]
          rfl
      | least w b =>
        cases hx2 with
        | @tup p xs _ e _ l r =>
        cases r with
        | cons r0 r1 =>
        cases r0
        refine ⟨rfl, _, rfl, p, _, 0, _, rfl, rfl, SqT.of e, atI_nat (j := 0) rfl, rfl, _, rfl, eqF (sne (by decide +kernel)) ⟨?_, j2⟩⟩
        rw [take_succ_of hc, List.filterMap_append]
        show _ = some (HO.lst ((_ ++ []).map V.int))
        rw [List.append_nil]
        exact j1
      | _ => exact cp.elim
    rintro H5 ⟨j1, j2⟩
    rw [lg, List.take_length] at j1
    have mem2 : ∀ m, m ∈ sl.filterMap turnM ↔ ∃ w z, Cd.turns w m z ∈ sl := fun m => by
      rw [List.mem_filterMap]
      constructor
      · rintro ⟨c, hc, e⟩
        cases c with
        | turns w b z => cases e; exact ⟨w, z, hc⟩
        | _ => cases e
      · rintro ⟨w, z, h⟩
        exact ⟨_, h, rfl⟩
    have rng : ∀ m, m ∈ sl.filterMap turnM → 1 ≤ m ∧ m ≤ 4 := fun m hm => by
      obtain ⟨w, z, h⟩ := (mem2 m).mp hm
      obtain ⟨_, m1, m4, _⟩ := (pk _ h).2
      exact ⟨m1, m4⟩
    have tiff : ∀ x, turn ∣ x ↔ ∀ m, m ∈ sl.filterMap turnM → m.toNat ∣ x := fun x => by
      rw [turn_iff]
      exact ⟨fun h m hm => let ⟨w, z, hz⟩ := (mem2 m).mp hm; h w m z hz, fun h w m z hz => h m ((mem2 m).mpr ⟨w, z, hz⟩)⟩
    have ltm : (sl.filterMap turnM).length ≤ 100000 := Nat.le_trans (List.length_filterMap_le _ _) (by omega)
    generalize sl.filterMap turnM = ts at *
    have S5 := (S3.trans k2).trans j2
    refine ⟨fun m σ H' => ∃ (t : Nat) (y2 y3 y4 y8 : Option V), σ = [some (.ref a), some (.ref D), y2, y3, y4, some (nI few), some (.ref D2), some (nI t), y8] ∧ 1 ≤ t ∧ t ≤ turn ∧ m = turn - t ∧ Same H5 H', ⟨turn - 1, 1, _, _, _, _, rfl, Nat.le_refl _, tr1, rfl, Same.refl _⟩, ?_⟩
    rintro _ σ H6 ⟨t, y2, y3, y4, y8, rfl, t1, tt, rfl, s6⟩
    have j6 := s6 _ _ j1
    refine ⟨_, rfl, D2, rfl, ⟨_, SqL.of j6⟩, fun D3 hD3 => ?_⟩
    refine lc_list (xs := ts.map V.int) (fun i H7 => H7 D3 = some (.lst (((ts.take i).filter fun m => !decide (V.int ((t : Int) % m) = V.int 0)).map V.int)) ∧ Same H6 H7) ⟨upd_same, same_new hD3⟩ (fun i H7 _ h => SqL.of (h.2 _ _ j6)) ?_ ?_
    · rintro i x H7 hx ⟨u1, u2⟩
      rw [List.getElem?_map] at hx
      cases hm : ts[i]? with
      | none => rw [hm] at hx; cases hx
      | some m =>
      rw [hm] at hx
      cases hx
      obtain ⟨m1, m4⟩ := rng m (List.mem_of_getElem? hm)
      have ln : ((ts.take i).filter fun m => !decide (V.int ((t : Int) % m) = V.int 0)).length ≤ 100000 := Nat.le_trans (List.length_filter_le _ _) (by rw [List.length_take]; omega)
      refine ⟨rfl, _, rfl, _, rfl, _, _, rfl, rfl, by omega, rfl, _, rfl, ?_⟩
      rw [take_succ_of hm, List.filter_append, List.filter_cons]
      refine ite2 (fun hh => ?_) (fun hh => ?_)
      · refine ⟨_, rfl, _, u1, ?_, ?_, same_add u2 hD3⟩
        · rw [List.length_map]
          exact Nat.lt_of_le_of_lt (show _ ≤ 1000000 by omega) (by decide)
        · rw [upd_same, if_pos hh, List.map_append]
          rfl
      · rw [if_neg hh]
        refine ⟨?_, u2⟩
        show _ = some (HO.lst ((_ ++ []).map V.int))
        rw [List.append_nil]
        exact u1
    rintro H7 ⟨u1, u2⟩
    rw [List.length_map, List.take_length] at u1
    refine ⟨(by show 0 ≤ sizeLine; decide), fun D4 hD4 => ?_⟩
    have s8 := same_new (o := .lst []) hD4
    have u18 := s8 _ _ u1
    have kd4 := upd_same (H := H7) (a := D4) (o := .lst [])
    generalize upd H7 D4 (.lst []) = H8 at *
    have s68 := (s6.trans u2).trans s8
    have dv : ∀ m, 1 ≤ m → m ≤ 4 → ((!decide (V.int ((t : Int) % m) = V.int 0)) = true ↔ ¬ m.toNat ∣ t) := fun m h1 h4 => by
      have e : (V.int ((t : Int) % m) = V.int 0) ↔ (t : Int) % m = 0 := ⟨V.int.inj, congrArg V.int⟩
      rw [Bool.not_eq_true', decide_eq_false_iff_not, e, Nat.dvd_iff_mod_eq_zero]
      obtain rfl | rfl | rfl | rfl : m = 1 ∨ m = 2 ∨ m = 3 ∨ m = 4 := by omega
      · show ¬ ((t : Int) % 1 = 0) ↔ ¬ (t % 1 = 0)
        omega
      · show ¬ ((t : Int) % 2 = 0) ↔ ¬ (t % 2 = 0)
        omega
      · show ¬ ((t : Int) % 3 = 0) ↔ ¬ (t % 3 = 0)
        omega
      · show ¬ ((t : Int) % 4 = 0) ↔ ¬ (t % 4 = 0)
        omega
    have dp : Dp K H8 (.ref D3) (.list ((ts.filter fun m => !decide (V.int ((t : Int) % m) = V.int 0)).map PyData.int)) := dp_intsL (SqL.of u18)
    have dp0 : Dp K H8 (.ref D4) (.list (([] : List Int).map PyData.int)) := dp_intsL (SqL.of kd4)
    refine ⟨_, _, dp, dp0, shaped_ints _, shaped_ints _, _, rfl, ?_⟩
    cases hus : ts.filter fun m => !decide (V.int ((t : Int) % m) = V.int 0) with
    | nil =>
      refine iteF ⟨_, rfl, _, rfl, (by show 2 ≤ sizeLine; decide), fun p hp => ?_⟩
      have et : t = turn := by
        have : turn ∣ t := (tiff t).mpr fun m hm => by
          obtain ⟨m1, m4⟩ := rng m hm
          by_cases h : m.toNat ∣ t
          · exact h
          · have := (List.mem_filter (p := fun m => !decide (V.int ((t : Int) % m) = V.int 0))).mpr ⟨hm, (dv m m1 m4).mpr h⟩
            rw [hus] at this
            cases this
        have := Nat.le_of_dvd (by omega) this
        omega
      rw [et]
      exact q p _ ((S5.trans s68).trans (same_new hp)) upd_same
    | cons m us =>
      refine iteT ?_
      have hm : m ∈ ts.filter fun m => !decide (V.int ((t : Int) % m) = V.int 0) := by rw [hus]; exact List.mem_cons_self
      obtain ⟨hm1, hm2⟩ := List.mem_filter.mp hm
      obtain ⟨m1, m4⟩ := rng m hm1
      have nt : t ≠ turn := fun e => (dv m m1 m4).mp hm2 (by rw [e]; exact (tiff turn).mp (Nat.dvd_refl _) m hm1)
      refine ⟨fun σ2 H2 => ∃ (t2 : Nat) (y2 y3 y4 y8 : Option V), σ2 = [some (.ref a), some (.ref D), y2, y3, y4, some (nI few), some (.ref D2), some (nI t2), y8] ∧ 1 ≤ t2 ∧ t2 ≤ turn ∧ t < t2 ∧ Same H5 H2, fun σ2 H2 ⟨t2, y2, y3, y4, y8, e1, e2, e3, e4, e5⟩ => ⟨turn - t2, by omega, t2, y2, y3, y4, y8, e1, e2, e3, rfl, e5⟩, ?_⟩
      refine ⟨_, rfl, _, _, rfl, rfl, t + 1, y2, y3, y4, y8, ?_, by omega, by omega, by omega, s68⟩
      rfl
def sp__law_fits : Sp := fun vs H Q _ => ∃ (v : V) (R : Rl), vs = [v] ∧ RlAt (fun _ => True) H v R ∧ R.ok ∧ ∀ b H', Same H H' → (b = true ↔ turnR R ≤ 4 ∧ R.L.length * (fewR R + turnR R) ^ R.n ≤ 600) → Q (.bl b) H'
theorem ok__law_fits (T : Txt K mg) : FnOk P w K mg base CX0 7 T.f__law_fits T.d__law_fits ["rules"] sp__law_fits := by
  have G__law_few_and_turn : FnOk P w K mg base CX0 6 T.f__law_few_and_turn T.d__law_few_and_turn ["rules"] sp__law_few_and_turn := ok__law_few_and_turn T
  refine T.F__law_fits.ok sc__law_fits (fun vs H Q E h => ?_) (fun cdv A outer s H vs Q E hr h => ?_)
  · obtain ⟨v, R, rfl, _⟩ := h
    rfl
  obtain ⟨v, R, rfl, hR, hok, q⟩ := h
  refine ⟨_, (pss_cons (ps_asg (pe_call G__law_few_and_turn (hr.mono (by omega)) (by rfl) T.m__law_few_and_turn T.F__law_few_and_turn.kp T.b__law_few_and_turn .nil pass0 (pa_cons (pv 0) pa_nil)) (pg_tup rfl (pgs_cons (pg_name (i := 1) sc__law_fits.nd rfl (Or.inl rfl)) (pgs_cons (pg_name (i := 2) sc__law_fits.nd rfl (Or.inl rfl)) pgs_nil)))) (pss_cons (ps_set (i := 3) sc__law_fits.nd rfl (Or.inl rfl) (pe_callB call_len_str (by rfl) T.z_len PySem.boot_len (pa_cons (pe_ix ix_tup (pv 0) pe_int (fun _ _ => rfl)) pa_nil))) (pss_cons (ps_for PassesOwn.never rfl (pi_range1 (by rfl) T.z_range (pa_cons (pe_ix ix_tup (pv 0) pe_int (fun _ _ => rfl)) pa_nil)) (pg_name (i := 4) sc__law_fits.nd rfl (Or.inl rfl)) (pss_one (ps_set (i := 3) sc__law_fits.nd rfl (Or.inl rfl) (pe_op op_mul (pv 3) (pe_op op_add (pv 1) (pv 2)))))) (pss_one (ps_ret (pe_and (pe_cmpR op_lt (pv 2) pe_int (nomark _)) (pe_one (pe_cmpR op_lt (pv 3) pe_int (nomark _))))))))), ?_⟩
  refine ⟨_, rfl, v, R, rfl, hR, hok, fun p H1 s1 hp => ⟨p, _, rfl, SqT.of hp, rfl, _, _, rfl, _, _, rfl, rfl, ?_⟩⟩
  obtain ⟨a, d, g, es, rfl, ha, _, hd, _, hes, hg, _⟩ := hR
  have ha1 := s1 _ _ ha
  have l26 := hok.L.2.1
  have n6 := hok.n6
  refine ⟨_, rfl, a, _, 0, .str R.L, rfl, rfl, SqT.of ha1, atI_nat (j := 0) rfl, R.L, rfl, Nat.le_of_lt (Nat.lt_of_le_of_lt (show _ ≤ 1000000 by omega) (by decide)), ?_⟩
  refine ⟨_, rfl, a, _, 1, nI R.n, rfl, rfl, SqT.of ha1, atI_nat (j := 1) rfl, R.n, rfl, by omega, by omega, for_range (lo := 0) (n := R.n) (fun i σ H' => ∃ y4, σ = [some (.ref a), some (nI (fewR R)), some (nI (turnR R)), some (nI (R.L.length * (fewR R + turnR R) ^ i)), y4] ∧ H' = H1) ⟨none, by rw [Nat.pow_zero, Nat.mul_one]; rfl, rfl⟩ ?_ ?_⟩
  · have pok : ∀ p ∈ (condsOf R).flatMap Cd.plains, p.ok R.n := pl_ok hok
    have few4 : fewR R ≤ 4 := fewP_le _ 0 (by decide) pok
    have t12 : turnR R ≤ 12 := (le12 (turnP_12 (n := R.n) _ 1 (by decide) pok)).2
    rintro i σ H2 hi ⟨y4, rfl, rfl⟩
    refine ⟨_, rfl, _, rfl, _, rfl, _, _, rfl, rfl, _, _, rfl, rfl, .inr ⟨by omega, by omega⟩, ?_⟩
    refine ⟨some (V.int (0 + (i : Int))), ?_, rfl⟩
    have e : ((R.L.length * (fewR R + turnR R) ^ i : Nat) : Int) * ((fewR R : Int) + (turnR R : Int)) = ((R.L.length * (fewR R + turnR R) ^ (i + 1) : Nat) : Int) := by
      rw [Nat.pow_succ, ← Nat.mul_assoc]
      push_cast
      rfl
    show ([some (V.ref a), some (nI (fewR R)), some (nI (turnR R)), some (V.int (((R.L.length * (fewR R + turnR R) ^ i : Nat) : Int) * ((fewR R : Int) + (turnR R : Int)))), some (V.int (0 + (i : Int)))] : List (Option V)) = _
    rw [e]
  · rintro σ H2 ⟨y4, rfl, rfl⟩
    generalize R.L.length * (fewR R + turnR R) ^ R.n = m at *
    refine ⟨_, rfl, _, _, rfl, rfl, _, rfl, ?_⟩
    by_cases h5 : turnR R ≤ 4
    · refine dT (by omega) ⟨_, rfl, _, _, rfl, rfl, ?_⟩
      exact q _ _ s1 ⟨fun h => ⟨h5, by have := of_decide_eq_true h; omega⟩, fun h => decide_eq_true (by omega)⟩
    · refine dF (by omega) ?_
      have e : decide ((turnR R : Int) < 5) = false := decide_eq_false (by omega)
      exact q false _ s1 ⟨fun h => (by cases h), fun h => absurd h.1 h5⟩
end


def sp__law_plain_rules : Sp := fun vs H Q _ => ∃ (p : Addr), vs = [.ref p] ∧ Dk H p ∧ ∀ v (R : Rl) H', R.ok → Rises R.L → R.good.Pairwise (· < ·) → Fr p H H' → Dk H' p → RlAt (fun b => b ≠ p) H' v R → Q v H'
theorem rowsIn_put {ok : Addr → Prop} {H : Hp} {c : Nat} {v : V} {rs : RR} (hv : Dt ok H v (rowsD rs)) : ∀ {es : List (Key × V)} {kvs : List (Nat × RR)}, rowsIn ok H es kvs → rowsIn ok H (es.map fun kv => if kv.1 = .inr (ch c) then (kv.1, v) else kv) (kvs.map fun kv => if kv.1 = c then (c, rs) else kv)
  | _, _, .nil => .nil
  | (k, u) :: es, (c', rs') :: kvs, .cons r t => by
    refine .cons ?_ (rowsIn_put hv t)
    obtain ⟨e1, e2⟩ := r
    dsimp only at e1 e2
    subst e1
    by_cases h : c' = c
    · subst h
      dsimp only
      rw [if_pos rfl, if_pos rfl]
      exact ⟨rfl, hv⟩
    · have : ¬ ((Sum.inr (ch c') : Key) = .inr (ch c)) := fun z => h (ch_inj (Sum.inr.inj z))
      dsimp only
      rw [if_neg this, if_neg h]
      exact ⟨rfl, e2⟩
theorem putK_old {es : List (Key × V)} {k : Key} {u v : V} (h : valV es k = some u) : putK es k v = es.map fun kv => if kv.1 = k then (kv.1, v) else kv := by
  unfold putK
  rw [valV_any, h]
  exact if_pos rfl
theorem rep_int (x : Int) : ∀ k : Nat, (List.replicate k [V.int x]).flatten = (List.replicate k x).map V.int
  | 0 => rfl
  | k + 1 => by rw [List.replicate_succ, List.flatten_cons, rep_int x k]; rfl
def baseR (n : Nat) : RR := [(Cd.least (List.replicate n 0) 0, 0)]
def plainR (n m o t : Nat) : RR := [(.neg (.either (.turns (List.replicate n 1) o 0) (.least (List.replicate n 1) t)), n - 1), (.turns (List.replicate n 1) m ((m : Int) - 1), 0)] ++ baseR n
theorem wOk_rep (n : Nat) (x : Int) (h : 0 ≤ x ∧ x ≤ 4) : wOk n (List.replicate n x) := ⟨List.length_replicate, fun y hy => by rw [List.eq_of_mem_replicate hy]; exact h⟩
theorem baseR_ok {n : Nat} (h : 1 ≤ n) : rsOk n (baseR n) := ⟨by simp [baseR], fun r hr => by
  rw [List.mem_singleton.mp hr]
  exact ⟨⟨wOk_rep n 0 (by decide), by decide, by decide⟩, by simp [Cd.deep], h⟩, [], 0, rfl⟩
theorem plainR_ok {n m o t : Nat} (h : 1 ≤ n) (m1 : 1 ≤ m) (m4 : m ≤ 4) (o1 : 1 ≤ o) (o4 : o ≤ 4) (t4 : t ≤ 4) : rsOk n (plainR n m o t) := by
  refine ⟨by simp [plainR, baseR], fun r hr => ?_, _, 0, rfl⟩
  unfold plainR at hr
  rcases List.mem_append.mp hr with hr | hr
  · simp only [List.mem_cons, List.not_mem_nil, or_false] at hr
    rcases hr with rfl | rfl
    · refine ⟨⟨⟨wOk_rep n 1 (by decide), by omega, by omega, by omega, by omega⟩, wOk_rep n 1 (by decide), by omega, by omega⟩, by simp [Cd.deep], by show n - 1 < n; omega⟩
    · exact ⟨⟨wOk_rep n 1 (by decide), by omega, by omega, by omega, by omega⟩, by simp [Cd.deep], h⟩
  · exact (baseR_ok h).2.1 r hr
section
variable {P : Program} {w : World} {K : PySem.W.Frag} {mg : Str → Option Value} {base : Heap}
theorem ok__law_plain_rules (T : Txt K mg) : FnOk P w K mg base CX0 2 T.f__law_plain_rules T.d__law_plain_rules ["deck"] sp__law_plain_rules := by
  have G__law_take : FnOk P w K mg base CX0 1 T.f__law_take T.d__law_take ["deck", "many"] sp__law_take := ok__law_take T
  refine T.F__law_plain_rules.ok sc__law_plain_rules (fun vs H Q E h => ?_) (fun cdv A outer s H vs Q E hr h => ?_)
  · obtain ⟨p, rfl, _⟩ := h
    rfl
  obtain ⟨p, rfl, hp, q⟩ := h
  refine ⟨_, (pss_cons (ps_set (i := 1) sc__law_plain_rules.nd rfl (Or.inl rfl) (pe_lst (pa_cons pe_str (pa_cons pe_str (pa_cons pe_str (pa_cons pe_str (pa_cons pe_str (pa_cons pe_str pa_nil)))))))) (pss_cons (ps_set (i := 1) sc__law_plain_rules.nd rfl (Or.inl rfl) (pe_ix ix_list (pe_op op_cat (pv 1) (pe_lst (pa_cons pe_str (pa_cons pe_str pa_nil)))) (pe_call G__law_take (hr.mono (by omega)) (by rfl) T.m__law_take T.F__law_take.kp T.b__law_take .nil pass0 (pa_cons (pv 0) (pa_cons pe_int pa_nil))) (fun _ _ => rfl))) (pss_cons (ps_set (i := 2) sc__law_plain_rules.nd rfl (Or.inl rfl) (pe_op op_add pe_int (pe_call G__law_take (hr.mono (by omega)) (by rfl) T.m__law_take T.F__law_take.kp T.b__law_take .nil pass0 (pa_cons (pv 0) (pa_cons pe_int pa_nil))))) (pss_cons (ps_set (i := 3) sc__law_plain_rules.nd rfl (Or.inl rfl) (pe_op op_add pe_int (pe_call G__law_take (hr.mono (by omega)) (by rfl) T.m__law_take T.F__law_take.kp T.b__law_take .nil pass0 (pa_cons (pv 0) (pa_cons pe_int pa_nil))))) (pss_cons (ps_set (i := 4) sc__law_plain_rules.nd rfl (Or.inl rfl) (pe_ix ix_list (pe_lst (pa_cons pe_int (pa_cons pe_int (pa_cons (pe_op op_add pe_int (pe_call G__law_take (hr.mono (by omega)) (by rfl) T.m__law_take T.F__law_take.kp T.b__law_take .nil pass0 (pa_cons (pv 0) (pa_cons pe_int pa_nil)))) pa_nil)))) (pe_call G__law_take (hr.mono (by omega)) (by rfl) T.m__law_take T.F__law_take.kp T.b__law_take .nil pass0 (pa_cons (pv 0) (pa_cons pe_int pa_nil))) (fun _ _ => rfl))) (pss_cons (ps_set (i := 5) sc__law_plain_rules.nd rfl (Or.inl rfl) pe_dnewK) (pss_cons (ps_for PassesOwn.never rfl (pi_str (pv 1)) (pg_name (i := 6) sc__law_plain_rules.nd rfl (Or.inl rfl)) (pss_one (ps_dput (hu_of hr) (pv 5) (pv 6) (pe_lst (pa_cons (pe_tup (pa_cons (pe_tup (pa_cons pe_str (pa_cons (pe_op op_rep (pe_lst (pa_cons pe_int pa_nil)) (pv 2)) (pa_cons pe_int pa_nil)))) (pa_cons pe_int pa_nil))) pa_nil)) rfl))) (pss_cons (ps_set (i := 7) sc__law_plain_rules.nd rfl (Or.inl rfl) (pe_dget (hu_of hr) (pv 5) (pe_ix ix_str (pv 1) (pe_un un_neg pe_int) (fun _ _ => rfl)) (fun _ _ => rfl))) (pss_cons (ps_set (i := 8) sc__law_plain_rules.nd rfl (Or.inl rfl) (pe_tup (pa_cons pe_str (pa_cons (pe_tup (pa_cons pe_str (pa_cons (pe_op op_rep (pe_lst (pa_cons pe_int pa_nil)) (pv 2)) (pa_cons (pv 4) (pa_cons pe_int pa_nil))))) (pa_cons (pe_tup (pa_cons pe_str (pa_cons (pe_op op_rep (pe_lst (pa_cons pe_int pa_nil)) (pv 2)) (pa_cons (pe_call G__law_take (hr.mono (by omega)) (by rfl) T.m__law_take T.F__law_take.kp T.b__law_take .nil pass0 (pa_cons (pv 0) (pa_cons pe_int pa_nil))) pa_nil)))) pa_nil))))) (pss_cons (ps_dput (hu_of hr) (pv 5) (pe_ix ix_str (pv 1) (pe_un un_neg pe_int) (fun _ _ => rfl)) (pe_op op_cat (pe_lst (pa_cons (pe_tup (pa_cons (pe_tup (pa_cons pe_str (pa_cons (pv 8) pa_nil))) (pa_cons (pe_op op_sub (pv 2) pe_int) pa_nil))) (pa_cons (pe_tup (pa_cons (pe_tup (pa_cons pe_str (pa_cons (pe_op op_rep (pe_lst (pa_cons pe_int pa_nil)) (pv 2)) (pa_cons (pv 3) (pa_cons (pe_op op_sub (pv 3) pe_int) pa_nil))))) (pa_cons pe_int pa_nil))) pa_nil))) (pv 7)) rfl) (pss_one (ps_ret (pe_tup (pa_cons (pv 1) (pa_cons (pv 2) (pa_cons (pv 5) (pa_cons (pe_lst (pa_cons pe_int pa_nil)) pa_nil))))))))))))))))), ?_⟩
  refine ⟨(by show 6 ≤ sizeLine; decide), fun l1 hl1 => ?_⟩
  have s1 := same_new (o := .lst [V.str (Str.ofString "a"), .str (Str.ofString "ab"), .str (Str.ofString "abc"), .str (Str.ofString "abcd"), .str (Str.ofString "abcdefgh"), .str (Str.ofString "abcdefghijklmnopqrstuvwxyz")]) hl1
  have k1 := upd_same (H := H) (a := l1) (o := .lst [V.str (Str.ofString "a"), .str (Str.ofString "ab"), .str (Str.ofString "abc"), .str (Str.ofString "abcd"), .str (Str.ofString "abcdefgh"), .str (Str.ofString "abcdefghijklmnopqrstuvwxyz")])
  generalize upd H l1 (.lst [V.str (Str.ofString "a"), .str (Str.ofString "ab"), .str (Str.ofString "abc"), .str (Str.ofString "abcd"), .str (Str.ofString "abcdefgh"), .str (Str.ofString "abcdefghijklmnopqrstuvwxyz")]) = H1 at *
  refine ⟨_, rfl, (by show 2 ≤ sizeLine; decide), fun l2 hl2 => ?_⟩
  have s2 := same_new (o := .lst [V.str (Str.ofString "abcdefghijklmnopqrstuvwx"), .str (Str.ofString "abcdefghijklmnopqrs")]) hl2
  have k2 := upd_same (H := H1) (a := l2) (o := .lst [V.str (Str.ofString "abcdefghijklmnopqrstuvwx"), .str (Str.ofString "abcdefghijklmnopqrs")])
  have k1' := s2 _ _ k1
  generalize upd H1 l2 (.lst [V.str (Str.ofString "abcdefghijklmnopqrstuvwx"), .str (Str.ofString "abcdefghijklmnopqrs")]) = H2 at *
  refine ⟨l1, l2, _, _, rfl, rfl, k1', k2, (by show 8 ≤ sizeLine; decide), fun l3 hl3 => ?_⟩
  have s3 := same_new (o := .lst [V.str (Str.ofString "a"), .str (Str.ofString "ab"), .str (Str.ofString "abc"), .str (Str.ofString "abcd"), .str (Str.ofString "abcdefgh"), .str (Str.ofString "abcdefghijklmnopqrstuvwxyz"), .str (Str.ofString "abcdefghijklmnopqrstuvwx"), .str (Str.ofString "abcdefghijklmnopqrs")]) hl3
  have k3 := upd_same (H := H2) (a := l3) (o := .lst [V.str (Str.ofString "a"), .str (Str.ofString "ab"), .str (Str.ofString "abc"), .str (Str.ofString "abcd"), .str (Str.ofString "abcdefgh"), .str (Str.ofString "abcdefghijklmnopqrstuvwxyz"), .str (Str.ofString "abcdefghijklmnopqrstuvwx"), .str (Str.ofString "abcdefghijklmnopqrs")])
  have S3 := (s1.trans s2).trans s3
  have n3 := (hp.keep (s1.trans s2)).ne hl3
  change (upd H2 l3 (.lst [V.str (Str.ofString "a"), .str (Str.ofString "ab"), .str (Str.ofString "abc"), .str (Str.ofString "abcd"), .str (Str.ofString "abcdefgh"), .str (Str.ofString "abcdefghijklmnopqrstuvwxyz"), .str (Str.ofString "abcdefghijklmnopqrstuvwx"), .str (Str.ofString "abcdefghijklmnopqrs")])) l3 = _ at k3
  show tCall sp__law_take [] E0 _ _ (upd H2 l3 (.lst [V.str (Str.ofString "a"), .str (Str.ofString "ab"), .str (Str.ofString "abc"), .str (Str.ofString "abcd"), .str (Str.ofString "abcdefgh"), .str (Str.ofString "abcdefghijklmnopqrstuvwxyz"), .str (Str.ofString "abcdefghijklmnopqrstuvwx"), .str (Str.ofString "abcdefghijklmnopqrs")])) _
  generalize upd H2 l3 (.lst [V.str (Str.ofString "a"), .str (Str.ofString "ab"), .str (Str.ofString "abc"), .str (Str.ofString "abcd"), .str (Str.ofString "abcdefgh"), .str (Str.ofString "abcdefghijklmnopqrstuvwxyz"), .str (Str.ofString "abcdefghijklmnopqrstuvwx"), .str (Str.ofString "abcdefghijklmnopqrs")]) = H3 at *
  refine ⟨_, rfl, p, 8, rfl, hp.keep S3, by decide, fun r0 H4 r00 r01 f4 d4 => ?_⟩
  obtain ⟨L, hLi, hL, hLr⟩ : ∃ L : Str, atI [V.str (Str.ofString "a"), .str (Str.ofString "ab"), .str (Str.ofString "abc"), .str (Str.ofString "abcd"), .str (Str.ofString "abcdefgh"), .str (Str.ofString "abcdefghijklmnopqrstuvwxyz"), .str (Str.ofString "abcdefghijklmnopqrstuvwx"), .str (Str.ofString "abcdefghijklmnopqrs")] r0 = some (V.str L) ∧ Lets L ∧ Rises L := by
    have mk : ∀ L : Str, 1 ≤ L.length → L.length ≤ 26 → (∀ c ∈ L.cps.toList, 97 ≤ c ∧ c ≤ 122) → L.cps.toList.Pairwise (· < ·) → Lets L ∧ Rises L := fun L a b c e => ⟨⟨a, b, c⟩, e⟩
    rcases (by omega : r0 = 0 ∨ r0 = 1 ∨ r0 = 2 ∨ r0 = 3 ∨ r0 = 4 ∨ r0 = 5 ∨ r0 = 6 ∨ r0 = 7) with rfl | rfl | rfl | rfl | rfl | rfl | rfl | rfl
    · exact ⟨_, atI_nat (j := 0) rfl, mk _ (by decide +kernel) (by decide +kernel) (by decide +kernel) (by decide +kernel)⟩
    · exact ⟨_, atI_nat (j := 1) rfl, mk _ (by decide +kernel) (by decide +kernel) (by decide +kernel) (by decide +kernel)⟩
    · exact ⟨_, atI_nat (j := 2) rfl, mk _ (by decide +kernel) (by decide +kernel) (by decide +kernel) (by decide +kernel)⟩
    · exact ⟨_, atI_nat (j := 3) rfl, mk _ (by decide +kernel) (by decide +kernel) (by decide +kernel) (by decide +kernel)⟩
    · exact ⟨_, atI_nat (j := 4) rfl, mk _ (by decide +kernel) (by decide +kernel) (by decide +kernel) (by decide +kernel)⟩
    · exact ⟨_, atI_nat (j := 5) rfl, mk _ (by decide +kernel) (by decide +kernel) (by decide +kernel) (by decide +kernel)⟩
    · exact ⟨_, atI_nat (j := 6) rfl, mk _ (by decide +kernel) (by decide +kernel) (by decide +kernel) (by decide +kernel)⟩
    · exact ⟨_, atI_nat (j := 7) rfl, mk _ (by decide +kernel) (by decide +kernel) (by decide +kernel) (by decide +kernel)⟩
  refine ⟨l3, _, r0, V.str L, rfl, rfl, SqL.of (f4 _ _ n3 k3), hLi, ?_⟩
  have F4 : Fr p H H4 := (Fr.same S3).trans f4
  clear hLi k3 k2 k1 k1' s3 s2 s1 f4
  refine ⟨_, rfl, p, 6, rfl, d4, by decide, fun r1 H5 r10 r11 f5 d5 => ⟨1, r1, rfl, rfl, ?_⟩⟩
  obtain ⟨n, hn⟩ : ∃ n : Nat, 1 + r1 = (n : Int) := ⟨(1 + r1).toNat, by omega⟩
  have hn1 : 1 ≤ n := by omega
  have hn6 : n ≤ 6 := by omega
  show gName 2 (.int (1 + r1)) _ _ _
  rw [hn]
  have F5 := F4.trans f5
  refine ⟨_, rfl, p, 4, rfl, d5, by decide, fun r2 H6 r20 r21 f6 d6 => ⟨1, r2, rfl, rfl, ?_⟩⟩
  obtain ⟨m, hm⟩ : ∃ m : Nat, 1 + r2 = (m : Int) := ⟨(1 + r2).toNat, by omega⟩
  have hm1 : 1 ≤ m := by omega
  have hm4 : m ≤ 4 := by omega
  show gName 3 (.int (1 + r2)) _ _ _
  rw [hm]
  have F6 := F5.trans f6
  refine ⟨_, rfl, p, 4, rfl, d6, by decide, fun r3 H7 r30 r31 f7 d7 => ⟨1, r3, rfl, rfl, (by show 3 ≤ sizeLine; decide), fun l4 hl4 => ?_⟩⟩
  have F7 := F6.trans f7
  have s8 := same_new (o := .lst [.int 1, .int 1, .int (1 + r3)]) hl4
  have k4 := upd_same (H := H7) (a := l4) (o := .lst [.int 1, .int 1, .int (1 + r3)])
  have n4 := d7.ne hl4
  have d8 := d7.keep s8
  have F8 := F7.trans (Fr.same s8)
  generalize upd H7 l4 (.lst [.int 1, .int 1, .int (1 + r3)]) = H8 at *
  refine ⟨_, rfl, p, 3, rfl, d8, by decide, fun r4 H9 r40 r41 f9 d9 => ?_⟩
  obtain ⟨o, ho, ho1, ho4⟩ : ∃ o : Nat, atI [V.int 1, .int 1, .int (1 + r3)] r4 = some (V.int (o : Int)) ∧ 1 ≤ o ∧ o ≤ 4 := by
    rcases (by omega : r4 = 0 ∨ r4 = 1 ∨ r4 = 2) with rfl | rfl | rfl
    · exact ⟨1, atI_nat (j := 0) rfl, by decide, by decide⟩
    · exact ⟨1, atI_nat (j := 1) rfl, by decide, by decide⟩
    · exact ⟨(1 + r3).toNat, by rw [show (((1 + r3).toNat : Nat) : Int) = 1 + r3 by omega]; exact atI_nat (j := 2) rfl, by omega, by omega⟩
  refine ⟨l4, _, r4, _, rfl, rfl, SqL.of (f9 _ _ n4 k4), ho, ?_⟩
  have F9 := F8.trans f9
  clear ho k4 s8 f9 f7 f6 f5
  refine fun d hd => ?_
  have nd : d ≠ p := d9.ne hd
  have hd0 : H d = none := F9.free d9.some hd
  have F10 : Fr p H (upd H9 d (.dK [])) := F9.new hd0
  have d10 := d9.keep (same_new (o := .dK []) hd)
  have kd := upd_same (H := H9) (a := d) (o := .dK [])
  generalize upd H9 d (.dK []) = H10 at *
  have hnd : L.cps.toList.Nodup := hLr.imp fun h => by omega
  have lsz : L.cps.size = L.cps.toList.length := (Array.length_toList).symm
  have l26 : L.cps.toList.length ≤ 26 := by rw [← lsz]; exact hL.2.1
  refine ⟨_, rfl, L, rfl, ?_⟩
  refine for_it (walk_str (z := L)) (fun i σ H' => ∃ (y6 : Option V) (es : List (Key × V)), σ = [some (.ref p), some (.str L), some (nI n), some (nI m), some (nI o), some (.ref d), y6, none, none] ∧ H' d = some (.dK es) ∧ rowsIn (fun b => b ≠ p ∧ b ≠ d) H' es ((L.cps.toList.take i).map fun c => (c, baseR n)) ∧ Fr p H H' ∧ Dk H' p) ⟨none, [], rfl, kd, .nil, F10, d10⟩ (fun _ _ _ _ _ => trivial) ?_ ?_
  · rintro i x σ Hq H2 hi ⟨y6, es, rfl, g1, g2, g3, g4⟩ ⟨rfl, c, hc, rfl⟩
    have hcL : L.cps.toList[i]? = some c := by rw [Array.getElem?_toList]; exact hc
    have hcn : c ∉ ((L.cps.toList.take i).map fun c => (c, baseR n)).map (·.1) := by
      rw [List.map_map]
      intro hm
      obtain ⟨z, hz, rfl⟩ := List.mem_map.mp hm
      exact ahead_ne hnd hcL z hz rfl
    have le : es.length ≤ 26 := by rw [Paired.length g2, List.length_map, List.length_take]; omega
    refine ⟨(by show 1 ≤ sizeLine; decide), fun z hz => ⟨_, rfl, z, n, _, rfl, rfl, upd_same, by omega, by omega, ?_, fun pz hpz => ⟨(by show 3 ≤ sizeLine; decide), fun t1 ht1 => ⟨(by show 2 ≤ sizeLine; decide), fun t2 ht2 => ⟨(by show 1 ≤ sizeLine; decide), fun l5 hl5 => ?_⟩⟩⟩⟩⟩
    · rw [List.length_singleton]
      exact Nat.le_of_lt (Nat.lt_of_le_of_lt (show _ ≤ 1000000 by omega) (by decide))
    rw [Int.toNat_natCast, rep0] at ht1 ht2 hl5 ⊢
    have a1 := same_new hz (o := .lst [V.int 0])
    have a2 := same_new hpz (o := .lst ((List.replicate n (0 : Int)).map V.int))
    have a3 := same_new ht1 (o := .tup [.str (Str.ofString "least"), .ref pz, .int 0])
    have a4 := same_new ht2 (o := .tup [.ref t1, .int 0])
    have a5 := same_new hl5 (o := .lst [.ref t2])
    have b2 := a5 _ _ (a4 _ _ (a3 _ _ (upd_same (H := upd H2 z (.lst [V.int 0])) (a := pz) (o := .lst ((List.replicate n (0 : Int)).map V.int)))))
    have b3 := a5 _ _ (a4 _ _ (upd_same (H := upd (upd H2 z (.lst [V.int 0])) pz (.lst ((List.replicate n (0 : Int)).map V.int))) (a := t1) (o := .tup [.str (Str.ofString "least"), .ref pz, .int 0])))
    have b4 := a5 _ _ (upd_same (H := upd (upd (upd H2 z (.lst [V.int 0])) pz (.lst ((List.replicate n (0 : Int)).map V.int))) t1 (.tup [.str (Str.ofString "least"), .ref pz, .int 0])) (a := t2) (o := .tup [.ref t1, .int 0]))
    have b5 := upd_same (H := upd (upd (upd (upd H2 z (.lst [V.int 0])) pz (.lst ((List.replicate n (0 : Int)).map V.int))) t1 (.tup [.str (Str.ofString "least"), .ref pz, .int 0])) t2 (.tup [.ref t1, .int 0])) (a := l5) (o := .lst [.ref t2])
    have new : ∀ b, H2 b = none → b ≠ p ∧ b ≠ d := fun b h => ⟨g4.ne h, fun e => by rw [e, g1] at h; cases h⟩
    have o2 := new pz (a1.free hpz)
    have o3 := new t1 ((a1.trans a2).free ht1)
    have o4 := new t2 (((a1.trans a2).trans a3).free ht2)
    have o5 := new l5 ((((a1.trans a2).trans a3).trans a4).free hl5)
    have S := (((a1.trans a2).trans a3).trans a4).trans a5
    generalize upd (upd (upd (upd (upd H2 z (.lst [V.int 0])) pz (.lst ((List.replicate n (0 : Int)).map V.int))) t1 (.tup [.str (Str.ofString "least"), .ref pz, .int 0])) t2 (.tup [.ref t1, .int 0])) l5 (.lst [.ref t2]) = H3 at *
    have hv : Dt (fun b => b ≠ p ∧ b ≠ d) H3 (.ref l5) (rowsD (baseR n)) :=
      .lst b5 o5 (by simp) (.cons (.tup b4 o4 (by simp) (.cons (.tup b3 o3 (by simp) (.cons (.str _) (.cons (dt_intsL b2 o2 (by rw [List.length_replicate]; omega)) (.cons (.int _) .nil)))) (.cons (.int _) .nil))) .nil)
    refine ⟨_, rfl, _, rfl, d, _, rfl, DPut.k (k := .inr (ch c)) (S _ _ g1) ?_, ?_⟩
    · exact Nat.lt_of_le_of_lt (show es.length ≤ 1000000 by omega) (by decide)
    rw [putK_new _ (keys_new g2 hcn)]
    refine ⟨_, _, rfl, upd_same, ?_, (g3.trans (Fr.same S)).new hd0, (g4.keep S).upd nd⟩
    rw [take_succ_of hcL, List.map_append]
    exact rowsIn.keep (rowsIn_snoc (g2.keep fun b o h e => S b o e) rfl hv) (upd_keep fun b h => h.2)
  · rintro σ H2 ⟨y6, es, rfl, g1, g2, g3, g4⟩
    rw [lsz, List.take_length] at g2
    have nw : ∀ {Hc : Hp} {b : Addr}, Dk Hc p → Hc d = some (.dK es) → Hc b = none → b ≠ p ∧ b ≠ d := fun D k h => ⟨D.ne h, fun e => by rw [e, k] at h; cases h⟩
    have lpos : L.cps.toList ≠ [] := fun e => by
      have := hL.1
      rw [show L.length = L.cps.toList.length from Array.length_toList.symm, e] at this
      exact absurd this (by decide)
    obtain ⟨init, cl, hcl⟩ := concat_of lpos
    have hatl : atI L.cps.toList (-1) = some cl := by rw [hcl]; exact atI_last _ _
    have hsz : L.length ≤ sizeLine := Nat.le_trans hL.2.1 (by decide)
    have hfst : (L.cps.toList.map fun c => (c, baseR n)).map (·.1) = L.cps.toList := by rw [List.map_map]; exact List.map_id _
    have clm : cl ∈ L.cps.toList := by rw [hcl]; simp
    have hlook : (L.cps.toList.map fun c => (c, baseR n)).lookup cl = some (baseR n) := look_nd (by rw [hfst]; exact hnd) (List.mem_map.mpr ⟨cl, clm, rfl⟩)
    obtain ⟨lv, hv1, hv2⟩ := rows_val g2 hlook
    cases hv2 with
    | @lst la xs ds kl okl ll rl =>
    refine ⟨_, rfl, _, rfl, 1, rfl, L, -1, cl, rfl, rfl, hsz, hatl, d, .ref la, rfl, ?_, ?_⟩
    · have := DGet.k (k := .inr (ch cl)) g1
      rw [hv1] at this
      exact this
    have Fc : Fr p H H2 := g3
    have Dc := g4
    have k_d := g1
    have k_la := kl
    have Rc : rowsIn (fun b => b ≠ p ∧ b ≠ d) H2 es (L.cps.toList.map fun c => (c, baseR n)) := g2
    have Xc : DtAll (fun b => b ≠ p ∧ b ≠ d) H2 xs ((baseR n).map rowD) := rl
    clear g1 g2 g3 g4 kl rl
    refine ⟨(by show 1 ≤ sizeLine; decide), fun z1 h_z1 => ?_⟩
    have s := same_new (o := .lst [V.int 1]) h_z1
    have k_z1 := upd_same (H := H2) (a := z1) (o := .lst [V.int 1])
    have n_z1 := nw Dc k_d h_z1
    replace k_d := s _ _ k_d
    replace k_la := s _ _ k_la
    replace Dc := Dc.keep s
    replace Fc := Fc.trans (Fr.same s)
    replace Rc := Rc.keep fun b o h e => s b o e
    replace Xc := Xc.same s
    generalize upd H2 z1 (.lst [V.int 1]) = H20 at *
    clear s
    refine ⟨_, rfl, z1, n, _, rfl, rfl, k_z1, by omega, by omega, Nat.le_of_lt (Nat.lt_of_le_of_lt (show _ ≤ 1000000 by rw [List.length_singleton]; omega) (by decide)), fun r1 h_r1 => ?_⟩
    rw [Int.toNat_natCast, rep_int] at *
    have s := same_new (o := .lst ((List.replicate n (1 : Int)).map V.int)) h_r1
    have k_r1 := upd_same (H := H20) (a := r1) (o := .lst ((List.replicate n (1 : Int)).map V.int))
    have n_r1 := nw Dc k_d h_r1
    replace k_d := s _ _ k_d
    replace k_la := s _ _ k_la
    replace k_z1 := s _ _ k_z1
    replace Dc := Dc.keep s
    replace Fc := Fc.trans (Fr.same s)
    replace Rc := Rc.keep fun b o h e => s b o e
    replace Xc := Xc.same s
    generalize upd H20 r1 (.lst ((List.replicate n (1 : Int)).map V.int)) = H21 at *
    clear s
    refine ⟨_, rfl, (by show 4 ≤ sizeLine; decide), fun tA h_tA => ?_⟩
    have s := same_new (o := .tup [.str (Str.ofString "turns"), .ref r1, .int (o : Int), .int 0]) h_tA
    have k_tA := upd_same (H := H21) (a := tA) (o := .tup [.str (Str.ofString "turns"), .ref r1, .int (o : Int), .int 0])
    have n_tA := nw Dc k_d h_tA
    replace k_d := s _ _ k_d
    replace k_la := s _ _ k_la
    replace k_z1 := s _ _ k_z1
    replace k_r1 := s _ _ k_r1
    replace Dc := Dc.keep s
    replace Fc := Fc.trans (Fr.same s)
    replace Rc := Rc.keep fun b o h e => s b o e
    replace Xc := Xc.same s
    generalize upd H21 tA (.tup [.str (Str.ofString "turns"), .ref r1, .int (o : Int), .int 0]) = H22 at *
    clear s
    refine ⟨(by show 1 ≤ sizeLine; decide), fun z2 h_z2 => ?_⟩
    have s := same_new (o := .lst [V.int 1]) h_z2
    have k_z2 := upd_same (H := H22) (a := z2) (o := .lst [V.int 1])
    have n_z2 := nw Dc k_d h_z2
    replace k_d := s _ _ k_d
    replace k_la := s _ _ k_la
    replace k_z1 := s _ _ k_z1
    replace k_r1 := s _ _ k_r1
    replace k_tA := s _ _ k_tA
    replace Dc := Dc.keep s
    replace Fc := Fc.trans (Fr.same s)
    replace Rc := Rc.keep fun b o h e => s b o e
    replace Xc := Xc.same s
    generalize upd H22 z2 (.lst [V.int 1]) = H23 at *
    clear s
    refine ⟨_, rfl, z2, n, _, rfl, rfl, k_z2, by omega, by omega, Nat.le_of_lt (Nat.lt_of_le_of_lt (show _ ≤ 1000000 by rw [List.length_singleton]; omega) (by decide)), fun r2 h_r2 => ?_⟩
    rw [Int.toNat_natCast, rep_int] at *
    have s := same_new (o := .lst ((List.replicate n (1 : Int)).map V.int)) h_r2
    have k_r2 := upd_same (H := H23) (a := r2) (o := .lst ((List.replicate n (1 : Int)).map V.int))
    have n_r2 := nw Dc k_d h_r2
    replace k_d := s _ _ k_d
    replace k_la := s _ _ k_la
    replace k_z1 := s _ _ k_z1
    replace k_r1 := s _ _ k_r1
    replace k_tA := s _ _ k_tA
    replace k_z2 := s _ _ k_z2
    replace Dc := Dc.keep s
    replace Fc := Fc.trans (Fr.same s)
    replace Rc := Rc.keep fun b o h e => s b o e
    replace Xc := Xc.same s
    generalize upd H23 r2 (.lst ((List.replicate n (1 : Int)).map V.int)) = H24 at *
    clear s
    refine ⟨_, rfl, p, 5, rfl, Dc, by decide, fun tt H50 t0 t1 f D50 => ?_⟩
    replace k_z1 := f _ _ n_z1.1 k_z1
    replace k_r1 := f _ _ n_r1.1 k_r1
    replace k_tA := f _ _ n_tA.1 k_tA
    replace k_z2 := f _ _ n_z2.1 k_z2
    replace k_r2 := f _ _ n_r2.1 k_r2
    replace k_d := f _ _ nd k_d
    replace k_la := f _ _ okl.1 k_la
    replace Dc := D50
    replace Fc := Fc.trans f
    replace Rc := Rc.keep fun b o h e => f b o h.1 e
    replace Xc := Xc.keep fun b o h e => f b o h.1 e
    clear f
    obtain ⟨t, ht⟩ : ∃ t : Nat, tt = (t : Int) := ⟨tt.toNat, by omega⟩
    subst ht
    refine ⟨(by show 3 ≤ sizeLine; decide), fun tB h_tB => ?_⟩
    have s := same_new (o := .tup [.str (Str.ofString "least"), .ref r2, .int (t : Int)]) h_tB
    have k_tB := upd_same (H := H50) (a := tB) (o := .tup [.str (Str.ofString "least"), .ref r2, .int (t : Int)])
    have n_tB := nw Dc k_d h_tB
    replace k_d := s _ _ k_d
    replace k_la := s _ _ k_la
    replace k_z1 := s _ _ k_z1
    replace k_r1 := s _ _ k_r1
    replace k_tA := s _ _ k_tA
    replace k_z2 := s _ _ k_z2
    replace k_r2 := s _ _ k_r2
    replace Dc := Dc.keep s
    replace Fc := Fc.trans (Fr.same s)
    replace Rc := Rc.keep fun b o h e => s b o e
    replace Xc := Xc.same s
    generalize upd H50 tB (.tup [.str (Str.ofString "least"), .ref r2, .int (t : Int)]) = H25 at *
    clear s
    refine ⟨(by show 3 ≤ sizeLine; decide), fun tE h_tE => ?_⟩
    have s := same_new (o := .tup [.str (Str.ofString "either"), .ref tA, .ref tB]) h_tE
    have k_tE := upd_same (H := H25) (a := tE) (o := .tup [.str (Str.ofString "either"), .ref tA, .ref tB])
    have n_tE := nw Dc k_d h_tE
    replace k_d := s _ _ k_d
    replace k_la := s _ _ k_la
    replace k_z1 := s _ _ k_z1
    replace k_r1 := s _ _ k_r1
    replace k_tA := s _ _ k_tA
    replace k_z2 := s _ _ k_z2
    replace k_r2 := s _ _ k_r2
    replace k_tB := s _ _ k_tB
    replace Dc := Dc.keep s
    replace Fc := Fc.trans (Fr.same s)
    replace Rc := Rc.keep fun b o h e => s b o e
    replace Xc := Xc.same s
    generalize upd H25 tE (.tup [.str (Str.ofString "either"), .ref tA, .ref tB]) = H26 at *
    clear s
    refine ⟨_, rfl, (by show 2 ≤ sizeLine; decide), fun tN h_tN => ?_⟩
    have s := same_new (o := .tup [.str (Str.ofString "not"), .ref tE]) h_tN
    have k_tN := upd_same (H := H26) (a := tN) (o := .tup [.str (Str.ofString "not"), .ref tE])
    have n_tN := nw Dc k_d h_tN
    replace k_d := s _ _ k_d
    replace k_la := s _ _ k_la
    replace k_z1 := s _ _ k_z1
    replace k_r1 := s _ _ k_r1
    replace k_tA := s _ _ k_tA
    replace k_z2 := s _ _ k_z2
    replace k_r2 := s _ _ k_r2
    replace k_tB := s _ _ k_tB
    replace k_tE := s _ _ k_tE
    replace Dc := Dc.keep s
    replace Fc := Fc.trans (Fr.same s)
    replace Rc := Rc.keep fun b o h e => s b o e
    replace Xc := Xc.same s
    generalize upd H26 tN (.tup [.str (Str.ofString "not"), .ref tE]) = H27 at *
    clear s
    refine ⟨_, rfl, _, _, rfl, rfl, (by show 2 ≤ sizeLine; decide), fun tP h_tP => ?_⟩
    have s := same_new (o := .tup [.ref tN, .int ((n : Int) - 1)]) h_tP
    have k_tP := upd_same (H := H27) (a := tP) (o := .tup [.ref tN, .int ((n : Int) - 1)])
    have n_tP := nw Dc k_d h_tP
    replace k_d := s _ _ k_d
    replace k_la := s _ _ k_la
    replace k_z1 := s _ _ k_z1
    replace k_r1 := s _ _ k_r1
    replace k_tA := s _ _ k_tA
    replace k_z2 := s _ _ k_z2
    replace k_r2 := s _ _ k_r2
    replace k_tB := s _ _ k_tB
    replace k_tE := s _ _ k_tE
    replace k_tN := s _ _ k_tN
    replace Dc := Dc.keep s
    replace Fc := Fc.trans (Fr.same s)
    replace Rc := Rc.keep fun b o h e => s b o e
    replace Xc := Xc.same s
    generalize upd H27 tP (.tup [.ref tN, .int ((n : Int) - 1)]) = H28 at *
    clear s
    refine ⟨(by show 1 ≤ sizeLine; decide), fun z3 h_z3 => ?_⟩
    have s := same_new (o := .lst [V.int 1]) h_z3
    have k_z3 := upd_same (H := H28) (a := z3) (o := .lst [V.int 1])
    have n_z3 := nw Dc k_d h_z3
    replace k_d := s _ _ k_d
    replace k_la := s _ _ k_la
    replace k_z1 := s _ _ k_z1
    replace k_r1 := s _ _ k_r1
    replace k_tA := s _ _ k_tA
    replace k_z2 := s _ _ k_z2
    replace k_r2 := s _ _ k_r2
    replace k_tB := s _ _ k_tB
    replace k_tE := s _ _ k_tE
    replace k_tN := s _ _ k_tN
    replace k_tP := s _ _ k_tP
    replace Dc := Dc.keep s
    replace Fc := Fc.trans (Fr.same s)
    replace Rc := Rc.keep fun b o h e => s b o e
    replace Xc := Xc.same s
    generalize upd H28 z3 (.lst [V.int 1]) = H29 at *
    clear s
    refine ⟨_, rfl, z3, n, _, rfl, rfl, k_z3, by omega, by omega, Nat.le_of_lt (Nat.lt_of_le_of_lt (show _ ≤ 1000000 by rw [List.length_singleton]; omega) (by decide)), fun r3 h_r3 => ?_⟩
    rw [Int.toNat_natCast, rep_int] at *
    have s := same_new (o := .lst ((List.replicate n (1 : Int)).map V.int)) h_r3
    have k_r3 := upd_same (H := H29) (a := r3) (o := .lst ((List.replicate n (1 : Int)).map V.int))
    have n_r3 := nw Dc k_d h_r3
    replace k_d := s _ _ k_d
    replace k_la := s _ _ k_la
    replace k_z1 := s _ _ k_z1
    replace k_r1 := s _ _ k_r1
    replace k_tA := s _ _ k_tA
    replace k_z2 := s _ _ k_z2
    replace k_r2 := s _ _ k_r2
    replace k_tB := s _ _ k_tB
    replace k_tE := s _ _ k_tE
    replace k_tN := s _ _ k_tN
    replace k_tP := s _ _ k_tP
    replace k_z3 := s _ _ k_z3
    replace Dc := Dc.keep s
    replace Fc := Fc.trans (Fr.same s)
    replace Rc := Rc.keep fun b o h e => s b o e
    replace Xc := Xc.same s
    generalize upd H29 r3 (.lst ((List.replicate n (1 : Int)).map V.int)) = H30 at *
    clear s
    refine ⟨_, rfl, _, rfl, _, _, rfl, rfl, (by show 4 ≤ sizeLine; decide), fun tT h_tT => ?_⟩
    have s := same_new (o := .tup [.str (Str.ofString "turns"), .ref r3, .int (m : Int), .int ((m : Int) - 1)]) h_tT
    have k_tT := upd_same (H := H30) (a := tT) (o := .tup [.str (Str.ofString "turns"), .ref r3, .int (m : Int), .int ((m : Int) - 1)])
    have n_tT := nw Dc k_d h_tT
    replace k_d := s _ _ k_d
    replace k_la := s _ _ k_la
    replace k_z1 := s _ _ k_z1
    replace k_r1 := s _ _ k_r1
    replace k_tA := s _ _ k_tA
    replace k_z2 := s _ _ k_z2
    replace k_r2 := s _ _ k_r2
    replace k_tB := s _ _ k_tB
    replace k_tE := s _ _ k_tE
    replace k_tN := s _ _ k_tN
    replace k_tP := s _ _ k_tP
    replace k_z3 := s _ _ k_z3
    replace k_r3 := s _ _ k_r3
    replace Dc := Dc.keep s
    replace Fc := Fc.trans (Fr.same s)
    replace Rc := Rc.keep fun b o h e => s b o e
    replace Xc := Xc.same s
    generalize upd H30 tT (.tup [.str (Str.ofString "turns"), .ref r3, .int (m : Int), .int ((m : Int) - 1)]) = H31 at *
    clear s
    refine ⟨(by show 2 ≤ sizeLine; decide), fun tQ h_tQ => ?_⟩
    have s := same_new (o := .tup [.ref tT, .int 0]) h_tQ
    have k_tQ := upd_same (H := H31) (a := tQ) (o := .tup [.ref tT, .int 0])
    have n_tQ := nw Dc k_d h_tQ
    replace k_d := s _ _ k_d
    replace k_la := s _ _ k_la
    replace k_z1 := s _ _ k_z1
    replace k_r1 := s _ _ k_r1
    replace k_tA := s _ _ k_tA
    replace k_z2 := s _ _ k_z2
    replace k_r2 := s _ _ k_r2
    replace k_tB := s _ _ k_tB
    replace k_tE := s _ _ k_tE
    replace k_tN := s _ _ k_tN
    replace k_tP := s _ _ k_tP
    replace k_z3 := s _ _ k_z3
    replace k_r3 := s _ _ k_r3
    replace k_tT := s _ _ k_tT
    replace Dc := Dc.keep s
    replace Fc := Fc.trans (Fr.same s)
    replace Rc := Rc.keep fun b o h e => s b o e
    replace Xc := Xc.same s
    generalize upd H31 tQ (.tup [.ref tT, .int 0]) = H32 at *
    clear s
    refine ⟨(by show 2 ≤ sizeLine; decide), fun lN h_lN => ?_⟩
    have s := same_new (o := .lst [V.ref tP, .ref tQ]) h_lN
    have k_lN := upd_same (H := H32) (a := lN) (o := .lst [V.ref tP, .ref tQ])
    have n_lN := nw Dc k_d h_lN
    replace k_d := s _ _ k_d
    replace k_la := s _ _ k_la
    replace k_z1 := s _ _ k_z1
    replace k_r1 := s _ _ k_r1
    replace k_tA := s _ _ k_tA
    replace k_z2 := s _ _ k_z2
    replace k_r2 := s _ _ k_r2
    replace k_tB := s _ _ k_tB
    replace k_tE := s _ _ k_tE
    replace k_tN := s _ _ k_tN
    replace k_tP := s _ _ k_tP
    replace k_z3 := s _ _ k_z3
    replace k_r3 := s _ _ k_r3
    replace k_tT := s _ _ k_tT
    replace k_tQ := s _ _ k_tQ
    replace Dc := Dc.keep s
    replace Fc := Fc.trans (Fr.same s)
    replace Rc := Rc.keep fun b o h e => s b o e
    replace Xc := Xc.same s
    generalize upd H32 lN (.lst [V.ref tP, .ref tQ]) = H33 at *
    clear s
    have lx := Xc.len
    rw [List.length_map] at lx
    have lx1 : xs.length = 1 := lx
    refine ⟨_, rfl, lN, la, _, _, rfl, rfl, k_lN, k_la, Nat.le_trans (show 2 + xs.length ≤ 1000000 by omega) (by decide), fun lC h_lC => ?_⟩
    have s := same_new (o := .lst ([V.ref tP, .ref tQ] ++ xs)) h_lC
    have k_lC := upd_same (H := H33) (a := lC) (o := .lst ([V.ref tP, .ref tQ] ++ xs))
    have n_lC := nw Dc k_d h_lC
    replace k_d := s _ _ k_d
    replace k_la := s _ _ k_la
    replace k_z1 := s _ _ k_z1
    replace k_r1 := s _ _ k_r1
    replace k_tA := s _ _ k_tA
    replace k_z2 := s _ _ k_z2
    replace k_r2 := s _ _ k_r2
    replace k_tB := s _ _ k_tB
    replace k_tE := s _ _ k_tE
    replace k_tN := s _ _ k_tN
    replace k_tP := s _ _ k_tP
    replace k_z3 := s _ _ k_z3
    replace k_r3 := s _ _ k_r3
    replace k_tT := s _ _ k_tT
    replace k_tQ := s _ _ k_tQ
    replace k_lN := s _ _ k_lN
    replace Dc := Dc.keep s
    replace Fc := Fc.trans (Fr.same s)
    replace Rc := Rc.keep fun b o h e => s b o e
    replace Xc := Xc.same s
    generalize upd H33 lC (.lst ([V.ref tP, .ref tQ] ++ xs)) = H34 at *
    clear s
    have len26 : es.length ≤ 26 := by rw [Paired.length Rc, List.length_map]; exact l26
    refine ⟨_, rfl, _, rfl, 1, rfl, L, -1, cl, rfl, rfl, hsz, hatl, d, _, rfl, DPut.k (k := .inr (ch cl)) k_d (Nat.lt_of_le_of_lt (show es.length ≤ 1000000 by omega) (by decide)), ?_⟩
    rw [putK_old hv1]
    have w1 : Dt (fun b => b ≠ p ∧ b ≠ d) H34 (.ref lC) (rowsD (plainR n m o t)) := by
      have e1 : ((n - 1 : Nat) : Int) = (n : Int) - 1 := by omega
      unfold rowsD plainR
      rw [List.map_append]
      refine .lst k_lC n_lC (by rw [List.length_append]; simp; omega) (dtAll_app (.cons ?_ (.cons ?_ .nil)) Xc)
      · unfold rowD
        rw [e1]
        refine .tup k_tP n_tP (by simp) (.cons (.tup k_tN n_tN (by simp) (.cons (.str _) (.cons (.tup k_tE n_tE (by simp) (.cons (.str _) (.cons ?_ (.cons ?_ .nil)))) .nil))) (.cons (.int _) .nil))
        · exact .tup k_tA n_tA (by simp) (.cons (.str _) (.cons (dt_intsL k_r1 n_r1 (by rw [List.length_replicate]; omega)) (.cons (.int _) (.cons (.int _) .nil))))
        · exact .tup k_tB n_tB (by simp) (.cons (.str _) (.cons (dt_intsL k_r2 n_r2 (by rw [List.length_replicate]; omega)) (.cons (.int _) .nil)))
      · exact .tup k_tQ n_tQ (by simp) (.cons (.tup k_tT n_tT (by simp) (.cons (.str _) (.cons (dt_intsL k_r3 n_r3 (by rw [List.length_replicate]; omega)) (.cons (.int _) (.cons (.int _) .nil))))) (.cons (.int _) .nil))
    have w2 := rowsIn_put (c := cl) w1 Rc
    have w3 := w2.keep (H' := upd H34 d (.dK (es.map fun kv => if kv.1 = .inr (ch cl) then (kv.1, .ref lC) else kv))) (upd_keep fun b h => h.2)
    have D60 := Dc.upd (o := .dK (es.map fun kv => if kv.1 = .inr (ch cl) then (kv.1, V.ref lC) else kv)) nd
    have F60 := Fc.new (o := .dK (es.map fun kv => if kv.1 = .inr (ch cl) then (kv.1, V.ref lC) else kv)) hd0
    have k60 := upd_same (H := H34) (a := d) (o := .dK (es.map fun kv => if kv.1 = .inr (ch cl) then (kv.1, V.ref lC) else kv))
    generalize upd H34 d (.dK (es.map fun kv => if kv.1 = .inr (ch cl) then (kv.1, V.ref lC) else kv)) = H60 at *
    refine ⟨_, rfl, _, rfl, _, rfl, (by show 1 ≤ sizeLine; decide), fun gl hgl => ⟨(by show 4 ≤ sizeLine; decide), fun rt hrt => ?_⟩⟩
    have s1 := same_new (o := .lst [V.int 0]) hgl
    have kg := upd_same (H := H60) (a := gl) (o := .lst [V.int 0])
    have ng := D60.ne hgl
    generalize upd H60 gl (.lst [V.int 0]) = H61 at *
    have s2 := same_new (o := .tup [.str L, nI n, .ref d, .ref gl]) hrt
    have nr := (D60.keep s1).ne hrt
    have S := s1.trans s2
    refine q (.ref rt) ⟨L, n, (L.cps.toList.map fun c => (c, baseR n)).map fun kv => if kv.1 = cl then (cl, plainR n m o t) else kv, [0]⟩ _ ?_ hLr (List.pairwise_singleton _ _) (F60.trans (Fr.same S)) (D60.keep S) ⟨rt, d, gl, _, rfl, upd_same, nr, S _ _ k60, nd, (w3.same S).weak fun b h => h.1, s2 _ _ kg, ng⟩
    have mp : ∀ kv ∈ (L.cps.toList.map fun c => (c, baseR n)).map (fun kv => if kv.1 = cl then (cl, plainR n m o t) else kv), kv.1 ∈ L.cps.toList ∧ rsOk n kv.2 := fun kv h => by
      rw [List.map_map] at h
      obtain ⟨c, hc, rfl⟩ := List.mem_map.mp h
      dsimp only [Function.comp]
      by_cases e : c = cl
      · rw [if_pos e]; exact ⟨clm, plainR_ok hn1 hm1 hm4 ho1 ho4 (by omega)⟩
      · rw [if_neg e]; exact ⟨hc, baseR_ok hn1⟩
    have mf : ((L.cps.toList.map fun c => (c, baseR n)).map (fun kv => if kv.1 = cl then (cl, plainR n m o t) else kv)).map (·.1) = L.cps.toList := by
      rw [List.map_map, List.map_map]
      have : ∀ l : List Nat, l.map (((fun x : Nat × RR => x.1) ∘ fun kv => if kv.1 = cl then (cl, plainR n m o t) else kv) ∘ fun c => (c, baseR n)) = l := fun l => by
        induction l with
        | nil => rfl
        | cons c r ih =>
          rw [List.map_cons, ih]
          dsimp only [Function.comp]
          by_cases e : c = cl
          · rw [if_pos e, e]
          · rw [if_neg e]
      exact this _
    exact ⟨hL, hn1, hn6, fun c hc => look_of_mem (by rw [mf]; exact hc), fun kv h => ⟨(mp kv h).2, (mp kv h).1⟩, by rw [mf]; exact hnd, by show 1 ≤ 6; decide, (fun g hg => by rw [List.mem_singleton.mp hg]; exact hn1), by show List.length _ ≤ 26; rw [List.length_map, List.length_map]; exact l26⟩
end

section
open AutoSeq1 (wpAny_loadPart')
open MeetsSeq MeetsSeq2 MeetsSeq3 SeqRoads2
variable {P : Program} {w : World}
theorem agree_from (a b : Addr) (us vs : Array Value) (m m2 : Nat) (o o2 : Option Addr) (f f2 : Array (Option Value)) (same : us.size = vs.size) (left : Nat) :
    ∀ at_ : Nat, us.size - at_ = left → MeetsIn P w (Builtin.«list.__eq__.loop» ⟨[.ref a, .ref b, rawInt at_, rawInt 3], []⟩)
      (fun A R s => (s.heap.get? a = some { cls := .type "list", data := .seq us m, dict := o, slots := f } ∧ s.heap.get? b = some { cls := .type "list", data := .seq vs m2, dict := o2, slots := f2 }) ∧
        (∀ k (q1 : k < us.size) (q2 : k < vs.size), SeqAt.EqIn P w A.in1 s us[k] vs[k] true) ∧ R (.ok (.ret (.bool false))) s) := by
  induction left with
  | zero =>
    rintro at_ hl A R ⟨h, g, ds, ts, ou⟩ ⟨⟨x1, x2⟩, x3, x4⟩
    have n1 : us[((at_ : Nat) : Int).toNat]? = none := by simp; omega
    have n2 : vs[((at_ : Nat) : Int).toNat]? = none := by simp; omega
    wp_walk using wpAny_loadPart' x1, wpAny_loadPart' x2
    rw [n1, n2]
    wp_walk using wpAny_loadPart' x1, wpAny_loadPart' x2
    show R (.ok (.ret (.bool (us.size != vs.size)))) _
    rw [same]
    simpa using x4
  | succ left ih =>
    rintro at_ hl A R ⟨h, g, ds, ts, ou⟩ ⟨⟨x1, x2⟩, x3, x4⟩
    have l1 : at_ < us.size := by omega
    have l2 : at_ < vs.size := by omega
    have n1 : us[((at_ : Nat) : Int).toNat]? = some us[at_] := by simp [l1]
    have n2 : vs[((at_ : Nat) : Int).toNat]? = some vs[at_] := by simp [l2]
    have next : ((at_ : Int) + 1) = ((at_ + 1 : Nat) : Int) := by push_cast; rfl
    wp_walk using wpAny_loadPart' x1, wpAny_loadPart' x2
    rw [n1, n2]
    refine wpAny_bind (x3 at_ l1 l2 _ _ ?_)
    wp_walk
    rw [next]
    refine ⟨plainId_quiet plain_eq_loop _, codeAny_builtin entry_eq_loop ?_⟩
    rw [Around.under_plainId plain_eq_loop _]
    exact ih (at_ + 1) (by omega) A R _ ⟨⟨x1, x2⟩, x3, x4⟩
theorem agree_lists (a b : Addr) (us vs : Array Value) (m m2 : Nat) (o o2 : Option Addr) (f f2 : Array (Option Value)) (same : us.size = vs.size) :
    MeetsIn P w (Builtin.«list.__ne__» ⟨[.ref a, .ref b], []⟩)
      (fun A R s => (s.heap.get? a = some { cls := .type "list", data := .seq us m, dict := o, slots := f } ∧ s.heap.get? b = some { cls := .type "list", data := .seq vs m2, dict := o2, slots := f2 }) ∧
        (∀ k (q1 : k < us.size) (q2 : k < vs.size), SeqAt.EqIn P w A.in1 s us[k] vs[k] true) ∧ R (.ok (.ret (.bool false))) s) := by
  rintro A R ⟨h, g, ds, ts, ou⟩ ⟨⟨x1, x2⟩, x3, x4⟩
  have sub := AutoSeq1.sub_list_list
  have nn : ¬ (us.size != vs.size) = true := by simp [same]
  wp_walk using wpAny_loadPart' x1, wpAny_loadPart' x2
  refine ⟨plainId_quiet plain_eq_loop _, codeAny_builtin entry_eq_loop ?_⟩
  rw [Around.under_plainId plain_eq_loop _]
  exact agree_from a b us vs m m2 o o2 f f2 same _ 0 rfl A R _ ⟨⟨x1, x2⟩, x3, x4⟩
theorem agree_tuples (a b : Addr) (us vs : Array Value) (m m2 : Nat) (o o2 : Option Addr) (f f2 : Array (Option Value)) (same : us.size = vs.size) :
    MeetsIn P w (Builtin.«tuple.__ne__» ⟨[.ref a, .ref b], []⟩)
      (fun A R s => (s.heap.get? a = some { cls := .type "tuple", data := .seq us m, dict := o, slots := f } ∧ s.heap.get? b = some { cls := .type "tuple", data := .seq vs m2, dict := o2, slots := f2 }) ∧
        (∀ k (q1 : k < us.size) (q2 : k < vs.size), SeqAt.EqIn P w A.in1 s us[k] vs[k] true) ∧ R (.ok (.ret (.bool false))) s) :=
  .of_wp fun A R s full => by
    obtain ⟨h, g, ds, ts, ou⟩ := s
    obtain ⟨⟨x1, x2⟩, x3, x4⟩ := full
    have sub := AutoSeq1.sub_tuple_tuple
    have both : (us.toList.zip vs.toList).length = us.size := by simp [same]
    wp_walk using wpAny_loadPart' x1, wpAny_loadPart' x2, wpAny_forIn_list _ (fun rest c s' => c.1 = none ∧ s' = ⟨h, g, ds, ts, ou⟩ ∧ ∃ k, rest = (us.toList.zip vs.toList).drop k) _
    case turn =>
      rintro ⟨y, x⟩ rest c s' ⟨none_, rfl, k, left⟩
      have lt : k < (us.toList.zip vs.toList).length := by
        rcases Nat.lt_or_ge k (us.toList.zip vs.toList).length with z | z
        · exact z
        · rw [List.drop_of_length_le z] at left; cases left
      have l1 : k < us.size := both ▸ lt
      have l2 : k < vs.size := same ▸ l1
      rw [List.drop_eq_getElem_cons lt] at left
      injection left with pair tail
      obtain rfl : y = us[k] := by have := congrArg Prod.fst pair; simpa using this
      obtain rfl : x = vs[k] := by have := congrArg Prod.snd pair; simpa using this
      refine wpAny_bind (x3 k l1 l2 _ _ ?_)
      wp_walk
      exact ⟨rfl, rfl, k + 1, tail⟩
    case fin =>
      rintro ⟨c1, c2⟩ s' ⟨none_, rfl, k, left⟩
      simp only at none_
      subst none_
      wp_walk
      exact ⟨_, rfl, by simpa [Builtin.Tuple.tupleCompareSizes, bne, same] using x4⟩
    case h => exact ⟨rfl, rfl, 0, rfl⟩
theorem ne_agreeT {A : Around} {E Q : Value → Shared → Prop} {s : Shared} {a b : Addr} {us vs : Array Value} (x : s.heap.IsTuple a us) (y : s.heap.IsTuple b vs) (same : us.size = vs.size) (hu : A.units < cLine)
    (each : ∀ k (q1 : k < us.size) (q2 : k < vs.size), SeqAt.EqIn P w A.in1 s us[k] vs[k] true) (q : Q (.bool false) s) : wpAny (model P w) A (compareOp .NotEq (.ref a) (.ref b)) Q E s := by
  obtain ⟨⟨c1, o, t1, f⟩, x1, rfl, m, rfl⟩ := x
  obtain ⟨⟨c2, o2, t2, f2⟩, y1, rfl, m2, rfl⟩ := y
  refine wpAny_richCompare_same_room (T := "tuple") (op := .NotEq) ⟨_, x1, rfl⟩ ⟨_, y1, rfl⟩ F.slot_tuple_ne (call_meetsIn F.slot_tuple_ne ⟨_, x1, rfl⟩ F.entry_tuple_ne (F.args_tuple_ne_2 _ _) (agree_tuples a b us vs m m2 o o2 f f2 same) ⟨⟨x1, y1⟩, each, ?_⟩) hu
  exact show Value.bool false ≠ Value.notImplemented ∧ Q (.bool false) s from ⟨(fun e => nomatch e), q⟩
theorem ne_agree {A : Around} {E Q : Value → Shared → Prop} {s : Shared} {a b : Addr} {us vs : Array Value} (x : s.heap.IsList a us) (y : s.heap.IsList b vs) (same : us.size = vs.size) (hu : A.units < cLine)
    (each : ∀ k (q1 : k < us.size) (q2 : k < vs.size), SeqAt.EqIn P w A.in1 s us[k] vs[k] true) (q : Q (.bool false) s) : wpAny (model P w) A (compareOp .NotEq (.ref a) (.ref b)) Q E s := by
  obtain ⟨⟨c1, o, t1, f⟩, x1, rfl, m, rfl⟩ := x
  obtain ⟨⟨c2, o2, t2, f2⟩, y1, rfl, m2, rfl⟩ := y
  refine wpAny_richCompare_same_room (T := "list") (op := .NotEq) ⟨_, x1, rfl⟩ ⟨_, y1, rfl⟩ F.slot_list_ne (call_meetsIn F.slot_list_ne ⟨_, x1, rfl⟩ F.entry_list_ne (F.args_list_ne_2 _ _) (agree_lists a b us vs m m2 o o2 f f2 same) ⟨⟨x1, y1⟩, each, ?_⟩) hu
  exact show Value.bool false ≠ Value.notImplemented ∧ Q (.bool false) s from ⟨(fun e => nomatch e), q⟩
end
inductive EqH (K : PySem.W.Frag) (H : Hp) : Nat → V → V → Prop
  | dat {n : Nat} {x y : V} {d : PyData} : Dp K H x d → Dp K H y d → d.canLay0 = true → d.depth ≤ n → EqH K H n x y
  | lst {n : Nat} {a b : Addr} {xs ys : List V} : H a = some (.lst xs) → H b = some (.lst ys) → xs.length = ys.length → (∀ (j : Nat) (x y : V), xs[j]? = some x → ys[j]? = some y → EqH K H n x y) → EqH K H (n + 1) (.ref a) (.ref b)
  | tup {n : Nat} {a b : Addr} {xs ys : List V} : H a = some (.tup xs) → H b = some (.tup ys) → xs.length = ys.length → (∀ (j : Nat) (x y : V), xs[j]? = some x → ys[j]? = some y → EqH K H n x y) → EqH K H (n + 1) (.ref a) (.ref b)
  | dic {n : Nat} {a b : Addr} {es fs : List (Key × V)} : H a = some (.dK es) → H b = some (.dK fs) → es.length = fs.length → (∀ k v, (k, v) ∈ es → (valV fs k).isSome = true) → (∀ k v u, (k, v) ∈ es → valV fs k = some u → EqH K H n v u) → EqH K H (n + 1) (.ref a) (.ref b)
theorem all_true (n : Nat) : ((List.range n).all fun _ => true) = true := by
  rw [List.all_eq_true]
  intro _ _
  rfl
theorem pairs_mem : ∀ {es : List (Key × V)} {vs : List (Key × Value)} {k : Key} {u : Value}, KV es vs → (k, u) ∈ vs → ∃ v, (k, v) ∈ es ∧ RelV v u
  | _, _, _, _, .nil, h => by cases h
  | (_, v) :: _, _, _, _, .cons r t, h => by
    rcases List.mem_cons.mp h with e | e
    · cases e
      obtain ⟨e1, e2⟩ := r
      exact ⟨v, List.mem_cons.mpr (.inl (congrArg (fun z => (z, v)) (show _ = _ from e1.symm))), e2⟩
    · obtain ⟨x, e1, e2⟩ := pairs_mem t e
      exact ⟨x, List.mem_cons_of_mem _ e1, e2⟩
theorem vals_at {xs : List V} {us : List Value} (r : Vals xs us) {k : Nat} (hk : k < us.toArray.size) : ∃ x, xs[k]? = some x ∧ RelV x us.toArray[k] := by
  have hx : k < xs.length := by rw [r.length]; simpa using hk
  obtain ⟨u, hu, ru⟩ := r.get (List.getElem?_eq_getElem hx)
  refine ⟨_, List.getElem?_eq_getElem hx, ?_⟩
  have : us.toArray[k] = u := by
    have := List.getElem?_eq_some_iff.mp hu
    simpa using this.2
  rw [this]
  exact ru
section
variable {X : Cx} {pins : List (Addr × Obj)} {σ : List (Option V)} {H : Hp} {s : Shared}
theorem EqH.tree (I : Inv X pins σ H s) {n : Nat} {x y : V} (h : EqH X.K H n x y) : ∀ {v u : Value}, RelV x v → RelV y u → PySem.W.EqTree X.prog X.w s n v u true := by
  induction h with
  | @dat n x y d h1 h2 hl hd =>
    intro v u rx ry
    obtain ⟨as, r1⟩ := Dp.reads I d x v h1 rx
    obtain ⟨bs, r2⟩ := Dp.reads I d y u h2 ry
    have pl := PyData.plain_of_canLay0 d hl
    refine .leaf fun A hu => ?_
    have := SeqAt.eqAt_plain d d A s v u as bs r1 r2 pl pl (by rw [Nat.min_self]; omega)
    rw [SeqAt.eqv_refl_plain d pl] at this
    exact this
  | @lst n a b xs ys h1 h2 hl hi ih =>
    intro v u rx ry
    cases rx
    cases ry
    by_cases e : a = b
    · subst e
      exact .same
    obtain ⟨us, r1, ⟨o1, m1, g1, g2, _, g3⟩, _⟩ := I.list (SqL.of h1)
    obtain ⟨vs, r2, ⟨o2, m2, k1, k2, _, k3⟩, _⟩ := I.list (SqL.of h2)
    have := PySem.W.EqTree.lists (prog := X.prog) (w := X.w) (n := n) (e := fun _ => true) e ⟨o1, g1, g2, m1, g3⟩ ⟨o2, k1, k2, m2, k3⟩ (by simp only [List.size_toArray]; rw [← r1.length, ← r2.length, hl]) fun j q1 q2 => by
      obtain ⟨x, hx, rx⟩ := vals_at r1 q1
      obtain ⟨y, hy, ry⟩ := vals_at r2 q2
      exact ih j x y hx hy rx ry
    rw [all_true] at this
    exact this
  | @tup n a b xs ys h1 h2 hl hi ih =>
    intro v u rx ry
    cases rx
    cases ry
    by_cases e : a = b
    · subst e
      exact .same
    obtain ⟨us, r1, k1, _⟩ := I.tuple (SqT.of h1)
    obtain ⟨vs, r2, k2, _⟩ := I.tuple (SqT.of h2)
    have := PySem.W.EqTree.tuples (prog := X.prog) (w := X.w) (n := n) (e := fun _ => true) e k1 k2 fun j q1 q2 => by
      obtain ⟨x, hx, rx⟩ := vals_at r1 q1
      obtain ⟨y, hy, ry⟩ := vals_at r2 q2
      exact ih j x y hx hy rx ry
    have len : us.length = vs.length := by rw [← r1.length, ← r2.length, hl]
    rw [all_true] at this
    simpa [len] using this
  | @dic n a b es fs h1 h2 hl hs hi ih =>
    intro v u rx ry
    cases rx
    cases ry
    by_cases e : a = b
    · subst e
      exact .same
    obtain ⟨_, n1, vs, r1, d1⟩ := (show ObjOk X.prog X.w H s.heap a (.dK es) from I.hok a _ h1)
    obtain ⟨_, n2, us, r2, d2⟩ := (show ObjOk X.prog X.w H s.heap b (.dK fs) from I.hok b _ h2)
    have := PySem.W.EqTree.dicts (prog := X.prog) (w := X.w) (n := n) (e := fun _ => true) e n1 n2 d1 d2 fun k v y hm hy => by
      obtain ⟨x, hx, rx⟩ := pairs_mem r1 hm
      have rl := r2.val k
      rw [hy] at rl
      cases hq : valV fs k with
      | none => rw [hq] at rl; exact (show False from rl).elim
      | some z =>
        rw [hq] at rl
        exact ih k x z hx hq rx rl
    have all : (vs.all fun p => (PySem.valueAt us p.1).isSome && true) = true := by
      rw [List.all_eq_true]
      rintro ⟨k, v⟩ hm
      obtain ⟨x, hx, _⟩ := pairs_mem r1 hm
      have rl := r2.val k
      have := hs k x hx
      cases hq : valV fs k with
      | none => rw [hq] at this; cases this
      | some z =>
        rw [hq] at rl
        cases hp : PySem.valueAt us k with
        | none => rw [hp] at rl; exact (show False from rl).elim
        | some _ => simp [hp]
    have len : vs.length = us.length := by rw [← r1.length, ← r2.length, hl]
    rw [all, len] at this
    simpa using this
end
theorem roomH {k : Nat} {A : Around} (r : Room k A) : A.units + 200 < cLine := by have := r.un; omega
def rNeH (K : PySem.W.Frag) : R2 := fun x y H Q => ∃ (a b : Addr) (xs ys : List V) (n : Nat), x = .ref a ∧ y = .ref b ∧ H a = some (.lst xs) ∧ H b = some (.lst ys) ∧ xs.length = ys.length ∧ (∀ (j : Nat) (x y : V), xs[j]? = some x → ys[j]? = some y → EqH K H n x y) ∧ n ≤ 190 ∧ Q (.bl false) H
theorem op_neH {X : Cx} (hu : X.A.units + 200 < cLine) : OpR X (compareOp .NotEq) (rNeH X.K) := by
  intro pins s σ H x y v u Q I rx ry h
  obtain ⟨a, b, xs, ys, n, rfl, rfl, h1, h2, hl, hi, hn, q⟩ := h
  cases rx
  cases ry
  obtain ⟨us, r1, ⟨o1, m1, g1, g2, _, g3⟩, _⟩ := I.list (SqL.of h1)
  obtain ⟨vs, r2, ⟨o2, m2, k1, k2, _, k3⟩, _⟩ := I.list (SqL.of h2)
  refine ne_agree ⟨o1, g1, g2, m1, g3⟩ ⟨o2, k1, k2, m2, k3⟩ (by simp only [List.size_toArray]; rw [← r1.length, ← r2.length, hl]) (by omega) (fun j q1 q2 => ?_) ⟨.bl _, H, I, rfl, q⟩
  obtain ⟨x, hx, rx⟩ := vals_at r1 q1
  obtain ⟨y, hy, ry⟩ := vals_at r2 q2
  exact ((hi j x y hx hy).tree I rx ry).at _ (by show X.A.units + 1 + n < cLine; omega)
def rNeHT (K : PySem.W.Frag) : R2 := fun x y H Q => ∃ (a b : Addr) (xs ys : List V) (n : Nat), x = .ref a ∧ y = .ref b ∧ H a = some (.tup xs) ∧ H b = some (.tup ys) ∧ xs.length = ys.length ∧ (∀ (j : Nat) (x y : V), xs[j]? = some x → ys[j]? = some y → EqH K H n x y) ∧ n ≤ 190 ∧ Q (.bl false) H
theorem op_neHT {X : Cx} (hu : X.A.units + 200 < cLine) : OpR X (compareOp .NotEq) (rNeHT X.K) := by
  intro pins s σ H x y v u Q I rx ry h
  obtain ⟨a, b, xs, ys, n, rfl, rfl, h1, h2, hl, hi, hn, q⟩ := h
  cases rx
  cases ry
  obtain ⟨us, r1, k1, _⟩ := I.tuple (SqT.of h1)
  obtain ⟨vs, r2, k2, _⟩ := I.tuple (SqT.of h2)
  refine ne_agreeT k1 k2 (by simp only [List.size_toArray]; rw [← r1.length, ← r2.length, hl]) (by omega) (fun j q1 q2 => ?_) ⟨.bl _, H, I, rfl, q⟩
  obtain ⟨x, hx, rx⟩ := vals_at r1 q1
  obtain ⟨y, hy, ry⟩ := vals_at r2 q2
  exact ((hi j x y hx hy).tree I rx ry).at _ (by show X.A.units + 1 + n < cLine; omega)
theorem lets_ok {L : Str} (h : Lets L) : PyData.strOk L = true := by
  unfold PyData.strOk
  rw [Array.all_eq_true_iff_forall_mem]
  intro c hc
  have := h.2.2 c (by simpa using hc)
  simp
  omega

theorem lay_rows : ∀ rs : RR, PyData.canLayAll0 (rs.map rowD) = true
  | [] => by simp only [List.map_nil, PyData.canLayAll0]
  | r :: t => by simp only [List.map_cons, PyData.canLayAll0, rowD, PyData.canLay0, r.1.lay, lay_rows t, Bool.and_self]
theorem lay_rowsD (rs : RR) : (rowsD rs).canLay0 = true := by
  simp only [rowsD, PyData.canLay0]
  exact lay_rows rs
theorem rows_in {ok : Addr → Prop} {H : Hp} {k : Key} {v : V} : ∀ {es : List (Key × V)} {kvs : List (Nat × RR)}, rowsIn ok H es kvs → (k, v) ∈ es → ∃ c rs, (c, rs) ∈ kvs ∧ k = .inr (ch c) ∧ Dt ok H v (rowsD rs)
  | _, _, .nil, h => by cases h
  | _, (c, rs) :: _, .cons r t, h => by
    rcases List.mem_cons.mp h with e | e
    · subst e
      exact ⟨c, rs, List.mem_cons_self, r.1, r.2⟩
    · obtain ⟨c, rs, h1, h2⟩ := rows_in t e
      exact ⟨c, rs, List.mem_cons_of_mem _ h1, h2⟩
theorem nat_ints (gs : List Nat) : gs.map nI = (gs.map fun g : Nat => (g : Int)).map V.int := by
  rw [List.map_map]
  rfl
theorem RlAt.eqT {K : PySem.W.Frag} {ok ok' : Addr → Prop} {H : Hp} {v u : V} {R : Rl} (h : R.ok) (x : RlAt ok H v R) (y : RlAt ok' H u R) (n : Nat) : ∃ (a b : Addr) (xs ys : List V), v = .ref a ∧ u = .ref b ∧ H a = some (.tup xs) ∧ H b = some (.tup ys) ∧ xs.length = ys.length ∧ ∀ (j : Nat) (x y : V), xs[j]? = some x → ys[j]? = some y → EqH K H (n + 9) x y := by
  obtain ⟨a, d, g, es, rfl, a1, _, a2, _, a3, a4, _⟩ := x
  obtain ⟨b, e, f, fs, rfl, b1, _, b2, _, b3, b4, _⟩ := y
  have key : EqH K H (n + 9) (.ref d) (.ref e) := by
    refine .dic a2 b2 ((Paired.length a3).trans (Paired.length b3).symm) (fun k v hm => ?_) fun k v u hm hu => ?_
    · obtain ⟨c, rs, m1, rfl, _⟩ := rows_in a3 hm
      obtain ⟨z, hz, _⟩ := rows_val b3 (look_nd h.nd m1)
      rw [hz]
      rfl
    · obtain ⟨c, rs, m1, rfl, dv⟩ := rows_in a3 hm
      obtain ⟨z, hz, dz⟩ := rows_val b3 (look_nd h.nd m1)
      rw [hz] at hu
      cases hu
      have : (rowsD rs).depth ≤ 7 := depth_rowsD (h.rs _ m1).1
      exact .dat (dv.dp (lay_rowsD rs)) (dz.dp (lay_rowsD rs)) (lay_rowsD rs) (by omega)
  have good : EqH K H (n + 9) (.ref g) (.ref f) := by
    rw [nat_ints] at a4 b4
    refine .dat (dp_intsL (SqL.of a4)) (dp_intsL (SqL.of b4)) (by simp only [PyData.canLay0]; exact lay_ints _) ?_
    have := dep_ints (R.good.map fun g : Nat => (g : Int))
    simp only [PyData.depth]
    omega
  refine ⟨_, _, _, _, rfl, rfl, a1, b1, rfl, fun j x y hx hy => ?_⟩
  match j with
  | 0 => cases hx; cases hy; exact .dat (.str _) (.str _) (by simp only [PyData.canLay0]; exact lets_ok h.L) (Nat.zero_le _)
  | 1 => cases hx; cases hy; exact .dat (.int _) (.int _) (by simp only [PyData.canLay0]) (Nat.zero_le _)
  | 2 => cases hx; cases hy; exact key
  | 3 => cases hx; cases hy; exact good
  | j + 4 => cases hx
theorem RlAt.eqH {K : PySem.W.Frag} {ok ok' : Addr → Prop} {H : Hp} {v u : V} {R : Rl} (h : R.ok) (x : RlAt ok H v R) (y : RlAt ok' H u R) (n : Nat) : EqH K H (n + 10) v u := by
  obtain ⟨a, b, xs, ys, rfl, rfl, h1, h2, hl, hi⟩ := x.eqT (K := K) h y n
  exact .tup h1 h2 hl hi


def fitsR (R : Rl) : Prop := turnR R ≤ 4 ∧ R.L.length * (fewR R + turnR R) ^ R.n ≤ 600
def sp_toldJ (TT : List NdefX.NTab) : Sp := fun vs H Q _ => ∃ (v : V) (R : Rl), vs = [v] ∧ RlAt (fun _ => True) H v R ∧ R.ok ∧ Rises R.L ∧ R.good.Pairwise (· < ·) ∧ fitsR R ∧ NdefX.TabsN TT H ∧ ∀ H', LamX.ExtN H H' → NdefX.TabsN TT H' → Q (.str (Str.ofString "judge")) H'
def sp_toldM (TT : List NdefX.NTab) : Sp := fun vs H Q _ => ∃ (v : V) (R : Rl), vs = [v] ∧ RlAt (fun _ => True) H v R ∧ R.ok ∧ ¬ fitsR R ∧ NdefX.TabsN TT H ∧ ∀ H', LamX.ExtN H H' → NdefX.TabsN TT H' → Q (.str (Str.ofString "TooMany")) H'
section
variable {P : Program} {w : World} {K : PySem.W.Frag} {mg : Str → Option Value} {base : Heap}
theorem ok_toldJ (T : Txt K mg) (B : Tbs T base) (M : KTab K w T.a_MADE_OF_OTHERS made) {TT : List NdefX.NTab} (hTT : TTj T TT) : FnOk P w K mg base CX0 17 T.f__law_told T.d__law_told ["rules"] (sp_toldJ TT) := by
  have G_judge_made : FnOk P w K mg base (L2.CX P w) 15 T.f_judge_made T.d_judge_made ["rules"] (sp_judge_made P w TT) := toX (ok_judge_made T B M hTT)
  have G_is_judge : FnOk P w K mg base CX0 5 T.f_is_judge T.d_is_judge ["thing"] (sp_is_judge P w) := ok_is_judge T
  refine T.F__law_told.ok sc__law_told (fun vs H Q E h => ?_) (fun cdv A outer s H vs Q E hr h => ?_)
  · obtain ⟨v, R, rfl, _⟩ := h
    rfl
  obtain ⟨v, R, rfl, hR, hok, hri, hup, hfit, hT, q⟩ := h
  refine ⟨_, (pss_cons (ps_set (i := 1) sc__law_told.nd rfl (Or.inl rfl) pe_non) (pss_cons (ps_set (i := 2) sc__law_told.nd rfl (Or.inl rfl) pe_non) (pss_cons (ps_try_keep (i := 3) rfl rfl sc__law_told.nd rfl rfl ⟨rfl, by decide, .inl T.g_HeapError⟩ (fun W pn xe tk _ => (pss_one (ps_set (i := 1) sc__law_told.nd rfl (Or.inl rfl) (pe_callS G_judge_made (hr.mono (by omega)) (by rfl) T.m_judge_made T.F_judge_made.kp T.b_judge_made (fun σ => passAt tk σ) (pa_cons (pv 0) pa_nil))))) (fun a cls d pn => (pss_one (ps_set (i := 2) sc__law_told.nd rfl (Or.inl rfl) (pv 3))))) (pss_cons (ps_if (pt_cmpR op_isN (pv 2) pe_non (nomark _)) (pss_one (ps_ret (pe_ix ix_list (pe_lst (pa_cons pe_str (pa_cons pe_str pa_nil))) (pe_callTy call_int1 (by rfl) T.z_int (by decide +kernel) (pa_cons (pe_call G_is_judge (hr.mono (by omega)) (by rfl) T.m_is_judge T.F_is_judge.kp T.b_is_judge .nil pass0 (pa_cons (pv 1) pa_nil)) pa_nil)) (fun _ _ => rfl)))) pss_nil) (pss_cons (ps_if (pt_val (pe_callB (call_isXT T.E_TooMany) (by rfl) T.z_isinstance (by decide +kernel) (pa_cons (pv 2) (pa_cons (pe_tup (pa_cons (pe_glob (v := .ref T.C_NoFit) rfl T.g_NoFit rfl) (pa_cons (pe_glob (v := .ref T.C_NoLetter) rfl T.g_NoLetter rfl) (pa_cons (pe_glob (v := .ref T.C_NoName) rfl T.g_NoName rfl) (pa_cons (pe_glob (v := .ref T.C_NoNumber) rfl T.g_NoNumber rfl) (pa_cons (pe_glob (v := .ref T.C_NoRow) rfl T.g_NoRow rfl) (pa_cons (pe_glob (v := .ref T.C_NoText) rfl T.g_NoText rfl) (pa_cons (pe_glob (v := .ref T.C_NoTree) rfl T.g_NoTree rfl) pa_nil)))))))) pa_nil)))) (pss_one (ps_ret pe_str)) pss_nil) (pss_one (ps_ret (pe_ix ix_list (pe_lst (pa_cons pe_str (pa_cons pe_str pa_nil))) (pe_callTy call_int1 (by rfl) T.z_int (by decide +kernel) (pa_cons (pe_and (pe_callB (call_isX T.E_TooMany) (by rfl) T.z_isinstance (by decide +kernel) (pa_cons (pv 2) (pa_cons (pe_bltn (v := .ty "ValueError") (by rfl) T.z_ValueError (by decide +kernel) rfl) pa_nil))) (pe_one (pe_callB (call_isX T.E_TooMany) (by rfl) T.z_isinstance (by decide +kernel) (pa_cons (pv 2) (pa_cons (pe_glob (v := .ref T.C_TooMany) rfl T.g_TooMany rfl) pa_nil))))) pa_nil)) (fun _ _ => rfl))))))))), ?_⟩
  refine ⟨_, rfl, v, R, rfl, hR, hok, hri, hT, hfit.1, hfit.2, fun j d g xs H1 e1 T1 hd0 hg0 hj hd hx hrow hg => ?_⟩
  have pok := pl_ok hok
  have few4 : fewR R ≤ 4 := fewP_le _ 0 (by decide) pok
  have turn1 : 1 ≤ turnR R := (le12 (turnP_12 (n := R.n) _ 1 (by decide) pok)).1
  refine ⟨_, rfl, rfl, _, rfl, ?_⟩
  rw [decide_eq_true rfl]
  refine iteT ⟨(by show 2 ≤ sizeLine; decide), fun wl hwl => ?_⟩
  have s2 := same_new hwl (o := .lst [.str (Str.ofString "odd"), .str (Str.ofString "judge")])
  have k2 := upd_same (H := H1) (a := wl) (o := .lst [.str (Str.ofString "odd"), .str (Str.ofString "judge")])
  generalize upd H1 wl (.lst [.str (Str.ofString "odd"), .str (Str.ofString "judge")]) = H2 at *
  refine ⟨_, rfl, j, d, g, R.L, R.n, fewR R, turnR R, xs, fsR R, R.good, rfl, s2 _ _ hj, s2 _ _ hd, hx.keep fun b ys h => s2 _ _ h, hrow, hok.L, hri, hok.n1, hok.n6, few4, turn1, hfit.1, hfit.2, fun key hk => fsR_lt hok (keysOf_mem hk).1 _, s2 _ _ hg, hup, by have := hok.g6; omega, hok.gn, fun H3 s3 => ?_⟩
  refine .inr ⟨true, rfl, wl, _, 1, _, rfl, rfl, SqL.of (s3 _ _ k2), atI_nat (j := 1) rfl, ?_⟩
  have S := s2.trans s3
  exact q _ (e1.trans (.of S)) (T1.ext S)
theorem ok_toldM (T : Txt K mg) (B : Tbs T base) (M : KTab K w T.a_MADE_OF_OTHERS made) {TT : List NdefX.NTab} (hTT : TTj T TT) : FnOk P w K mg base CX0 17 T.f__law_told T.d__law_told ["rules"] (sp_toldM TT) := by
  have G_judge_made : FnOk P w K mg base (L2.CX P w) 15 T.f_judge_made T.d_judge_made ["rules"] (spB_judge_made T.C_TooMany TT) := okB_judge_made T B M hTT
  have G_is_judge : FnOk P w K mg base CX0 5 T.f_is_judge T.d_is_judge ["thing"] (sp_is_judge P w) := ok_is_judge T
  refine T.F__law_told.ok sc__law_told (fun vs H Q E h => ?_) (fun cdv A outer s H vs Q E hr h => ?_)
  · obtain ⟨v, R, rfl, _⟩ := h
    rfl
  obtain ⟨v, R, rfl, hR, hok, hfit, hT, q⟩ := h
  refine ⟨_, (pss_cons (ps_set (i := 1) sc__law_told.nd rfl (Or.inl rfl) pe_non) (pss_cons (ps_set (i := 2) sc__law_told.nd rfl (Or.inl rfl) pe_non) (pss_cons (ps_try_keep (i := 3) rfl rfl sc__law_told.nd rfl rfl ⟨rfl, by decide, .inl T.g_HeapError⟩ (fun W pn xe tk _ => (pss_one (ps_set (i := 1) sc__law_told.nd rfl (Or.inl rfl) (pe_callS G_judge_made (hr.mono (by omega)) (by rfl) T.m_judge_made T.F_judge_made.kp T.b_judge_made (fun σ => passAt tk σ) (pa_cons (pv 0) pa_nil))))) (fun a cls d pn => (pss_one (ps_set (i := 2) sc__law_told.nd rfl (Or.inl rfl) (pv 3))))) (pss_cons (ps_if (pt_cmpR op_isN (pv 2) pe_non (nomark _)) (pss_one (ps_ret (pe_ix ix_list (pe_lst (pa_cons pe_str (pa_cons pe_str pa_nil))) (pe_callTy call_int1 (by rfl) T.z_int (by decide +kernel) (pa_cons (pe_call G_is_judge (hr.mono (by omega)) (by rfl) T.m_is_judge T.F_is_judge.kp T.b_is_judge .nil pass0 (pa_cons (pv 1) pa_nil)) pa_nil)) (fun _ _ => rfl)))) pss_nil) (pss_cons (ps_if (pt_val (pe_callB (call_isXT T.E_TooMany) (by rfl) T.z_isinstance (by decide +kernel) (pa_cons (pv 2) (pa_cons (pe_tup (pa_cons (pe_glob (v := .ref T.C_NoFit) rfl T.g_NoFit rfl) (pa_cons (pe_glob (v := .ref T.C_NoLetter) rfl T.g_NoLetter rfl) (pa_cons (pe_glob (v := .ref T.C_NoName) rfl T.g_NoName rfl) (pa_cons (pe_glob (v := .ref T.C_NoNumber) rfl T.g_NoNumber rfl) (pa_cons (pe_glob (v := .ref T.C_NoRow) rfl T.g_NoRow rfl) (pa_cons (pe_glob (v := .ref T.C_NoText) rfl T.g_NoText rfl) (pa_cons (pe_glob (v := .ref T.C_NoTree) rfl T.g_NoTree rfl) pa_nil)))))))) pa_nil)))) (pss_one (ps_ret pe_str)) pss_nil) (pss_one (ps_ret (pe_ix ix_list (pe_lst (pa_cons pe_str (pa_cons pe_str pa_nil))) (pe_callTy call_int1 (by rfl) T.z_int (by decide +kernel) (pa_cons (pe_and (pe_callB (call_isX T.E_TooMany) (by rfl) T.z_isinstance (by decide +kernel) (pa_cons (pv 2) (pa_cons (pe_bltn (v := .ty "ValueError") (by rfl) T.z_ValueError (by decide +kernel) rfl) pa_nil))) (pe_one (pe_callB (call_isX T.E_TooMany) (by rfl) T.z_isinstance (by decide +kernel) (pa_cons (pv 2) (pa_cons (pe_glob (v := .ref T.C_TooMany) rfl T.g_TooMany rfl) pa_nil))))) pa_nil)) (fun _ _ => rfl))))))))), ?_⟩
  have hB : 4 < turnR R ∨ 600 < R.L.length * (fewR R + turnR R) ^ R.n := by
    rcases Nat.lt_or_ge 4 (turnR R) with z | z
    · exact .inl z
    · rcases Nat.lt_or_ge 600 (R.L.length * (fewR R + turnR R) ^ R.n) with y | y
      · exact .inr y
      · exact absurd ⟨z, y⟩ hfit
  refine ⟨_, rfl, v, R, rfl, hR, hok, hT, hB, fun H1 e1 T1 => ⟨T.em_TooMany_HeapError, fun a ha => ?_⟩⟩
  have s1 := same_new (o := ExX a (.ref T.C_TooMany) none) ha
  refine ⟨_, rfl, _, rfl, rfl, _, rfl, ?_⟩
  rw [decide_eq_false (by intro e; cases e)]
  refine iteF ⟨_, rfl, (by show 7 ≤ sizeLine; decide), fun tp htp => ⟨a, tp, _, _, false, rfl, ?_, upd_same, .cons (.own _) (.cons (.own _) (.cons (.own _) (.cons (.own _) (.cons (.own _) (.cons (.own _) (.cons (.own _) .nil)))))), ?_, _, rfl, iteF ?_⟩⟩
  · exact same_new htp _ _ upd_same
  · show PySem.W.kitAny K (.ref T.C_TooMany) [.ref T.C_NoFit, .ref T.C_NoLetter, .ref T.C_NoName, .ref T.C_NoNumber, .ref T.C_NoRow, .ref T.C_NoText, .ref T.C_NoTree] = some false
    simp only [PySem.W.kitAny, T.ki_TooMany_NoFit, T.ki_TooMany_NoLetter, T.ki_TooMany_NoName, T.ki_TooMany_NoNumber, T.ki_TooMany_NoRow, T.ki_TooMany_NoText, T.ki_TooMany_NoTree]
  have s2 := same_new htp (o := .tup [.ref T.C_NoFit, .ref T.C_NoLetter, .ref T.C_NoName, .ref T.C_NoNumber, .ref T.C_NoRow, .ref T.C_NoText, .ref T.C_NoTree])
  have ha2 := s2 _ _ (upd_same (H := H1) (a := a) (o := ExX a (.ref T.C_TooMany) none))
  have S2 := s1.trans s2
  generalize upd (upd H1 a (ExX a (.ref T.C_TooMany) none)) tp (.tup [.ref T.C_NoFit, .ref T.C_NoLetter, .ref T.C_NoName, .ref T.C_NoNumber, .ref T.C_NoRow, .ref T.C_NoText, .ref T.C_NoTree]) = H2 at *
  refine ⟨(by show 2 ≤ sizeLine; decide), fun wl hwl => ?_⟩
  have s3 := same_new hwl (o := .lst [.str (Str.ofString "odd"), .str (Str.ofString "TooMany")])
  have k3 := upd_same (H := H2) (a := wl) (o := .lst [.str (Str.ofString "odd"), .str (Str.ofString "TooMany")])
  have ha3 := s3 _ _ ha2
  generalize upd H2 wl (.lst [.str (Str.ofString "odd"), .str (Str.ofString "TooMany")]) = H3 at *
  refine ⟨_, rfl, a, _, _, _, rfl, ha3, .ty _, T.ki_TooMany_ValueError, _, rfl, ?_⟩
  rw [if_pos rfl]
  refine ⟨_, rfl, a, _, _, _, rfl, ha3, .own _, T.ki_TooMany_TooMany, .inr ⟨true, rfl, wl, _, 1, _, rfl, rfl, SqL.of k3, atI_nat (j := 1) rfl, ?_⟩⟩
  have S := S2.trans s3
  exact q _ (e1.trans (.of S)) (T1.ext S)
end


def spLaw (K : PySem.W.Frag) : Sp := fun vs H Q _ => ∃ (a : Addr) (ns : List Int), vs = [.ref a] ∧ SqL K H a (ns.map V.int) ∧ ns.length ≤ 63 ∧ ∀ H', Q (.bl true) H'

def FrN (p : Addr) (H H' : Hp) : Prop := ∀ b o, b ≠ p → H b = some o → (∀ ps, o ≠ .tbl ps) → H' b = some o
theorem FrN.fr {p : Addr} {H H' : Hp} (f : Fr p H H') : FrN p H H' := fun b o n e _ => f b o n e
theorem FrN.same {p : Addr} {H H' : Hp} (s : Same H H') : FrN p H H' := fun b o _ e _ => s b o e
theorem FrN.ext {p : Addr} {H H' : Hp} (f : LamX.ExtN H H') : FrN p H H' := fun b o _ e t => f b o e t
theorem FrN.trans {p : Addr} {H H1 H2 : Hp} (f : FrN p H H1) (g : FrN p H1 H2) : FrN p H H2 := fun b o n e t => g b o n (f b o n e t) t
theorem FrN.seq {K : PySem.W.Frag} {p a : Addr} {H H' : Hp} {xs : List V} (c : FrN p H H') (hp : H p = none) (h : SqL K H a xs) : SqL K H' a xs := by
  rcases h with (h | ⟨o, h⟩) | h
  · exact .inl (.inl (c _ _ (ne_of_none h hp) h fun _ e => by cases e))
  · exact .inl (.inr ⟨o, c _ _ (ne_of_none h hp) h fun _ e => by cases e⟩)
  · exact .inr h

theorem Dk.tabs {p : Addr} {H H' : Hp} {TT : List NdefX.NTab} (d : Dk H p) (t : NdefX.TabsN TT H) (f : Fr p H H') : NdefX.TabsN TT H' := by
  obtain ⟨xs, h⟩ := d
  exact tabsN_fr1 t h f

section
variable {P : Program} {w : World} {K : PySem.W.Frag} {mg : Str → Option Value} {base : Heap}
theorem ok_law (T : Txt K mg) (B : Tbs T base) (M : KTab K w T.a_MADE_OF_OTHERS made) : FnOk P w K mg base CX0 40 T.f_law T.d_law ["script"] (spLawT K [T.P_judge_made]) := by
  generalize hTTe : ([(T.P_judge_made, fun _ _ => q_judge_made)] : List NdefX.NTab) = TT
  have hTT : TTj T TT := by
    subst hTTe
    refine ⟨by simp, fun z hz e => ?_⟩
    simp only [List.mem_cons, List.not_mem_nil, or_false] at hz
    rw [hz]
  have G__law_cell_at : FnOk P w K mg base CX0 1 T.f__law_cell_at T.d__law_cell_at ["script", "k"] (sp__law_cell_at K) := ok__law_cell_at T
  have G__law_deck : FnOk P w K mg base CX0 2 T.f__law_deck T.d__law_deck ["cell", "many"] sp__law_numbers := ok__law_deck T
  have G__law_rules : FnOk P w K mg base CX0 8 T.f__law_rules T.d__law_rules ["deck", "most"] sp__law_rules := ok__law_rules T
  have G__law_plain_rules : FnOk P w K mg base CX0 2 T.f__law_plain_rules T.d__law_plain_rules ["deck"] sp__law_plain_rules := ok__law_plain_rules T
  have G__law_fits : FnOk P w K mg base CX0 7 T.f__law_fits T.d__law_fits ["rules"] sp__law_fits := ok__law_fits T
  have G__law_copy : FnOk P w K mg base CX0 10 T.f__law_copy T.d__law_copy ["thing"] sp_copyR := ok_copyR T
  have G__law_told := fnOk_or (ok_toldJ (P := P) (w := w) T B M hTT) (ok_toldM T B M hTT)
  refine T.F_law.ok sc_law (fun vs H Q E h => ?_) (fun cdv A outer s H vs Q E hr h => ?_)
  · obtain ⟨a, ns, rfl, _⟩ := h
    rfl
  obtain ⟨a, ns, rfl, hS, h63, hPs, qq⟩ := h
  have T0 : NdefX.TabsN TT H := by
    subst hTTe
    intro z hz
    simp only [List.mem_cons, List.not_mem_nil, or_false] at hz
    rcases hz with rfl
    exact NdefX.TabN.nil (hPs _ (by simp))
  refine ⟨_, (pss_cons (ps_for PassesOwn.never rfl (pi_range1 (by rfl) T.z_range (pa_cons (pe_callB (call_max2 rfl) (by rfl) T.z_max (by decide +kernel) (pa_cons pe_int (pa_cons (pe_callB (call_min2 rfl) (by rfl) T.z_min (by decide +kernel) (pa_cons (pe_callB call_len_seq (by rfl) T.z_len PySem.boot_len (pa_cons (pv 0) pa_nil)) (pa_cons pe_int pa_nil))) pa_nil))) pa_nil)) (pg_name (i := 1) sc_law.nd rfl (Or.inl rfl)) (pss_cons (ps_set (i := 2) sc_law.nd rfl (Or.inl rfl) (pe_call G__law_deck (hr.mono (by omega)) (by rfl) T.m__law_deck T.F__law_deck.kp T.b__law_deck .nil pass0 (pa_cons (pe_call G__law_cell_at (hr.mono (by omega)) (by rfl) T.m__law_cell_at T.F__law_cell_at.kp T.b__law_cell_at .nil pass0 (pa_cons (pv 0) (pa_cons (pv 1) pa_nil))) (pa_cons pe_int pa_nil)))) (pss_one (ps_for PassesOwn.never rfl (pi_list (pe_lst (pa_cons (pe_call G__law_rules (hr.mono (by omega)) (by rfl) T.m__law_rules T.F__law_rules.kp T.b__law_rules .nil pass0 (pa_cons (pv 2) (pa_cons pe_int pa_nil))) (pa_cons (pe_call G__law_plain_rules (hr.mono (by omega)) (by rfl) T.m__law_plain_rules T.F__law_plain_rules.kp T.b__law_plain_rules .nil pass0 (pa_cons (pv 2) pa_nil)) pa_nil)))) (pg_name (i := 3) sc_law.nd rfl (Or.inl rfl)) (pss_cons (ps_set (i := 4) sc_law.nd rfl (Or.inl rfl) (pe_call G__law_copy (hr.mono (by omega)) (by rfl) T.m__law_copy T.F__law_copy.kp T.b__law_copy .nil pass0 (pa_cons (pv 3) pa_nil))) (pss_cons (ps_set (i := 5) sc_law.nd rfl (Or.inl rfl) (pe_ix ix_list (pe_lst (pa_cons pe_str (pa_cons pe_str pa_nil))) (pe_callTy call_int1 (by rfl) T.z_int (by decide +kernel) (pa_cons (pe_call G__law_fits (hr.mono (by omega)) (by rfl) T.m__law_fits T.F__law_fits.kp T.b__law_fits .nil pass0 (pa_cons (pv 3) pa_nil)) pa_nil)) (fun _ _ => rfl))) (pss_one (ps_if (PW.pt (pw_or (pt_cmpR op_ne (pe_call G__law_told (hr.mono (by omega)) (by rfl) T.m__law_told T.F__law_told.kp T.b__law_told .nil pass0 (pa_cons (pv 4) pa_nil)) (pv 5) (nomark _)) (pw_or1 (pt_cmpR (op_neHT (roomH hr)) (pv 4) (pv 3) (nomark _))))) (pss_one (ps_ret pe_bl)) pss_nil)))))))) (pss_one (ps_ret pe_bl))), ?_⟩
  obtain ⟨j, hj, hj0, hj1⟩ : ∃ j : Int, (if (if ((ns.map V.int).length : Int) > 12 then 12 else ((ns.map V.int).length : Int)) > 1 then (if ((ns.map V.int).length : Int) > 12 then 12 else ((ns.map V.int).length : Int)) else 1) = j ∧ 0 ≤ j ∧ j ≤ 12 := ⟨_, rfl, by split <;> split <;> omega, by split <;> split <;> omega⟩
  refine ⟨_, rfl, a, _, rfl, .inl hS, _, _, rfl, _, _, rfl, j, congrArg (fun z => [V.int z]) hj, by omega, by omega, for_range (lo := 0) (n := j.toNat) (fun i σ H' => (∃ y1 y2 y3 y4 y5, σ = [some (.ref a), y1, y2, y3, y4, y5]) ∧ SqL K H' a (ns.map V.int) ∧ NdefX.TabsN TT H') ⟨⟨_, _, _, _, _, rfl⟩, hS, T0⟩ ?_ ?_⟩
  · rintro i σ H0 hi ⟨⟨y1, y2, y3, y4, y5, rfl⟩, hS0, T0⟩
    refine ⟨_, rfl, _, rfl, a, ns, _, rfl, hS0, by omega, fun x => ⟨x, 160, rfl, by decide, by decide, fun p xs H1 s1 hp hx => ?_⟩⟩
    have D1 : Dk H1 p := ⟨xs, hx⟩
    refine ⟨_, rfl, p, 6, rfl, D1, by decide, by decide, fun v1 R1 H2 ok1 ri1 up1 hn1 f2 D2 hR1 => ?_⟩
    refine ⟨_, rfl, p, rfl, D2, fun v2 R2 H3 ok2 ri2 up2 f3 D3 hR2 => ⟨(by show 2 ≤ sizeLine; decide), fun l hl => ?_⟩⟩
    have hR1 : RlAt (fun b => b ≠ p) H3 v1 R1 := hR1.keep fun b o h e => f3 b o h e
    have T3 := D2.tabs (D1.tabs (T0.ext s1) f2) f3
    have G3 : FrN p H0 H3 := ((FrN.same s1).trans (.fr f2)).trans (.fr f3)
    have s4 := same_new hl (o := .lst [v1, v2])
    have k4 := upd_same (H := H3) (a := l) (o := .lst [v1, v2])
    generalize upd H3 l (.lst [v1, v2]) = H4 at *
    have each : ∀ (k : Nat) (v : V), [v1, v2][k]? = some v → ∃ R : Rl, RlAt (fun _ => True) H4 v R ∧ R.ok ∧ Rises R.L ∧ R.good.Pairwise (· < ·) := by
      intro k v hv
      rcases k with _ | _ | k
      · cases hv; exact ⟨R1, (hR1.same s4).weak fun _ _ => trivial, ok1, ri1, up1⟩
      · cases hv; exact ⟨R2, (hR2.same s4).weak fun _ _ => trivial, ok2, ri2, up2⟩
      · cases hv
    have T4 := T3.ext s4
    have G4 : FrN p H0 H4 := G3.trans (.same s4)
    clear hR1 hR2 T3 G3
    refine ⟨l, rfl, ⟨_, SqL.of k4⟩, for_list (xs := [v1, v2]) (fun k σ H' => (∃ y3 y4 y5, σ = [some (.ref a), some (.int (0 + i)), some (.ref p), y3, y4, y5]) ∧ LamX.ExtN H4 H' ∧ NdefX.TabsN TT H') ⟨⟨_, _, _, rfl⟩, fun _ _ e _ => e, T4⟩ (fun k σ H' _ h => SqL.of (h.2.1 _ _ k4 fun _ z => by cases z)) ?_ ?_⟩
    · rintro k v σ H5 hk ⟨⟨y3, y4, y5, rfl⟩, E5, T5⟩
      obtain ⟨R, hR, hok, hri, hup⟩ := each k v hk
      have R5 := hR.extN E5
      refine ⟨_, rfl, v, R, rfl, R5, hok, fun c H6 s6 C6 => ⟨(by show 2 ≤ sizeLine; decide), fun dl hdl => ?_⟩⟩
      have s7 := same_new hdl (o := .lst [.str (Str.ofString "TooMany"), .str (Str.ofString "judge")])
      have k7 := upd_same (H := H6) (a := dl) (o := .lst [.str (Str.ofString "TooMany"), .str (Str.ofString "judge")])
      generalize upd H6 dl (.lst [.str (Str.ofString "TooMany"), .str (Str.ofString "judge")]) = H7 at *
      refine ⟨_, rfl, v, R, rfl, R5.same (s6.trans s7), hok, fun b H8 s8 hb => .inr ⟨b, rfl, ?_⟩⟩
      have S8 := (s6.trans s7).trans s8
      have C8 : RlAt (fun _ => True) H8 c R := ((C6.weak fun _ _ => trivial).same s7).same s8
      have R8 := R5.same S8
      have T8 := T5.ext S8
      have E8 : LamX.ExtN H4 H8 := E5.trans (.of S8)
      have k8 := s8 _ _ k7
      clear R5 hR T5 C6
      cases b with
      | true =>
        refine ⟨dl, _, 1, _, rfl, rfl, SqL.of k8, atI_nat (j := 1) rfl, ?_⟩
        refine ⟨_, rfl, .inl ⟨c, R, rfl, C8, hok, hri, hup, hb.mp rfl, T8, fun H9 e9 T9 => ⟨_, rfl, rfl, _, rfl, neS rfl ?_⟩⟩⟩
        obtain ⟨a1, b1, xs1, ys1, q1, q2, h1, h2, hl, hi⟩ := RlAt.eqT (K := K) hok (C8.extN e9) (R8.extN e9) 90
        exact ⟨_, rfl, _, rfl, a1, b1, xs1, ys1, 99, q1, q2, h1, h2, hl, hi, by decide, _, rfl, iteF ⟨⟨_, _, _, rfl⟩, E8.trans e9, T9⟩⟩
      | false =>
        refine ⟨dl, _, 0, _, rfl, rfl, SqL.of k8, atI_nat (j := 0) rfl, ?_⟩
        refine ⟨_, rfl, .inr ⟨c, R, rfl, C8, hok, fun z => absurd (hb.mpr z) (by decide), T8, fun H9 e9 T9 => ⟨_, rfl, rfl, _, rfl, neS rfl ?_⟩⟩⟩
        obtain ⟨a1, b1, xs1, ys1, q1, q2, h1, h2, hl, hi⟩ := RlAt.eqT (K := K) hok (C8.extN e9) (R8.extN e9) 90
        exact ⟨_, rfl, _, rfl, a1, b1, xs1, ys1, 99, q1, q2, h1, h2, hl, hi, by decide, _, rfl, iteF ⟨⟨_, _, _, rfl⟩, E8.trans e9, T9⟩⟩
    · rintro σ H' ⟨⟨y3, y4, y5, rfl⟩, E', T'⟩
      exact ⟨⟨_, _, _, _, _, rfl⟩, (G4.trans (.ext E')).seq hp hS0, T'⟩
  · rintro σ H' ⟨⟨y1, y2, y3, y4, y5, rfl⟩, _, _⟩
    exact qq H'
end

theorem all_mk {l : PySem.W.OpenLaw} {w : World} {K : PySem.W.Frag} {h : Heap} {mg : Str → Option Value} {fa f0 f1 f2 f3 f4 f5 f6 f7 f8 f9 f10 f11 f12 f13 f14 f15 f16 f17 f18 f19 f20 f21 f22 f23 f24 f25 f26 f27 f28 f29 f30 f31 f32 f33 : Addr} (X : K.In h) (G : h.Ns mainGlobals mg) (hfa : mg "law" = some (.ref fa))
    {od0 an0 od1 an1 od2 an2 od3 an3 od4 an4 od5 an5 od6 an6 od7 an7 od8 an8 od9 an9 od10 an10 od11 an11 od12 an12 od13 an13 od14 an14 od15 an15 od16 an16 od17 an17 od18 an18 od19 an19 od20 an20 od21 an21 od22 an22 od23 an23 od24 an24 od25 an25 od26 an26 od27 an27 od28 an28 od29 an29 od30 an30 od31 an31 od32 an32 od33 an33 : Option Addr} {sl0 sl1 sl2 sl3 sl4 sl5 sl6 sl7 sl8 sl9 sl10 sl11 sl12 sl13 sl14 sl15 sl16 sl17 sl18 sl19 sl20 sl21 sl22 sl23 sl24 sl25 sl26 sl27 sl28 sl29 sl30 sl31 sl32 sl33 : Array (Option Value)} {oc0 kV0 dc0 pm0 ct0 cd0 oc1 kV1 dc1 pm1 ct1 cd1 oc2 kV2 dc2 pm2 ct2 cd2 oc3 kV3 dc3 pm3 ct3 cd3 oc4 kV4 dc4 pm4 ct4 cd4 oc5 kV5 dc5 pm5 ct5 cd5 oc6 kV6 dc6 pm6 ct6 cd6 oc7 kV7 dc7 pm7 ct7 cd7 oc8 kV8 dc8 pm8 ct8 cd8 oc9 kV9 dc9 pm9 ct9 cd9 oc10 kV10 dc10 pm10 ct10 cd10 oc11 kV11 dc11 pm11 ct11 cd11 oc12 kV12 dc12 pm12 ct12 cd12 oc13 kV13 dc13 pm13 ct13 cd13 oc14 kV14 dc14 pm14 ct14 cd14 oc15 kV15 dc15 pm15 ct15 cd15 oc16 kV16 dc16 pm16 ct16 cd16 oc17 kV17 dc17 pm17 ct17 oc18 kV18 dc18 pm18 ct18 cd18 oc19 kV19 dc19 pm19 ct19 cd19 oc20 kV20 dc20 pm20 ct20 cd20 oc21 kV21 dc21 pm21 ct21 cd21 oc22 kV22 dc22 pm22 ct22 cd22 oc23 kV23 dc23 pm23 ct23 cd23 oc24 kV24 dc24 pm24 ct24 cd24 oc25 kV25 dc25 pm25 ct25 cd25 oc26 kV26 dc26 pm26 ct26 cd26 oc27 kV27 dc27 pm27 ct27 cd27 oc28 kV28 dc28 pm28 ct28 cd28 oc29 kV29 dc29 pm29 ct29 cd29 oc30 kV30 dc30 pm30 ct30 cd30 oc31 kV31 dc31 pm31 ct31 cd31 oc32 kV32 dc32 pm32 ct32 cd32 oc33 kV33 dc33 pm33 ct33 cd33 : Value} {c17 P17 : Addr}
    (a0 : PySem.W.nsIn K mainGlobals "is_whole" = some (some (.ref f0))) (l0 : K.lookup f0 = some ⟨oc0, od0, .func (PySem.W.fnOf "is_whole" "is_whole" (defArgs s_is_whole) (defBody s_is_whole) (defScope s_is_whole) .none kV0 dc0 pm0 an0 cd0 ct0), sl0⟩) (d0 : PySem.W.codeIn K cd0 "is_whole" = true) (k0 : PySem.W.keepIn K (.ref f0) = true)
    (a1 : PySem.W.nsIn K mainGlobals "is_whole_within" = some (some (.ref f1))) (l1 : K.lookup f1 = some ⟨oc1, od1, .func (PySem.W.fnOf "is_whole_within" "is_whole_within" (defArgs s_is_whole_within) (defBody s_is_whole_within) (defScope s_is_whole_within) .none kV1 dc1 pm1 an1 cd1 ct1), sl1⟩) (d1 : PySem.W.codeIn K cd1 "is_whole_within" = true) (k1 : PySem.W.keepIn K (.ref f1) = true)
    (a2 : PySem.W.nsIn K mainGlobals "is_letter" = some (some (.ref f2))) (l2 : K.lookup f2 = some ⟨oc2, od2, .func (PySem.W.fnOf "is_letter" "is_letter" (defArgs s_is_letter) (defBody s_is_letter) (defScope s_is_letter) .none kV2 dc2 pm2 an2 cd2 ct2), sl2⟩) (d2 : PySem.W.codeIn K cd2 "is_letter" = true) (k2 : PySem.W.keepIn K (.ref f2) = true)
    (a3 : PySem.W.nsIn K mainGlobals "is_judge" = some (some (.ref f3))) (l3 : K.lookup f3 = some ⟨oc3, od3, .func (PySem.W.fnOf "is_judge" "is_judge" (defArgs s_is_judge) (defBody s_is_judge) (defScope s_is_judge) .none kV3 dc3 pm3 an3 cd3 ct3), sl3⟩) (d3 : PySem.W.codeIn K cd3 "is_judge" = true) (k3 : PySem.W.keepIn K (.ref f3) = true)
    (a4 : PySem.W.nsIn K mainGlobals "may_have_table" = some (some (.ref f4))) (l4 : K.lookup f4 = some ⟨oc4, od4, .func (PySem.W.fnOf "may_have_table" "may_have_table" (defArgs s_may_have_table) (defBody s_may_have_table) (defScope s_may_have_table) .none kV4 dc4 pm4 an4 cd4 ct4), sl4⟩) (d4 : PySem.W.codeIn K cd4 "may_have_table" = true) (k4 : PySem.W.keepIn K (.ref f4) = true)
    (a5 : PySem.W.nsIn K mainGlobals "are_letters" = some (some (.ref f5))) (l5 : K.lookup f5 = some ⟨oc5, od5, .func (PySem.W.fnOf "are_letters" "are_letters" (defArgs s_are_letters) (defBody s_are_letters) (defScope s_are_letters) .none kV5 dc5 pm5 an5 cd5 ct5), sl5⟩) (d5 : PySem.W.codeIn K cd5 "are_letters" = true) (k5 : PySem.W.keepIn K (.ref f5) = true)
    (a6 : PySem.W.nsIn K mainGlobals "are_rising_states" = some (some (.ref f6))) (l6 : K.lookup f6 = some ⟨oc6, od6, .func (PySem.W.fnOf "are_rising_states" "are_rising_states" (defArgs s_are_rising_states) (defBody s_are_rising_states) (defScope s_are_rising_states) .none kV6 dc6 pm6 an6 cd6 ct6), sl6⟩) (d6 : PySem.W.codeIn K cd6 "are_rising_states" = true) (k6 : PySem.W.keepIn K (.ref f6) = true)
    (a7 : PySem.W.nsIn K mainGlobals "_rises" = some (some (.ref f7))) (l7 : K.lookup f7 = some ⟨oc7, od7, .func (PySem.W.fnOf "_rises" "_rises" (defArgs s__rises) (defBody s__rises) (defScope s__rises) .none kV7 dc7 pm7 an7 cd7 ct7), sl7⟩) (d7 : PySem.W.codeIn K cd7 "_rises" = true) (k7 : PySem.W.keepIn K (.ref f7) = true)
    (a8 : PySem.W.nsIn K mainGlobals "tuples_due" = some (some (.ref f8))) (l8 : K.lookup f8 = some ⟨oc8, od8, .func (PySem.W.fnOf "tuples_due" "tuples_due" (defArgs s_tuples_due) (defBody s_tuples_due) (defScope s_tuples_due) .none kV8 dc8 pm8 an8 cd8 ct8), sl8⟩) (d8 : PySem.W.codeIn K cd8 "tuples_due" = true) (k8 : PySem.W.keepIn K (.ref f8) = true)
    (a9 : PySem.W.nsIn K mainGlobals "_is_table" = some (some (.ref f9))) (l9 : K.lookup f9 = some ⟨oc9, od9, .func (PySem.W.fnOf "_is_table" "_is_table" (defArgs s__is_table) (defBody s__is_table) (defScope s__is_table) .none kV9 dc9 pm9 an9 cd9 ct9), sl9⟩) (d9 : PySem.W.codeIn K cd9 "_is_table" = true) (k9 : PySem.W.keepIn K (.ref f9) = true)
    (a10 : PySem.W.nsIn K mainGlobals "_is_key" = some (some (.ref f10))) (l10 : K.lookup f10 = some ⟨oc10, od10, .func (PySem.W.fnOf "_is_key" "_is_key" (defArgs s__is_key) (defBody s__is_key) (defScope s__is_key) .none kV10 dc10 pm10 an10 cd10 ct10), sl10⟩) (d10 : PySem.W.codeIn K cd10 "_is_key" = true) (k10 : PySem.W.keepIn K (.ref f10) = true)
    (a11 : PySem.W.nsIn K mainGlobals "class_rows" = some (some (.ref f11))) (l11 : K.lookup f11 = some ⟨oc11, od11, .func (PySem.W.fnOf "class_rows" "class_rows" (defArgs s_class_rows) (defBody s_class_rows) (defScope s_class_rows) .none kV11 dc11 pm11 an11 cd11 ct11), sl11⟩) (d11 : PySem.W.codeIn K cd11 "class_rows" = true) (k11 : PySem.W.keepIn K (.ref f11) = true)
    (a12 : PySem.W.nsIn K mainGlobals "keys_due" = some (some (.ref f12))) (l12 : K.lookup f12 = some ⟨oc12, od12, .func (PySem.W.fnOf "keys_due" "keys_due" (defArgs s_keys_due) (defBody s_keys_due) (defScope s_keys_due) .none kV12 dc12 pm12 an12 cd12 ct12), sl12⟩) (d12 : PySem.W.codeIn K cd12 "keys_due" = true) (k12 : PySem.W.keepIn K (.ref f12) = true)
    (a13 : PySem.W.nsIn K mainGlobals "table_made" = some (some (.ref f13))) (l13 : K.lookup f13 = some ⟨oc13, od13, .func (PySem.W.fnOf "table_made" "table_made" (defArgs s_table_made) (defBody s_table_made) (defScope s_table_made) .none kV13 dc13 pm13 an13 cd13 ct13), sl13⟩) (d13 : PySem.W.codeIn K cd13 "table_made" = true) (k13 : PySem.W.keepIn K (.ref f13) = true)
    (a14 : PySem.W.nsIn K mainGlobals "condition_holds" = some (some (.ref f14))) (l14 : K.lookup f14 = some ⟨oc14, od14, .func (PySem.W.fnOf "condition_holds" "condition_holds" (defArgs s_condition_holds) (defBody s_condition_holds) (defScope s_condition_holds) .none kV14 dc14 pm14 an14 cd14 ct14), sl14⟩) (d14 : PySem.W.codeIn K cd14 "condition_holds" = true) (k14 : PySem.W.keepIn K (.ref f14) = true)
    (a15 : PySem.W.nsIn K mainGlobals "_weighed" = some (some (.ref f15))) (l15 : K.lookup f15 = some ⟨oc15, od15, .func (PySem.W.fnOf "_weighed" "_weighed" (defArgs s__weighed) (defBody s__weighed) (defScope s__weighed) .none kV15 dc15 pm15 an15 cd15 ct15), sl15⟩) (d15 : PySem.W.codeIn K cd15 "_weighed" = true) (k15 : PySem.W.keepIn K (.ref f15) = true)
    (a16 : PySem.W.nsIn K mainGlobals "_state_by_rows" = some (some (.ref f16))) (l16 : K.lookup f16 = some ⟨oc16, od16, .func (PySem.W.fnOf "_state_by_rows" "_state_by_rows" (defArgs s__state_by_rows) (defBody s__state_by_rows) (defScope s__state_by_rows) .none kV16 dc16 pm16 an16 cd16 ct16), sl16⟩) (d16 : PySem.W.codeIn K cd16 "_state_by_rows" = true) (k16 : PySem.W.keepIn K (.ref f16) = true)
    (a17 : PySem.W.nsIn K mainGlobals "judge_made" = some (some (.ref f17))) (l17 : K.lookup f17 = some ⟨oc17, od17, .func (PySem.W.fnOf "judge_made" "judge_made" (defArgs s_judge_made) (defBody s_judge_made) (defScope s_judge_made) .none kV17 dc17 pm17 an17 (.ref c17) ct17), sl17⟩) (d17 : PySem.W.codeIn K (.ref c17) "judge_made" = true) (k17 : PySem.W.keepIn K (.ref f17) = true)
    (a18 : PySem.W.nsIn K mainGlobals "_few_and_turn" = some (some (.ref f18))) (l18 : K.lookup f18 = some ⟨oc18, od18, .func (PySem.W.fnOf "_few_and_turn" "_few_and_turn" (defArgs s__few_and_turn) (defBody s__few_and_turn) (defScope s__few_and_turn) .none kV18 dc18 pm18 an18 cd18 ct18), sl18⟩) (d18 : PySem.W.codeIn K cd18 "_few_and_turn" = true) (k18 : PySem.W.keepIn K (.ref f18) = true)
    (a19 : PySem.W.nsIn K mainGlobals "_plain_ones" = some (some (.ref f19))) (l19 : K.lookup f19 = some ⟨oc19, od19, .func (PySem.W.fnOf "_plain_ones" "_plain_ones" (defArgs s__plain_ones) (defBody s__plain_ones) (defScope s__plain_ones) .none kV19 dc19 pm19 an19 cd19 ct19), sl19⟩) (d19 : PySem.W.codeIn K cd19 "_plain_ones" = true) (k19 : PySem.W.keepIn K (.ref f19) = true)
    (a20 : PySem.W.nsIn K mainGlobals "_law_cell_at" = some (some (.ref f20))) (l20 : K.lookup f20 = some ⟨oc20, od20, .func (PySem.W.fnOf "_law_cell_at" "_law_cell_at" (defArgs s__law_cell_at) (defBody s__law_cell_at) (defScope s__law_cell_at) .none kV20 dc20 pm20 an20 cd20 ct20), sl20⟩) (d20 : PySem.W.codeIn K cd20 "_law_cell_at" = true) (k20 : PySem.W.keepIn K (.ref f20) = true)
    (a21 : PySem.W.nsIn K mainGlobals "_law_numbers" = some (some (.ref f21))) (l21 : K.lookup f21 = some ⟨oc21, od21, .func (PySem.W.fnOf "_law_numbers" "_law_numbers" (defArgs s__law_numbers) (defBody s__law_numbers) (defScope s__law_numbers) .none kV21 dc21 pm21 an21 cd21 ct21), sl21⟩) (d21 : PySem.W.codeIn K cd21 "_law_numbers" = true) (k21 : PySem.W.keepIn K (.ref f21) = true)
    (a22 : PySem.W.nsIn K mainGlobals "_law_deck" = some (some (.ref f22))) (l22 : K.lookup f22 = some ⟨oc22, od22, .func (PySem.W.fnOf "_law_deck" "_law_deck" (defArgs s__law_deck) (defBody s__law_deck) (defScope s__law_deck) .none kV22 dc22 pm22 an22 cd22 ct22), sl22⟩) (d22 : PySem.W.codeIn K cd22 "_law_deck" = true) (k22 : PySem.W.keepIn K (.ref f22) = true)
    (a23 : PySem.W.nsIn K mainGlobals "_law_take" = some (some (.ref f23))) (l23 : K.lookup f23 = some ⟨oc23, od23, .func (PySem.W.fnOf "_law_take" "_law_take" (defArgs s__law_take) (defBody s__law_take) (defScope s__law_take) .none kV23 dc23 pm23 an23 cd23 ct23), sl23⟩) (d23 : PySem.W.codeIn K cd23 "_law_take" = true) (k23 : PySem.W.keepIn K (.ref f23) = true)
    (a24 : PySem.W.nsIn K mainGlobals "_law_weights" = some (some (.ref f24))) (l24 : K.lookup f24 = some ⟨oc24, od24, .func (PySem.W.fnOf "_law_weights" "_law_weights" (defArgs s__law_weights) (defBody s__law_weights) (defScope s__law_weights) .none kV24 dc24 pm24 an24 cd24 ct24), sl24⟩) (d24 : PySem.W.codeIn K cd24 "_law_weights" = true) (k24 : PySem.W.keepIn K (.ref f24) = true)
    (a25 : PySem.W.nsIn K mainGlobals "_law_condition" = some (some (.ref f25))) (l25 : K.lookup f25 = some ⟨oc25, od25, .func (PySem.W.fnOf "_law_condition" "_law_condition" (defArgs s__law_condition) (defBody s__law_condition) (defScope s__law_condition) .none kV25 dc25 pm25 an25 cd25 ct25), sl25⟩) (d25 : PySem.W.codeIn K cd25 "_law_condition" = true) (k25 : PySem.W.keepIn K (.ref f25) = true)
    (a26 : PySem.W.nsIn K mainGlobals "_law_copy" = some (some (.ref f26))) (l26 : K.lookup f26 = some ⟨oc26, od26, .func (PySem.W.fnOf "_law_copy" "_law_copy" (defArgs s__law_copy) (defBody s__law_copy) (defScope s__law_copy) .none kV26 dc26 pm26 an26 cd26 ct26), sl26⟩) (d26 : PySem.W.codeIn K cd26 "_law_copy" = true) (k26 : PySem.W.keepIn K (.ref f26) = true)
    (a27 : PySem.W.nsIn K mainGlobals "_law_rules" = some (some (.ref f27))) (l27 : K.lookup f27 = some ⟨oc27, od27, .func (PySem.W.fnOf "_law_rules" "_law_rules" (defArgs s__law_rules) (defBody s__law_rules) (defScope s__law_rules) .none kV27 dc27 pm27 an27 cd27 ct27), sl27⟩) (d27 : PySem.W.codeIn K cd27 "_law_rules" = true) (k27 : PySem.W.keepIn K (.ref f27) = true)
    (a28 : PySem.W.nsIn K mainGlobals "_law_sums" = some (some (.ref f28))) (l28 : K.lookup f28 = some ⟨oc28, od28, .func (PySem.W.fnOf "_law_sums" "_law_sums" (defArgs s__law_sums) (defBody s__law_sums) (defScope s__law_sums) .none kV28 dc28 pm28 an28 cd28 ct28), sl28⟩) (d28 : PySem.W.codeIn K cd28 "_law_sums" = true) (k28 : PySem.W.keepIn K (.ref f28) = true)
    (a29 : PySem.W.nsIn K mainGlobals "_law_few_and_turn" = some (some (.ref f29))) (l29 : K.lookup f29 = some ⟨oc29, od29, .func (PySem.W.fnOf "_law_few_and_turn" "_law_few_and_turn" (defArgs s__law_few_and_turn) (defBody s__law_few_and_turn) (defScope s__law_few_and_turn) .none kV29 dc29 pm29 an29 cd29 ct29), sl29⟩) (d29 : PySem.W.codeIn K cd29 "_law_few_and_turn" = true) (k29 : PySem.W.keepIn K (.ref f29) = true)
    (a30 : PySem.W.nsIn K mainGlobals "_law_fits" = some (some (.ref f30))) (l30 : K.lookup f30 = some ⟨oc30, od30, .func (PySem.W.fnOf "_law_fits" "_law_fits" (defArgs s__law_fits) (defBody s__law_fits) (defScope s__law_fits) .none kV30 dc30 pm30 an30 cd30 ct30), sl30⟩) (d30 : PySem.W.codeIn K cd30 "_law_fits" = true) (k30 : PySem.W.keepIn K (.ref f30) = true)
    (a31 : PySem.W.nsIn K mainGlobals "_law_plain_rules" = some (some (.ref f31))) (l31 : K.lookup f31 = some ⟨oc31, od31, .func (PySem.W.fnOf "_law_plain_rules" "_law_plain_rules" (defArgs s__law_plain_rules) (defBody s__law_plain_rules) (defScope s__law_plain_rules) .none kV31 dc31 pm31 an31 cd31 ct31), sl31⟩) (d31 : PySem.W.codeIn K cd31 "_law_plain_rules" = true) (k31 : PySem.W.keepIn K (.ref f31) = true)
    (a32 : PySem.W.nsIn K mainGlobals "_law_told" = some (some (.ref f32))) (l32 : K.lookup f32 = some ⟨oc32, od32, .func (PySem.W.fnOf "_law_told" "_law_told" (defArgs s__law_told) (defBody s__law_told) (defScope s__law_told) .none kV32 dc32 pm32 an32 cd32 ct32), sl32⟩) (d32 : PySem.W.codeIn K cd32 "_law_told" = true) (k32 : PySem.W.keepIn K (.ref f32) = true)
    (a33 : PySem.W.nsIn K mainGlobals "law" = some (some (.ref f33))) (l33 : K.lookup f33 = some ⟨oc33, od33, .func (PySem.W.fnOf "law" "law" (defArgs s_law) (defBody s_law) (defScope s_law) .none kV33 dc33 pm33 an33 cd33 ct33), sl33⟩) (d33 : PySem.W.codeIn K cd33 "law" = true) (k33 : PySem.W.keepIn K (.ref f33) = true)
    {tk_MOST_STATES : Tok}
    {tk_MOST_FEW : Tok}
    {tk_MOST_TURN : Tok}
    {tk_MOST_TUPLES : Tok}
    {a_MADE_OF_OTHERS : Addr} {es_MADE_OF_OTHERS : Array DictEntry} {n_MADE_OF_OTHERS : Nat}
    (ak_MOST_STATES : PySem.W.nsIn K mainGlobals "MOST_STATES" = some (some (.int 6 tk_MOST_STATES)))
    (ak_MOST_FEW : PySem.W.nsIn K mainGlobals "MOST_FEW" = some (some (.int 4 tk_MOST_FEW)))
    (ak_MOST_TURN : PySem.W.nsIn K mainGlobals "MOST_TURN" = some (some (.int 4 tk_MOST_TURN)))
    (ak_MOST_TUPLES : PySem.W.nsIn K mainGlobals "MOST_TUPLES" = some (some (.int 600 tk_MOST_TUPLES)))
    (ak_MADE_OF_OTHERS : PySem.W.nsIn K mainGlobals "MADE_OF_OTHERS" = some (some (.ref a_MADE_OF_OTHERS)))
    (lk_MADE_OF_OTHERS : K.lookup a_MADE_OF_OTHERS = some ⟨.type "dict", none, .dict es_MADE_OF_OTHERS n_MADE_OF_OTHERS, #[]⟩) (kk_MADE_OF_OTHERS : PySem.W.KeysLit w.params es_MADE_OF_OTHERS.toList) (ek_MADE_OF_OTHERS : Ents es_MADE_OF_OTHERS.toList [(Str.ofString "not", 2), (Str.ofString "both", 3), (Str.ofString "either", 3)]) (sk_MADE_OF_OTHERS : (a_MADE_OF_OTHERS == sysModules) = false)
    (ii_lcm : PySem.W.nsIn K mainGlobals "lcm" = some (some (.builtin "math.lcm")))
    (t17 : PySem.W.tabIn K "judge_made" = some (c17, P17)) (u17 : K.lookup P17 = none)
    (z_all : PySem.W.nsIn K mainGlobals "all" = some none)
    (z_bool : PySem.W.nsIn K mainGlobals "bool" = some none)
    (z_dict : PySem.W.nsIn K mainGlobals "dict" = some none)
    (z_enumerate : PySem.W.nsIn K mainGlobals "enumerate" = some none)
    (z_int : PySem.W.nsIn K mainGlobals "int" = some none)
    (z_isinstance : PySem.W.nsIn K mainGlobals "isinstance" = some none)
    (z_len : PySem.W.nsIn K mainGlobals "len" = some none)
    (z_list : PySem.W.nsIn K mainGlobals "list" = some none)
    (z_max : PySem.W.nsIn K mainGlobals "max" = some none)
    (z_min : PySem.W.nsIn K mainGlobals "min" = some none)
    (z_range : PySem.W.nsIn K mainGlobals "range" = some none)
    (z_str : PySem.W.nsIn K mainGlobals "str" = some none)
    (z_sum : PySem.W.nsIn K mainGlobals "sum" = some none)
    (z_tuple : PySem.W.nsIn K mainGlobals "tuple" = some none)
    (z_zip : PySem.W.nsIn K mainGlobals "zip" = some none)
    {C_HeapError C_NoTree C_NoLetter C_NoFit C_TooMany C_NoNumber C_NoText C_NoName C_NoRow : Addr}
    (ac_HeapError : PySem.W.nsIn K mainGlobals "HeapError" = some (some (.ref C_HeapError)))
    (k_HeapErrorc : PySem.W.keepIn K (.ref C_HeapError) = true)
    (ac_NoTree : PySem.W.nsIn K mainGlobals "NoTree" = some (some (.ref C_NoTree)))
    (k_NoTreec : PySem.W.keepIn K (.ref C_NoTree) = true)
    (ac_NoLetter : PySem.W.nsIn K mainGlobals "NoLetter" = some (some (.ref C_NoLetter)))
    (k_NoLetterc : PySem.W.keepIn K (.ref C_NoLetter) = true)
    (ac_NoFit : PySem.W.nsIn K mainGlobals "NoFit" = some (some (.ref C_NoFit)))
    (k_NoFitc : PySem.W.keepIn K (.ref C_NoFit) = true)
    (ac_TooMany : PySem.W.nsIn K mainGlobals "TooMany" = some (some (.ref C_TooMany)))
    (k_TooManyc : PySem.W.keepIn K (.ref C_TooMany) = true)
    (ac_NoNumber : PySem.W.nsIn K mainGlobals "NoNumber" = some (some (.ref C_NoNumber)))
    (k_NoNumberc : PySem.W.keepIn K (.ref C_NoNumber) = true)
    (ac_NoText : PySem.W.nsIn K mainGlobals "NoText" = some (some (.ref C_NoText)))
    (k_NoTextc : PySem.W.keepIn K (.ref C_NoText) = true)
    (ac_NoName : PySem.W.nsIn K mainGlobals "NoName" = some (some (.ref C_NoName)))
    (k_NoNamec : PySem.W.keepIn K (.ref C_NoName) = true)
    (ac_NoRow : PySem.W.nsIn K mainGlobals "NoRow" = some (some (.ref C_NoRow)))
    (k_NoRowc : PySem.W.keepIn K (.ref C_NoRow) = true)
    (x_TooManyc : PySem.W.excIn K C_TooMany [.type "ValueError", .type "Exception", .type "BaseException", .type "object"] "ValueError.__new__" = true)
    (b_TooManyc : PySem.W.subIn K (.ref C_TooMany) (.type "BaseException") = some true)
    (t_TooManyc : PySem.W.typeIn K (.ref C_TooMany) = some (.type "type"))
    (E_TooManyc : ExcC K C_TooMany)
    (em_TooMany_HeapErrorc : PySem.W.exmOne K (.ref C_TooMany) (.ref C_HeapError) = some true)
    (ki_TooMany_NoTreec : PySem.W.kitOne K (.ref C_TooMany) (.ref C_NoTree) = some false)
    (ki_TooMany_NoLetterc : PySem.W.kitOne K (.ref C_TooMany) (.ref C_NoLetter) = some false)
    (ki_TooMany_NoFitc : PySem.W.kitOne K (.ref C_TooMany) (.ref C_NoFit) = some false)
    (ki_TooMany_TooManyc : PySem.W.kitOne K (.ref C_TooMany) (.ref C_TooMany) = some true)
    (ki_TooMany_NoNumberc : PySem.W.kitOne K (.ref C_TooMany) (.ref C_NoNumber) = some false)
    (ki_TooMany_NoTextc : PySem.W.kitOne K (.ref C_TooMany) (.ref C_NoText) = some false)
    (ki_TooMany_NoNamec : PySem.W.kitOne K (.ref C_TooMany) (.ref C_NoName) = some false)
    (ki_TooMany_NoRowc : PySem.W.kitOne K (.ref C_TooMany) (.ref C_NoRow) = some false)
    (ki_TooMany_ValueErrorc : PySem.W.kitOne K (.ref C_TooMany) (.type "ValueError") = some true)
    (zc_ValueError : PySem.W.nsIn K mainGlobals "ValueError" = some none)
    : LawT l w K 40 "script" mg fa [("judge_made", c17, P17)] := by
  have e := hfa.symm.trans (PySem.W.mg_of X G a33)
  cases e
  have F0 := fun_mk (st := s_is_whole) l0 d0 k0
  have b0 := F0.binds (ps := ["thing"]) fun _ _ _ _ _ _ us hl => match us, hl with | [_], _ => rfl
  have F1 := fun_mk (st := s_is_whole_within) l1 d1 k1
  have b1 := F1.binds (ps := ["thing", "low", "high"]) fun _ _ _ _ _ _ us hl => match us, hl with | [_, _, _], _ => rfl
  have F2 := fun_mk (st := s_is_letter) l2 d2 k2
  have b2 := F2.binds (ps := ["thing"]) fun _ _ _ _ _ _ us hl => match us, hl with | [_], _ => rfl
  have F3 := fun_mk (st := s_is_judge) l3 d3 k3
  have b3 := F3.binds (ps := ["thing"]) fun _ _ _ _ _ _ us hl => match us, hl with | [_], _ => rfl
  have F4 := fun_mk (st := s_may_have_table) l4 d4 k4
  have b4 := F4.binds (ps := ["letters", "states", "few", "turn"]) fun _ _ _ _ _ _ us hl => match us, hl with | [_, _, _, _], _ => rfl
  have F5 := fun_mk (st := s_are_letters) l5 d5 k5
  have b5 := F5.binds (ps := ["thing"]) fun _ _ _ _ _ _ us hl => match us, hl with | [_], _ => rfl
  have F6 := fun_mk (st := s_are_rising_states) l6 d6 k6
  have b6 := F6.binds (ps := ["thing", "states"]) fun _ _ _ _ _ _ us hl => match us, hl with | [_, _], _ => rfl
  have F7 := fun_mk (st := s__rises) l7 d7 k7
  have b7 := F7.binds (ps := ["row"]) fun _ _ _ _ _ _ us hl => match us, hl with | [_], _ => rfl
  have F8 := fun_mk (st := s_tuples_due) l8 d8 k8
  have b8 := F8.binds (ps := ["letters", "states", "classes"]) fun _ _ _ _ _ _ us hl => match us, hl with | [_, _, _], _ => rfl
  have F9 := fun_mk (st := s__is_table) l9 d9 k9
  have b9 := F9.binds (ps := ["thing", "letters", "states", "classes"]) fun _ _ _ _ _ _ us hl => match us, hl with | [_, _, _, _], _ => rfl
  have F10 := fun_mk (st := s__is_key) l10 d10 k10
  have b10 := F10.binds (ps := ["thing", "letters", "states", "classes"]) fun _ _ _ _ _ _ us hl => match us, hl with | [_, _, _, _], _ => rfl
  have F11 := fun_mk (st := s_class_rows) l11 d11 k11
  have b11 := F11.binds (ps := ["states", "classes"]) fun _ _ _ _ _ _ us hl => match us, hl with | [_, _], _ => rfl
  have F12 := fun_mk (st := s_keys_due) l12 d12 k12
  have b12 := F12.binds (ps := ["letters", "states", "classes"]) fun _ _ _ _ _ _ us hl => match us, hl with | [_, _, _], _ => rfl
  have F13 := fun_mk (st := s_table_made) l13 d13 k13
  have b13 := F13.binds (ps := ["letters", "states", "few", "turn", "state_at"]) fun _ _ _ _ _ _ us hl => match us, hl with | [_, _, _, _, _], _ => rfl
  have F14 := fun_mk (st := s_condition_holds) l14 d14 k14
  have b14 := F14.binds (ps := ["condition", "numbers"]) fun _ _ _ _ _ _ us hl => match us, hl with | [_, _], _ => rfl
  have F15 := fun_mk (st := s__weighed) l15 d15 k15
  have b15 := F15.binds (ps := ["weights", "numbers"]) fun _ _ _ _ _ _ us hl => match us, hl with | [_, _], _ => rfl
  have F16 := fun_mk (st := s__state_by_rows) l16 d16 k16
  have b16 := F16.binds (ps := ["rows", "numbers"]) fun _ _ _ _ _ _ us hl => match us, hl with | [_, _], _ => rfl
  have F17 := fun_mk (st := s_judge_made) l17 d17 k17
  have b17 := F17.binds (ps := ["rules"]) fun _ _ _ _ _ _ us hl => match us, hl with | [_], _ => rfl
  have F18 := fun_mk (st := s__few_and_turn) l18 d18 k18
  have b18 := F18.binds (ps := ["conditions"]) fun _ _ _ _ _ _ us hl => match us, hl with | [_], _ => rfl
  have F19 := fun_mk (st := s__plain_ones) l19 d19 k19
  have b19 := F19.binds (ps := ["condition"]) fun _ _ _ _ _ _ us hl => match us, hl with | [_], _ => rfl
  have F20 := fun_mk (st := s__law_cell_at) l20 d20 k20
  have b20 := F20.binds (ps := ["script", "k"]) fun _ _ _ _ _ _ us hl => match us, hl with | [_, _], _ => rfl
  have F21 := fun_mk (st := s__law_numbers) l21 d21 k21
  have b21 := F21.binds (ps := ["cell", "many"]) fun _ _ _ _ _ _ us hl => match us, hl with | [_, _], _ => rfl
  have F22 := fun_mk (st := s__law_deck) l22 d22 k22
  have b22 := F22.binds (ps := ["cell", "many"]) fun _ _ _ _ _ _ us hl => match us, hl with | [_, _], _ => rfl
  have F23 := fun_mk (st := s__law_take) l23 d23 k23
  have b23 := F23.binds (ps := ["deck", "many"]) fun _ _ _ _ _ _ us hl => match us, hl with | [_, _], _ => rfl
  have F24 := fun_mk (st := s__law_weights) l24 d24 k24
  have b24 := F24.binds (ps := ["deck", "s"]) fun _ _ _ _ _ _ us hl => match us, hl with | [_, _], _ => rfl
  have F25 := fun_mk (st := s__law_condition) l25 d25 k25
  have b25 := F25.binds (ps := ["deck", "s", "deep"]) fun _ _ _ _ _ _ us hl => match us, hl with | [_, _, _], _ => rfl
  have F26 := fun_mk (st := s__law_copy) l26 d26 k26
  have b26 := F26.binds (ps := ["thing"]) fun _ _ _ _ _ _ us hl => match us, hl with | [_], _ => rfl
  have F27 := fun_mk (st := s__law_rules) l27 d27 k27
  have b27 := F27.binds (ps := ["deck", "most"]) fun _ _ _ _ _ _ us hl => match us, hl with | [_, _], _ => rfl
  have F28 := fun_mk (st := s__law_sums) l28 d28 k28
  have b28 := F28.binds (ps := ["condition"]) fun _ _ _ _ _ _ us hl => match us, hl with | [_], _ => rfl
  have F29 := fun_mk (st := s__law_few_and_turn) l29 d29 k29
  have b29 := F29.binds (ps := ["rules"]) fun _ _ _ _ _ _ us hl => match us, hl with | [_], _ => rfl
  have F30 := fun_mk (st := s__law_fits) l30 d30 k30
  have b30 := F30.binds (ps := ["rules"]) fun _ _ _ _ _ _ us hl => match us, hl with | [_], _ => rfl
  have F31 := fun_mk (st := s__law_plain_rules) l31 d31 k31
  have b31 := F31.binds (ps := ["deck"]) fun _ _ _ _ _ _ us hl => match us, hl with | [_], _ => rfl
  have F32 := fun_mk (st := s__law_told) l32 d32 k32
  have b32 := F32.binds (ps := ["rules"]) fun _ _ _ _ _ _ us hl => match us, hl with | [_], _ => rfl
  have F33 := fun_mk (st := s_law) l33 d33 k33
  have b33 := F33.binds (ps := ["script"]) fun _ _ _ _ _ _ us hl => match us, hl with | [_], _ => rfl
  let T : Txt K mg := ⟨f0, _, F0, b0, PySem.W.mg_of X G a0, f1, _, F1, b1, PySem.W.mg_of X G a1, f2, _, F2, b2, PySem.W.mg_of X G a2, f3, _, F3, b3, PySem.W.mg_of X G a3, f4, _, F4, b4, PySem.W.mg_of X G a4, f5, _, F5, b5, PySem.W.mg_of X G a5, f6, _, F6, b6, PySem.W.mg_of X G a6, f7, _, F7, b7, PySem.W.mg_of X G a7, f8, _, F8, b8, PySem.W.mg_of X G a8, f9, _, F9, b9, PySem.W.mg_of X G a9, f10, _, F10, b10, PySem.W.mg_of X G a10, f11, _, F11, b11, PySem.W.mg_of X G a11, f12, _, F12, b12, PySem.W.mg_of X G a12, f13, _, F13, b13, PySem.W.mg_of X G a13, f14, _, F14, b14, PySem.W.mg_of X G a14, f15, _, F15, b15, PySem.W.mg_of X G a15, f16, _, F16, b16, PySem.W.mg_of X G a16, f17, _, F17, b17, PySem.W.mg_of X G a17, f18, _, F18, b18, PySem.W.mg_of X G a18, f19, _, F19, b19, PySem.W.mg_of X G a19, f20, _, F20, b20, PySem.W.mg_of X G a20, f21, _, F21, b21, PySem.W.mg_of X G a21, f22, _, F22, b22, PySem.W.mg_of X G a22, f23, _, F23, b23, PySem.W.mg_of X G a23, f24, _, F24, b24, PySem.W.mg_of X G a24, f25, _, F25, b25, PySem.W.mg_of X G a25, f26, _, F26, b26, PySem.W.mg_of X G a26, f27, _, F27, b27, PySem.W.mg_of X G a27, f28, _, F28, b28, PySem.W.mg_of X G a28, f29, _, F29, b29, PySem.W.mg_of X G a29, f30, _, F30, b30, PySem.W.mg_of X G a30, f31, _, F31, b31, PySem.W.mg_of X G a31, f32, _, F32, b32, PySem.W.mg_of X G a32, fa, _, F33, b33, PySem.W.mg_of X G a33, _, PySem.W.mg_of X G ak_MOST_STATES, _, PySem.W.mg_of X G ak_MOST_FEW, _, PySem.W.mg_of X G ak_MOST_TURN, _, PySem.W.mg_of X G ak_MOST_TUPLES, _, PySem.W.mg_of X G ak_MADE_OF_OTHERS, PySem.W.mg_of X G ii_lcm, c17, P17, rfl, PySem.W.mg_none_of X G z_all, PySem.W.mg_none_of X G z_bool, PySem.W.mg_none_of X G z_dict, PySem.W.mg_none_of X G z_enumerate, PySem.W.mg_none_of X G z_int, PySem.W.mg_none_of X G z_isinstance, PySem.W.mg_none_of X G z_len, PySem.W.mg_none_of X G z_list, PySem.W.mg_none_of X G z_max, PySem.W.mg_none_of X G z_min, PySem.W.mg_none_of X G z_range, PySem.W.mg_none_of X G z_str, PySem.W.mg_none_of X G z_sum, PySem.W.mg_none_of X G z_tuple, PySem.W.mg_none_of X G z_zip, C_HeapError, C_NoTree, C_NoLetter, C_NoFit, C_TooMany, C_NoNumber, C_NoText, C_NoName, C_NoRow, PySem.W.mg_of X G ac_HeapError, k_HeapErrorc, PySem.W.mg_of X G ac_NoTree, k_NoTreec, PySem.W.mg_of X G ac_NoLetter, k_NoLetterc, PySem.W.mg_of X G ac_NoFit, k_NoFitc, PySem.W.mg_of X G ac_TooMany, k_TooManyc, PySem.W.mg_of X G ac_NoNumber, k_NoNumberc, PySem.W.mg_of X G ac_NoText, k_NoTextc, PySem.W.mg_of X G ac_NoName, k_NoNamec, PySem.W.mg_of X G ac_NoRow, k_NoRowc, x_TooManyc, b_TooManyc, t_TooManyc, E_TooManyc, em_TooMany_HeapErrorc, ki_TooMany_NoTreec, ki_TooMany_NoLetterc, ki_TooMany_NoFitc, ki_TooMany_TooManyc, ki_TooMany_NoNumberc, ki_TooMany_NoTextc, ki_TooMany_NoNamec, ki_TooMany_NoRowc, ki_TooMany_ValueErrorc, PySem.W.mg_none_of X G zc_ValueError⟩
  refine ⟨?_, PySem.W.fnOf "law" "law" (defArgs s_law) (defBody s_law) (defScope s_law) .none kV33 dc33 pm33 an33 cd33 ct33, fun s v => .of_eq rfl, fun base _ _ hb => ?_⟩
  · intro z hz
    simp only [List.mem_cons, List.not_mem_nil, or_false] at hz
    subst hz
    exact ⟨t17, u17⟩
  · have B : Tbs T base := ⟨hb ("judge_made", c17, P17) (by simp)⟩
    exact ok_law T B ⟨sk_MADE_OF_OTHERS, _, _, lk_MADE_OF_OTHERS, kk_MADE_OF_OTHERS, ek_MADE_OF_OTHERS⟩
end My
open PySem PySem.W PyProof.Rows
set_option maxRecDepth 100000 in
set_option maxHeartbeats 0 in
theorem PySem.Challenge.cw_heaptrees_k19_tables_too_great_holds : PySem.Challenge.rw_heaptrees_k19_tables_too_great.Holds := by
  w_on; o_law; k_head; (case hw => w_witness2)
  k_fill
  refine My.walk_ofT (l := PySem.Challenge.rw_heaptrees_k19_tables_too_great) (n := 63) (k := 40) (x := "script") rfl (by decide) (by decide) rfl ⟨rfl, by decide, by decide⟩ (fun w h Y => Y.1) ["judge_made"] ?R ?F
  case R => decide +kernel
  case F =>
    intro w mg fa h KX G hmg
    refine' ⟨_, ?n, ?m⟩
    case m =>
      refine' My.all_mk KX G hmg ?a0 ?l0 ?d0 ?k0 ?a1 ?l1 ?d1 ?k1 ?a2 ?l2 ?d2 ?k2 ?a3 ?l3 ?d3 ?k3 ?a4 ?l4 ?d4 ?k4 ?a5 ?l5 ?d5 ?k5 ?a6 ?l6 ?d6 ?k6 ?a7 ?l7 ?d7 ?k7 ?a8 ?l8 ?d8 ?k8 ?a9 ?l9 ?d9 ?k9 ?a10 ?l10 ?d10 ?k10 ?a11 ?l11 ?d11 ?k11 ?a12 ?l12 ?d12 ?k12 ?a13 ?l13 ?d13 ?k13 ?a14 ?l14 ?d14 ?k14 ?a15 ?l15 ?d15 ?k15 ?a16 ?l16 ?d16 ?k16 ?a17 ?l17 ?d17 ?k17 ?a18 ?l18 ?d18 ?k18 ?a19 ?l19 ?d19 ?k19 ?a20 ?l20 ?d20 ?k20 ?a21 ?l21 ?d21 ?k21 ?a22 ?l22 ?d22 ?k22 ?a23 ?l23 ?d23 ?k23 ?a24 ?l24 ?d24 ?k24 ?a25 ?l25 ?d25 ?k25 ?a26 ?l26 ?d26 ?k26 ?a27 ?l27 ?d27 ?k27 ?a28 ?l28 ?d28 ?k28 ?a29 ?l29 ?d29 ?k29 ?a30 ?l30 ?d30 ?k30 ?a31 ?l31 ?d31 ?k31 ?a32 ?l32 ?d32 ?k32 ?a33 ?l33 ?d33 ?k33 ?ak_MOST_STATES ?ak_MOST_FEW ?ak_MOST_TURN ?ak_MOST_TUPLES ?ak_MADE_OF_OTHERS ?lk_MADE_OF_OTHERS ?kk_MADE_OF_OTHERS ?ek_MADE_OF_OTHERS ?sk_MADE_OF_OTHERS ?ii_lcm ?t17 ?u17 ?z_all ?z_bool ?z_dict ?z_enumerate ?z_int ?z_isinstance ?z_len ?z_list ?z_max ?z_min ?z_range ?z_str ?z_sum ?z_tuple ?z_zip ?ac_HeapError ?k_HeapErrorc ?ac_NoTree ?k_NoTreec ?ac_NoLetter ?k_NoLetterc ?ac_NoFit ?k_NoFitc ?ac_TooMany ?k_TooManyc ?ac_NoNumber ?k_NoNumberc ?ac_NoText ?k_NoTextc ?ac_NoName ?k_NoNamec ?ac_NoRow ?k_NoRowc ?x_TooManyc ?b_TooManyc ?t_TooManyc ?E_TooManyc ?em_TooMany_HeapErrorc ?ki_TooMany_NoTreec ?ki_TooMany_NoLetterc ?ki_TooMany_NoFitc ?ki_TooMany_TooManyc ?ki_TooMany_NoNumberc ?ki_TooMany_NoTextc ?ki_TooMany_NoNamec ?ki_TooMany_NoRowc ?ki_TooMany_ValueErrorc ?zc_ValueError
      (case ac_HeapError => k_is)
      (case k_HeapErrorc => k_is)
      (case ac_NoTree => k_is)
      (case k_NoTreec => k_is)
      (case ac_NoLetter => k_is)
      (case k_NoLetterc => k_is)
      (case ac_NoFit => k_is)
      (case k_NoFitc => k_is)
      (case ac_TooMany => k_is)
      (case k_TooManyc => k_is)
      (case ac_NoNumber => k_is)
      (case k_NoNumberc => k_is)
      (case ac_NoText => k_is)
      (case k_NoTextc => k_is)
      (case ac_NoName => k_is)
      (case k_NoNamec => k_is)
      (case ac_NoRow => k_is)
      (case k_NoRowc => k_is)
      (case x_TooManyc => k_exc)
      (case b_TooManyc => k_is)
      (case t_TooManyc => k_is)
      (case E_TooManyc => refine ⟨?_, ?_, ?_, ?_, ?_, ?_, ?_, ?_⟩ <;> first | k_is | rfl | decide +kernel)
      (case em_TooMany_HeapErrorc => exact PySem.W.exm_ref (by k_is) (by k_is) (by k_is) (by first | k_is | rfl))
      (case ki_TooMany_NoTreec => exact My.kit_own (by k_is) (by k_is) (by first | k_is | rfl) (by first | exact .inl rfl | exact .inr rfl | exact .inr (by decide +kernel)))
      (case ki_TooMany_NoLetterc => exact My.kit_own (by k_is) (by k_is) (by first | k_is | rfl) (by first | exact .inl rfl | exact .inr rfl | exact .inr (by decide +kernel)))
      (case ki_TooMany_NoFitc => exact My.kit_own (by k_is) (by k_is) (by first | k_is | rfl) (by first | exact .inl rfl | exact .inr rfl | exact .inr (by decide +kernel)))
      (case ki_TooMany_TooManyc => exact My.kit_own (by k_is) (by k_is) (by first | k_is | rfl) (by first | exact .inl rfl | exact .inr rfl | exact .inr (by decide +kernel)))
      (case ki_TooMany_NoNumberc => exact My.kit_own (by k_is) (by k_is) (by first | k_is | rfl) (by first | exact .inl rfl | exact .inr rfl | exact .inr (by decide +kernel)))
      (case ki_TooMany_NoTextc => exact My.kit_own (by k_is) (by k_is) (by first | k_is | rfl) (by first | exact .inl rfl | exact .inr rfl | exact .inr (by decide +kernel)))
      (case ki_TooMany_NoNamec => exact My.kit_own (by k_is) (by k_is) (by first | k_is | rfl) (by first | exact .inl rfl | exact .inr rfl | exact .inr (by decide +kernel)))
      (case ki_TooMany_NoRowc => exact My.kit_own (by k_is) (by k_is) (by first | k_is | rfl) (by first | exact .inl rfl | exact .inr rfl | exact .inr (by decide +kernel)))
      (case ki_TooMany_ValueErrorc => exact My.kit_val (by k_is))
      (case zc_ValueError => k_is)
      (case a0 => k_is)
      (case l0 => k_is)
      (case d0 => k_is)
      (case k0 => k_is)
      (case a1 => k_is)
      (case l1 => k_is)
      (case d1 => k_is)
      (case k1 => k_is)
      (case a2 => k_is)
      (case l2 => k_is)
      (case d2 => k_is)
      (case k2 => k_is)
      (case a3 => k_is)
      (case l3 => k_is)
      (case d3 => k_is)
      (case k3 => k_is)
      (case a4 => k_is)
      (case l4 => k_is)
      (case d4 => k_is)
      (case k4 => k_is)
      (case a5 => k_is)
      (case l5 => k_is)
      (case d5 => k_is)
      (case k5 => k_is)
      (case a6 => k_is)
      (case l6 => k_is)
      (case d6 => k_is)
      (case k6 => k_is)
      (case a7 => k_is)
      (case l7 => k_is)
      (case d7 => k_is)
      (case k7 => k_is)
      (case a8 => k_is)
      (case l8 => k_is)
      (case d8 => k_is)
      (case k8 => k_is)
      (case a9 => k_is)
      (case l9 => k_is)
      (case d9 => k_is)
      (case k9 => k_is)
      (case a10 => k_is)
      (case l10 => k_is)
      (case d10 => k_is)
      (case k10 => k_is)
      (case a11 => k_is)
      (case l11 => k_is)
      (case d11 => k_is)
      (case k11 => k_is)
      (case a12 => k_is)
      (case l12 => k_is)
      (case d12 => k_is)
      (case k12 => k_is)
      (case a13 => k_is)
      (case l13 => k_is)
      (case d13 => k_is)
      (case k13 => k_is)
      (case a14 => k_is)
      (case l14 => k_is)
      (case d14 => k_is)
      (case k14 => k_is)
      (case a15 => k_is)
      (case l15 => k_is)
      (case d15 => k_is)
      (case k15 => k_is)
      (case a16 => k_is)
      (case l16 => k_is)
      (case d16 => k_is)
      (case k16 => k_is)
      (case a17 => k_is)
      (case l17 => k_is)
      (case d17 => k_is)
      (case k17 => k_is)
      (case a18 => k_is)
      (case l18 => k_is)
      (case d18 => k_is)
      (case k18 => k_is)
      (case a19 => k_is)
      (case l19 => k_is)
      (case d19 => k_is)
      (case k19 => k_is)
      (case a20 => k_is)
      (case l20 => k_is)
      (case d20 => k_is)
      (case k20 => k_is)
      (case a21 => k_is)
      (case l21 => k_is)
      (case d21 => k_is)
      (case k21 => k_is)
      (case a22 => k_is)
      (case l22 => k_is)
      (case d22 => k_is)
      (case k22 => k_is)
      (case a23 => k_is)
      (case l23 => k_is)
      (case d23 => k_is)
      (case k23 => k_is)
      (case a24 => k_is)
      (case l24 => k_is)
      (case d24 => k_is)
      (case k24 => k_is)
      (case a25 => k_is)
      (case l25 => k_is)
      (case d25 => k_is)
      (case k25 => k_is)
      (case a26 => k_is)
      (case l26 => k_is)
      (case d26 => k_is)
      (case k26 => k_is)
      (case a27 => k_is)
      (case l27 => k_is)
      (case d27 => k_is)
      (case k27 => k_is)
      (case a28 => k_is)
      (case l28 => k_is)
      (case d28 => k_is)
      (case k28 => k_is)
      (case a29 => k_is)
      (case l29 => k_is)
      (case d29 => k_is)
      (case k29 => k_is)
      (case a30 => k_is)
      (case l30 => k_is)
      (case d30 => k_is)
      (case k30 => k_is)
      (case a31 => k_is)
      (case l31 => k_is)
      (case d31 => k_is)
      (case k31 => k_is)
      (case a32 => k_is)
      (case l32 => k_is)
      (case d32 => k_is)
      (case k32 => k_is)
      (case a33 => k_is)
      (case l33 => k_is)
      (case d33 => k_is)
      (case k33 => k_is)
      (case ak_MOST_STATES => k_is)
      (case ak_MOST_FEW => k_is)
      (case ak_MOST_TURN => k_is)
      (case ak_MOST_TUPLES => k_is)
      (case ak_MADE_OF_OTHERS => k_is)
      (case lk_MADE_OF_OTHERS => k_is)
      (case kk_MADE_OF_OTHERS => k_keys)
      (case ek_MADE_OF_OTHERS => exact ⟨⟨_, _, _, rfl⟩, ⟨⟨_, _, _, rfl⟩, ⟨⟨_, _, _, rfl⟩, trivial⟩⟩⟩)
      (case sk_MADE_OF_OTHERS => rfl)
      (case ii_lcm => k_is)
      (case t17 => rfl)
      (case u17 => rfl)
      (case z_all => k_is)
      (case z_bool => k_is)
      (case z_dict => k_is)
      (case z_enumerate => k_is)
      (case z_int => k_is)
      (case z_isinstance => k_is)
      (case z_len => k_is)
      (case z_list => k_is)
      (case z_max => k_is)
      (case z_min => k_is)
      (case z_range => k_is)
      (case z_str => k_is)
      (case z_sum => k_is)
      (case z_tuple => k_is)
      (case z_zip => k_is)
    case n => rfl
#print axioms PySem.Challenge.cw_heaptrees_k19_tables_too_great_holds
