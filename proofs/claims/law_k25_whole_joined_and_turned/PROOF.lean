
import PyProof.Rows.All
import Wide.All
import OpenK.AllK
import Wide.FinOn
import HandS.ForMost
import HandS.Wide
import HandS.IsInst
import HandS.Exc
import HandS.ExcOwn
import HandS.ExcValue
import HandS.ExcIs
import HandS.TryOnly
import HandS.WordsExc
import HandS.Flow
import HandS.Style
import HandS.Codes
import HandS.Lambda
import HandS.Star
import HandS.Nested
import HandS.EndTab
import HandS.SortKw
import HandS.FStr
import HandS.NoneIn
import HandS.More
import HandS.Zip
import HandS.Conv
import HandS.TupAny
import HandS.RaiseMore
import HandS.Walk
import HandS.Iter
import HandS.Dict
import PyProof.StrLawsRepr
import KE.SortKeyHeap
import KE.SortData
import KE.DataFind
import KE.KEqNest
import PyProof.Draws
import PyProof.EnumMake
import KE.KeyNested
import KE.KDictKeyed
import HandS.Steps
import HandS.SetFor
import HandS.DictEq
import HandS.DictTup
import HandS.DictComp
import KE.KMathGC
import HandS.Gcd
import KE.GoesMore
import KE.GoesZip
import PySem.Challenge.RW_heaptrees_k25_whole_joined_and_turned
set_option Elab.async false
set_option linter.all false
set_option maxRecDepth 100000
set_option maxHeartbeats 4000000
namespace My
open PySem PySem.Spec PyProof.Rows L2
def topS (i : Nat) : Stmt := PySem.Challenge.pw_heaptrees_k25_whole_joined_and_turned.main.body.getD i (.Pass ⟨0, 0, 0, 0⟩)
abbrev s_is_letter : Stmt := topS 8
theorem sc_is_letter : FnScope ["thing"] ["thing"] (defScope s_is_letter) := ⟨rfl, rfl, rfl, by decide +kernel, rfl, by decide +kernel, by decide +kernel⟩
abbrev s_is_tree : Stmt := topS 10
theorem sc_is_tree : FnScope ["thing", "waiting", "part"] ["thing"] (defScope s_is_tree) := ⟨rfl, rfl, rfl, by decide +kernel, rfl, by decide +kernel, by decide +kernel⟩
abbrev s__is_part : Stmt := topS 11
theorem sc__is_part : FnScope ["thing"] ["thing"] (defScope s__is_part) := ⟨rfl, rfl, rfl, by decide +kernel, rfl, by decide +kernel, by decide +kernel⟩
abbrev s_check_tree : Stmt := topS 12
theorem sc_check_tree : FnScope ["thing"] ["thing"] (defScope s_check_tree) := ⟨rfl, rfl, rfl, by decide +kernel, rfl, by decide +kernel, by decide +kernel⟩
abbrev s_parts_upward : Stmt := topS 13
theorem sc_parts_upward : FnScope ["tree", "parts", "waiting", "part"] ["tree"] (defScope s_parts_upward) := ⟨rfl, rfl, rfl, by decide +kernel, rfl, by decide +kernel, by decide +kernel⟩
abbrev s_built_upward : Stmt := topS 14
theorem sc_built_upward : FnScope ["tree", "made", "waiting", "letter", "children", "first", "below"] ["tree", "made"] (defScope s_built_upward) := ⟨rfl, rfl, rfl, by decide +kernel, rfl, by decide +kernel, by decide +kernel⟩
abbrev s_tuples_due : Stmt := topS 19
theorem sc_tuples_due : FnScope ["letters", "states", "classes", "many", "_"] ["letters", "states", "classes"] (defScope s_tuples_due) := ⟨rfl, rfl, rfl, by decide +kernel, rfl, by decide +kernel, by decide +kernel⟩
abbrev s_class_of : Stmt := topS 20
theorem sc_class_of : FnScope ["number", "few", "turn"] ["number", "few", "turn"] (defScope s_class_of) := ⟨rfl, rfl, rfl, by decide +kernel, rfl, by decide +kernel, by decide +kernel⟩
abbrev s_class_rows : Stmt := topS 21
theorem sc_class_rows : FnScope ["states", "classes", "rows", "_", "row", "number"] ["states", "classes"] (defScope s_class_rows) := ⟨rfl, rfl, rfl, by decide +kernel, rfl, by decide +kernel, by decide +kernel⟩
abbrev s_keys_due : Stmt := topS 22
theorem sc_keys_due : FnScope ["letters", "states", "classes", "rows", "letter", "row"] ["letters", "states", "classes"] (defScope s_keys_due) := ⟨rfl, rfl, rfl, by decide +kernel, rfl, by decide +kernel, by decide +kernel⟩
abbrev s_table_made : Stmt := topS 23
theorem sc_table_made : FnScope ["letters", "states", "few", "turn", "state_at", "keys", "letter", "row"] ["letters", "states", "few", "turn", "state_at"] (defScope s_table_made) := ⟨rfl, rfl, rfl, by decide +kernel, rfl, by decide +kernel, by decide +kernel⟩
abbrev s_state_by_numbers : Stmt := topS 24
theorem sc_state_by_numbers : FnScope ["judge", "letter", "numbers", "row", "number"] ["judge", "letter", "numbers"] (defScope s_state_by_numbers) := ⟨rfl, rfl, rfl, by decide +kernel, rfl, by decide +kernel, by decide +kernel⟩
abbrev s__numbers : Stmt := topS 25
theorem sc__numbers : FnScope ["below", "states", "state"] ["below", "states"] (defScope s__numbers) := ⟨rfl, rfl, rfl, by decide +kernel, rfl, by decide +kernel, by decide +kernel⟩
abbrev s_check_letters : Stmt := topS 26
theorem sc_check_letters : FnScope ["parts", "letters", "letter", "_"] ["parts", "letters"] (defScope s_check_letters) := ⟨rfl, rfl, rfl, by decide +kernel, rfl, by decide +kernel, by decide +kernel⟩
abbrev s_states_upward : Stmt := topS 27
theorem sc_states_upward : FnScope ["tree", "letters", "states", "state_at", "told", "next_state"] ["tree", "letters", "states", "state_at"] (defScope s_states_upward) := ⟨rfl, rfl, rfl, by decide +kernel, rfl, by decide +kernel, by decide +kernel⟩
abbrev n_states_upward__next_state : Stmt := (defBody s_states_upward).getD 2 (.Pass ⟨0, 0, 0, 0⟩)
theorem sc_states_upward__next_state : NdefX.NScope ["letter", "below", "told", "state_at", "states"] ["letter", "below"] ["told", "state_at", "states"] (C8.fnScope n_states_upward__next_state) := NdefX.nscope_by (by decide +kernel)
theorem nd_states_upward__next_state : NdefX.ndefB (defScope s_states_upward) (C8.fnScope n_states_upward__next_state) ["told", "state_at", "states"] = true := by decide +kernel
abbrev s_part_states : Stmt := topS 28
theorem sc_part_states : FnScope ["judge", "tree"] ["judge", "tree"] (defScope s_part_states) := ⟨rfl, rfl, rfl, by decide +kernel, rfl, by decide +kernel, by decide +kernel⟩
abbrev s_state_of : Stmt := topS 29
theorem sc_state_of : FnScope ["judge", "tree"] ["judge", "tree"] (defScope s_state_of) := ⟨rfl, rfl, rfl, by decide +kernel, rfl, by decide +kernel, by decide +kernel⟩
abbrev s_lets_by : Stmt := topS 30
theorem sc_lets_by : FnScope ["judge", "tree"] ["judge", "tree"] (defScope s_lets_by) := ⟨rfl, rfl, rfl, by decide +kernel, rfl, by decide +kernel, by decide +kernel⟩
abbrev s_turned_judge : Stmt := topS 32
theorem sc_turned_judge : FnScope ["judge", "letters", "states", "few", "turn", "table", "good", "others", "state", "key"] ["judge"] (defScope s_turned_judge) := ⟨rfl, rfl, rfl, by decide +kernel, rfl, by decide +kernel, by decide +kernel⟩
abbrev s_judges_joined : Stmt := topS 33
theorem sc_judges_joined : FnScope ["word", "one", "other", "letters", "states", "few", "turn", "table"] ["word", "one", "other"] (defScope s_judges_joined) := ⟨rfl, rfl, rfl, by decide +kernel, rfl, by decide +kernel, by decide +kernel⟩
abbrev s__pair_at : Stmt := topS 34
theorem sc__pair_at : FnScope ["one", "other", "letter", "row", "width", "ones", "others", "first", "second"] ["one", "other", "letter", "row"] (defScope s__pair_at) := ⟨rfl, rfl, rfl, by decide +kernel, rfl, by decide +kernel, by decide +kernel⟩
abbrev s__good_pairs : Stmt := topS 35
theorem sc__good_pairs : FnScope ["word", "one", "other", "rows", "first", "second", "pair", "by_one", "by_other"] ["word", "one", "other"] (defScope s__good_pairs) := ⟨rfl, rfl, rfl, by decide +kernel, rfl, by decide +kernel, by decide +kernel⟩
abbrev s__law_cell_at : Stmt := topS 37
theorem sc__law_cell_at : FnScope ["script", "k"] ["script", "k"] (defScope s__law_cell_at) := ⟨rfl, rfl, rfl, by decide +kernel, rfl, by decide +kernel, by decide +kernel⟩
abbrev s__law_stir : Stmt := topS 38
theorem sc__law_stir : FnScope ["cell", "k", "one"] ["cell", "k"] (defScope s__law_stir) := ⟨rfl, rfl, rfl, by decide +kernel, rfl, by decide +kernel, by decide +kernel⟩
abbrev s__law_deck : Stmt := topS 39
theorem sc__law_deck : FnScope ["cell", "many", "found", "digits", "k", "number"] ["cell", "many"] (defScope s__law_deck) := ⟨rfl, rfl, rfl, by decide +kernel, rfl, by decide +kernel, by decide +kernel⟩
abbrev s__law_next : Stmt := topS 40
theorem sc__law_next : FnScope ["deck"] ["deck"] (defScope s__law_next) := ⟨rfl, rfl, rfl, by decide +kernel, rfl, by decide +kernel, by decide +kernel⟩
abbrev s__law_classes : Stmt := topS 41
theorem sc__law_classes : FnScope ["states", "many", "found", "state", "longer", "classes", "c"] ["states", "many"] (defScope s__law_classes) := ⟨rfl, rfl, rfl, by decide +kernel, rfl, by decide +kernel, by decide +kernel⟩
abbrev s__law_room : Stmt := topS 42
theorem sc__law_room : FnScope ["letters", "states", "many", "found", "state"] ["letters", "states", "many"] (defScope s__law_room) := ⟨rfl, rfl, rfl, by decide +kernel, rfl, by decide +kernel, by decide +kernel⟩
abbrev s__law_judge : Stmt := topS 43
theorem sc__law_judge : FnScope ["deck", "letters", "most", "room", "states", "few", "turn", "way", "seed", "weights", "table", "classes", "total", "k", "letter", "number", "key", "keys", "at", "state", "weight", "c"] ["deck", "letters", "most", "room"] (defScope s__law_judge) := ⟨rfl, rfl, rfl, by decide +kernel, rfl, by decide +kernel, by decide +kernel⟩
abbrev s__law_letters : Stmt := topS 44
theorem sc__law_letters : FnScope ["deck"] ["deck"] (defScope s__law_letters) := ⟨rfl, rfl, rfl, by decide +kernel, rfl, by decide +kernel, by decide +kernel⟩
abbrev s__law_tree : Stmt := topS 45
theorem sc__law_tree : FnScope ["deck", "letters", "most", "parts", "k", "part", "here"] ["deck", "letters", "most"] (defScope s__law_tree) := ⟨rfl, rfl, rfl, by decide +kernel, rfl, by decide +kernel, by decide +kernel⟩
abbrev s__law_small : Stmt := topS 46
theorem sc__law_small : FnScope ["deck", "letters", "most", "judge", "turn", "letter"] ["deck", "letters", "most"] (defScope s__law_small) := ⟨rfl, rfl, rfl, by decide +kernel, rfl, by decide +kernel, by decide +kernel⟩
abbrev s__law_right : Stmt := topS 47
theorem sc__law_right : FnScope ["one", "other", "tree", "lets", "both", "either", "less", "none", "every"] ["one", "other", "tree"] (defScope s__law_right) := ⟨rfl, rfl, rfl, by decide +kernel, rfl, by decide +kernel, by decide +kernel⟩
abbrev s_law : Stmt := topS 48
theorem sc_law : FnScope ["script", "k", "deck", "letters", "one", "other", "j"] ["script"] (defScope s_law) := ⟨rfl, rfl, rfl, by decide +kernel, rfl, by decide +kernel, by decide +kernel⟩
structure Txt (K : PySem.W.Frag) (mg : Str → Option Value) where
  f_is_letter : Addr
  d_is_letter : FuncData
  F_is_letter : Fun K "is_letter" "is_letter" s_is_letter f_is_letter d_is_letter
  b_is_letter : Binds K d_is_letter ["thing"] []
  m_is_letter : mg "is_letter" = some (.ref f_is_letter)
  f_is_tree : Addr
  d_is_tree : FuncData
  F_is_tree : Fun K "is_tree" "is_tree" s_is_tree f_is_tree d_is_tree
  b_is_tree : Binds K d_is_tree ["thing"] []
  m_is_tree : mg "is_tree" = some (.ref f_is_tree)
  f__is_part : Addr
  d__is_part : FuncData
  F__is_part : Fun K "_is_part" "_is_part" s__is_part f__is_part d__is_part
  b__is_part : Binds K d__is_part ["thing"] []
  m__is_part : mg "_is_part" = some (.ref f__is_part)
  f_check_tree : Addr
  d_check_tree : FuncData
  F_check_tree : Fun K "check_tree" "check_tree" s_check_tree f_check_tree d_check_tree
  b_check_tree : Binds K d_check_tree ["thing"] []
  m_check_tree : mg "check_tree" = some (.ref f_check_tree)
  f_parts_upward : Addr
  d_parts_upward : FuncData
  F_parts_upward : Fun K "parts_upward" "parts_upward" s_parts_upward f_parts_upward d_parts_upward
  b_parts_upward : Binds K d_parts_upward ["tree"] []
  m_parts_upward : mg "parts_upward" = some (.ref f_parts_upward)
  f_built_upward : Addr
  d_built_upward : FuncData
  F_built_upward : Fun K "built_upward" "built_upward" s_built_upward f_built_upward d_built_upward
  b_built_upward : Binds K d_built_upward ["tree", "made"] []
  m_built_upward : mg "built_upward" = some (.ref f_built_upward)
  f_tuples_due : Addr
  d_tuples_due : FuncData
  F_tuples_due : Fun K "tuples_due" "tuples_due" s_tuples_due f_tuples_due d_tuples_due
  b_tuples_due : Binds K d_tuples_due ["letters", "states", "classes"] []
  m_tuples_due : mg "tuples_due" = some (.ref f_tuples_due)
  f_class_of : Addr
  d_class_of : FuncData
  F_class_of : Fun K "class_of" "class_of" s_class_of f_class_of d_class_of
  b_class_of : Binds K d_class_of ["number", "few", "turn"] []
  m_class_of : mg "class_of" = some (.ref f_class_of)
  f_class_rows : Addr
  d_class_rows : FuncData
  F_class_rows : Fun K "class_rows" "class_rows" s_class_rows f_class_rows d_class_rows
  b_class_rows : Binds K d_class_rows ["states", "classes"] []
  m_class_rows : mg "class_rows" = some (.ref f_class_rows)
  f_keys_due : Addr
  d_keys_due : FuncData
  F_keys_due : Fun K "keys_due" "keys_due" s_keys_due f_keys_due d_keys_due
  b_keys_due : Binds K d_keys_due ["letters", "states", "classes"] []
  m_keys_due : mg "keys_due" = some (.ref f_keys_due)
  f_table_made : Addr
  d_table_made : FuncData
  F_table_made : Fun K "table_made" "table_made" s_table_made f_table_made d_table_made
  b_table_made : Binds K d_table_made ["letters", "states", "few", "turn", "state_at"] []
  m_table_made : mg "table_made" = some (.ref f_table_made)
  f_state_by_numbers : Addr
  d_state_by_numbers : FuncData
  F_state_by_numbers : Fun K "state_by_numbers" "state_by_numbers" s_state_by_numbers f_state_by_numbers d_state_by_numbers
  b_state_by_numbers : Binds K d_state_by_numbers ["judge", "letter", "numbers"] []
  m_state_by_numbers : mg "state_by_numbers" = some (.ref f_state_by_numbers)
  f__numbers : Addr
  d__numbers : FuncData
  F__numbers : Fun K "_numbers" "_numbers" s__numbers f__numbers d__numbers
  b__numbers : Binds K d__numbers ["below", "states"] []
  m__numbers : mg "_numbers" = some (.ref f__numbers)
  f_check_letters : Addr
  d_check_letters : FuncData
  F_check_letters : Fun K "check_letters" "check_letters" s_check_letters f_check_letters d_check_letters
  b_check_letters : Binds K d_check_letters ["parts", "letters"] []
  m_check_letters : mg "check_letters" = some (.ref f_check_letters)
  f_states_upward : Addr
  d_states_upward : FuncData
  F_states_upward : Fun K "states_upward" "states_upward" s_states_upward f_states_upward d_states_upward
  b_states_upward : Binds K d_states_upward ["tree", "letters", "states", "state_at"] []
  m_states_upward : mg "states_upward" = some (.ref f_states_upward)
  f_part_states : Addr
  d_part_states : FuncData
  F_part_states : Fun K "part_states" "part_states" s_part_states f_part_states d_part_states
  b_part_states : Binds K d_part_states ["judge", "tree"] []
  m_part_states : mg "part_states" = some (.ref f_part_states)
  f_state_of : Addr
  d_state_of : FuncData
  F_state_of : Fun K "state_of" "state_of" s_state_of f_state_of d_state_of
  b_state_of : Binds K d_state_of ["judge", "tree"] []
  m_state_of : mg "state_of" = some (.ref f_state_of)
  f_lets_by : Addr
  d_lets_by : FuncData
  F_lets_by : Fun K "lets_by" "lets_by" s_lets_by f_lets_by d_lets_by
  b_lets_by : Binds K d_lets_by ["judge", "tree"] []
  m_lets_by : mg "lets_by" = some (.ref f_lets_by)
  f_turned_judge : Addr
  d_turned_judge : FuncData
  F_turned_judge : Fun K "turned_judge" "turned_judge" s_turned_judge f_turned_judge d_turned_judge
  b_turned_judge : Binds K d_turned_judge ["judge"] []
  m_turned_judge : mg "turned_judge" = some (.ref f_turned_judge)
  f_judges_joined : Addr
  d_judges_joined : FuncData
  F_judges_joined : Fun K "judges_joined" "judges_joined" s_judges_joined f_judges_joined d_judges_joined
  b_judges_joined : Binds K d_judges_joined ["word", "one", "other"] []
  m_judges_joined : mg "judges_joined" = some (.ref f_judges_joined)
  f__pair_at : Addr
  d__pair_at : FuncData
  F__pair_at : Fun K "_pair_at" "_pair_at" s__pair_at f__pair_at d__pair_at
  b__pair_at : Binds K d__pair_at ["one", "other", "letter", "row"] []
  m__pair_at : mg "_pair_at" = some (.ref f__pair_at)
  f__good_pairs : Addr
  d__good_pairs : FuncData
  F__good_pairs : Fun K "_good_pairs" "_good_pairs" s__good_pairs f__good_pairs d__good_pairs
  b__good_pairs : Binds K d__good_pairs ["word", "one", "other"] []
  m__good_pairs : mg "_good_pairs" = some (.ref f__good_pairs)
  f__law_cell_at : Addr
  d__law_cell_at : FuncData
  F__law_cell_at : Fun K "_law_cell_at" "_law_cell_at" s__law_cell_at f__law_cell_at d__law_cell_at
  b__law_cell_at : Binds K d__law_cell_at ["script", "k"] []
  m__law_cell_at : mg "_law_cell_at" = some (.ref f__law_cell_at)
  f__law_stir : Addr
  d__law_stir : FuncData
  F__law_stir : Fun K "_law_stir" "_law_stir" s__law_stir f__law_stir d__law_stir
  b__law_stir : Binds K d__law_stir ["cell", "k"] []
  m__law_stir : mg "_law_stir" = some (.ref f__law_stir)
  f__law_deck : Addr
  d__law_deck : FuncData
  F__law_deck : Fun K "_law_deck" "_law_deck" s__law_deck f__law_deck d__law_deck
  b__law_deck : Binds K d__law_deck ["cell", "many"] []
  m__law_deck : mg "_law_deck" = some (.ref f__law_deck)
  f__law_next : Addr
  d__law_next : FuncData
  F__law_next : Fun K "_law_next" "_law_next" s__law_next f__law_next d__law_next
  b__law_next : Binds K d__law_next ["deck"] []
  m__law_next : mg "_law_next" = some (.ref f__law_next)
  f__law_classes : Addr
  d__law_classes : FuncData
  F__law_classes : Fun K "_law_classes" "_law_classes" s__law_classes f__law_classes d__law_classes
  b__law_classes : Binds K d__law_classes ["states", "many"] []
  m__law_classes : mg "_law_classes" = some (.ref f__law_classes)
  f__law_room : Addr
  d__law_room : FuncData
  F__law_room : Fun K "_law_room" "_law_room" s__law_room f__law_room d__law_room
  b__law_room : Binds K d__law_room ["letters", "states", "many"] []
  m__law_room : mg "_law_room" = some (.ref f__law_room)
  f__law_judge : Addr
  d__law_judge : FuncData
  F__law_judge : Fun K "_law_judge" "_law_judge" s__law_judge f__law_judge d__law_judge
  b__law_judge : Binds K d__law_judge ["deck", "letters", "most", "room"] []
  m__law_judge : mg "_law_judge" = some (.ref f__law_judge)
  f__law_letters : Addr
  d__law_letters : FuncData
  F__law_letters : Fun K "_law_letters" "_law_letters" s__law_letters f__law_letters d__law_letters
  b__law_letters : Binds K d__law_letters ["deck"] []
  m__law_letters : mg "_law_letters" = some (.ref f__law_letters)
  f__law_tree : Addr
  d__law_tree : FuncData
  F__law_tree : Fun K "_law_tree" "_law_tree" s__law_tree f__law_tree d__law_tree
  b__law_tree : Binds K d__law_tree ["deck", "letters", "most"] []
  m__law_tree : mg "_law_tree" = some (.ref f__law_tree)
  f__law_small : Addr
  d__law_small : FuncData
  F__law_small : Fun K "_law_small" "_law_small" s__law_small f__law_small d__law_small
  b__law_small : Binds K d__law_small ["deck", "letters", "most"] []
  m__law_small : mg "_law_small" = some (.ref f__law_small)
  f__law_right : Addr
  d__law_right : FuncData
  F__law_right : Fun K "_law_right" "_law_right" s__law_right f__law_right d__law_right
  b__law_right : Binds K d__law_right ["one", "other", "tree"] []
  m__law_right : mg "_law_right" = some (.ref f__law_right)
  f_law : Addr
  d_law : FuncData
  F_law : Fun K "law" "law" s_law f_law d_law
  b_law : Binds K d_law ["script"] []
  m_law : mg "law" = some (.ref f_law)
  t_MOST_STATES : Tok
  g_MOST_STATES : mg "MOST_STATES" = some (.int 6 t_MOST_STATES)
  t_MOST_TURN : Tok
  g_MOST_TURN : mg "MOST_TURN" = some (.int 4 t_MOST_TURN)
  t_MOST_TUPLES : Tok
  g_MOST_TUPLES : mg "MOST_TUPLES" = some (.int 600 t_MOST_TUPLES)
  g_lcm : mg "lcm" = some (.builtin "math.lcm")
  c_states_upward : Addr
  P_states_upward : Addr
  h_states_upward : d_states_upward.code = .ref c_states_upward
  c_part_states : Addr
  P_part_states : Addr
  h_part_states : d_part_states.code = .ref c_part_states
  c_judges_joined : Addr
  P_judges_joined : Addr
  h_judges_joined : d_judges_joined.code = .ref c_judges_joined
  n_states_upward_part_states : P_states_upward ≠ P_part_states
  n_states_upward_judges_joined : P_states_upward ≠ P_judges_joined
  n_part_states_judges_joined : P_part_states ≠ P_judges_joined
  z_dict : mg "dict" = none
  z_enumerate : mg "enumerate" = none
  z_int : mg "int" = none
  z_isinstance : mg "isinstance" = none
  z_len : mg "len" = none
  z_list : mg "list" = none
  z_max : mg "max" = none
  z_min : mg "min" = none
  z_range : mg "range" = none
  z_str : mg "str" = none
  z_sum : mg "sum" = none
  z_tuple : mg "tuple" = none
  z_zip : mg "zip" = none
structure Tbs {K : PySem.W.Frag} {mg : Str → Option Value} (T : Txt K mg) (base : Heap) : Prop where
  tb_states_upward : LamX.TabB base mg T.c_states_upward T.P_states_upward
  tb_part_states : LamX.TabB base mg T.c_part_states T.P_part_states
  tb_judges_joined : LamX.TabB base mg T.c_judges_joined T.P_judges_joined
abbrev q_states_upward : Str := "states_upward" ++ ".<locals>." ++ "next_state"
abbrev q_part_states : Str := "part_states" ++ ".<locals>." ++ "<lambda>"
abbrev q_judges_joined : Str := "judges_joined" ++ ".<locals>." ++ "<lambda>"
local macro_rules | `(tactic| walk_at "my rd") => `(tactic| repeat (first | refine ⟨_, rfl, ?_⟩ | refine ⟨_, _, rfl, rfl, ?_⟩ | refine ⟨rfl, ?_⟩))
local macro_rules | `(tactic| walk_at "my one") => `(tactic| first | refine ⟨_, rfl, ?_⟩ | refine ⟨_, _, rfl, rfl, ?_⟩ | refine ⟨rfl, ?_⟩)
def Chg (p : Addr) (H H' : Hp) : Prop := ∀ b, b ≠ p → H' b = H b
theorem Chg.refl (p : Addr) (H : Hp) : Chg p H H := fun _ _ => rfl
theorem Chg.trans {p : Addr} {H H1 H2 : Hp} (a : Chg p H H1) (b : Chg p H1 H2) : Chg p H H2 := fun c hc => (b c hc).trans (a c hc)
theorem Chg.upd {p : Addr} {H : Hp} {o : HO} : Chg p H (upd H p o) := fun _ h => upd_ne h
theorem Chg.at {p b : Addr} {H H' : Hp} {o : HO} (c : Chg p H H') (h : H b = some o) (n : b ≠ p) : H' b = some o := (c b n).trans h
theorem Chg.seq {K : PySem.W.Frag} {p a : Addr} {H H' : Hp} {xs : List V} (c : Chg p H H') (hp : H p = none) (h : SqL K H a xs) : SqL K H' a xs := by
  rcases h with (h | ⟨o, h⟩) | h
  · exact .inl (.inl (c.at h (ne_of_none h hp)))
  · exact .inl (.inr ⟨o, c.at h (ne_of_none h hp)⟩)
  · exact .inr h
theorem same_new {H : Hp} {p : Addr} {o : HO} (h : H p = none) : Same H (upd H p o) := fun b u q => by rw [upd_ne (ne_of_none q h)]; exact q
theorem nn_mul {a b A B : Int} (h0 : 0 ≤ a) (h1 : a ≤ A) (g0 : 0 ≤ b) (g1 : b ≤ B) : 0 ≤ a * b ∧ a * b ≤ A * B :=
  ⟨Int.mul_nonneg h0 g0, Int.mul_le_mul h1 g1 g0 (Int.le_trans h0 h1)⟩
theorem divW {i j : Int} (h : 0 < j) (h2 : j < 2 ^ 60) : CDivW i j := wide_div (b := 60) h (by omega) (by decide) (by decide)

theorem lay_ints : ∀ xs : List Int, PyData.canLayAll0 (xs.map PyData.int) = true
  | [] => by simp only [List.map_nil, PyData.canLayAll0]
  | x :: r => by simp only [List.map_cons, PyData.canLayAll0, PyData.canLay0, lay_ints r, Bool.and_self]
theorem dep_ints : ∀ xs : List Int, PyData.depthAll (xs.map PyData.int) ≤ 1
  | [] => by simp only [List.map_nil, PyData.depthAll]; omega
  | x :: r => by
    have := dep_ints r
    simp only [List.map_cons, PyData.depthAll, PyData.depth]
    omega
theorem shaped_ints (xs : List Int) : SeqAt.shaped (.list (xs.map PyData.int)) = true := by
  have a := lay_ints xs
  have b := dep_ints xs
  unfold SeqAt.shaped
  rw [Bool.and_eq_true]
  refine ⟨by simp only [PyData.canLay0]; exact a, decide_eq_true ?_⟩
  simp only [PyData.depth]
  omega
theorem dp_ints {K : PySem.W.Frag} {H : Hp} : ∀ xs : List Int, DpAll K H (xs.map V.int) (xs.map PyData.int)
  | [] => .nil
  | x :: r => .cons (.int x) (dp_ints r)
theorem dp_intsL {K : PySem.W.Frag} {H : Hp} {a : Addr} {xs : List Int} (h : SqL K H a (xs.map V.int)) : Dp K H (.ref a) (.list (xs.map PyData.int)) := .lst h (dp_ints xs)
theorem eqv_self {d : PyData} (h : SeqAt.shaped d = true) : PyData.eqv d d = true := SeqAt.eqv_refl d (SeqAt.canLay_of_shaped h)

inductive Tr where
  | node (c : Nat) (ks : List Tr)
def ch (c : Nat) : Str := ⟨#[c]⟩
mutual
def Tr.size : Tr → Nat
  | .node _ ks => 1 + sizes ks
def sizes : List Tr → Nat
  | [] => 0
  | t :: r => t.size + sizes r
end
mutual
def Tr.depth : Tr → Nat
  | .node _ ks => 1 + depths ks
def depths : List Tr → Nat
  | [] => 0
  | t :: r => max t.depth (depths r)
end
mutual
def Tr.post : Tr → List Tr
  | .node c ks => posts ks ++ [.node c ks]
def posts : List Tr → List Tr
  | [] => []
  | t :: r => t.post ++ posts r
end

mutual
def Tr.lets (p : Nat → Prop) : Tr → Prop
  | .node c ks => p c ∧ letss p ks
def letss (p : Nat → Prop) : List Tr → Prop
  | [] => True
  | t :: r => t.lets p ∧ letss p r
end
def Tr.kids : Tr → List Tr
  | .node _ ks => ks
def Tr.top : Tr → Nat
  | .node c _ => c
theorem sizes_append : ∀ a b : List Tr, sizes (a ++ b) = sizes a + sizes b
  | [], b => by simp only [List.nil_append, sizes]; omega
  | t :: r, b => by simp only [List.cons_append, sizes, sizes_append r b]; omega
theorem depths_append : ∀ a b : List Tr, depths (a ++ b) = max (depths a) (depths b)
  | [], b => by simp only [List.nil_append, depths]; omega
  | t :: r, b => by simp only [List.cons_append, depths, depths_append r b]; omega
theorem posts_append : ∀ a b : List Tr, posts (a ++ b) = posts a ++ posts b
  | [], b => by simp only [List.nil_append, posts]
  | t :: r, b => by simp only [List.cons_append, posts, posts_append r b, List.append_assoc]
theorem letss_append (p : Nat → Prop) : ∀ a b : List Tr, letss p (a ++ b) ↔ letss p a ∧ letss p b
  | [], b => by simp only [List.nil_append, letss, true_and]
  | t :: r, b => by simp only [List.cons_append, letss, letss_append p r b, and_assoc]
theorem size_pos : ∀ t : Tr, 1 ≤ t.size
  | .node c ks => by simp only [Tr.size]; omega
theorem len_sizes : ∀ ts : List Tr, ts.length ≤ sizes ts
  | [] => Nat.le_refl _
  | t :: r => by
    have a := size_pos t
    have b := len_sizes r
    simp only [List.length_cons, sizes]
    omega
mutual
theorem post_len : ∀ t : Tr, t.post.length = t.size
  | .node c ks => by simp only [Tr.post, List.length_append, posts_len ks, List.length_singleton, Tr.size]; omega
theorem posts_len : ∀ ts : List Tr, (posts ts).length = sizes ts
  | [] => rfl
  | t :: r => by simp only [posts, List.length_append, post_len t, posts_len r, sizes]
end
theorem sizes_mem : ∀ {ts : List Tr} {t : Tr}, t ∈ ts → t.size ≤ sizes ts
  | u :: r, t, h => by
    rcases List.mem_cons.mp h with e | h
    · subst e; simp only [sizes]; omega
    · have := sizes_mem h
      simp only [sizes]; omega
theorem depths_mem : ∀ {ts : List Tr} {t : Tr}, t ∈ ts → t.depth ≤ depths ts
  | u :: r, t, h => by
    rcases List.mem_cons.mp h with e | h
    · subst e; simp only [depths]; omega
    · have := depths_mem h
      simp only [depths]; omega
theorem letss_mem {p : Nat → Prop} : ∀ {ts : List Tr} {t : Tr}, letss p ts → t ∈ ts → t.lets p
  | u :: r, t, hl, h => by
    simp only [letss] at hl
    rcases List.mem_cons.mp h with e | h
    · subst e; exact hl.1
    · exact letss_mem hl.2 h
mutual
theorem lets_mono {p q : Nat → Prop} (h : ∀ c, p c → q c) : ∀ t : Tr, t.lets p → t.lets q
  | .node c ks, a => by
    simp only [Tr.lets] at a ⊢
    exact ⟨h _ a.1, letss_mono h ks a.2⟩
theorem letss_mono {p q : Nat → Prop} (h : ∀ c, p c → q c) : ∀ ts : List Tr, letss p ts → letss q ts
  | [], _ => trivial
  | t :: r, a => by
    simp only [letss] at a ⊢
    exact ⟨lets_mono h t a.1, letss_mono h r a.2⟩
end
mutual
inductive TrAt (ok : Addr → Prop) (H : Hp) : V → Tr → Prop
  | node {a l : Addr} {vs : List V} {c : Nat} {ks : List Tr} : H a = some (.tup [.str (ch c), .ref l]) → H l = some (.lst vs) → ok a → ok l → 97 ≤ c → c ≤ 122 → TrsAt ok H vs ks → TrAt ok H (.ref a) (.node c ks)
inductive TrsAt (ok : Addr → Prop) (H : Hp) : List V → List Tr → Prop
  | nil : TrsAt ok H [] []
  | cons {v : V} {vs : List V} {t : Tr} {ts : List Tr} : TrAt ok H v t → TrsAt ok H vs ts → TrsAt ok H (v :: vs) (t :: ts)
end
section
variable {ok ok' : Addr → Prop} {H H' : Hp}
mutual
theorem TrAt.imp (hk : ∀ b, ok b → ok' b) (h : ∀ b o, ok b → H b = some o → H' b = some o) : ∀ (t : Tr) (v : V), TrAt ok H v t → TrAt ok' H' v t
  | .node c ks, v, x => by
    cases x with
    | node h1 h2 k1 k2 c1 c2 r => exact .node (h _ _ k1 h1) (h _ _ k2 h2) (hk _ k1) (hk _ k2) c1 c2 (TrsAt.imp hk h ks _ r)
theorem TrsAt.imp (hk : ∀ b, ok b → ok' b) (h : ∀ b o, ok b → H b = some o → H' b = some o) : ∀ (ts : List Tr) (vs : List V), TrsAt ok H vs ts → TrsAt ok' H' vs ts
  | [], _, x => by cases x; exact .nil
  | t :: r, _, x => by
    cases x with
    | cons a b => exact .cons (TrAt.imp hk h t _ a) (TrsAt.imp hk h r _ b)
end
theorem TrAt.keep {v : V} {t : Tr} (x : TrAt ok H v t) (h : ∀ b o, ok b → H b = some o → H' b = some o) : TrAt ok H' v t := TrAt.imp (fun _ k => k) h t v x
theorem TrsAt.keep {vs : List V} {ts : List Tr} (x : TrsAt ok H vs ts) (h : ∀ b o, ok b → H b = some o → H' b = some o) : TrsAt ok H' vs ts := TrsAt.imp (fun _ k => k) h ts vs x
theorem TrAt.weak {v : V} {t : Tr} (x : TrAt ok H v t) (h : ∀ b, ok b → ok' b) : TrAt ok' H v t := TrAt.imp h (fun _ _ _ e => e) t v x
theorem TrsAt.weak {vs : List V} {ts : List Tr} (x : TrsAt ok H vs ts) (h : ∀ b, ok b → ok' b) : TrsAt ok' H vs ts := TrsAt.imp h (fun _ _ _ e => e) ts vs x
mutual
theorem TrAt.there : ∀ (t : Tr) (v : V), TrAt ok H v t → TrAt (fun b => ok b ∧ ∃ o, H b = some o) H v t
  | .node c ks, v, x => by
    cases x with
    | node h1 h2 k1 k2 c1 c2 r => exact .node h1 h2 ⟨k1, _, h1⟩ ⟨k2, _, h2⟩ c1 c2 (TrsAt.there ks _ r)
theorem TrsAt.there : ∀ (ts : List Tr) (vs : List V), TrsAt ok H vs ts → TrsAt (fun b => ok b ∧ ∃ o, H b = some o) H vs ts
  | [], _, x => by cases x; exact .nil
  | t :: r, _, x => by
    cases x with
    | cons a b => exact .cons (TrAt.there t _ a) (TrsAt.there r _ b)
end
theorem TrsAt.len : ∀ {vs : List V} {ts : List Tr}, TrsAt ok H vs ts → vs.length = ts.length
  | [], [], _ => rfl
  | v :: vs, t :: ts, h => by
    cases h with
    | cons a b => simp only [List.length_cons, TrsAt.len b]
  | [], _ :: _, h => by cases h
  | _ :: _, [], h => by cases h
theorem TrsAt.get : ∀ {vs : List V} {ts : List Tr} {i : Nat} {t : Tr}, TrsAt ok H vs ts → ts[i]? = some t → ∃ v, vs[i]? = some v ∧ TrAt ok H v t
  | _, _, i, t, .nil, e => by simp at e
  | _, _, 0, t, .cons a _, e => by simp at e; subst e; exact ⟨_, rfl, a⟩
  | _, _, i + 1, t, .cons _ b, e => by
    obtain ⟨v, h1, h2⟩ := TrsAt.get (i := i) (t := t) b (by simpa using e)
    exact ⟨v, by simpa using h1, h2⟩
theorem TrsAt.getV : ∀ {vs : List V} {ts : List Tr} {i : Nat} {v : V}, TrsAt ok H vs ts → vs[i]? = some v → ∃ t, ts[i]? = some t ∧ TrAt ok H v t
  | _, _, i, t, .nil, e => by simp at e
  | _, _, 0, t, .cons a _, e => by simp at e; subst e; exact ⟨_, rfl, a⟩
  | _, _, i + 1, t, .cons _ b, e => by
    obtain ⟨v, h1, h2⟩ := TrsAt.getV (i := i) (v := t) b (by simpa using e)
    exact ⟨v, by simpa using h1, h2⟩
theorem TrsAt.append : ∀ {vs ws : List V} {ts us : List Tr}, TrsAt ok H vs ts → TrsAt ok H ws us → TrsAt ok H (vs ++ ws) (ts ++ us)
  | [], _, [], _, _, h => h
  | v :: vs, _, t :: ts, _, h, g => by
    cases h with
    | cons a b => exact .cons a (TrsAt.append b g)
  | [], _, _ :: _, _, h, _ => by cases h
  | _ :: _, _, [], _, h, _ => by cases h
theorem TrsAt.split : ∀ {vs ws : List V} {ts : List Tr}, TrsAt ok H (vs ++ ws) ts → ∃ a b, ts = a ++ b ∧ TrsAt ok H vs a ∧ TrsAt ok H ws b
  | [], ws, ts, h => ⟨[], ts, rfl, .nil, h⟩
  | v :: vs, ws, _, h => by
    cases h with
    | cons x y =>
      obtain ⟨a, b, e, h1, h2⟩ := TrsAt.split y
      exact ⟨_ :: a, b, by rw [e]; rfl, .cons x h1, h2⟩
theorem TrsAt.perm {vs ws : List V} (p : vs.Perm ws) : ∀ {ts : List Tr}, TrsAt ok H vs ts → ∃ us, ts.Perm us ∧ TrsAt ok H ws us := by
  induction p with
  | nil => intro ts h; exact ⟨ts, .refl _, h⟩
  | cons x _ ih =>
    intro ts h
    cases h with
    | cons a b =>
      obtain ⟨us, p1, h1⟩ := ih b
      exact ⟨_ :: us, p1.cons _, .cons a h1⟩
  | swap x y l =>
    intro ts h
    cases h with
    | cons a b =>
      cases b with
      | cons c d => exact ⟨_, .swap _ _ _, .cons c (.cons a d)⟩
  | trans _ _ ih1 ih2 =>
    intro ts h
    obtain ⟨us, p1, h1⟩ := ih1 h
    obtain ⟨ws, p2, h2⟩ := ih2 h1
    exact ⟨ws, p1.trans p2, h2⟩
theorem TrsAt.rev {vs : List V} {ts : List Tr} (h : TrsAt ok H vs ts) : TrsAt ok H vs.reverse ts.reverse := by
  induction vs generalizing ts with
  | nil => cases h; exact .nil
  | cons v vs ih =>
    cases h with
    | cons a b =>
      rw [List.reverse_cons, List.reverse_cons]
      exact (ih b).append (.cons a .nil)
end
theorem sizes_perm {a b : List Tr} (p : a.Perm b) : sizes a = sizes b := by
  induction p with
  | nil => rfl
  | cons x _ ih => simp only [sizes, ih]
  | swap x y l => simp only [sizes]; omega
  | trans _ _ ih1 ih2 => exact ih1.trans ih2
theorem depths_perm {a b : List Tr} (p : a.Perm b) : depths a = depths b := by
  induction p with
  | nil => rfl
  | cons x _ ih => simp only [depths, ih]
  | swap x y l => simp only [depths]; omega
  | trans _ _ ih1 ih2 => exact ih1.trans ih2
theorem letss_perm {p : Nat → Prop} {a b : List Tr} (h : a.Perm b) : letss p a → letss p b := by
  induction h with
  | nil => exact id
  | cons x _ ih =>
    intro q
    simp only [letss] at q ⊢
    exact ⟨q.1, ih q.2⟩
  | swap x y l =>
    intro q
    simp only [letss] at q ⊢
    exact ⟨q.2.1, q.1, q.2.2⟩
  | trans _ _ ih1 ih2 => exact fun q => ih2 (ih1 q)
mutual
inductive Sh : Tr → Tr → Prop
  | node {c : Nat} {ks us ls : List Tr} : ks.Perm us → Shs us ls → Sh (.node c ks) (.node c ls)
inductive Shs : List Tr → List Tr → Prop
  | nil : Shs [] []
  | cons {t u : Tr} {ts us : List Tr} : Sh t u → Shs ts us → Shs (t :: ts) (u :: us)
end
mutual
theorem Sh.refl : ∀ t : Tr, Sh t t
  | .node c ks => .node (.refl _) (Shs.refl ks)
theorem Shs.refl : ∀ ts : List Tr, Shs ts ts
  | [] => .nil
  | t :: r => .cons (Sh.refl t) (Shs.refl r)
end
mutual
theorem Sh.size : ∀ {t u : Tr}, Sh t u → t.size = u.size
  | _, _, .node p h => by simp only [Tr.size, sizes_perm p, Shs.sizes h]
theorem Shs.sizes : ∀ {ts us : List Tr}, Shs ts us → My.sizes ts = My.sizes us
  | _, _, .nil => rfl
  | _, _, .cons a b => by simp only [My.sizes, Sh.size a, Shs.sizes b]
end
mutual
theorem Sh.depth : ∀ {t u : Tr}, Sh t u → t.depth = u.depth
  | _, _, .node p h => by simp only [Tr.depth, depths_perm p, Shs.depths h]
theorem Shs.depths : ∀ {ts us : List Tr}, Shs ts us → My.depths ts = My.depths us
  | _, _, .nil => rfl
  | _, _, .cons a b => by simp only [My.depths, Sh.depth a, Shs.depths b]
end
mutual
theorem Sh.lets {p : Nat → Prop} : ∀ {t u : Tr}, Sh t u → t.lets p → u.lets p
  | _, _, .node q h, a => by
    simp only [Tr.lets] at a ⊢
    exact ⟨a.1, Shs.letss h (letss_perm q a.2)⟩
theorem Shs.letss {p : Nat → Prop} : ∀ {ts us : List Tr}, Shs ts us → My.letss p ts → My.letss p us
  | _, _, .nil, a => a
  | _, _, .cons x y, a => by
    simp only [My.letss] at a ⊢
    exact ⟨Sh.lets x a.1, Shs.letss y a.2⟩
end
theorem Shs.len : ∀ {ts us : List Tr}, Shs ts us → ts.length = us.length
  | _, _, .nil => rfl
  | _, _, .cons a b => by simp only [List.length_cons, Shs.len b]
theorem Shs.append : ∀ {ts us ts' us' : List Tr}, Shs ts us → Shs ts' us' → Shs (ts ++ ts') (us ++ us')
  | _, _, _, _, .nil, h => h
  | _, _, _, _, .cons a b, h => .cons a (Shs.append b h)

def Fr (p : Addr) (H H' : Hp) : Prop := ∀ b o, b ≠ p → H b = some o → H' b = some o
theorem Fr.refl (p : Addr) (H : Hp) : Fr p H H := fun _ _ _ h => h
theorem Fr.trans {p : Addr} {H H1 H2 : Hp} (a : Fr p H H1) (b : Fr p H1 H2) : Fr p H H2 := fun c o n h => b c o n (a c o n h)
theorem Fr.same {p : Addr} {H H' : Hp} (s : Same H H') : Fr p H H' := fun b o _ h => s b o h
theorem Fr.chg {p : Addr} {H H' : Hp} (c : Chg p H H') : Fr p H H' := fun _ _ n h => c.at h n
theorem Fr.new {p q : Addr} {H H' : Hp} {o : HO} (f : Fr p H H') (h : H q = none) : Fr p H (upd H' q o) := fun b u n e => by
  rw [upd_ne (ne_of_none e h)]
  exact f b u n e
theorem same_add {q : Addr} {H H' : Hp} {o : HO} (f : Same H H') (h : H q = none) : Same H (upd H' q o) := fun b u e => by
  rw [upd_ne (ne_of_none e h)]
  exact f b u e
theorem Fr.free {p q : Addr} {H H' : Hp} (f : Fr p H H') (hp : H' p ≠ none) (h : H' q = none) : H q = none := by
  cases e : H q with
  | none => rfl
  | some o =>
    by_cases hq : q = p
    · subst hq; exact absurd h hp
    · rw [f q o hq e] at h; cases h
theorem Fr.seq {K : PySem.W.Frag} {p a : Addr} {H H' : Hp} {xs : List V} (c : Fr p H H') (hp : H p = none) (h : SqL K H a xs) : SqL K H' a xs := by
  rcases h with (h | ⟨o, h⟩) | h
  · exact .inl (.inl (c _ _ (ne_of_none h hp) h))
  · exact .inl (.inr ⟨o, c _ _ (ne_of_none h hp) h⟩)
  · exact .inr h
theorem TrAt.same {ok : Addr → Prop} {H H' : Hp} {v : V} {t : Tr} (x : TrAt ok H v t) (s : Same H H') : TrAt ok H' v t := x.keep fun b o _ h => s b o h
theorem TrsAt.same {ok : Addr → Prop} {H H' : Hp} {vs : List V} {ts : List Tr} (x : TrsAt ok H vs ts) (s : Same H H') : TrsAt ok H' vs ts := x.keep fun b o _ h => s b o h
theorem TrAt.off {ok : Addr → Prop} {H : Hp} {v : V} {t : Tr} {w : Addr} (x : TrAt ok H v t) (h : H w = none) : TrAt (fun b => ok b ∧ b ≠ w) H v t :=
  (TrAt.there t v x).weak fun b ⟨k, o, e⟩ => ⟨k, ne_of_none e h⟩
theorem TrsAt.off {ok : Addr → Prop} {H : Hp} {vs : List V} {ts : List Tr} {w : Addr} (x : TrsAt ok H vs ts) (h : H w = none) : TrsAt (fun b => ok b ∧ b ≠ w) H vs ts :=
  (TrsAt.there ts vs x).weak fun b ⟨k, o, e⟩ => ⟨k, ne_of_none e h⟩
theorem upd_keep {H : Hp} {w : Addr} {o : HO} {ok : Addr → Prop} (h : ∀ b, ok b → b ≠ w) : ∀ b u, ok b → H b = some u → (upd H w o) b = some u := fun b u k e => by
  rw [upd_ne (h b k)]
  exact e
theorem lc_outer {K : PySem.W.Frag} {a : Addr} {xs : List V} {Bd : V → Hp → (Hp → Prop) → Prop} {Qd : Hp → Prop} {H0 : Hp} (Pv : Nat → Hp → Prop) (h0 : Pv 0 H0) (hl : ∀ i H, i ≤ xs.length → Pv i H → SqL K H a xs)
    (hs : ∀ i x H, xs[i]? = some x → Pv i H → Bd x H (Pv (i + 1))) (hd : ∀ H, Pv xs.length H → Qd H) :
    ∃ W : Nat → Nat → Hp → Prop, (∃ m, W 0 m H0) ∧ ∀ i m H, W i m H → ((Itl K a).stop i H ∧ Qd H) ∨ ((Itl K a).go i H ∧ ∃ Nx : Hp → Prop, (∀ H', Nx H' → ∃ m', m' < m ∧ W (i + 1) m' H') ∧ ∀ x H', (Itl K a).yld i H x H' → Bd x H' Nx) := by
  refine ⟨fun i m H => m = xs.length - i ∧ i ≤ xs.length ∧ Pv i H, ⟨xs.length, by simp, Nat.zero_le _, h0⟩, ?_⟩
  rintro i m H ⟨rfl, hi, p⟩
  have q := hl i H hi p
  by_cases hlt : i < xs.length
  · refine .inr ⟨⟨xs, xs[i], q, by simp [hlt]⟩, Pv (i + 1), fun H' p' => ⟨xs.length - (i + 1), by omega, rfl, hlt, p'⟩, fun x H' y => ?_⟩
    obtain ⟨e, y⟩ := y
    subst e
    exact hs i x _ (y xs q) p
  · have e : i = xs.length := by omega
    subst e
    exact .inl ⟨⟨xs, q, Nat.le_refl _⟩, hd H p⟩
theorem take_succ_of {α : Type} {l : List α} {i : Nat} {x : α} (h : l[i]? = some x) : l.take (i + 1) = l.take i ++ [x] := by
  rw [List.take_add_one, h]
  rfl

def RowL (params : Arguments) (scope : PySem.Scope) (body : PySem.Expr) : Prop :=
  (∃ (x : Str) (p1 p2 p3 : Pos) (k0 : Nat), body = .Subscript (.Name x p1) (.Constant (.int 0) k0 p2) p3 ∧ (x == Str.ofString "__debug__") = false ∧ scope.names = [(x, .local)] ∧
    ∀ (fd : FuncData) (u : Value), fd.params = params → fd.defaults = .none → fd.kwdefaults = .none → bindArgs fd ⟨[u], []⟩ = pure [(x, u)]) ∧
  scope.kind = .function ∧ scope.isGenerator = false ∧ scope.isCoroutine = false
theorem row_call {P : Program} {w : World} {A : Around} {s : Shared} {f p c' : Addr} {nm q : Str} {params : Arguments} {scope : PySem.Scope} {body : PySem.Expr} {clos : List (Str × Addr)} {pm ctv : Value} {its : Array Value} {x : Str} {tx : Tok}
    (R : RowL params scope body) (hd : A.depth < recursionLimit) (hf : s.heap.get? f = some (PySem.W.kla_obj nm q params body scope clos pm c' ctv))
    (hc : s.heap.CodeRec (.ref c') q) (hn : s.heap.NoLimit) (ht : IsTup s.heap p its) (h0 : its[0]? = some (.str x tx)) :
    wpAny (model P w) A (call (.ref f) [.ref p]) (PySem.W.KeyPure (.str x) s) (fun _ _ => False) s := by
  obtain ⟨⟨z, p1, p2, p3, k0, rfl, hz, hnm, hb⟩, hk, hg, ho⟩ := R
  refine wpAny_call ?_
  refine PySem.W.kla_callFunE hd hf rfl ho hg rfl hc ?_
  refine BindsTo.of_eq (hb _ _ rfl rfl rfl) _ _ _ _ ?_
  refine wpAny_newFunctionEnv (by intro y hy; rw [show (PySem.W.kla_fn nm q params _ scope clos pm (.ref c') ctv).scope.names = _ from hnm] at hy; simp only [List.mem_singleton] at hy; subst hy; simp) (by intro y hy; simp only [List.mem_singleton] at hy; subst hy; rw [show (PySem.W.kla_fn nm q params _ scope clos pm (.ref c') ctv).scope.names = _ from hnm]; simp) (fun h' hns hsame => ?_) hk
  have hkeep : ∀ b o, s.heap.get? b = some o → h'.get? b = some o := by
    intro b o hb
    have hne : b ≠ s.heap.objs.size := fun e => by
      rw [e] at hb
      simp [Heap.get?] at hb
    rw [hsame.2 b hne]
    exact Heap.get?_push_of_some _ hb
  refine ⟨hn.keeps hkeep, PySem.W.kla_codeExpr ?_⟩
  refine Subscript_Constant (wpAny_Name (wpAny_loadName_local (m := fun y => List.lookup y [(z, Value.ref p)].reverse) (v := .ref p) hk ?_ hns ?_ ?_) hz)
  · simp [Env.kindOf, newEnv, hnm]
  · simp
  refine wpAny_Constant_int ?_
  obtain ⟨o, g1, g2, n, g3⟩ := ht
  have ht' : IsTup h' p its := ⟨o, hkeep _ _ g1, g2, n, g3⟩
  refine ⟨"tuple", _, rfl, ⟨o, hkeep _ _ g1, g2⟩, ?_⟩
  have hz0 : its.size ≠ 0 := fun e => by
    rw [Array.getElem?_eq_none (by omega)] at h0
    cases h0
  refine getItem_tuple (j := 0) ht' (by decide) (by decide) ?_ h0 ?_
  · simp [seqIndex?]
    intro e
    rw [e] at hz0
    exact hz0 rfl
  exact ⟨h', _, rfl, hkeep, .str _ _⟩

def leS (a b : V × Str) : Bool := decide (a.2.cps.toList ≤ b.2.cps.toList)
def RowO (f c : Addr) (q : Str) : HO := .ext fun h => ∃ nm params body scope clos pm ctv, h.get? f = some (PySem.W.kla_obj nm q params body scope clos pm c ctv) ∧ RowL params scope body
def rSortRow : List V → List V → Hp → VK → Prop := fun xs zs H Q => ∃ (a f c : Addr) (q : Str) (bs : List (V × Str)), xs = [.ref a] ∧ zs = [.ref f] ∧ H f = some (RowO f c q) ∧ H c = some (LamX.CodeO c q) ∧ H a = some (.lst (bs.map Prod.fst)) ∧
  (∀ b ∈ bs, ∃ p rest, b.1 = .ref p ∧ H p = some (.tup (.str b.2 :: rest))) ∧ bs.length ≤ sizeLine ∧ ∀ r, H r = none → Q (.ref r) (upd H r (.lst ((bs.mergeSort leS).map Prod.fst)))
def RowR (H : Hp) (v : Value) (b : V × Str) : Prop := RelV b.1 v ∧ ∃ p rest, b.1 = .ref p ∧ H p = some (.tup (.str b.2 :: rest))
theorem eachRow {H : Hp} : ∀ {bs : List (V × Str)} {its : List Value}, Vals (bs.map Prod.fst) its → (∀ b ∈ bs, ∃ p rest, b.1 = .ref p ∧ H p = some (.tup (.str b.2 :: rest))) → PySem.W.EachIs (RowR H) its bs
  | [], _, v, _ => by cases v; exact .nil
  | b :: r, _, v, h => by
    cases v with
    | cons g1 g2 => exact .cons ⟨g1, h b (by simp)⟩ (eachRow g2 fun x hx => h x (by simp [hx]))
theorem rowEach {H : Hp} : ∀ {bs : List (V × Str)} {its : List Value}, PySem.W.EachIs (RowR H) its bs → Vals (bs.map Prod.fst) its
  | [], _, v => by cases v; exact .nil
  | b :: r, _, v => by
    cases v with
    | cons g1 g2 => exact .cons g1.1 (rowEach g2)
theorem cr_sortRow {X : Cx} {k : Nat} (hr : Room k X.A) : CallRK X (.builtin "sorted") ["key"] rSortRow := by
  intro pins s σ H xs zs us ws Q I hv hw h
  obtain ⟨a, f, c, q, bs, rfl, rfl, hf, hc, ha, hp, hz, q2⟩ := h
  cases hv with
  | cons g1 g2 =>
  cases g2
  cases hw with
  | cons g3 g4 =>
  cases g4
  cases g1
  cases g3
  have oa := I.hok _ _ ha
  have of := I.hok _ _ hf
  have oc := I.hok _ _ hc
  obtain ⟨nm, params, body, scope, clos, pm, ctv, hfo, hR⟩ := of.1
  obtain ⟨oz, its, n, hits, hao⟩ := oa
  refine PySem.W.sorted_key_data (vs := its) (bs := bs) (R := RowR H) (f := .ref f) (b := false) (fun b => .str b.2) ⟨_, hao, rfl, n, rfl⟩ (eachRow hits hp) ?_ ?_ hz ?_ (ksk_s1 _ _) (fun x => ksk_l1 _ _) (fun x => ?_) (fun v x hv hx h tk hk => ?_) (fun out c' h' tk hk hn ho hl he => ?_)
  · intro d hd d' hd'
    simp only [List.mem_map] at hd hd'
    obtain ⟨_, _, rfl⟩ := hd
    obtain ⟨_, _, rfl⟩ := hd'
    rfl
  · refine .inr fun d hd => ?_
    simp only [List.mem_map] at hd
    obtain ⟨_, _, rfl⟩ := hd
    exact ⟨by simp, by simp⟩
  · intro x _
    have := hr.un
    have e : (PyData.str x.2).depth = 0 := rfl
    omega
  · rfl
  · obtain ⟨hv1, p, rest, e1, e2⟩ := hv
    obtain ⟨v1, w1⟩ := x
    dsimp only at e1 hv1 e2 hx ⊢
    subst e1
    cases hv1
    have op := I.hok _ _ e2
    obtain ⟨_, its2, g1, g2, g3, n2, g4⟩ := op
    cases g1 with
    | cons k1 k2 =>
    obtain ⟨tx, rfl⟩ := k1
    obtain ⟨oc', vs', t', c1, c2, c3⟩ := oc.1
    refine row_call (its := _) (x := w1) (tx := tx) hR ?_ (hk _ _ hfo) ⟨_, _, _, _, rfl, hk _ _ c1, c2, c3⟩ (I.nolimit.keeps hk) ⟨g2, hk _ _ g3, n2, g4⟩ (by simp)
    have := hr.dp
    show X.A.depth < recursionLimit
    omega
  · refine ⟨.ref (s.heap.objs.size + 1), _, I.laid (a := s.heap.objs.size + 1) (o := .lst ((bs.mergeSort leS).map Prod.fst)) hk (by omega) ?_, rfl, q2 _ ?_⟩
    · have e : PySem.W.dataLe false (fun b : V × Str => PyData.str b.2) = leS := PySem.W.dataLe_str _
      rw [e] at he
      exact ⟨by simpa using hz, out, c', rowEach he, ho⟩
    · exact I.hok.fresh (by omega)
theorem rowO_ok {P : Program} {w : World} {H : Hp} {h : Heap} {c : Addr} {nm q : Str} {params : Arguments} {scope : PySem.Scope} {body : PySem.Expr} {clos : List (Str × Addr)} {pm ctv : Value} (hR : RowL params scope body) :
    ObjOk P w H (h.push (PySem.W.kla_obj nm q params body scope clos pm c ctv)) h.objs.size (RowO h.objs.size c q) := by
  have e : (h.push (PySem.W.kla_obj nm q params body scope clos pm c ctv)).get? h.objs.size = some (PySem.W.kla_obj nm q params body scope clos pm c ctv) := Heap.get?_push_size _ rfl
  refine ⟨⟨_, _, _, _, _, _, _, e, hR⟩, ⟨_, e⟩, fun h1 h2 ⟨a1, a2, a3, a4, a5, a6, a7, e1, e2⟩ k => ⟨a1, a2, a3, a4, a5, a6, a7, k _ e1, e2⟩⟩
theorem pe_lamRow {X : Cx} {c P : Addr} {params : Arguments} {body : PySem.Expr} {scope : PySem.Scope} {pos : Pos} (tb : LamX.TabB X.base X.mg c P) (hc : X.env.code = .ref c) (hd : defaultsOf params X.env = ([], []))
    (hR : RowL params scope body) : PE X (.Lambda params body scope pos) (fun σ H Q => LamX.TabS H P (X.env.qual ++ "<lambda>") ∧ ∀ (f c : Addr) (H1 : Hp), Fr P H H1 → LamX.TabS H1 P (X.env.qual ++ "<lambda>") → H1 f = some (RowO f c (X.env.qual ++ "<lambda>")) → H1 c = some (LamX.CodeO c (X.env.qual ++ "<lambda>")) → Q (.ref f) H1) := by
  refine ⟨fun pins s σ H Q I h => ?_⟩
  obtain ⟨ht, q⟩ := h
  have hclo : closureFor scope X.env = pure (cloFrom X.env.cells scope.names []) := by
    refine closure_ok ?_
    intro y hy he
    obtain ⟨⟨z, p1, p2, p3, k0, rfl, hz, hnm, hb⟩, hk, hg, ho⟩ := hR
    rw [hnm] at hy
    simp only [List.mem_singleton] at hy
    subst hy
    cases he
  have ht' := ht
  obtain ⟨ps, hP, hT, hA⟩ := ht'
  have oP : s.heap.get? P = some (PySem.W.tabObj ps) := I.hok _ _ hP
  refine PySem.W.kla_eval hd ?_
  cases hcd : codeAmong pos ps.toList with
  | some cv =>
    obtain ⟨c', rfl, hc'⟩ := hA _ _ hcd
    refine PySem.W.kla_makeFunctionHit hclo I.ok.glob (I.mod.glob.keeps I.bk) hc (tb.code.keeps I.bk) oP hT hcd (tb.bm.keeps I.bk) (fun ctv h' tk hk hs => ?_)
    have I1 := I.kept (t' := tk) hk
    have hz : s.heap.objs.size ≤ h'.objs.size := hs
    have hn : H h'.objs.size = none := I.hok.fresh hz
    refine ⟨.ref h'.objs.size, upd H h'.objs.size (RowO h'.objs.size c' (X.env.qual ++ "<lambda>")), ?_, rfl, q _ c' _ (fun b o _ hb => ?_) (ht.ext fun b o hb => ?_) upd_same ?_⟩
    · exact I1.laid (h' := h'.push _) (t' := tk) (fun b u hb => Heap.get?_push_of_some _ hb) (Nat.le_refl _) (rowO_ok hR)
    · rw [upd_ne (ne_of_none hb hn)]; exact hb
    · rw [upd_ne (ne_of_none hb hn)]; exact hb
    · rw [upd_ne (ne_of_none hc' hn)]; exact hc'
  | none =>
    refine PySem.W.kla_makeFunction hclo I.ok.glob (I.mod.glob.keeps I.bk) hc (tb.code.keeps I.bk) oP hT hcd tb.gP (tb.bm.keeps I.bk) (fun c' ctv h' tk he hl hu hrec hP' => ?_)
    obtain ⟨c2, o2, vs2, t2, ec, e1, e2, e3⟩ := hrec
    cases ec
    have I2 := LamX.inv_table (t' := tk) (c := c') (q := X.env.qual ++ "<lambda>") I hP he (more := #[rawInt ↑pos.line, rawInt ↑pos.col, .ref c']) hP' hl ⟨_, _, _, e1, e2, e3⟩
    have hn : (upd (upd H P (.tbl (ps ++ #[rawInt ↑pos.line, rawInt ↑pos.col, .ref c']))) c' (LamX.CodeO c' (X.env.qual ++ "<lambda>"))) h'.objs.size = none := I2.hok.fresh (Nat.le_refl _)
    have hcn : H c' = none := I.hok.fresh hl
    have hPc : P ≠ c' := fun e => by rw [e] at hP; rw [hcn] at hP; cases hP
    refine ⟨.ref h'.objs.size, _, I2.laid (h' := h'.push _) (o := RowO h'.objs.size c' (X.env.qual ++ "<lambda>")) (t' := tk) (fun b u hb => Heap.get?_push_of_some _ hb) (Nat.le_refl _) (rowO_ok hR), rfl, q _ c' _ ?_ ?_ upd_same ?_⟩
    · intro b o hbP hb
      have h1 : (upd (upd H P (.tbl (ps ++ #[rawInt ↑pos.line, rawInt ↑pos.col, .ref c']))) c' (LamX.CodeO c' (X.env.qual ++ "<lambda>"))) b = some o := by
        rw [upd_ne (ne_of_none hb hcn), upd_ne hbP]; exact hb
      rw [upd_ne (ne_of_none h1 hn)]; exact h1
    · refine LamX.TabS.ext (H := upd (upd H P (.tbl (ps ++ #[rawInt ↑pos.line, rawInt ↑pos.col, .ref c']))) c' (LamX.CodeO c' (X.env.qual ++ "<lambda>"))) ?_ (fun b o hb => by rw [upd_ne (ne_of_none hb hn)]; exact hb)
      refine ⟨_, by rw [upd_ne hPc]; exact upd_same, ?_, ?_⟩
      · simpa using TriplesOk_snoc _ _ _ _ hT
      · intro pos2 cv hcv
        rw [Array.toList_append] at hcv
        rcases LamX.among_app _ hT hcv with h | h
        · obtain ⟨c3, e3, h3⟩ := hA _ _ h
          refine ⟨c3, e3, ?_⟩
          rw [upd_ne (ne_of_none h3 hcn), upd_ne (fun e => by rw [e, hP] at h3; cases h3)]
          exact h3
        · exact ⟨c', h, upd_same⟩
    · have h1 : (upd (upd H P (.tbl (ps ++ #[rawInt ↑pos.line, rawInt ↑pos.col, .ref c']))) c' (LamX.CodeO c' (X.env.qual ++ "<lambda>"))) c' = some (LamX.CodeO c' (X.env.qual ++ "<lambda>")) := upd_same
      rw [upd_ne (ne_of_none h1 hn)]; exact h1

theorem okC {P : Program} {w : World} {K : PySem.W.Frag} {mg : Str → Option Value} {base : Heap} {x qual : Str} {st : Stmt} {f c : Addr} {fd : FuncData} {N ps : List Str} {k : Nat} {sp : Sp} (F : Fun K x qual st f fd) (hc : fd.code = .ref c) (S : FnScope N ps (defScope st))
    (len : ∀ vs H Q E, sp vs H Q E → vs.length = ps.length)
    (hb : ∀ (A : Around) (outer : List Env) (s : Shared) (H : Hp) (vs : List V) (Q : VK) (E : XK), Room k (A.deeper (envOfC qual (defScope st) s.heap.objs.size f (.ref c))) → sp vs H Q E →
      ∃ t, PSs (cxOf CX0 P w K mg base N qual (defScope st) f (.ref c) A outer s H E).nox (defBody st) t ∧ t { nx := fun _ H' => Q .non H', rt := Q } (L2.start N vs) H) : FnOk P w K mg base CX0 (k + 1) f fd ps sp := by
  obtain ⟨oc, od, kV, doc, pm, an, cdv, ct, osl, rfl, lk, hcd⟩ := F.ex
  cases hc
  exact fn_of lk hcd S len fun A outer s H vs Q E hr hsp => by
    obtain ⟨t, h, q⟩ := hb A outer s H vs Q E hr hsp
    exact ⟨t, h.nox, q⟩
theorem rowL_mk {x : Str} {p0 p1 p2 p3 : Pos} {k0 : Nat} {scope : PySem.Scope} (hz : (x == Str.ofString "__debug__") = false) (hn : scope.names = [(x, .local)]) (hk : scope.kind = .function) (hg : scope.isGenerator = false) (hc : scope.isCoroutine = false)
    (hb : ∀ (nm q : Str) (b : FuncBody) (sc : PySem.Scope) (g : Addr) (cl : List (Str × Addr)) (pm an : Value) (cd : Option Addr) (ct bl : Value) (bu : Addr) (u : Value), bindArgs ⟨nm, q, { posonlyargs := [], args := [{ arg := x, annotation := none, pos := p0 }], vararg := none, kwonlyargs := [], kw_defaults := [], kwarg := none, defaults := [] }, b, sc, g, cl, .none, .none, pm, an, cd, ct, bl, bu⟩ ⟨[u], []⟩ = pure [(x, u)]) :
    RowL { posonlyargs := [], args := [{ arg := x, annotation := none, pos := p0 }], vararg := none, kwonlyargs := [], kw_defaults := [], kwarg := none, defaults := [] } scope (.Subscript (.Name x p1) (.Constant (.int 0) k0 p2) p3) := by
  refine ⟨⟨x, p1, p2, p3, k0, rfl, hz, hn, fun fd u e1 e2 e3 => ?_⟩, hk, hg, hc⟩
  obtain ⟨nm, q, pr, b, sc, g, cl, d, kd, pm, an, cd, ct, bl, bu⟩ := fd
  subst e1 e2 e3
  exact hb _ _ _ _ _ _ _ _ _ _ _ _ _
def spLawT (K : PySem.W.Frag) (Ps : List Addr) : Sp := fun vs H Q _ => ∃ (a : Addr) (ns : List Int), vs = [.ref a] ∧ SqL K H a (ns.map V.int) ∧ ns.length ≤ 63 ∧ (∀ P ∈ Ps, H P = some (.tbl #[])) ∧ ∀ H', Q (.bl true) H'
def LawT (l : PySem.W.OpenLaw) (w : World) (K : PySem.W.Frag) (k : Nat) (x : Str) (mg : Str → Option Value) (fa : Addr) (cs : List (Str × Addr × Addr)) : Prop :=
  (∀ z ∈ cs, PySem.W.tabIn K z.1 = some (z.2.1, z.2.2) ∧ K.lookup z.2.2 = none) ∧ ∃ fd : FuncData, (∀ (s : Shared) (v : Value), BindsTo s fd ⟨[v], []⟩ [(x, v)]) ∧
    ∀ base : Heap, K.In base → base.Ns mainGlobals mg → (∀ z ∈ cs, LamX.TabB base mg z.2.1 z.2.2) → FnOk l.prog w K mg base CX0 k fa fd [x] (spLawT K (cs.map fun z => z.2.2))
theorem walk_ofT {l : PySem.W.OpenLaw} {n k : Nat} {q : Program} {loose : List Str} {XP : (Str → Option Value) → Heap → Prop} {YP : World → Heap → Prop} {d : DefRec} {K : Params → PySem.W.Frag} {x : Str}
    (hn : l.most = some n) (hz : n ≤ sizeLine) (h63 : n ≤ 63) (hd : d.params.defaults = []) (hr : Room k callerA) (hY : ∀ w h, YP w h → (K w.params).In h) (names : List Str)
    (hR : (names.all fun z => (recsOf q).any fun e => e.name == z) = true)
    (hF : ∀ (w : World) (mg : Str → Option Value) (fa : Addr) (h : Heap), (K w.params).In h → h.Ns mainGlobals mg → mg d.name = some (.ref fa) → ∃ cs : List (Str × Addr × Addr), cs.map Prod.fst = names ∧ LawT l w (K w.params) k x mg fa cs) :
    PySem.W.WalkO q loose XP YP l.row.toRowW d [] fun f vs => call f vs := by
  refine Att.attach_callB hn hd fun w s0 s1 mg mb fa o pm cd doc a vs ns G Y ho hod hcr hmg ha hi hl hb hg => ?_
  obtain ⟨cs, hcs, hT, fd, hB, hOk⟩ := hF w mg fa s1.heap (hY w _ Y) G.T.g hmg
  have key : ∀ z ∈ cs, PySem.W.CodeHd s1.heap z.2.1 z.2.2 ∧ s1.heap.get? z.2.2 = some (PySem.W.tabObj #[]) := by
    intro z hz
    have h1 : z.1 ∈ names := by rw [← hcs]; exact List.mem_map_of_mem hz
    have h2 := List.all_eq_true.mp hR _ h1
    cases hf : (recsOf q).find? fun e => e.name == z.1 with
    | none =>
      rw [List.find?_eq_none] at hf
      rw [List.any_eq_true] at h2
      obtain ⟨e, he, h3⟩ := h2
      exact absurd h3 (hf e he)
    | some dd => exact PySem.W.tab_of G.T (hY w _ Y) hf (hT z hz).1
  refine LamX.law_callTs (K := K w.params) (cs := cs.map fun z => z.2) (hY w _ Y) G.T.g G.T.b G.T.builtins G.T.nolimit hg ?_ ?_ ?_ G.T.bmain ha hi (Nat.le_trans hl hz) hr (fun base h1 h2 h3 => hOk base h1 h2 fun z hz => h3 _ (List.mem_map_of_mem hz)) (fun s u => hB s u) (fun H hH hS => ⟨a, ns, rfl, hS, ?_, ?_, fun _ => rfl⟩) (fun _ _ _ h => h)
  · intro p hp
    obtain ⟨z, hz, rfl⟩ := List.mem_map.mp hp
    exact (key z hz).2
  · intro p hp
    obtain ⟨z, hz, rfl⟩ := List.mem_map.mp hp
    exact (hT z hz).2
  · intro p hp
    obtain ⟨z, hz, rfl⟩ := List.mem_map.mp hp
    exact (key z hz).1
  · exact Nat.le_trans hl h63
  · intro P hP
    obtain ⟨z, hz, rfl⟩ := List.mem_map.mp hP
    exact hH _ (List.mem_map_of_mem hz)

theorem take_zip {α : Type} (sel : Nat → Bool) (j : Nat) : ∀ (xs : List α) (i : Nat), (∀ k, k < i + xs.length → sel k = decide (j ≤ k)) → (xs.zipIdx i).filterMap (fun x => if sel x.2 = true then none else some x.1) = xs.take (j - i)
  | [], i, _ => by simp
  | x :: r, i, hs => by
    rw [List.zipIdx_cons, List.filterMap_cons]
    have ih := take_zip sel j r (i + 1) fun k hk => hs k (by rw [List.length_cons]; omega)
    have h0 := hs i (by rw [List.length_cons]; omega)
    by_cases h : j ≤ i
    · have e : j - i = 0 := by omega
      have e2 : j - (i + 1) = 0 := by omega
      rw [e2] at ih
      simp only [h0, h, decide_true, if_true, e, List.take_zero]
      simpa using ih
    · have e : j - i = (j - (i + 1)) + 1 := by omega
      rw [e, List.take_succ_cons, ← ih]
      simp [h0, h]
theorem run_delFrom {P : Program} {w : World} {A : Around} {E : Value → Shared → Prop} {s : Shared} {l sl : Addr} {items : Array Value} {n j : Nat} {t : Tok} {Q : Unit → Shared → Prop}
    (hl : s.heap.get? l = some { cls := Value.type "list", data := Data.seq items n }) (hs : s.heap.get? sl = some { cls := .type "slice", data := .fields #[.int j t, .none, .none] }) (hj : j ≤ items.size) (hz : items.size ≤ sizeLine)
    (q : ∀ f : Array Value → Array Value, f items = (items.toList.take j).toArray → Q () { s with heap := s.heap.update l (Obj.mapSeq f) }) :
    wpAny (model P w) A (delItem (.ref l) (.ref sl)) Q E s := by
  refine wpAny_delItem_slot (T := "list") ⟨_, hl, rfl⟩ (by decide) PySem.F.slot_list_delitem ?_
  refine wpAny_call_entry PySem.F.slot_list_delitem ⟨_, hl, rfl⟩ PySem.F.entry_list_delitem ?_ (PySem.F.args_list_delitem_2 _ _)
  show wpAny _ _ (do
      let __x ← slotArgs "__delitem__" 1 { pos := [.ref l, .ref sl] }
      _) _ _ _
  refine wpAny_bind (wpAny_pure ?_)
  refine wpAny_bind ?_
  refine wpAny_bind (wpAny_specialOf (T := "slice") (r := none) ⟨_, hs, rfl⟩ rfl ?_)
  refine wpAny_pure ?_
  refine wpAny_bind (wpAny_typeOf (T := "slice") ⟨_, hs, rfl⟩ ?_)
  dsimp only
  rw [if_neg (by decide)]
  refine wpAny_bind ?_
  rw [listSliceParts_eq]
  refine wpAny_bind (wpAny_field hs rfl (i := 2) rfl (wpAny_bind (wpAny_listPart .none ?_)))
  dsimp only [rawPart]
  rw [if_neg (by decide)]
  refine wpAny_bind (wpAny_field hs rfl (i := 0) rfl (wpAny_bind (wpAny_listPart (.int _ _) ?_)))
  refine wpAny_bind (wpAny_field hs rfl (i := 1) rfl (wpAny_bind (wpAny_listPart .none (wpAny_pure ?_))))
  dsimp only
  refine wpAny_bind (wpAny_listItems hl rfl ?_)
  have eb : sliceBounds (some (j : Int)) none none items.size = ((j : Int), (items.size : Int), 1) := by
    simp [sliceBounds]
    omega
  rw [show sliceIndices (rawPart (some (j : Int))) (rawPart none) .none items.size = pure (sliceBounds (some (j : Int)) none none items.size) from sliceIndices_raw (some (j : Int)) none none items.size (by simp), eb]
  refine wpAny_bind (wpAny_pure ?_)
  dsimp only
  refine wpAny_bind (wpAny_rule ?_)
  refine wpAny_bind (wpAny_updateSeq hl rfl (wpAny_bind (wpAny_letGo (wpAny_pure ⟨_, rfl, q _ ?_⟩))) hz ?_)
  · refine congrArg List.toArray ((take_zip (fun k => _) j items.toList 0 ?_).trans (by rw [Nat.sub_zero]))
    intro k hk
    show (if (1 : Int) > 0 then decide ((j : Int) ≤ (k : Int)) && decide ((k : Int) < (items.size : Int)) && ((k : Int) - j) % 1 == 0 else _) = _
    rw [Nat.zero_add, Array.length_toList] at hk
    rw [if_pos (by decide), Int.emod_one, decide_eq_true (show (k : Int) < (items.size : Int) by omega)]
    by_cases h : j ≤ k
    · simp [h]
    · simp [h]
  · refine Nat.le_trans ?_ (Nat.le_succ_of_le hz)
    rw [List.size_toArray]
    refine Nat.le_trans (List.length_filterMap_le _ _) ?_
    simp
theorem ps_delFrom {X : Cx} {pos p2 : Pos} {o e : PySem.Expr} {to te : TE} {tpos : Pos} (ho : PE X o to) (he : PE X e te) :
    PS X (.Delete [.Subscript o (.Slice (some e) none none p2) tpos] pos) (fun D σ H => to σ H fun x H1 => te σ H1 fun y H2 => ∃ (l : Addr) (xs : List V) (j : Nat), x = .ref l ∧ y = .int j ∧ H2 l = some (.lst xs) ∧ j ≤ xs.length ∧ D.nx σ (upd H2 l (.lst (xs.take j)))) := by
  refine ⟨fun pins s σ H D I h => ?_⟩
  refine wpAny_Delete (wpAny_deleteEach_cons (wpAny_delete_Subscript ?_))
  refine thn (ho.run pins s σ H _ I h) fun u s1 hx => ?_
  obtain ⟨x, H1, I1, r1, h1⟩ := hx
  refine wpAny_Slice ?_
  rw [evalPart_some]
  refine thn (he.run pins s1 σ H1 _ I1 h1) fun u2 s2 hx => ?_
  obtain ⟨y, H2, I2, r2, l, xs, j, rfl, rfl, hl, hj, q⟩ := hx
  cases r1
  obtain ⟨t, rfl⟩ := r2
  rw [evalPart_none]
  refine wpAny_pure ?_
  refine wpAny_pure ?_
  have hsl : (s2.heap.push { cls := .type "slice", data := .fields #[.int j t, .none, .none] }).get? s2.heap.objs.size = some { cls := .type "slice", data := .fields #[.int j t, .none, .none] } := Heap.get?_push_size _ rfl
  have I3 := I2.kept (h' := s2.heap.push { cls := .type "slice", data := .fields #[.int j t, .none, .none] }) (t' := s2.toks) (fun b u hb => Heap.get?_push_of_some _ hb)
  obtain ⟨oz, its, n, hits, hao⟩ := I3.hok _ _ hl
  have ll : xs.length = its.length := L2.Vals.length hits
  refine run_delFrom (items := its.toArray) hao hsl (by simp; omega) (by simp; omega) (fun f hf => ?_)
  refine wpAny_deleteEach_nil ?_
  refine ⟨σ, _, I3.lset (its := its) (its' := its.take j) (ys := xs.take j) hl hao (by simpa using hf) ?_ ?_, q⟩
  · exact L2.Vals.take j hits
  · rw [List.length_take]; omega

mutual
def Tr.dat : Tr → PyData
  | .node c ks => .tuple [.str (ch c), .list (dats ks)]
def dats : List Tr → List PyData
  | [] => []
  | t :: r => t.dat :: dats r
end
mutual
theorem dat_depth : ∀ t : Tr, t.dat.depth ≤ 2 * t.depth
  | .node c ks => by
    have := dats_depth ks
    simp only [Tr.dat, PyData.depth, PyData.depthAll, Tr.depth]
    omega
theorem dats_depth : ∀ ts : List Tr, PyData.depthAll (dats ts) ≤ 2 * depths ts
  | [] => by simp only [dats, PyData.depthAll, depths]; omega
  | t :: r => by
    have a := dat_depth t
    have b := dats_depth r
    simp only [dats, PyData.depthAll, depths]
    omega
end
section
variable {ok : Addr → Prop} {H : Hp} {K : PySem.W.Frag}
theorem strOk_ch {c : Nat} (h : c ≤ 122) : PyData.strOk (ch c) = true := by
  unfold PyData.strOk ch
  simp
  omega
mutual
theorem TrAt.lay : ∀ (t : Tr) (v : V), TrAt ok H v t → t.dat.canLay0 = true
  | .node c ks, v, x => by
    cases x with
    | node h1 h2 k1 k2 c1 c2 r => simp only [Tr.dat, PyData.canLay0, PyData.canLayAll0, strOk_ch c2, TrsAt.lay ks _ r, Bool.and_self]
theorem TrsAt.lay : ∀ (ts : List Tr) (vs : List V), TrsAt ok H vs ts → PyData.canLayAll0 (dats ts) = true
  | [], _, _ => by simp only [dats, PyData.canLayAll0]
  | t :: r, _, x => by
    cases x with
    | cons a b => simp only [dats, PyData.canLayAll0, TrAt.lay t _ a, TrsAt.lay r _ b, Bool.and_self]
end
mutual
theorem TrAt.dp : ∀ (t : Tr) (v : V), TrAt ok H v t → Dp K H v t.dat
  | .node c ks, v, x => by
    cases x with
    | node h1 h2 k1 k2 c1 c2 r =>
      simp only [Tr.dat]
      exact .tup (SqT.of h1) (.cons (.str _) (.cons (.lst (SqL.of h2) (TrsAt.dp ks _ r)) .nil))
theorem TrsAt.dp : ∀ (ts : List Tr) (vs : List V), TrsAt ok H vs ts → DpAll K H vs (dats ts)
  | [], _, x => by cases x; exact .nil
  | t :: r, _, x => by
    cases x with
    | cons a b => exact .cons (TrAt.dp t _ a) (TrsAt.dp r _ b)
end
theorem shaped_tr {v : V} {t : Tr} (x : TrAt ok H v t) (h : t.depth ≤ 32) : SeqAt.shaped t.dat = true := by
  unfold SeqAt.shaped
  rw [Bool.and_eq_true]
  exact ⟨TrAt.lay t v x, decide_eq_true (by have := dat_depth t; omega)⟩
theorem shaped_trs {vs : List V} {ts : List Tr} (x : TrsAt ok H vs ts) (h : depths ts ≤ 31) : SeqAt.shaped (.list (dats ts)) = true := by
  unfold SeqAt.shaped
  rw [Bool.and_eq_true]
  refine ⟨by simp only [PyData.canLay0]; exact TrsAt.lay ts vs x, decide_eq_true ?_⟩
  have := dats_depth ts
  simp only [PyData.depth]
  omega
end
def DatOk (K : PySem.W.Frag) (H : Hp) (v : V) : Prop := ∃ d, Dp K H v d ∧ d.canLay0 = true ∧ d.depth ≤ 63
theorem DatOk.all {K : PySem.W.Frag} {H : Hp} : ∀ {vs : List V}, (∀ v ∈ vs, DatOk K H v) → ∃ ds, DpAll K H vs ds ∧ SeqAt.shaped (.list ds) = true ∧ ds.length = vs.length
  | [], _ => ⟨[], .nil, by decide +kernel, rfl⟩
  | v :: r, h => by
    obtain ⟨d, h1, h2, h3⟩ := h v List.mem_cons_self
    obtain ⟨ds, g1, g2, g3⟩ := DatOk.all (vs := r) fun u hu => h u (List.mem_cons_of_mem _ hu)
    unfold SeqAt.shaped at g2
    rw [Bool.and_eq_true] at g2
    have g4 := of_decide_eq_true g2.2
    have g5 := g2.1
    simp only [PyData.canLay0] at g5
    simp only [PyData.depth] at g4
    refine ⟨d :: ds, .cons h1 g1, ?_, by simp only [List.length_cons, g3]⟩
    unfold SeqAt.shaped
    rw [Bool.and_eq_true]
    refine ⟨by simp only [PyData.canLay0, PyData.canLayAll0, h2, g5, Bool.and_self], decide_eq_true ?_⟩
    simp only [PyData.depth, PyData.depthAll]
    omega
theorem datOk_int {K : PySem.W.Frag} {H : Hp} (i : Int) : DatOk K H (.int i) := ⟨.int i, .int i, by simp only [PyData.canLay0], by simp only [PyData.depth]; omega⟩
theorem datOk_tr {K : PySem.W.Frag} {H : Hp} {ok : Addr → Prop} {v : V} {t : Tr} (x : TrAt ok H v t) (h : t.depth ≤ 31) : DatOk K H v := ⟨t.dat, TrAt.dp t v x, TrAt.lay t v x, by have := dat_depth t; omega⟩
theorem eqv_nil (ds : List PyData) : PyData.eqv (.list ds) (.list []) = decide (ds.length = 0) := by
  cases ds with
  | nil => simp [PyData.eqv, PyData.eqvAll]
  | cons d r => simp [PyData.eqv, PyData.eqvAll]
theorem shaped_nil : SeqAt.shaped (.list []) = true := by decide +kernel
theorem dp_nil {K : PySem.W.Frag} {H : Hp} {a : Addr} (h : H a = some (.lst [])) : Dp K H (.ref a) (.list []) := .lst (SqL.of h) .nil


def sp_is_letter : Sp := fun vs H Q _ => ∃ c : Nat, vs = [.str (ch c)] ∧ 97 ≤ c ∧ c ≤ 122 ∧ Q (.bl true) H
def sp__is_part : Sp := fun vs H Q _ => ∃ (v : V) (t : Tr), vs = [v] ∧ TrAt (fun _ => True) H v t ∧ Q (.bl true) H
def sp_is_tree : Sp := fun vs H Q _ => ∃ (v : V) (t : Tr), vs = [v] ∧ TrAt (fun _ => True) H v t ∧ t.size ≤ 1000000 ∧ ∀ H', Same H H' → Q (.bl true) H'
def sp_check_tree : Sp := fun vs H Q _ => ∃ (v : V) (t : Tr), vs = [v] ∧ TrAt (fun _ => True) H v t ∧ t.size ≤ 1000000 ∧ ∀ H', Same H H' → Q .non H'
def sp_parts_upward : Sp := fun vs H Q _ => ∃ (v : V) (t : Tr) (ok : Addr → Prop), vs = [v] ∧ TrAt ok H v t ∧ t.size ≤ 1000000 ∧
  ∀ r ws H', Same H H' → H r = none → H' r = some (.lst ws) → TrsAt (fun b => ok b ∧ H b ≠ none) H' ws t.post → Q (.ref r) H'
theorem le_a {c : Nat} (h : 97 ≤ c) : (!decide ((ch c).cps.toList < (Str.ofString "a").cps.toList)) = true := by
  have e : (Str.ofString "a").cps.toList = [97] := by decide +kernel
  rw [e]
  show (!decide (([c] : List Nat) < [97])) = true
  have : ¬ (([c] : List Nat) < [97]) := by
    intro q
    have := List.cons_lt_cons_iff.mp q
    rcases this with z | ⟨z, y⟩
    · omega
    · exact absurd y (by decide)
  simp [this]
theorem le_z {c : Nat} (h : c ≤ 122) : (!decide ((Str.ofString "z").cps.toList < (ch c).cps.toList)) = true := by
  have e : (Str.ofString "z").cps.toList = [122] := by decide +kernel
  rw [e]
  show (!decide (([122] : List Nat) < [c])) = true
  have : ¬ (([122] : List Nat) < [c]) := by
    intro q
    have := List.cons_lt_cons_iff.mp q
    rcases this with z | ⟨z, y⟩
    · omega
    · exact absurd y (by decide)
  simp [this]
theorem concat_of {α : Type} {l : List α} (h : l ≠ []) : ∃ a b, l = a ++ [b] := ⟨l.dropLast, l.getLast h, (List.dropLast_concat_getLast h).symm⟩
section
variable {P : Program} {w : World} {K : PySem.W.Frag} {mg : Str → Option Value} {base : Heap}
theorem ok_is_letter (T : Txt K mg) : FnOk P w K mg base CX0 1 T.f_is_letter T.d_is_letter ["thing"] sp_is_letter := by
  refine T.F_is_letter.ok sc_is_letter (fun vs H Q E h => ?_) (fun cdv A outer s H vs Q E hr h => ?_)
  · obtain ⟨c, rfl, _⟩ := h
    rfl
  obtain ⟨c, rfl, h0, h1, q⟩ := h
  refine ⟨_, (pss_one (ps_ret (pe_and (pe_callB call_isi (by rfl) T.z_isinstance (by decide +kernel) (pa_cons (pv 0) (pa_cons (pe_bltn (v := .ty "str") (by rfl) T.z_str (by decide +kernel) rfl) pa_nil))) (pe_and (pe_cmpR op_eq (pe_callB call_len_str (by rfl) T.z_len PySem.boot_len (pa_cons (pv 0) pa_nil)) pe_int (nomark _)) (pe_one (pe_chain op_le_str op_le_str pe_str (pv 0) pe_str)))))), ?_⟩
  refine ⟨_, rfl, _, _, _, _, true, rfl, .ty "str", .base (.str _), kit_ty (by decide +kernel), _, rfl, iteT ?_⟩
  refine ⟨_, rfl, _, rfl, (by show 1 ≤ sizeLine; decide), rfl, _, rfl, iteT ?_⟩
  refine ⟨_, rfl, _, _, rfl, rfl, _, rfl, ?_⟩
  rw [if_pos (le_a h0)]
  refine ⟨_, _, rfl, rfl, ?_⟩
  rw [le_z h1]
  exact q
theorem ok__is_part (T : Txt K mg) : FnOk P w K mg base CX0 2 T.f__is_part T.d__is_part ["thing"] sp__is_part := by
  have G_is_letter : FnOk P w K mg base CX0 1 T.f_is_letter T.d_is_letter ["thing"] sp_is_letter := ok_is_letter T
  refine T.F__is_part.ok sc__is_part (fun vs H Q E h => ?_) (fun cdv A outer s H vs Q E hr h => ?_)
  · obtain ⟨v, t, rfl, _⟩ := h
    rfl
  obtain ⟨v, t, rfl, ht, q⟩ := h
  refine ⟨_, (pss_cons (ps_if (PW.pt (pw_or (pt_not (pt_val (pe_callB call_isi (by rfl) T.z_isinstance (by decide +kernel) (pa_cons (pv 0) (pa_cons (pe_bltn (v := .ty "tuple") (by rfl) T.z_tuple (by decide +kernel) rfl) pa_nil))))) (pw_or1 (pt_cmpR op_ne (pe_callB call_len_seq (by rfl) T.z_len PySem.boot_len (pa_cons (pv 0) pa_nil)) pe_int (nomark _))))) (pss_one (ps_ret pe_bl)) pss_nil) (pss_one (ps_ret (pe_and (pe_call G_is_letter (hr.mono (by omega)) (by rfl) T.m_is_letter T.F_is_letter.kp T.b_is_letter .nil pass0 (pa_cons (pe_ix ix_tup (pv 0) pe_int (fun _ _ => rfl)) pa_nil)) (pe_one (pe_callB call_isi (by rfl) T.z_isinstance (by decide +kernel) (pa_cons (pe_ix ix_tup (pv 0) pe_int (fun _ _ => rfl)) (pa_cons (pe_bltn (v := .ty "list") (by rfl) T.z_list (by decide +kernel) rfl) pa_nil)))))))), ?_⟩
  obtain ⟨c, ks⟩ := t
  cases ht with
  | node h1 h2 _ _ c1 c2 _ =>
    refine ⟨_, rfl, _, _, _, _, true, rfl, .ty "tuple", .base (.tup h1), kit_ty (by decide +kernel), _, rfl, iteF ?_⟩
    refine ⟨_, rfl, _, _, rfl, .inr (SqT.of h1), rfl, _, rfl, iteF ?_⟩
    refine ⟨_, rfl, _, _, 0, _, rfl, rfl, SqT.of h1, atI_nat (j := 0) rfl, _, rfl, c1, c2, _, rfl, iteT ?_⟩
    exact ⟨_, rfl, _, _, 1, _, rfl, rfl, SqT.of h1, atI_nat (j := 1) rfl, _, _, _, _, true, rfl, .ty "list", .base (.lst h2), kit_ty (by decide +kernel), q⟩
theorem ok_is_tree (T : Txt K mg) : FnOk P w K mg base CX0 3 T.f_is_tree T.d_is_tree ["thing"] sp_is_tree := by
  have G__is_part : FnOk P w K mg base CX0 2 T.f__is_part T.d__is_part ["thing"] sp__is_part := ok__is_part T
  refine T.F_is_tree.ok sc_is_tree (fun vs H Q E h => ?_) (fun cdv A outer s H vs Q E hr h => ?_)
  · obtain ⟨v, t, rfl, _⟩ := h
    rfl
  obtain ⟨v, t, rfl, ht, hz, q⟩ := h
  refine ⟨_, (pss_cons (ps_set (i := 1) sc_is_tree.nd rfl (Or.inl rfl) (pe_lst (pa_cons (pv 0) pa_nil))) (pss_cons (ps_while PassesOwn.never (pt_truth (pv 1) (by intro _; rfl)) (pss_cons (ps_set (i := 2) sc_is_tree.nd rfl (Or.inl rfl) (pe_bm0 PySem.F.plainAttrs_list PySem.F.slot_list_pop PySem.F.type_list_pop mt_pop (pv 1))) (pss_cons (ps_if (pt_not (pt_val (pe_call G__is_part (hr.mono (by omega)) (by rfl) T.m__is_part T.F__is_part.kp T.b__is_part .nil pass0 (pa_cons (pv 2) pa_nil)))) (pss_one (ps_ret pe_bl)) pss_nil) (pss_one (ps_expr (pe_bm PySem.F.plainAttrs_list PySem.F.slot_list_extend PySem.F.type_list_extend mt_extend (pv 1) (pa_cons (pe_ix ix_tup (pv 2) pe_int (fun _ _ => rfl)) pa_nil))))))) (pss_one (ps_ret pe_bl)))), ?_⟩
  refine ⟨_, rfl, (by show 1 ≤ sizeLine; decide), fun p hp => ?_⟩
  refine ⟨fun m σ H' => ∃ y ws ts, σ = [some v, some (.ref p), y] ∧ H' p = some (.lst ws) ∧ TrsAt (fun b => True ∧ b ≠ p) H' ws ts ∧ sizes ts = m ∧ m ≤ 1000000 ∧ Same H H',
    ⟨t.size, none, [v], [t], rfl, upd_same, .cons ((ht.off hp).same (same_new hp)) .nil, by simp only [sizes]; omega, hz, same_new hp⟩, ?_⟩
  rintro m σ H' ⟨y, ws, ts, rfl, hw, hts, hm, hm2, hs⟩
  by_cases he : ws = []
  · subst he
    refine ⟨_, rfl, false, .inl ⟨_, SqL.of hw, rfl⟩, iteF ?_⟩
    exact q _ hs
  · refine ⟨_, rfl, true, .inl ⟨_, SqL.of hw, by cases ws with | nil => exact absurd rfl he | cons a b => rfl⟩, iteT ?_⟩
    obtain ⟨ws', x, rfl⟩ := concat_of he
    obtain ⟨ts', tl, rfl, h1, h2⟩ := TrsAt.split hts
    cases h2 with
    | cons hx hn =>
      cases hn
      rename_i tx
      obtain ⟨c, ks⟩ := tx
      refine ⟨fun σ2 H2 => ∃ y ws ts, σ2 = [some v, some (.ref p), y] ∧ H2 p = some (.lst ws) ∧ TrsAt (fun b => True ∧ b ≠ p) H2 ws ts ∧ sizes ts < m ∧ Same H H2, fun σ2 H2 ⟨y, ws, ts, e1, e2, e3, e4, e5⟩ => ⟨sizes ts, e4, y, ws, ts, e1, e2, e3, rfl, by omega, e5⟩, ?_⟩
      refine ⟨_, rfl, .inl ⟨rfl, _, SqL.of hw⟩, _, _, x, rfl, rfl, hw, by simp, ?_⟩
      have kp : ∀ b u, (True ∧ b ≠ p) → H' b = some u → (upd H' p (.lst (ws' ++ [x]).dropLast)) b = some u := upd_keep fun b h => h.2
      have hx2 := hx.keep kp
      have hp3 : (upd H' p (.lst (ws' ++ [x]).dropLast)) p = some (.lst ws') := by rw [upd_same, List.dropLast_concat]
      refine ⟨_, rfl, x, _, rfl, hx2.weak fun _ _ => trivial, _, rfl, iteF ?_⟩
      cases hx2 with
      | node g1 g2 k1 k2 c1 c2 r =>
        have ll := r.len
        have l2 := h1.len
        have l3 := len_sizes ts'
        have l4 := len_sizes ks
        rw [sizes_append] at hm
        simp only [sizes, Tr.size] at hm
        refine ⟨_, rfl, .inl ⟨rfl, _, SqL.of hp3⟩, _, rfl, _, _, 1, _, rfl, rfl, SqT.of g1, atI_nat (j := 1) rfl, p, _, ws', _, rfl, rfl, hp3, g2, ?_, ?_⟩
        · exact Nat.le_trans (show ws'.length + _ ≤ 1000000 by omega) (by decide)
        · refine ⟨some _, _, ts' ++ ks, rfl, upd_same, ?_, ?_, ?_⟩
          · exact ((h1.keep kp).append r).keep (upd_keep fun b h => h.2)
          · rw [sizes_append]
            omega
          · exact same_add (same_add hs hp) hp
theorem ok_check_tree (T : Txt K mg) : FnOk P w K mg base CX0 4 T.f_check_tree T.d_check_tree ["thing"] sp_check_tree := by
  have G_is_tree : FnOk P w K mg base CX0 3 T.f_is_tree T.d_is_tree ["thing"] sp_is_tree := ok_is_tree T
  refine T.F_check_tree.ok sc_check_tree (fun vs H Q E h => ?_) (fun cdv A outer s H vs Q E hr h => ?_)
  · obtain ⟨v, t, rfl, _⟩ := h
    rfl
  obtain ⟨v, t, rfl, ht, hz, q⟩ := h
  refine ⟨_, (pss_one (ps_if (pt_not (pt_val (pe_call G_is_tree (hr.mono (by omega)) (by rfl) T.m_is_tree T.F_is_tree.kp T.b_is_tree .nil pass0 (pa_cons (pv 0) pa_nil)))) (pss_one ps_never) pss_nil)), ?_⟩
  refine ⟨_, rfl, v, t, rfl, ht, hz, fun H' hs => ⟨_, rfl, iteF ?_⟩⟩
  exact q _ hs
theorem ok_parts_upward (T : Txt K mg) : FnOk P w K mg base CX0 5 T.f_parts_upward T.d_parts_upward ["tree"] sp_parts_upward := by
  have G_check_tree : FnOk P w K mg base CX0 4 T.f_check_tree T.d_check_tree ["thing"] sp_check_tree := ok_check_tree T
  refine T.F_parts_upward.ok sc_parts_upward (fun vs H Q E h => ?_) (fun cdv A outer s H vs Q E hr h => ?_)
  · obtain ⟨v, t, ok, rfl, _⟩ := h
    rfl
  obtain ⟨v, t, ok, rfl, ht, hz, q⟩ := h
  refine ⟨_, (pss_cons (ps_expr (pe_call G_check_tree (hr.mono (by omega)) (by rfl) T.m_check_tree T.F_check_tree.kp T.b_check_tree .nil pass0 (pa_cons (pv 0) pa_nil))) (pss_cons (ps_set (i := 1) sc_parts_upward.nd rfl (Or.inl rfl) (pe_lst pa_nil)) (pss_cons (ps_set (i := 2) sc_parts_upward.nd rfl (Or.inl rfl) (pe_lst (pa_cons (pv 0) pa_nil))) (pss_cons (ps_while PassesOwn.never (pt_truth (pv 2) (by intro _; rfl)) (pss_cons (ps_set (i := 3) sc_parts_upward.nd rfl (Or.inl rfl) (pe_bm0 PySem.F.plainAttrs_list PySem.F.slot_list_pop PySem.F.type_list_pop mt_pop (pv 2))) (pss_cons (ps_expr (pe_bm PySem.F.plainAttrs_list PySem.F.slot_list_append PySem.F.type_list_append mt_append (pv 1) (pa_cons (pv 3) pa_nil))) (pss_one (ps_expr (pe_bm PySem.F.plainAttrs_list PySem.F.slot_list_extend PySem.F.type_list_extend mt_extend (pv 2) (pa_cons (pe_ix ix_tup (pv 3) pe_int (fun _ _ => rfl)) pa_nil))))))) (pss_one (ps_ret (pe_revL (pv 1)))))))), ?_⟩
  refine ⟨_, rfl, v, t, rfl, ht.weak fun _ _ => trivial, hz, fun H1 s1 => ?_⟩
  have ht1 := ((TrAt.there t v ht).same s1).weak (ok' := fun b => ok b ∧ H b ≠ none) fun b ⟨k, o, e⟩ => ⟨k, by rw [e]; simp⟩
  refine ⟨(by show 0 ≤ sizeLine; decide), fun a ha => ?_⟩
  refine ⟨_, rfl, (by show 1 ≤ sizeLine; decide), fun p hp => ?_⟩
  have nap : a ≠ p := fun e => by rw [e, upd_same] at hp; cases hp
  have hp1 : H1 p = none := by rw [upd_ne (fun e => nap e.symm)] at hp; exact hp
  have ha0 : H a = none := s1.free ha
  have hp0 : H p = none := s1.free hp1
  have oka : ∀ b, (ok b ∧ H b ≠ none) → b ≠ a := fun b h e => h.2 (by rw [e]; exact ha0)
  have okp : ∀ b, (ok b ∧ H b ≠ none) → b ≠ p := fun b h e => h.2 (by rw [e]; exact hp0)
  refine ⟨fun m σ H' => ∃ y as tas ws ts, σ = [some v, some (.ref a), some (.ref p), y] ∧ H' a = some (.lst as) ∧ H' p = some (.lst ws) ∧ TrsAt (fun b => ok b ∧ H b ≠ none) H' as tas ∧ TrsAt (fun b => ok b ∧ H b ≠ none) H' ws ts ∧
      tas ++ (posts ts).reverse = t.post.reverse ∧ sizes ts = m ∧ Same H H',
    ⟨t.size, none, [], [], [v], [t], rfl, by rw [upd_ne nap]; exact upd_same, upd_same, .nil, .cons ((ht1.keep (upd_keep oka)).keep (upd_keep okp)) .nil, by simp only [posts, List.append_nil, List.nil_append], by simp only [sizes]; omega, same_add (same_add s1 ha0) hp0⟩, ?_⟩
  rintro m σ H' ⟨y, as, tas, ws, ts, rfl, hA, hw, hta, hts, hpo, hm, hs⟩
  have hlen : tas.length + sizes ts = t.size := by
    have := congrArg List.length hpo
    rw [List.length_append, List.length_reverse, List.length_reverse, posts_len, post_len] at this
    exact this
  by_cases he : ws = []
  · subst he
    cases hts
    refine ⟨_, rfl, false, .inl ⟨_, SqL.of hw, rfl⟩, iteF ?_⟩
    refine ⟨_, rfl, a, as, rfl, SqL.of hA, fun r hr' => ?_⟩
    have hr0 : H r = none := hs.free hr'
    refine q r as.reverse _ (same_add hs hr0) hr0 upd_same ?_
    have e : tas.reverse = t.post := by
      simp only [posts, List.reverse_nil, List.append_nil] at hpo
      rw [hpo, List.reverse_reverse]
    rw [← e]
    exact hta.rev.keep (upd_keep fun b h e => h.2 (by rw [e]; exact hr0))
  · refine ⟨_, rfl, true, .inl ⟨_, SqL.of hw, by cases ws with | nil => exact absurd rfl he | cons a b => rfl⟩, iteT ?_⟩
    obtain ⟨ws', x, rfl⟩ := concat_of he
    obtain ⟨ts', tl, rfl, h1, h2⟩ := TrsAt.split hts
    cases h2 with
    | cons hx hn =>
      cases hn
      rename_i tx
      obtain ⟨c, ks⟩ := tx
      rw [sizes_append] at hm hlen
      simp only [sizes, Tr.size] at hm hlen
      refine ⟨fun σ2 H2 => ∃ y as tas ws ts, σ2 = [some v, some (.ref a), some (.ref p), y] ∧ H2 a = some (.lst as) ∧ H2 p = some (.lst ws) ∧ TrsAt (fun b => ok b ∧ H b ≠ none) H2 as tas ∧ TrsAt (fun b => ok b ∧ H b ≠ none) H2 ws ts ∧
        tas ++ (posts ts).reverse = t.post.reverse ∧ sizes ts < m ∧ Same H H2, fun σ2 H2 ⟨y, as, tas, ws, ts, e1, e2, e3, e4, e5, e6, e7, e8⟩ => ⟨sizes ts, e7, y, as, tas, ws, ts, e1, e2, e3, e4, e5, e6, rfl, e8⟩, ?_⟩
      refine ⟨_, rfl, .inl ⟨rfl, _, SqL.of hw⟩, _, _, x, rfl, rfl, hw, by simp, ?_⟩
      have kp : ∀ b u, (ok b ∧ H b ≠ none) → H' b = some u → (upd H' p (.lst (ws' ++ [x]).dropLast)) b = some u := upd_keep okp
      have hA2 : (upd H' p (.lst (ws' ++ [x]).dropLast)) a = some (.lst as) := by rw [upd_ne nap]; exact hA
      have la := hta.len
      refine ⟨_, rfl, .inl ⟨rfl, _, SqL.of hA2⟩, _, rfl, a, as, x, rfl, rfl, hA2, Nat.lt_of_le_of_lt (show as.length ≤ 1000000 by omega) (by decide), ?_⟩
      have hx3 := (hx.keep kp).keep (upd_keep (o := .lst (as ++ [x])) oka)
      have hp3 : (upd (upd H' p (.lst (ws' ++ [x]).dropLast)) a (.lst (as ++ [x]))) p = some (.lst ws') := by
        rw [upd_ne (fun e => nap e.symm), upd_same, List.dropLast_concat]
      have hx3' := hx3
      cases hx3 with
      | node g1 g2 k1 k2 c1 c2 r =>
        have ll := r.len
        have l2 := h1.len
        have l3 := len_sizes ts'
        have l4 := len_sizes ks
        refine ⟨_, rfl, .inl ⟨rfl, _, SqL.of hp3⟩, _, rfl, _, _, 1, _, rfl, rfl, SqT.of g1, atI_nat (j := 1) rfl, p, _, ws', _, rfl, rfl, hp3, g2, ?_, ?_⟩
        · exact Nat.le_trans (show ws'.length + _ ≤ 1000000 by omega) (by decide)
        · refine ⟨some _, as ++ [_], tas ++ [Tr.node c ks], _, ts' ++ ks, rfl, by rw [upd_ne nap]; exact upd_same, upd_same, ?_, ?_, ?_, ?_, ?_⟩
          · exact (((hta.keep kp).keep (upd_keep oka)).append (.cons hx3' .nil)).keep (upd_keep okp)
          · exact (((h1.keep kp).keep (upd_keep oka)).append r).keep (upd_keep okp)
          · rw [← hpo, posts_append, posts_append]
            simp only [posts, Tr.post, List.reverse_append, List.append_assoc, List.append_nil, List.reverse_cons, List.reverse_nil, List.nil_append, List.singleton_append, List.cons_append]
          · rw [sizes_append]
            omega
          · exact same_add (same_add (same_add hs hp0) ha0) hp0
end

def brk : List Nat → List Nat
  | [] => []
  | x :: l => 40 :: ((x :: l) ++ [41])
mutual
def Tr.wr : Tr → List Nat
  | .node c ks => c :: brk (wrs ks)
def wrs : List Tr → List Nat
  | [] => []
  | t :: r => t.wr ++ wrs r
end
def leW (a b : Tr) : Bool := decide (a.wr ≤ b.wr)
mutual
def Tr.told : Tr → Tr
  | .node c ks => .node c ((tolds ks).mergeSort leW)
def tolds : List Tr → List Tr
  | [] => []
  | t :: r => t.told :: tolds r
end
theorem tolds_map : ∀ ts : List Tr, tolds ts = ts.map Tr.told
  | [] => rfl
  | t :: r => by simp only [tolds, List.map_cons, tolds_map r]
theorem tolds_len (ts : List Tr) : (tolds ts).length = ts.length := by rw [tolds_map, List.length_map]
theorem wrs_append : ∀ a b : List Tr, wrs (a ++ b) = wrs a ++ wrs b
  | [], b => rfl
  | t :: r, b => by simp only [List.cons_append, wrs, wrs_append r b, List.append_assoc]
theorem leW_trans (a b c : Tr) (h : leW a b = true) (g : leW b c = true) : leW a c = true :=
  decide_eq_true (List.le_trans (of_decide_eq_true h) (of_decide_eq_true g))
theorem leW_total (a b : Tr) : (leW a b || leW b a) = true := by
  rcases List.le_total a.wr b.wr with h | h
  · simp [leW, h]
  · simp [leW, h]
abbrev Ltr (c : Nat) : Prop := 97 ≤ c ∧ c ≤ 122
theorem wr_ne (t : Tr) : t.wr ≠ [] := by
  cases t
  simp [Tr.wr]
theorem wr_head {t : Tr} (h : t.lets Ltr) : ∃ c l, t.wr = c :: l ∧ 97 ≤ c := by
  cases t with
  | node c ks =>
    simp only [Tr.lets] at h
    exact ⟨c, _, rfl, h.1.1⟩
theorem wrs_ne {t : Tr} {r : List Tr} : ∃ x l, wrs (t :: r) = x :: l := by
  cases t
  simp [wrs, Tr.wr]
theorem brk_wrs (t : Tr) (r : List Tr) : brk (wrs (t :: r)) = 40 :: (wrs (t :: r) ++ [41]) := by
  obtain ⟨x, l, e⟩ := wrs_ne (t := t) (r := r)
  rw [e]
  rfl
def nb (u : List Nat) : Prop := u.head? ≠ some 40
mutual
theorem wr_inj : ∀ (a b : Tr) (u v : List Nat), a.lets Ltr → b.lets Ltr → a.wr ++ u = b.wr ++ v → nb u → nb v → a = b ∧ u = v
  | .node c ks, .node d js, u, v, ha, hb, h, hu, hv => by
    simp only [Tr.lets] at ha hb
    simp only [Tr.wr, List.cons_append, List.cons.injEq] at h
    obtain ⟨rfl, h⟩ := h
    cases ks with
    | nil =>
      cases js with
      | nil => exact ⟨rfl, h⟩
      | cons j js =>
        obtain ⟨x, l, e⟩ := wrs_ne (t := j) (r := js)
        rw [e] at h
        simp only [wrs, brk, List.nil_append, List.cons_append] at h
        rw [h] at hu
        exact absurd rfl hu
    | cons k ks =>
      rw [brk_wrs k ks] at h
      cases js with
      | nil =>
        simp only [wrs, brk, List.nil_append, List.cons_append] at h
        rw [← h] at hv
        exact absurd rfl hv
      | cons j js =>
        rw [brk_wrs j js] at h
        simp only [List.cons_append, List.append_assoc, List.cons.injEq, true_and, List.singleton_append] at h
        obtain ⟨e1, e2⟩ := wrs_inj (k :: ks) (j :: js) u v ha.2 hb.2 h
        exact ⟨by rw [e1], e2⟩
theorem wrs_inj : ∀ (ks js : List Tr) (u v : List Nat), letss Ltr ks → letss Ltr js → wrs ks ++ 41 :: u = wrs js ++ 41 :: v → ks = js ∧ u = v
  | [], [], u, v, _, _, h => ⟨rfl, by simpa [wrs] using h⟩
  | [], j :: js, u, v, _, hb, h => by
    simp only [letss] at hb
    obtain ⟨c, l, e, hc⟩ := wr_head hb.1
    simp only [wrs, e, List.nil_append, List.cons_append, List.cons.injEq] at h
    omega
  | k :: ks, [], u, v, ha, _, h => by
    simp only [letss] at ha
    obtain ⟨c, l, e, hc⟩ := wr_head ha.1
    simp only [wrs, e, List.nil_append, List.cons_append, List.cons.injEq] at h
    omega
  | k :: ks, j :: js, u, v, ha, hb, h => by
    simp only [letss] at ha hb
    simp only [wrs, List.append_assoc] at h
    have nbk : ∀ (l : List Tr) (w : List Nat), letss Ltr l → nb (wrs l ++ 41 :: w) := by
      intro l w hl
      cases l with
      | nil => simp [nb, wrs]
      | cons a b =>
        simp only [letss] at hl
        obtain ⟨c, m, e, hc⟩ := wr_head hl.1
        simp only [nb, wrs, e, List.cons_append, List.head?_cons]
        intro h
        cases h
        omega
    have := wr_inj k j _ _ ha.1 hb.1 h (nbk _ _ ha.2) (nbk _ _ hb.2)
    obtain ⟨rfl, h2⟩ := this
    obtain ⟨rfl, h3⟩ := wrs_inj ks js u v ha.2 hb.2 h2
    exact ⟨rfl, h3⟩
end
theorem wr_eq {a b : Tr} (ha : a.lets Ltr) (hb : b.lets Ltr) (h : a.wr = b.wr) : a = b :=
  (wr_inj a b [] [] ha hb (by rw [h]) (by simp [nb]) (by simp [nb])).1
mutual
theorem told_lets {p : Nat → Prop} : ∀ t : Tr, t.lets p → t.told.lets p
  | .node c ks, h => by
    simp only [Tr.lets, Tr.told] at h ⊢
    exact ⟨h.1, letss_perm (List.mergeSort_perm _ _).symm (tolds_lets ks h.2)⟩
theorem tolds_lets {p : Nat → Prop} : ∀ ts : List Tr, letss p ts → letss p (tolds ts)
  | [], _ => trivial
  | t :: r, h => by
    simp only [letss, tolds] at h ⊢
    exact ⟨told_lets t h.1, tolds_lets r h.2⟩
end
theorem sorted_is {a b : List Tr} (ha : letss Ltr b) (hp : a.Perm b) (hs : a.Pairwise fun x y => leW x y = true) : a = b.mergeSort leW := by
  refine List.Perm.eq_of_pairwise (le := fun x y => leW x y = true) ?_ hs (List.pairwise_mergeSort leW_trans leW_total _) (hp.trans (List.mergeSort_perm _ _).symm)
  intro x y hx hy h g
  have hx2 := letss_mem ha (hp.mem_iff.mp hx)
  have hy2 := letss_mem ha ((List.mergeSort_perm _ _).mem_iff.mp hy)
  exact wr_eq hx2 hy2 (List.le_antisymm (of_decide_eq_true h) (of_decide_eq_true g))
theorem sort_perm {a b : List Tr} (ha : letss Ltr b) (hp : a.Perm b) : a.mergeSort leW = b.mergeSort leW :=
  sorted_is ha ((List.mergeSort_perm _ _).trans hp) (List.pairwise_mergeSort leW_trans leW_total _)
theorem tolds_perm {a b : List Tr} (h : a.Perm b) : (tolds a).Perm (tolds b) := by
  rw [tolds_map, tolds_map]
  exact h.map _
mutual
theorem Sh.told : ∀ {t u : Tr}, Sh t u → t.lets Ltr → t.told = u.told
  | _, _, .node (ks := ks) (us := us) (ls := ls) p h, hl => by
    simp only [Tr.lets] at hl
    simp only [Tr.told]
    have e := Shs.told h (letss_perm p hl.2)
    rw [sort_perm (tolds_lets _ (letss_perm p hl.2)) (tolds_perm p), e]
theorem Shs.told : ∀ {ts us : List Tr}, Shs ts us → My.letss Ltr ts → tolds ts = tolds us
  | _, _, .nil, _ => rfl
  | _, _, .cons a b, hl => by
    simp only [My.letss] at hl
    simp only [tolds, Sh.told a hl.1, Shs.told b hl.2]
end
theorem sizes_sort (ts : List Tr) : sizes (ts.mergeSort leW) = sizes ts := sizes_perm (List.mergeSort_perm _ _)
theorem depths_sort (ts : List Tr) : depths (ts.mergeSort leW) = depths ts := depths_perm (List.mergeSort_perm _ _)
mutual
theorem told_size : ∀ t : Tr, t.told.size = t.size
  | .node c ks => by simp only [Tr.told, Tr.size, sizes_sort, tolds_sizes ks]
theorem tolds_sizes : ∀ ts : List Tr, sizes (tolds ts) = sizes ts
  | [] => rfl
  | t :: r => by simp only [tolds, sizes, told_size t, tolds_sizes r]
end
mutual
theorem told_depth : ∀ t : Tr, t.told.depth = t.depth
  | .node c ks => by simp only [Tr.told, Tr.depth, depths_sort, tolds_depths ks]
theorem tolds_depths : ∀ ts : List Tr, depths (tolds ts) = depths ts
  | [] => rfl
  | t :: r => by simp only [tolds, depths, told_depth t, tolds_depths r]
end
mutual
theorem wr_len : ∀ t : Tr, t.wr.length ≤ 3 * t.size
  | .node c ks => by
    have := wrs_len ks
    have e : (brk (wrs ks)).length ≤ (wrs ks).length + 2 := by
      cases wrs ks with
      | nil => simp [brk]
      | cons x l => simp [brk]
    simp only [Tr.wr, Tr.size, List.length_cons]
    omega
theorem wrs_len : ∀ ts : List Tr, (wrs ts).length ≤ 3 * sizes ts
  | [] => by simp [wrs]
  | t :: r => by
    have a := wr_len t
    have b := wrs_len r
    simp only [wrs, sizes, List.length_append]
    omega
end
def steps : List Tr → List Tr → Option (List Tr)
  | s, [] => some s
  | s, .node c ks :: r => if ks.length ≤ s.length then steps (s.take (s.length - ks.length) ++ [.node c ((s.drop (s.length - ks.length)).mergeSort leW)]) r else none
mutual
theorem steps_post : ∀ (t : Tr) (s r : List Tr), steps s (t.post ++ r) = steps (s ++ [t.told]) r
  | .node c ks, s, r => by
    have e := steps_posts ks s (.node c ks :: r)
    simp only [Tr.post, List.append_assoc, List.singleton_append]
    rw [e]
    have l := tolds_len ks
    simp only [steps, List.length_append, l, Nat.add_sub_cancel, Nat.le_add_left, if_true, Tr.told]
    rw [List.take_left, List.drop_left]
theorem steps_posts : ∀ (ts : List Tr) (s r : List Tr), steps s (posts ts ++ r) = steps (s ++ tolds ts) r
  | [], s, r => by simp only [posts, tolds, List.nil_append, List.append_nil]
  | t :: ts, s, r => by
    simp only [posts, tolds, List.append_assoc]
    rw [steps_post t s (posts ts ++ r), steps_posts ts (s ++ [t.told]) r]
    simp only [List.append_assoc, List.singleton_append]
end
theorem steps_all (t : Tr) : steps [] t.post = some [t.told] := by
  have := steps_post t [] []
  rw [List.append_nil] at this
  rw [this]
  rfl
mutual
theorem told_told : ∀ t : Tr, t.lets Ltr → t.told.told = t.told
  | .node c ks, h => by
    simp only [Tr.lets] at h
    simp only [Tr.told]
    have e : tolds ((tolds ks).mergeSort leW) = (tolds ks).mergeSort leW := by
      rw [tolds_map]
      have : ∀ x ∈ (tolds ks).mergeSort leW, x.told = x := fun x hx => tolds_fix ks h.2 x ((List.mergeSort_perm _ _).mem_iff.mp hx)
      exact (List.map_congr_left this).trans (List.map_id' _)
    rw [e, sort_perm (tolds_lets ks h.2) (List.mergeSort_perm _ _)]
theorem tolds_fix : ∀ ts : List Tr, letss Ltr ts → ∀ x ∈ tolds ts, x.told = x
  | [], _, x, hx => by simp [tolds] at hx
  | t :: r, h, x, hx => by
    simp only [letss] at h
    simp only [tolds, List.mem_cons] at hx
    rcases hx with rfl | hx
    · exact told_told t h.1
    · exact tolds_fix r h.2 x hx
end

mutual
inductive TrO (ok : Addr → Prop) (H : Hp) : V → Tr → List Addr → Prop
  | node {a l : Addr} {vs : List V} {c : Nat} {ks : List Tr} {as : List Addr} : H a = some (.tup [.str (ch c), .ref l]) → H l = some (.lst vs) → ok a → ok l → 97 ≤ c → c ≤ 122 → TrsO ok H vs ks as → TrO ok H (.ref a) (.node c ks) (l :: as)
inductive TrsO (ok : Addr → Prop) (H : Hp) : List V → List Tr → List Addr → Prop
  | nil : TrsO ok H [] [] []
  | cons {v : V} {vs : List V} {t : Tr} {ts : List Tr} {as bs : List Addr} : TrO ok H v t as → TrsO ok H vs ts bs → TrsO ok H (v :: vs) (t :: ts) (as ++ bs)
end
section
variable {ok ok' : Addr → Prop} {H H' : Hp}
mutual
theorem TrO.imp (hk : ∀ b, ok b → ok' b) (h : ∀ b o, ok b → H b = some o → H' b = some o) : ∀ (t : Tr) (v : V) (as : List Addr), TrO ok H v t as → TrO ok' H' v t as
  | .node c ks, v, as, x => by
    cases x with
    | node h1 h2 k1 k2 c1 c2 r => exact .node (h _ _ k1 h1) (h _ _ k2 h2) (hk _ k1) (hk _ k2) c1 c2 (TrsO.imp hk h ks _ _ r)
theorem TrsO.imp (hk : ∀ b, ok b → ok' b) (h : ∀ b o, ok b → H b = some o → H' b = some o) : ∀ (ts : List Tr) (vs : List V) (as : List Addr), TrsO ok H vs ts as → TrsO ok' H' vs ts as
  | [], vs, as, x => by cases x; exact .nil
  | t :: r, vs, as, x => by
    cases x with
    | cons a b => exact .cons (TrO.imp hk h t _ _ a) (TrsO.imp hk h r _ _ b)
end
theorem TrO.keep {v : V} {t : Tr} {as : List Addr} (x : TrO ok H v t as) (h : ∀ b o, ok b → H b = some o → H' b = some o) : TrO ok H' v t as := TrO.imp (fun _ k => k) h t v as x
theorem TrO.same {v : V} {t : Tr} {as : List Addr} (x : TrO ok H v t as) (s : Same H H') : TrO ok H' v t as := x.keep fun b o _ h => s b o h
theorem TrO.weak {v : V} {t : Tr} {as : List Addr} (x : TrO ok H v t as) (h : ∀ b, ok b → ok' b) : TrO ok' H v t as := TrO.imp h (fun _ _ _ e => e) t v as x
theorem TrsO.keep {vs : List V} {ts : List Tr} {as : List Addr} (x : TrsO ok H vs ts as) (h : ∀ b o, ok b → H b = some o → H' b = some o) : TrsO ok H' vs ts as := TrsO.imp (fun _ k => k) h ts vs as x
theorem TrsO.same {vs : List V} {ts : List Tr} {as : List Addr} (x : TrsO ok H vs ts as) (s : Same H H') : TrsO ok H' vs ts as := x.keep fun b o _ h => s b o h
theorem TrsO.weak {vs : List V} {ts : List Tr} {as : List Addr} (x : TrsO ok H vs ts as) (h : ∀ b, ok b → ok' b) : TrsO ok' H vs ts as := TrsO.imp h (fun _ _ _ e => e) ts vs as x
mutual
theorem TrO.at : ∀ (t : Tr) (v : V) (as : List Addr), TrO ok H v t as → TrAt ok H v t
  | .node c ks, v, as, x => by
    cases x with
    | node h1 h2 k1 k2 c1 c2 r => exact .node h1 h2 k1 k2 c1 c2 (TrsO.at ks _ _ r)
theorem TrsO.at : ∀ (ts : List Tr) (vs : List V) (as : List Addr), TrsO ok H vs ts as → TrsAt ok H vs ts
  | [], vs, as, x => by cases x; exact .nil
  | t :: r, vs, as, x => by
    cases x with
    | cons a b => exact .cons (TrO.at t _ _ a) (TrsO.at r _ _ b)
end
mutual
theorem TrO.lst : ∀ (t : Tr) (v : V) (as : List Addr), TrO ok H v t as → ∀ b ∈ as, ok b ∧ ∃ xs, H b = some (.lst xs)
  | .node c ks, v, as, x => by
    cases x with
    | node h1 h2 k1 k2 c1 c2 r =>
      intro b hb
      rcases List.mem_cons.mp hb with e | hb
      · subst e; exact ⟨k2, _, h2⟩
      · exact TrsO.lst ks _ _ r b hb
theorem TrsO.lst : ∀ (ts : List Tr) (vs : List V) (as : List Addr), TrsO ok H vs ts as → ∀ b ∈ as, ok b ∧ ∃ xs, H b = some (.lst xs)
  | [], vs, as, x => by cases x; intro b hb; cases hb
  | t :: r, vs, as, x => by
    cases x with
    | cons x1 x2 =>
      intro b hb
      rcases List.mem_append.mp hb with hb | hb
      · exact TrO.lst t _ _ x1 b hb
      · exact TrsO.lst r _ _ x2 b hb
end
mutual
theorem TrO.there : ∀ (t : Tr) (v : V) (as : List Addr), TrO ok H v t as → TrO (fun b => ok b ∧ ∃ o, H b = some o) H v t as
  | .node c ks, v, as, x => by
    cases x with
    | node h1 h2 k1 k2 c1 c2 r => exact .node h1 h2 ⟨k1, _, h1⟩ ⟨k2, _, h2⟩ c1 c2 (TrsO.there ks _ _ r)
theorem TrsO.there : ∀ (ts : List Tr) (vs : List V) (as : List Addr), TrsO ok H vs ts as → TrsO (fun b => ok b ∧ ∃ o, H b = some o) H vs ts as
  | [], vs, as, x => by cases x; exact .nil
  | t :: r, vs, as, x => by
    cases x with
    | cons a b => exact .cons (TrO.there t _ _ a) (TrsO.there r _ _ b)
end
theorem TrO.off {v : V} {t : Tr} {as : List Addr} {w : Addr} (x : TrO ok H v t as) (h : H w = none) : TrO (fun b => ok b ∧ b ≠ w) H v t as :=
  (TrO.there t v as x).weak fun b ⟨k, o, e⟩ => ⟨k, ne_of_none e h⟩
theorem TrsO.off {vs : List V} {ts : List Tr} {as : List Addr} {w : Addr} (x : TrsO ok H vs ts as) (h : H w = none) : TrsO (fun b => ok b ∧ b ≠ w) H vs ts as :=
  (TrsO.there ts vs as x).weak fun b ⟨k, o, e⟩ => ⟨k, ne_of_none e h⟩
theorem TrsO.of : ∀ bs : List (V × Tr × List Addr), (∀ b ∈ bs, TrO ok H b.1 b.2.1 b.2.2) → TrsO ok H (bs.map (·.1)) (bs.map (·.2.1)) (bs.map (·.2.2)).flatten
  | [], _ => .nil
  | b :: r, h => by
    simp only [List.map_cons, List.flatten_cons]
    exact .cons (h b (by simp)) (TrsO.of r fun x hx => h x (by simp [hx]))
theorem TrsO.split1 : ∀ {vs : List V} {ts : List Tr} {as : List Addr}, TrsO ok H vs ts as → ∃ bs : List (V × Tr × List Addr), vs = bs.map (·.1) ∧ ts = bs.map (·.2.1) ∧ as = (bs.map (·.2.2)).flatten ∧ ∀ b ∈ bs, TrO ok H b.1 b.2.1 b.2.2
  | _, _, _, .nil => ⟨[], rfl, rfl, rfl, fun _ h => by cases h⟩
  | _, _, _, .cons (v := v) (t := t) (as := as) a b => by
    obtain ⟨bs, rfl, rfl, rfl, h⟩ := TrsO.split1 b
    refine ⟨(v, t, as) :: bs, rfl, rfl, rfl, fun x hx => ?_⟩
    rcases List.mem_cons.mp hx with e | hx
    · subst e; exact a
    · exact h x hx
theorem TrsO.snoc {vs : List V} {ts : List Tr} {as bs : List Addr} {v : V} {t : Tr} (x : TrsO ok H vs ts as) (y : TrO ok H v t bs) : TrsO ok H (vs ++ [v]) (ts ++ [t]) (as ++ bs) := by
  obtain ⟨cs, rfl, rfl, rfl, h⟩ := x.split1
  have := TrsO.of (ok := ok) (H := H) (cs ++ [(v, t, bs)]) (by
    intro b hb
    rcases List.mem_append.mp hb with hb | hb
    · exact h b hb
    · simp only [List.mem_singleton] at hb
      subst hb
      exact y)
  simpa using this
theorem TrsO.len {vs : List V} {ts : List Tr} {as : List Addr} (x : TrsO ok H vs ts as) : vs.length = ts.length := (TrsO.at ts vs as x).len
end
def ws (t : Tr) : Str := ⟨t.wr.toArray⟩
def RowO1 (ok : Addr → Prop) (H : Hp) (b : V × Tr × List Addr) : Prop := ∃ p x, b.1 = .ref p ∧ H p = some (.tup [.str (ws b.2.1), x]) ∧ ok p ∧ TrO ok H x b.2.1 b.2.2
theorem RowO1.imp {ok ok' : Addr → Prop} {H H' : Hp} {b : V × Tr × List Addr} (x : RowO1 ok H b) (hk : ∀ b, ok b → ok' b) (h : ∀ b o, ok b → H b = some o → H' b = some o) : RowO1 ok' H' b := by
  obtain ⟨p, x, e, h1, h2, h3⟩ := x
  exact ⟨p, x, e, h _ _ h2 h1, hk _ h2, TrO.imp hk h _ _ _ h3⟩
theorem RowO1.same {ok : Addr → Prop} {H H' : Hp} {b : V × Tr × List Addr} (x : RowO1 ok H b) (s : Same H H') : RowO1 ok H' b := x.imp (fun _ k => k) fun b o _ h => s b o h
theorem nodup_snoc {α : Type} {as bs : List α} (ha : as.Nodup) (hb : bs.Nodup) (h : ∀ x ∈ as, x ∉ bs) : (as ++ bs).Nodup := by
  rw [List.nodup_append]
  exact ⟨ha, hb, fun a h1 b h2 e => h a h1 (e ▸ h2)⟩

open LamX NdefX in
structure CalX (P : Program) (w : World) (K : PySem.W.Frag) (mg : Str → Option Value) (base : Heap) (k : Nat) (f : Addr) (G : Hp → Prop) (np : Nat) (sp : Sp) : Prop where
  len : ∀ vs H Q E, sp vs H Q E → vs.length = np
  at_ : ∀ (s : Shared) (H : Hp), HOk P w H s.heap → K.In s.heap → G H → PySem.W.FnAt f s.heap
  run : ∀ (A : Around) (outer : List Env) (s : Shared) (H : Hp) (us : List Value) (vs : List V) (Q : VK) (E : XK), Room k A → Env0 P w K mg base A outer s H → G H → Vals vs us → sp vs H Q E → codeAny (model P w) A (.call (.ref f) ⟨us, []⟩) (CR CX0 outer P w H s Q E) s
def tCalX (i : Nat) (f : Addr) (G : Hp → Prop) (sp : Sp) (t : TA) : TE := fun σ H Q => σ[i]? = some (some (.ref f)) ∧ G H ∧ t σ H fun vs H1 => G H1 ∧ sp vs H1 Q C8.E0
theorem pe_calX {X : Cx} {k i np : Nat} {f : Addr} {G : Hp → Prop} {sp : Sp} {x : Str} {p pos : Pos} {e : PySem.Expr} {es : List PySem.Expr} {t : TA}
    (C : CalX X.prog X.w X.K X.mg X.base k f G np sp) (hr : Room k X.A) (hN : X.N[i]? = some x) (hv : Vis X.env.scope x) (ha : PA X (e :: es) t)
    (hdb : (x == ("__debug__" : Str)) = false := by decide) (hcd : (x == ("__classdict__" : Str)) = false := by decide)
    (he : starEach (e :: es) X.env = (false, eval e X.env) :: starEach es X.env := by rfl) (hpl : (backTo pos (starEach es X.env)).any (·.1) = false := by rfl) : PE X (.Call (.Name x p) (e :: es) [] pos) (tCalX i f G sp t) := by
  refine ⟨fun pins s σ H Q I h => ?_⟩
  obtain ⟨hs, hg, ht⟩ := h
  refine wpAny_Call_Name_kw (thn ((pe_var (pos := p) hN hv hdb hcd).run pins s σ H (fun v H1 => v = .ref f ∧ H1 = H) I ⟨.ref f, hs, rfl, rfl⟩) fun u s1 ⟨v, H1, I1, r1, q1⟩ => ?_)
  obtain ⟨ev, eH⟩ := q1
  subst ev
  rw [eH] at I1
  obtain rfl : u = Value.ref f := r1
  refine PySem.W.callWith_F (first := []) (C.at_ s1 H I1.hok I1.kIn hg) (thn (ha.run pos pins s1 σ H _ I1 ht) fun us s2 ⟨vs, H2, I2, r, h1, q⟩ => ⟨C.at_ s2 H2 I2.hok I2.kIn h1, ?_⟩) he hpl
  show wpAny _ _ (call (.ref f) us) _ _ _
  refine wpAny_call (codeAny_mono (C.run X.A X.stack s2 H2 us vs Q C8.E0 hr I2.env0 h1 r q) fun r s' hq => ?_)
  cases r with
  | error e => exact (show False from hq).elim
  | ok fl =>
    cases fl with
    | ret u => exact I2.after hq
    | next => exact False.elim hq
    | brk => exact False.elim hq
    | cont => exact False.elim hq
theorem calX_of {P : Program} {w : World} {K : PySem.W.Frag} {mg : Str → Option Value} {base : Heap} {k : Nat} {x q : Str} {st : Stmt} {f : Addr} {fd : FuncData} {ps : List Str} {sp : Sp} (F : FnOk P w K mg base CX0 k f fd ps sp) (U : Fun K x q st f fd) (hb : Binds K fd ps []) {G : Hp → Prop} : CalX P w K mg base k f G ps.length sp := by
  refine ⟨F.len, fun s H _ hk _ => ?_, fun A outer s H us vs Q E hr e0 _ r h => ?_⟩
  · obtain ⟨oc, od, kV, doc, pm, an, cdv, ct, osl, rfl, lk, hcd⟩ := U.ex
    exact ⟨_, _, _, _, hk _ _ lk⟩
  · have KX : K.In s.heap := e0.mod.kin.keeps fun b o e => (e0.bs b o e).1
    have hl : us.length = ps.length := by rw [← r.length]; exact F.len _ _ _ _ h
    have hb' := hb s us KX (by rw [List.append_nil]; exact hl)
    rw [List.append_nil] at hb'
    exact F.run A outer s H ⟨us, []⟩ us vs Q E hr e0 hb' r h
structure LF where
  qual : Str
  params : Arguments
  body : PySem.Expr
  scope : PySem.Scope
  cl : List (Str × Addr)
  c : Addr
abbrev LF.nf (F : LF) : NdefX.NF := ⟨"<lambda>", F.qual, F.params, [], F.scope, F.cl, F.c⟩
def LamO (f : Addr) (F : LF) : HO := .ext fun h => ∃ pm ctv, h.get? f = some (PySem.W.kla_obj "<lambda>" F.qual F.params F.body F.scope F.cl pm F.c ctv)
theorem lamO_ok {P : Program} {w : World} {H : Hp} {h : Heap} {F : LF} {pm ctv : Value} :
    ObjOk P w H (h.push (PySem.W.kla_obj "<lambda>" F.qual F.params F.body F.scope F.cl pm F.c ctv)) h.objs.size (LamO h.objs.size F) := by
  have e : (h.push (PySem.W.kla_obj "<lambda>" F.qual F.params F.body F.scope F.cl pm F.c ctv)).get? h.objs.size = some (PySem.W.kla_obj "<lambda>" F.qual F.params F.body F.scope F.cl pm F.c ctv) := Heap.get?_push_size _ rfl
  exact ⟨⟨pm, ctv, e⟩, ⟨_, e⟩, fun h1 h2 ⟨a1, a2, e1⟩ k => ⟨a1, a2, k _ e1⟩⟩
theorem calX_lam {P : Program} {w : World} {K : PySem.W.Frag} {mg : Str → Option Value} {base : Heap} {k : Nat} {N ps : List Str} {f : Addr} {F : LF} {sp : Sp} (S : NdefX.NScope N ps [] F.scope) (hcl : F.cl = [])
    (hb : ∀ (pm ctv : Value) (us : List Value), us.length = ps.length → bindArgs (PySem.W.kla_fn "<lambda>" F.qual F.params F.body F.scope F.cl pm (.ref F.c) ctv) ⟨us, []⟩ = pure (ps.zip us)) (len : ∀ vs H Q E, sp vs H Q E → vs.length = ps.length)
    (hbody : ∀ (A : Around) (outer : List Env) (s : Shared) (H : Hp) (vs : List V) (Q : VK) (E : XK), Room k (A.deeper (NdefX.envF F.nf f s.heap.objs.size)) → sp vs H Q E →
      ∃ t, PE (NdefX.ncx CX0 P w K mg base N F.nf f A outer s H E) F.body t ∧ t (NdefX.startF N vs []) H Q) :
    CalX P w K mg base (k + 1) f (fun H => H f = some (LamO f F) ∧ H F.c = some (LamX.CodeO F.c F.qual)) ps.length sp := by
  refine ⟨len, fun s H hok _ hg => ?_, fun A outer s H us vs Q E hr e0 hg r hsp => ?_⟩
  · obtain ⟨⟨pm, ctv, e⟩, _, _⟩ := hok _ _ hg.1
    exact ⟨_, _, _, _, e⟩
  obtain ⟨⟨pm, ctv, ho⟩, _, _⟩ := e0.hok _ _ hg.1
  have hl := len _ _ _ _ hsp
  have lim : s.heap.NoLimit := e0.mod.nolimit.keeps fun b o e => (e0.bs b o e).1
  refine PySem.W.kla_callFunE hr.depth ho rfl S.co S.gen rfl (NdefX.codeO_at e0.hok hg.2) ?_
  rw [hb pm ctv us (by rw [← r.length]; exact hl)]
  refine wpAny_pure (wpAny_newFunctionEnv S.nocell (fun ⟨n, _⟩ hy => S.par n (List.of_mem_zip hy).1) (fun h₁ hns hsb => ⟨lim.fresh _ hsb, ?_⟩) S.kind)
  show codeAny _ _ (.expr F.body (NdefX.envF F.nf f s.heap.objs.size)) _ _
  have kp : ∀ b o, s.heap.get? b = some o → h₁.get? b = some o := fun b o e => hsb.extBut b o (Nat.ne_of_lt (Heap.lt_size e)) (Heap.get?_push_of_some _ e)
  obtain ⟨t, ht, hq⟩ := hbody A outer s H vs Q E (hr.deeper _) hsp
  have C : NdefX.CellsAt F.nf.cl [] [] s.heap H := by
    have e : F.nf.cl = [] := hcl
    rw [e]
    exact ⟨rfl, (fun y c e => by cases e), (fun x y c e => by cases e), (fun i y e => by simp at e)⟩
  have I : Inv (NdefX.ncx CX0 P w K mg base N F.nf f A outer s H E) [] (NdefX.startF N vs []) H { s with heap := h₁, toks := s.toks + (ps.zip us).length } := NdefX.inv_startN S hr.hd e0 hl r C hns kp
  refine PySem.W.kla_codeExpr (wpAny_mono (ht.run [] _ _ H Q I hq) (fun v s' hq => ?_) fun e s' hq => hq)
  obtain ⟨w', H', J', rv, q⟩ := hq
  exact ⟨w', H', J'.os, J'.bare, J'.base, J'.hok, rv, q⟩
theorem pe_lamX {X : Cx} {c P : Addr} {params : Arguments} {body : PySem.Expr} {scope : PySem.Scope} {pos : Pos} (tb : LamX.TabB X.base X.mg c P) (hc : X.env.code = .ref c) (hd : defaultsOf params X.env = ([], []))
    (hfree : ∀ y ∈ scope.names, y.2 = .free → ∃ c, X.env.cells.lookup y.1 = some c) : PE X (.Lambda params body scope pos) (fun σ H Q => LamX.TabS H P (X.env.qual ++ "<lambda>") ∧ ∀ (f c : Addr) (H1 : Hp), Fr P H H1 → (∀ b, H1 b = none → H b = none) → LamX.TabS H1 P (X.env.qual ++ "<lambda>") → H f = none →
      H1 f = some (LamO f ⟨X.env.qual ++ "<lambda>", params, body, scope, cloFrom X.env.cells scope.names [], c⟩) → H1 c = some (LamX.CodeO c (X.env.qual ++ "<lambda>")) → Q (.ref f) H1) := by
  refine ⟨fun pins s σ H Q I h => ?_⟩
  obtain ⟨ht, q⟩ := h
  have hclo : closureFor scope X.env = pure (cloFrom X.env.cells scope.names []) := closure_ok hfree
  have ht' := ht
  obtain ⟨ps, hP, hT, hA⟩ := ht'
  have oP : s.heap.get? P = some (PySem.W.tabObj ps) := I.hok _ _ hP
  refine PySem.W.kla_eval hd ?_
  cases hcd : codeAmong pos ps.toList with
  | some cv =>
    obtain ⟨c', rfl, hc'⟩ := hA _ _ hcd
    refine PySem.W.kla_makeFunctionHit hclo I.ok.glob (I.mod.glob.keeps I.bk) hc (tb.code.keeps I.bk) oP hT hcd (tb.bm.keeps I.bk) (fun ctv h' tk hk hs => ?_)
    have I1 := I.kept (t' := tk) hk
    have hz : s.heap.objs.size ≤ h'.objs.size := hs
    have hn : H h'.objs.size = none := I.hok.fresh hz
    refine ⟨.ref h'.objs.size, upd H h'.objs.size (LamO h'.objs.size ⟨X.env.qual ++ "<lambda>", params, body, scope, cloFrom X.env.cells scope.names [], c'⟩), ?_, rfl, q _ c' _ (fun b o _ hb => ?_) (fun b e => NdefX.upd_none e) (ht.ext fun b o hb => ?_) hn upd_same ?_⟩
    · exact I1.laid (h' := h'.push _) (t' := tk) (fun b u hb => Heap.get?_push_of_some _ hb) (Nat.le_refl _) (lamO_ok (F := ⟨X.env.qual ++ "<lambda>", params, body, scope, cloFrom X.env.cells scope.names [], c'⟩))
    · rw [upd_ne (ne_of_none hb hn)]; exact hb
    · rw [upd_ne (ne_of_none hb hn)]; exact hb
    · rw [upd_ne (ne_of_none hc' hn)]; exact hc'
  | none =>
    refine PySem.W.kla_makeFunction hclo I.ok.glob (I.mod.glob.keeps I.bk) hc (tb.code.keeps I.bk) oP hT hcd tb.gP (tb.bm.keeps I.bk) (fun c' ctv h' tk he hl hu hrec hP' => ?_)
    obtain ⟨c2, o2, vs2, t2, ec, e1, e2, e3⟩ := hrec
    cases ec
    have I2 := LamX.inv_table (t' := tk) (c := c') (q := X.env.qual ++ "<lambda>") I hP he (more := #[rawInt ↑pos.line, rawInt ↑pos.col, .ref c']) hP' hl ⟨_, _, _, e1, e2, e3⟩
    have hn : (upd (upd H P (.tbl (ps ++ #[rawInt ↑pos.line, rawInt ↑pos.col, .ref c']))) c' (LamX.CodeO c' (X.env.qual ++ "<lambda>"))) h'.objs.size = none := I2.hok.fresh (Nat.le_refl _)
    have hcn : H c' = none := I.hok.fresh hl
    have hPc : P ≠ c' := fun e => by rw [e] at hP; rw [hcn] at hP; cases hP
    refine ⟨.ref h'.objs.size, _, I2.laid (h' := h'.push _) (o := LamO h'.objs.size ⟨X.env.qual ++ "<lambda>", params, body, scope, cloFrom X.env.cells scope.names [], c'⟩) (t' := tk) (fun b u hb => Heap.get?_push_of_some _ hb) (Nat.le_refl _) (lamO_ok (F := ⟨X.env.qual ++ "<lambda>", params, body, scope, cloFrom X.env.cells scope.names [], c'⟩)), rfl, q _ c' _ ?_ (fun b e => NdefX.upd_none (NdefX.upd_none (NdefX.upd_none e))) ?_ (NdefX.upd_none (NdefX.upd_none hn)) upd_same ?_⟩
    · intro b o hbP hb
      have h1 : (upd (upd H P (.tbl (ps ++ #[rawInt ↑pos.line, rawInt ↑pos.col, .ref c']))) c' (LamX.CodeO c' (X.env.qual ++ "<lambda>"))) b = some o := by
        rw [upd_ne (ne_of_none hb hcn), upd_ne hbP]; exact hb
      rw [upd_ne (ne_of_none h1 hn)]; exact h1
    · refine LamX.TabS.ext (H := upd (upd H P (.tbl (ps ++ #[rawInt ↑pos.line, rawInt ↑pos.col, .ref c']))) c' (LamX.CodeO c' (X.env.qual ++ "<lambda>"))) ?_ (fun b o hb => by rw [upd_ne (ne_of_none hb hn)]; exact hb)
      refine ⟨_, by rw [upd_ne hPc]; exact upd_same, ?_, ?_⟩
      · simpa using TriplesOk_snoc _ _ _ _ hT
      · intro pos2 cv hcv
        rw [Array.toList_append] at hcv
        rcases LamX.among_app _ hT hcv with h | h
        · obtain ⟨c3, e3, h3⟩ := hA _ _ h
          refine ⟨c3, e3, ?_⟩
          rw [upd_ne (ne_of_none h3 hcn), upd_ne (fun e => by rw [e, hP] at h3; cases h3)]
          exact h3
        · exact ⟨c', h, upd_same⟩
    · have h1 : (upd (upd H P (.tbl (ps ++ #[rawInt ↑pos.line, rawInt ↑pos.col, .ref c']))) c' (LamX.CodeO c' (X.env.qual ++ "<lambda>"))) c' = some (LamX.CodeO c' (X.env.qual ++ "<lambda>")) := upd_same
      rw [upd_ne (ne_of_none h1 hn)]; exact h1
theorem nofree_by {scope : PySem.Scope} {cells : List (Str × Addr)} (h : (scope.names.all fun y => !decide (y.2 = .free)) = true) : ∀ y ∈ scope.names, y.2 = .free → ∃ c, cells.lookup y.1 = some c := fun y hy e => by
  have := List.all_eq_true.mp h y hy
  simp only [e, decide_true, Bool.not_true] at this
  cases this
theorem CalX.imp {P : Program} {w : World} {K : PySem.W.Frag} {mg : Str → Option Value} {base : Heap} {k j : Nat} {f : Addr} {G G' : Hp → Prop} {np : Nat} {sp sp' : Sp} (C : CalX P w K mg base k f G np sp) (hk : k ≤ j) (hG : ∀ H, G' H → G H) (hs : ∀ vs H Q E, sp' vs H Q E → sp vs H Q E) : CalX P w K mg base j f G' np sp' :=
  ⟨fun vs H Q E q => C.len vs H Q E (hs _ _ _ _ q), fun s H a b g => C.at_ s H a b (hG H g), fun A outer s H us vs Q E hr e0 g r q => C.run A outer s H us vs Q E (hr.mono hk) e0 (hG H g) r (hs _ _ _ _ q)⟩
inductive Runs : List Tr → List Tr → List Tr → Prop
  | nil {us : List Tr} : Runs us [] us
  | cons {us ks r z : List Tr} {c : Nat} : Runs (us ++ [.node c ks]) r z → Runs (us ++ ks) (.node c ks :: r) z
mutual
theorem runs_post : ∀ (t : Tr) (us r z : List Tr), Runs (us ++ [t]) r z → Runs us (t.post ++ r) z
  | .node c ks, us, r, z, h => by
    simp only [Tr.post, List.append_assoc, List.singleton_append]
    exact runs_posts ks us _ z (.cons h)
theorem runs_posts : ∀ (ts us r z : List Tr), Runs (us ++ ts) r z → Runs us (posts ts ++ r) z
  | [], us, r, z, h => by simpa [posts] using h
  | t :: ts, us, r, z, h => by
    simp only [posts, List.append_assoc]
    refine runs_post t us _ z (runs_posts ts (us ++ [t]) r z ?_)
    rw [List.append_assoc]
    exact h
end
theorem runs_all (t : Tr) : Runs [] t.post [t] := by
  have := runs_post t [] [] [t] .nil
  rwa [List.append_nil] at this
abbrev ItP := (Addr → Prop) → Hp → V → Tr → List Addr → Prop
structure ItOk (It : ItP) : Prop where
  imp : ∀ {ok ok' : Addr → Prop} {H H' : Hp} {v : V} {t : Tr} {as : List Addr}, (∀ b, ok b → ok' b) → (∀ b o, ok b → H b = some o → H' b = some o) → It ok H v t as → It ok' H' v t as
  lst : ∀ {ok : Addr → Prop} {H : Hp} {v : V} {t : Tr} {as : List Addr}, It ok H v t as → ∀ b ∈ as, ok b ∧ ∃ xs, H b = some (.lst xs)
abbrev lstsI (bs : List (V × Tr × List Addr)) : List Addr := (bs.map fun b => b.2.2).flatten
def sp_made (It : ItP) (Pt : Addr) (q : Str) : Sp := fun vs H Q _ => ∃ (c : Nat) (bl : Addr) (bs : List (V × Tr × List Addr)) (ok : Addr → Prop), vs = [.str (ch c), .ref bl] ∧ 97 ≤ c ∧ c ≤ 122 ∧ H bl = some (.lst (bs.map (·.1))) ∧ ok bl ∧
  (∀ b ∈ bs, It ok H b.1 b.2.1 b.2.2) ∧ (bl :: lstsI bs).Nodup ∧ sizes (bs.map (·.2.1)) ≤ 1000000 ∧ (∀ b, ok b → b ≠ Pt) ∧ LamX.TabS H Pt q ∧
  ∀ v as H', Fr Pt H H' → LamX.TabS H' Pt q → It (fun b => ok b ∨ H b = none) H' v (.node c (bs.map (·.2.1))) as → as.Nodup → (∀ a ∈ as, a ∈ bl :: lstsI bs ∨ H a = none) → Q v H'
def sp_built_upward (P : Program) (w : World) (K : PySem.W.Frag) (mg : Str → Option Value) (base : Heap) (k : Nat) (Pt : Addr) (q : Str) : Sp := fun vs H Q _ => ∃ (v : V) (t : Tr) (f : Addr) (It : ItP), vs = [v, .ref f] ∧ TrAt (fun _ => True) H v t ∧ t.size ≤ 1000000 ∧ ItOk It ∧ LamX.TabS H Pt q ∧
  CalX P w K mg base k f (fun H' => Fr Pt H H') 2 (sp_made It Pt q) ∧ ∀ r as H', Fr Pt H H' → LamX.TabS H' Pt q → It (fun b => H b = none) H' r t as → as.Nodup → Q r H'

def CellO (c : Addr) (o : Obj) : HO := .ext fun h => h.get? c = some o
abbrev Lent := List (Addr × Obj)
def lend (H : Hp) (cs : Lent) : Hp := fun b => match cs.lookup b with
  | some o => some (CellO b o)
  | none => H b
def unl (H : Hp) (cs : Lent) : Hp := fun b => match cs.lookup b with
  | some _ => none
  | none => H b
def LentAt (cs : Lent) (H : Hp) : Prop := ∀ c o, cs.lookup c = some o → H c = some (CellO c o)
def Fresh (cs : Lent) (H : Hp) : Prop := ∀ c o, cs.lookup c = some o → H c = none
section
variable {H H' : Hp} {cs : Lent} {b c : Addr} {o : Obj} {u : HO}
theorem lend_in (h : cs.lookup c = some o) : lend H cs c = some (CellO c o) := by unfold lend; rw [h]
theorem lend_out (h : cs.lookup b = none) : lend H cs b = H b := by unfold lend; rw [h]
theorem unl_in (h : cs.lookup c = some o) : unl H cs c = none := by unfold unl; rw [h]
theorem unl_out (h : cs.lookup b = none) : unl H cs b = H b := by unfold unl; rw [h]
theorem Fresh.out (f : Fresh cs H) (h : H b = some u) : cs.lookup b = none := by
  cases e : cs.lookup b with
  | none => rfl
  | some o => rw [f b o e] at h; cases h
theorem lend_some (f : Fresh cs H) (h : H b = some u) : lend H cs b = some u := by rw [lend_out (f.out h)]; exact h
theorem lend_same (f : Fresh cs H) : Same H (lend H cs) := fun _ _ h => lend_some f h
theorem unl_some (h : unl H cs b = some u) : H b = some u := by
  cases e : cs.lookup b with
  | none => rw [unl_out e] at h; exact h
  | some o => rw [unl_in e] at h; cases h
theorem unl_same : Same (unl H cs) H := fun _ _ h => unl_some h
theorem LentAt.out (f : LentAt cs H) (h : H b = some u) (n : ∀ φ, u ≠ .ext φ) : cs.lookup b = none := by
  cases e : cs.lookup b with
  | none => rfl
  | some o => rw [f b o e] at h; cases h; exact absurd rfl (n _)
theorem unl_keep (f : LentAt cs H) (h : H b = some u) (n : ∀ φ, u ≠ .ext φ) : unl H cs b = some u := by rw [unl_out (f.out h n)]; exact h
theorem unl_fresh : Fresh cs (unl H cs) := fun _ _ h => unl_in h
theorem lend_lent : LentAt cs (lend H cs) := fun _ _ h => lend_in h
theorem unl_lend (f : Fresh cs H) : unl (lend H cs) cs = H := by
  funext b
  cases e : cs.lookup b with
  | none => rw [unl_out e, lend_out e]
  | some o => rw [unl_in e, f b o e]
theorem lend_unl (f : LentAt cs H) : lend (unl H cs) cs = H := by
  funext b
  cases e : cs.lookup b with
  | none => rw [lend_out e, unl_out e]
  | some o => rw [lend_in e, f b o e]
end
section
variable {P : Program} {w : World} {H H1 : Hp} {h h0 h1 : Heap} {cs : Lent} {fs : List Addr}
theorem hok_lend (ok : HOk P w H h) (f : Fresh cs H) (hc : ∀ c o, cs.lookup c = some o → h.get? c = some o) : HOk P w (lend H cs) h := fun a u e => by
  cases hl : cs.lookup a with
  | some o =>
    rw [lend_in hl] at e
    cases e
    exact ⟨hc _ _ hl, ⟨o, hc _ _ hl⟩, fun h1 h2 q k => k _ q⟩
  | none =>
    rw [lend_out hl] at e
    exact (ok a u e).stay (fun _ _ _ q => q) (fun b q => lend_some f q) fun b xs q => lend_some f q
theorem hok_unl (ok : HOk P w H h) (f : LentAt cs H) : HOk P w (unl H cs) h := fun a u e =>
  (ok a u (unl_some e)).stay (fun _ _ _ q => q) (fun b q => unl_keep f q (fun φ z => by cases z)) fun b xs q => unl_keep f q (fun φ z => by cases z)
theorem lent_get (ok : HOk P w H h) (f : LentAt cs H) {c : Addr} {o : Obj} (e : cs.lookup c = some o) : h.get? c = some o := (ok c _ (f c o e)).1
theorem un_back (u : Un fs [] (lend H cs) H1 h0 h1) (f : Fresh cs H) (l : LentAt cs H1) (ok : HOk P w H1 h1) (hc : ∀ c o, cs.lookup c = some o → h0.get? c = some o) : Un fs [] H (unl H1 cs) h0 h1 where
  keep := fun b ob e n hf hx => by
    cases hl : cs.lookup b with
    | some o =>
      have e2 := hc _ _ hl
      rw [e] at e2
      cases e2
      exact lent_get ok l hl
    | none => exact u.keep b ob e (by rw [lend_out hl]; exact n) hf hx
  slot := fun b ob e n hf hx => by
    cases hl : cs.lookup b with
    | some o =>
      have e2 := hc _ _ hl
      rw [e] at e2
      cases e2
      exact ⟨ob.slots, lent_get ok l hl⟩
    | none => exact u.slot b ob e (by rw [lend_out hl]; exact n) hf hx
  free := fun b ob e n hx => by
    cases hl : cs.lookup b with
    | some o => exact unl_in hl
    | none => rw [unl_out hl]; exact u.free b ob e (by rw [lend_out hl]; exact n) hx
  there := u.there
  tups := fun b xs e => unl_keep l (u.tups b xs (lend_some f e)) (fun φ z => by cases z)
  frzs := fun b o v e => unl_keep l (u.frzs b o v (lend_some f e)) (fun φ z => by cases z)
  tbls := fun b ps e => by
    obtain ⟨more, q⟩ := u.tbls b ps (lend_some f e)
    exact ⟨more, unl_keep l q (fun φ z => by cases z)⟩
theorem un_fwd (u : Un fs [] (unl H cs) H1 h0 h1) (l : LentAt cs H) (ok : HOk P w H h0) (hf : ∀ c o, cs.lookup c = some o → c ∉ fs) : Fresh cs H1 ∧ (∀ c o, cs.lookup c = some o → h1.get? c = some o) ∧ Un fs [] H (lend H1 cs) h0 h1 := by
  have f1 : Fresh cs H1 := fun c o e => u.free c o (lent_get ok l e) (unl_in e) (by simp)
  have hc : ∀ c o, cs.lookup c = some o → h1.get? c = some o := fun c o e => u.keep c o (lent_get ok l e) (unl_in e) (hf c o e) (by simp)
  have no : ∀ b, H b = none → cs.lookup b = none := fun b n => by
    cases hl : cs.lookup b with
    | none => rfl
    | some o => rw [l b o hl] at n; cases n
  refine ⟨f1, hc, fun b ob e n => ?_, fun b ob e n => ?_, fun b ob e n hx => ?_, u.there, fun b xs e => ?_, fun b o v e => ?_, fun b ps e => ?_⟩
  · exact u.keep b ob e (by rw [unl_out (no b n)]; exact n)
  · exact u.slot b ob e (by rw [unl_out (no b n)]; exact n)
  · rw [lend_out (no b n)]
    exact u.free b ob e (by rw [unl_out (no b n)]; exact n) hx
  · exact lend_some f1 (u.tups b xs (unl_keep l e (fun φ z => by cases z)))
  · exact lend_some f1 (u.frzs b o v (unl_keep l e (fun φ z => by cases z)))
  · obtain ⟨more, q⟩ := u.tbls b ps (unl_keep l e (fun φ z => by cases z))
    exact ⟨more, lend_some f1 q⟩
end
structure Caught (cl : List (Str × Addr)) (fr : List Str) (ws : List (Option V)) (cs : Lent) : Prop where
  len : ws.length = fr.length
  all : ∀ y c, cl.lookup y = some c → ∃ o v, cs.lookup c = some o ∧ o.data = .cell v
  inj : ∀ x y c, cl.lookup x = some c → cl.lookup y = some c → x = y
  has : ∀ (i : Nat) (y : Str), fr[i]? = some y → ∃ c, cl.lookup y = some c ∧ ∀ v, ws[i]? = some (some v) → ∃ u o, L2.RelV v u ∧ cs.lookup c = some o ∧ o.data = .cell (some u)
def Cells (cs : Lent) : Prop := ∀ c o, cs.lookup c = some o → ∃ v, o.data = .cell v
theorem codeO_cell {c : Addr} {q : Str} {o : Obj} {v : Option Value} (hd : o.data = .cell v) : LamX.CodeO c q ≠ CellO c o := fun e => by
  have hg : (Heap.mk (Array.replicate (c + 1) o) {}).get? c = some o := by
    have h1 : (Array.replicate (c + 1) o)[c]? = some o := by rw [Array.getElem?_replicate, if_pos (Nat.lt_succ_self c)]
    show (match (Array.replicate (c + 1) o)[c]? with
      | some ⟨_, _, .freed, _⟩ => none
      | o => o) = some o
    rw [h1]
    obtain ⟨c1, c2, c3, c4⟩ := o
    cases hd
    rfl
  have e2 := HO.ext.inj e
  have e3 := (congrFun e2 (Heap.mk (Array.replicate (c + 1) o) {})).mpr hg
  obtain ⟨oc, vs, t, h1, h2, _⟩ := e3
  rw [hg] at h1
  cases h1
  rw [hd] at h2
  cases h2
section
variable {P : Program} {w : World} {K : PySem.W.Frag} {mg : Str → Option Value} {base : Heap} {cl : List (Str × Addr)} {fr : List Str} {ws : List (Option V)} {cs : Lent}
theorem Caught.at (C : Caught cl fr ws cs) {H : Hp} {h : Heap} (l : LentAt cs H) (ok : HOk P w H h) : NdefX.CellsAt cl fr ws h (unl H cs) := by
  refine ⟨C.len, fun y c e => ?_, C.inj, fun i y e => ?_⟩
  · obtain ⟨o, v, h1, h2⟩ := C.all y c e
    exact ⟨unl_in h1, v, o, lent_get ok l h1, h2⟩
  · obtain ⟨c, h1, h2⟩ := C.has i y e
    refine ⟨c, h1, fun v hv => ?_⟩
    obtain ⟨u, o, r, g1, g2⟩ := h2 v hv
    exact ⟨u, r, o, lent_get ok l g1, g2⟩
theorem unl_none {H : Hp} {b : Addr} (h : H b = none) : unl H cs b = none := by
  cases z : unl H cs b with
  | none => rfl
  | some u => rw [unl_some z] at h; cases h
theorem env0_unl {A : Around} {outer : List Env} {s : Shared} {H : Hp} (e : Env0 P w K mg base A outer s H) (l : LentAt cs H) : Env0 P w K mg base A outer s (unl H cs) :=
  ⟨e.frames, e.mod, fun b o q => ⟨(e.bs b o q).1, unl_none (e.bs b o q).2⟩, e.bsz, e.funs, fun b hb => unl_none (e.frf b hb), hok_unl e.hok l, e.bare⟩
theorem cr_fwd {outer : List Env} {s s' : Shared} {H : Hp} {Q : VK} {E : XK} {r : Result} (l : LentAt cs H) (ok : HOk P w H s.heap) (hf : ∀ c o, cs.lookup c = some o → c ∉ frs outer) (h : CR CX0 outer P w (unl H cs) s (fun v H' => Q v (lend H' cs)) E r s') : CR CX0 outer P w H s Q E r s' := by
  cases r with
  | error e => exact (show False from h).elim
  | ok fl =>
    cases fl with
    | ret u =>
      obtain ⟨v, H1, h1, h2, h3, h4, h5, h6⟩ := h
      obtain ⟨f1, f2, f3⟩ := un_fwd h3 l ok hf
      exact ⟨v, lend H1 cs, h1, h2, f3, hok_lend h4 f1 f2, h5, h6⟩
    | next => exact h
    | brk => exact h
    | cont => exact h
theorem calX_ndef {k : Nat} {f : Addr} {F : NdefX.NF} {ps : List Str} {sp : List (Option V) → Sp} (o : NdefX.NOk P w K mg base CX0 k f F ps fr sp) (C : Caught F.cl fr ws cs) (hz : Cells cs) :
    CalX P w K mg base k f (fun H => H f = some (NdefX.FnO f F) ∧ H F.c = some (LamX.CodeO F.c F.qual) ∧ LentAt cs H) ps.length (fun vs H Q E => sp ws vs (unl H cs) (fun v H' => Q v (lend H' cs)) E) := by
  refine ⟨fun vs H Q E h => o.len _ _ _ _ _ h, fun s H hok _ hg => ?_, fun A outer s H us vs Q E hr e0 hg r h => ?_⟩
  · obtain ⟨od, sl, doc, pm, ctv, ho⟩ := NdefX.fnO_at hok hg.1
    exact ⟨_, od, _, sl, ho⟩
  · obtain ⟨g1, g2, g3⟩ := hg
    have nf : cs.lookup f = none := by
      cases e : cs.lookup f with
      | none => rfl
      | some ob =>
        obtain ⟨od, sl, doc, pm, ctv, ho⟩ := NdefX.fnO_at e0.hok g1
        obtain ⟨v, hv⟩ := hz _ _ e
        rw [lent_get e0.hok g3 e] at ho
        cases ho
        cases hv
    have nc : cs.lookup F.c = none := by
      cases e : cs.lookup F.c with
      | none => rfl
      | some ob =>
        obtain ⟨c, oc, vs, t, ec, h1, h2, h3⟩ := NdefX.codeO_at e0.hok g2
        obtain ⟨v, hv⟩ := hz _ _ e
        cases ec
        rw [lent_get e0.hok g3 e] at h1
        cases h1
        rw [hv] at h2
        cases h2
    refine codeAny_mono (o.run A outer s (unl H cs) us vs ws _ E hr (env0_unl e0 g3) (by rw [unl_out nf]; exact g1) (by rw [unl_out nc]; exact g2) (C.at g3 e0.hok) r h) fun r s' hq => ?_
    exact cr_fwd g3 e0.hok (fun c ob e hb => by have := e0.frf c hb; rw [g3 c ob e] at this; cases this) hq
theorem calX_lamC {k : Nat} {N ps : List Str} {f : Addr} {F : LF} {sp : Sp} (S : NdefX.NScope N ps fr F.scope) (C : Caught F.cl fr ws cs) (hz : Cells cs)
    (hb : ∀ (pm ctv : Value) (us : List Value), us.length = ps.length → bindArgs (PySem.W.kla_fn "<lambda>" F.qual F.params F.body F.scope F.cl pm (.ref F.c) ctv) ⟨us, []⟩ = pure (ps.zip us)) (len : ∀ vs H Q E, sp vs H Q E → vs.length = ps.length)
    (hbody : ∀ (A : Around) (outer : List Env) (s : Shared) (H : Hp) (vs : List V) (Q : VK) (E : XK), Room k (A.deeper (NdefX.envF F.nf f s.heap.objs.size)) → sp vs H Q E →
      ∃ t, PE (NdefX.ncx CX0 P w K mg base N F.nf f A outer s H E) F.body t ∧ t (NdefX.startF N vs ws) H Q) :
    CalX P w K mg base (k + 1) f (fun H => H f = some (LamO f F) ∧ H F.c = some (LamX.CodeO F.c F.qual) ∧ LentAt cs H) ps.length (fun vs H Q E => sp vs (unl H cs) (fun v H' => Q v (lend H' cs)) E) := by
  refine ⟨fun vs H Q E h => len _ _ _ _ h, fun s H hok _ hg => ?_, fun A outer s H us vs Q E hr e0 hg r hsp => ?_⟩
  · obtain ⟨⟨pm, ctv, e⟩, _, _⟩ := hok _ _ hg.1
    exact ⟨_, _, _, _, e⟩
  obtain ⟨g1, g2, g3⟩ := hg
  obtain ⟨⟨pm, ctv, ho⟩, _, _⟩ := e0.hok _ _ g1
  have hl := len _ _ _ _ hsp
  have lim : s.heap.NoLimit := e0.mod.nolimit.keeps fun b o e => (e0.bs b o e).1
  refine codeAny_mono (R := CR CX0 outer P w (unl H cs) s (fun v H' => Q v (lend H' cs)) E) ?_ fun r s' hq => cr_fwd g3 e0.hok (fun c ob e hb => by have := e0.frf c hb; rw [g3 c ob e] at this; cases this) hq
  refine PySem.W.kla_callFunE hr.depth ho rfl S.co S.gen rfl (NdefX.codeO_at e0.hok g2) ?_
  rw [hb pm ctv us (by rw [← r.length]; exact hl)]
  refine wpAny_pure (wpAny_newFunctionEnv S.nocell (fun ⟨n, _⟩ hy => S.par n (List.of_mem_zip hy).1) (fun h₁ hns hsb => ⟨lim.fresh _ hsb, ?_⟩) S.kind)
  show codeAny _ _ (.expr F.body (NdefX.envF F.nf f s.heap.objs.size)) _ _
  have kp : ∀ b o, s.heap.get? b = some o → h₁.get? b = some o := fun b o e => hsb.extBut b o (Nat.ne_of_lt (Heap.lt_size e)) (Heap.get?_push_of_some _ e)
  obtain ⟨t, ht, hq⟩ := hbody A outer s (unl H cs) vs _ E (hr.deeper _) hsp
  have I : Inv (NdefX.ncx CX0 P w K mg base N F.nf f A outer s (unl H cs) E) [] (NdefX.startF N vs ws) (unl H cs) { s with heap := h₁, toks := s.toks + (ps.zip us).length } := NdefX.inv_startN S hr.hd (env0_unl e0 g3) hl r (C.at g3 e0.hok) hns kp
  refine PySem.W.kla_codeExpr (wpAny_mono (ht.run [] _ _ _ _ I hq) (fun v s' hq => ?_) fun e s' hq => hq)
  obtain ⟨w', H', J', rv, q⟩ := hq
  exact ⟨w', H', J'.os, J'.bare, J'.base, J'.hok, rv, q⟩
end
section
variable {X : Cx} {pins : List (Addr × Obj)} {σ : L2.St} {H : Hp} {s : Shared}
def ownCells (X : Cx) (h : Heap) : Lent := (X.env.cells.map (·.1)).filterMap fun y => match X.env.cells.lookup y with
  | some c => (h.get? c).map fun o => (c, o)
  | none => none
theorem look_has {α β : Type} [BEq α] [LawfulBEq α] {a : α} {b : β} : ∀ {l : List (α × β)}, (a, b) ∈ l → ∃ b', l.lookup a = some b'
  | (x, y) :: r, h => by
    by_cases e : a = x
    · subst e
      exact ⟨y, by simp [List.lookup]⟩
    · rcases List.mem_cons.mp h with h | h
      · cases h
        exact absurd rfl e
      · obtain ⟨b', h'⟩ := look_has h
        refine ⟨b', ?_⟩
        have : (a == x) = false := by simpa using e
        simp [List.lookup, this, h']
theorem mem_look {α β : Type} [BEq α] [LawfulBEq α] {a : α} {b : β} : ∀ {l : List (α × β)}, l.lookup a = some b → (a, b) ∈ l
  | (x, y) :: r, h => by
    by_cases e : a = x
    · subst e
      simp [List.lookup] at h
      rw [h]
      exact List.mem_cons_self
    · have e2 : (a == x) = false := by simpa using e
      simp only [List.lookup, e2] at h
      exact List.mem_cons_of_mem _ (mem_look h)
theorem own_mem {c : Addr} {o : Obj} {h : Heap} (e : (c, o) ∈ ownCells X h) : h.get? c = some o ∧ ∃ y, X.env.cells.lookup y = some c := by
  unfold ownCells at e
  obtain ⟨y, _, hy⟩ := List.mem_filterMap.mp e
  cases hl : X.env.cells.lookup y with
  | none => rw [hl] at hy; cases hy
  | some c' =>
    rw [hl] at hy
    dsimp only at hy
    cases ho : h.get? c' with
    | none => rw [ho] at hy; cases hy
    | some o' =>
      rw [ho] at hy
      cases hy
      exact ⟨ho, y, hl⟩
theorem own_look {c : Addr} {o : Obj} {h : Heap} (e : (ownCells X h).lookup c = some o) : h.get? c = some o ∧ ∃ y, X.env.cells.lookup y = some c := own_mem (mem_look e)
theorem own_in {c : Addr} {o : Obj} {h : Heap} {y : Str} (hy : X.env.cells.lookup y = some c) (ho : h.get? c = some o) : (ownCells X h).lookup c = some o := by
  have hm : (c, o) ∈ ownCells X h := by
    unfold ownCells
    refine List.mem_filterMap.mpr ⟨y, List.mem_map.mpr ⟨_, PySem.mem_of_lookup hy, rfl⟩, ?_⟩
    rw [hy]
    dsimp only
    rw [ho]
    rfl
  obtain ⟨o', h'⟩ := look_has hm
  have := (own_look h').1
  rw [ho] at this
  cases this
  exact h'
structure Lends (X : Cx) (σ : L2.St) (H : Hp) (cs : Lent) : Prop where
  new : Fresh cs H
  cel : Cells cs
  got : ∀ (scope : PySem.Scope) (fr : List Str) (js : List Nat), NdefX.ndefB X.env.scope scope fr = true → js.map (fun j => X.N[j]?) = fr.map some → Caught (cloFrom X.env.cells scope.names []) fr (js.map (NdefX.slotAt σ)) cs
theorem lends_own (I : Inv X pins σ H s) : Lends X σ H (ownCells X s.heap) := by
  have cel : Cells (ownCells X s.heap) := fun c o e => by
    obtain ⟨h1, y, h2⟩ := own_look e
    obtain ⟨v, o', h3, h4⟩ := I.cell y c h2
    rw [h1] at h3
    cases h3
    exact ⟨v, h4⟩
  refine ⟨fun c o e => ?_, cel, fun scope fr js hfr hjs => ?_⟩
  · obtain ⟨_, y, h2⟩ := own_look e
    exact I.freeC y c h2
  · have C := NdefX.Caps.made I.ok (NdefX.ndef_free hfr) (NdefX.ndef_fr hfr) hjs
    have A := NdefX.cells_of I C
    refine ⟨A.len, fun y c e => ?_, A.inj, fun i y e => ?_⟩
    · obtain ⟨_, v, o, h1, h2⟩ := A.all y c e
      exact ⟨o, v, own_in (C.sub y c e) h1, h2⟩
    · obtain ⟨c, h1, h2⟩ := A.has i y e
      refine ⟨c, h1, fun v hv => ?_⟩
      obtain ⟨u, r, o, h3, h4⟩ := h2 v hv
      exact ⟨u, o, r, own_in (C.sub y c h1) h3, h4⟩
theorem env0_lend (I : Inv X pins σ H s) (hfn : ∀ x, X.fn x = true) : Env0 X.prog X.w X.K X.mg X.base X.A X.stack s (lend H (ownCells X s.heap)) := by
  have L := lends_own I
  have big : ∀ c o, (ownCells X s.heap).lookup c = some o → X.s_0.heap.objs.size ≤ c := fun c o e => by
    obtain ⟨_, y, h2⟩ := own_look e
    exact I.ok.cab y c (hfn y) h2
  refine ⟨I.ok.frames, I.ok.mod, fun b o e => ⟨(I.bs b o e).1, ?_⟩, Nat.le_trans I.ok.bsz I.sz, I.stack, fun b hb => ?_, hok_lend I.hok L.new (fun c o e => (own_look e).1), I.bare⟩
  · cases hl : (ownCells X s.heap).lookup b with
    | none => rw [lend_out hl]; exact (I.bs b o e).2
    | some ob =>
      exact absurd (Nat.lt_of_lt_of_le (Heap.lt_size e) I.ok.bsz) (Nat.not_lt.mpr (big _ _ hl))
  · cases hl : (ownCells X s.heap).lookup b with
    | none => rw [lend_out hl]; exact I.stkFree b hb
    | some ob =>
      exfalso
      rcases List.mem_cons.mp (I.stkSub b hb) with e | hb
      · obtain ⟨v, hv⟩ := L.cel _ _ hl
        obtain ⟨m, hn, _⟩ := I.loc
        obtain ⟨o2, es, ep, h1, h3, _⟩ := hn
        rw [← e, (own_look hl).1] at h1
        cases h1
        rw [hv] at h3
        cases h3
      · obtain ⟨_, o, ho, _⟩ := I.ok.funs.mem hb
        exact absurd (Heap.lt_size ho) (Nat.not_lt.mpr (big _ _ hl))
theorem pe_callLd {k : Nat} {f : Addr} {fd : FuncData} {ps : List Str} {sp : Sp} {x : Str} {p pos : Pos} {e : PySem.Expr} {es : List PySem.Expr} {t : TA} (F : FnOk X.prog X.w X.K X.mg X.base CX0 k f fd ps sp) (hr : Room k X.A) (hg : Gl X x) (hm : X.mg x = some (.ref f)) (hk : PySem.W.keepIn X.K (.ref f) = true) (hb : Binds X.K fd ps []) (hfn : ∀ x, X.fn x = true)
    (ha : PA X (e :: es) t) (hdb : (x == ("__debug__" : Str)) = false := by decide) (he : starEach (e :: es) X.env = (false, eval e X.env) :: starEach es X.env := by rfl) (hpl : (backTo pos (starEach es X.env)).any (·.1) = false := by rfl) :
    PE X (.Call (.Name x p) (e :: es) [] pos) (fun σ H Q => t σ H fun vs H1 => ∀ cs, Lends X σ H1 cs → sp vs (lend H1 cs) (fun v H2 => LentAt cs H2 ∧ Q v (unl H2 cs)) E0) := by
  refine ⟨fun pins s σ H Q I h => ?_⟩
  refine wpAny_Call_Name_kw (ld_glob I hg hm ?_ hdb)
  refine PySem.W.callWith_K (h₀ := X.base) I.ok.mod.kin hk (thn (ha.run pos pins s σ H _ I h) fun us s1 ⟨vs, H1, I1, r, q⟩ => ⟨I1.kIn, ?_⟩) he hpl
  have L := lends_own I1
  have q := q _ L
  have hl : us.length = ps.length := by rw [← r.length]; exact F.len _ _ _ _ q
  have hb' := hb s1 us I1.kIn (by rw [List.append_nil]; exact hl)
  rw [List.append_nil] at hb'
  refine wpAny_call (codeAny_mono (F.run X.A X.stack s1 _ ⟨us, []⟩ us vs _ E0 hr (env0_lend I1 hfn) hb' r q) fun r s' hq => ?_)
  cases r with
  | error e => exact (show False from hq).elim
  | ok fl =>
    cases fl with
    | ret u =>
      obtain ⟨v, H2, h1, h2, h3, h4, h5, h6, h7⟩ := hq
      exact I1.after ⟨v, unl H2 _, h1, h2, un_back h3 L.new h6 h4 (fun c o e => (own_look e).1), hok_unl h4 h6, h5, h7⟩
    | next => exact False.elim hq
    | brk => exact False.elim hq
    | cont => exact False.elim hq
end
theorem pe_lamXc {X : Cx} {c P : Addr} {params : Arguments} {body : PySem.Expr} {scope : PySem.Scope} {pos : Pos} {fr : List Str} (tb : LamX.TabB X.base X.mg c P) (hc : X.env.code = .ref c) (hd : defaultsOf params X.env = ([], []))
    (hfr : NdefX.ndefB X.env.scope scope fr = true) : PE X (.Lambda params body scope pos) (fun σ H Q => LamX.TabS H P (X.env.qual ++ "<lambda>") ∧ ∀ (f c : Addr) (H1 : Hp), Fr P H H1 → (∀ b, H1 b = none → H b = none) → LamX.TabS H1 P (X.env.qual ++ "<lambda>") → H f = none →
      H1 f = some (LamO f ⟨X.env.qual ++ "<lambda>", params, body, scope, cloFrom X.env.cells scope.names [], c⟩) → H1 c = some (LamX.CodeO c (X.env.qual ++ "<lambda>")) → Q (.ref f) H1) :=
  ⟨fun pins s σ H Q I h => (pe_lamX tb hc hd fun y hy e => ((NdefX.ndef_free hfr) y hy e).elim (fun z => I.ok.has _ (.inl z)) fun z => I.ok.has _ (.inr z)).run pins s σ H Q I h⟩


theorem cut_fromU (xs : List V) (k : Nat) (h : k ≤ xs.length) : cutV xs (some (k : Int)) none = xs.drop k := by
  have e : HT.sIx xs.length 0 (some (k : Int)) = k := by
    show (if (k : Int) < 0 then ((k : Int) + (xs.length : Int)).toNat else min ((k : Int).toNat) xs.length) = k
    rw [if_neg (by omega)]
    omega
  have e2 : HT.sIx xs.length xs.length none = xs.length := rfl
  unfold cutV
  rw [e, e2]
  exact List.take_of_length_le (by rw [List.length_drop]; omega)
theorem TabS.fr1 {H H' : Hp} {P p : Addr} {q : Str} {xs : List V} (h : LamX.TabS H P q) (hp : H p = some (.lst xs)) (f : Fr p H H') : LamX.TabS H' P q := by
  obtain ⟨ps, h1, h2, h3⟩ := h
  refine ⟨ps, f _ _ (fun e => by rw [e, hp] at h1; cases h1) h1, h2, fun pos cv hc => ?_⟩
  obtain ⟨c, e, h4⟩ := h3 pos cv hc
  exact ⟨c, e, f _ _ (fun e => by rw [e, hp] at h4; cases h4) h4⟩
mutual
theorem TrAt.kind1 {ok : Addr → Prop} {H : Hp} : ∀ (t : Tr) (v : V), TrAt ok H v t → TrAt (fun b => ok b ∧ ∀ ps, H b ≠ some (.tbl ps)) H v t
  | .node c ks, v, x => by
    cases x with
    | node h1 h2 k1 k2 c1 c2 r => exact .node h1 h2 ⟨k1, fun ps e => by rw [h1] at e; cases e⟩ ⟨k2, fun ps e => by rw [h2] at e; cases e⟩ c1 c2 (TrsAt.kind1 ks _ r)
theorem TrsAt.kind1 {ok : Addr → Prop} {H : Hp} : ∀ (ts : List Tr) (vs : List V), TrsAt ok H vs ts → TrsAt (fun b => ok b ∧ ∀ ps, H b ≠ some (.tbl ps)) H vs ts
  | [], vs, x => by cases x; exact .nil
  | t :: r, vs, x => by
    cases x with
    | cons a b => exact .cons (TrAt.kind1 t _ a) (TrsAt.kind1 r _ b)
end
section
variable {P : Program} {w : World} {K : PySem.W.Frag} {mg : Str → Option Value} {base : Heap}
theorem ok_built_upward (T : Txt K mg) (k : Nat) (hk : 5 ≤ k) (Pt : Addr) (qn : Str) : FnOk P w K mg base CX0 (k + 1) T.f_built_upward T.d_built_upward ["tree", "made"] (sp_built_upward P w K mg base k Pt qn) := by
  have G_parts_upward : FnOk P w K mg base CX0 5 T.f_parts_upward T.d_parts_upward ["tree"] sp_parts_upward := ok_parts_upward T
  refine T.F_built_upward.ok sc_built_upward (fun vs H Q E h => ?_) (fun cdv A outer s H vs Q E hr h => ?_)
  · obtain ⟨v, t, f, It, rfl, _⟩ := h
    rfl
  obtain ⟨v, t, f, It, rfl, ht, hz, hIt, hT, C, q⟩ := h
  have C_made := C
  refine ⟨_, (pss_cons (ps_set (i := 2) sc_built_upward.nd rfl (Or.inl rfl) (pe_lst pa_nil)) (pss_cons (ps_for PassesOwn.never rfl (pi_list (pe_call G_parts_upward (hr.mono (by omega)) (by rfl) T.m_parts_upward T.F_parts_upward.kp T.b_parts_upward .nil pass0 (pa_cons (pv 0) pa_nil))) (pg_tup rfl (pgs_cons (pg_name (i := 3) sc_built_upward.nd rfl (Or.inl rfl)) (pgs_cons (pg_name (i := 4) sc_built_upward.nd rfl (Or.inl rfl)) pgs_nil))) (pss_cons (ps_set (i := 5) sc_built_upward.nd rfl (Or.inl rfl) (pe_op op_sub (pe_callB call_len_seq (by rfl) T.z_len PySem.boot_len (pa_cons (pv 2) pa_nil)) (pe_callB call_len_seq (by rfl) T.z_len PySem.boot_len (pa_cons (pv 4) pa_nil)))) (pss_cons (ps_set (i := 6) sc_built_upward.nd rfl (Or.inl rfl) (pe_slice sl_list (pv 2) (po_some (pv 5)) po_none)) (pss_cons (ps_delFrom (pv 2) (pv 5)) (pss_one (ps_expr (pe_bm PySem.F.plainAttrs_list PySem.F.slot_list_append PySem.F.type_list_append mt_append (pv 2) (pa_cons (pe_calX (i := 1) C_made (hr.mono (by omega)) rfl (.inl (by rfl)) (pa_cons (pv 3) (pa_cons (pv 6) pa_nil))) pa_nil)))))))) (pss_one (ps_ret (pe_ix ix_list (pv 2) pe_int (fun _ _ => rfl)))))), ?_⟩
  obtain ⟨ps0, hP0, _, _⟩ := id hT
  refine ⟨(by show 0 ≤ sizeLine; decide), fun wl hwl => ?_⟩
  have nPw : Pt ≠ wl := ne_of_none hP0 hwl
  have ht1 := (ht.off hwl).same (same_new (o := .lst []) hwl)
  refine ⟨_, rfl, v, t, _, rfl, ht1, hz, fun r wsv H1 s1 hr0 hr1 hparts => ?_⟩
  have hw1 : H1 wl = some (.lst []) := s1 _ _ upd_same
  have nrw : r ≠ wl := fun e => by rw [e, upd_same] at hr0; cases hr0
  have sH1 : Same H H1 := (same_new hwl).trans s1
  have hr00 : H r = none := by rw [upd_ne nrw] at hr0; exact hr0
  have nPr : Pt ≠ r := ne_of_none hP0 hr00
  have hp2 : TrsAt (fun b => b ≠ wl ∧ b ≠ r ∧ b ≠ Pt) H1 wsv t.post := by
    exact (TrsAt.kind1 _ _ hparts).weak fun b ⟨⟨k, h⟩, n⟩ => ⟨k.2, fun e => h (by rw [e]; exact hr0), fun e => n ps0 (by rw [e]; exact sH1 _ _ hP0)⟩
  refine ⟨r, rfl, ⟨_, SqL.of hr1⟩, for_list (xs := wsv) (fun i σ H2 => ∃ (y3 y4 y5 y6 : Option V) (bs : List (V × Tr × List Addr)), σ = [some v, some (.ref f), some (.ref wl), y3, y4, y5, y6] ∧ H2 wl = some (.lst (bs.map (·.1))) ∧
      (∀ b ∈ bs, It (fun b => H b = none ∧ b ≠ wl) H2 b.1 b.2.1 b.2.2) ∧ (lstsI bs).Nodup ∧ Runs (bs.map (·.2.1)) (t.post.drop i) [t] ∧ sizes (bs.map (·.2.1)) ≤ i ∧ Fr Pt H H2 ∧ LamX.TabS H2 Pt qn ∧ H2 r = some (.lst wsv) ∧ TrsAt (fun b => b ≠ wl ∧ b ≠ r ∧ b ≠ Pt) H2 wsv t.post)
    ⟨none, none, none, none, [], rfl, hw1, (fun _ h => by cases h), List.nodup_nil, (by rw [List.drop_zero]; exact runs_all t), (Nat.le_refl _), Fr.same sH1, hT.ext sH1, hr1, hp2⟩ (fun i σ H2 _ ⟨_, _, _, _, _, _, _, _, _, _, _, _, _, h, _⟩ => SqL.of h) ?_ ?_⟩
  · rintro i x σ H2 hx ⟨y3, y4, y5, y6, bs, rfl, hw2, hb, hnd, hst, hsz, hf, hT2, hr2, hpp⟩
    obtain ⟨t1, ht1', hx2⟩ := hpp.getV hx
    have hdrop : t.post.drop i = t1 :: t.post.drop (i + 1) := by
      obtain ⟨hlt, e⟩ := List.getElem?_eq_some_iff.mp ht1'
      rw [← e]
      exact List.drop_eq_getElem_cons hlt
    have hi : i < t.size := by
      have := (List.getElem?_eq_some_iff.mp ht1').1
      rw [post_len] at this
      exact this
    rw [hdrop] at hst
    generalize hus : bs.map (·.2.1) = us0 at hst
    cases hst with
    | cons hst =>
    rename_i us ks c
    obtain ⟨b1, b2, rfl, e1, e2⟩ := List.map_eq_append_iff.mp hus
    subst e1
    subst e2
    rw [List.map_append, sizes_append] at hsz
    have lz := len_sizes (b2.map (·.2.1))
    have lz1 := len_sizes (b1.map (·.2.1))
    rw [List.length_map] at lz lz1
    cases hx2 with
    | node g1 g2 o1 o2 c1 c2 rr =>
      rename_i ax lx vx
      have lr := rr.len
      rw [List.length_map] at lr
      refine ⟨_, _, rfl, SqT.of g1, rfl, ?_⟩
      refine ⟨_, _, rfl, _, _, rfl, rfl, _, rfl, wl, _, rfl, .inl (SqL.of hw2), _, rfl, lx, _, rfl, .inl (SqL.of g2), _, _, rfl, rfl, ?_⟩
      rw [List.length_map, lr, List.length_append]
      have ek : (((b1.length + b2.length : Nat) : Int) - (b2.length : Int)) = (b1.length : Int) := by omega
      show gName 5 (.int (((b1.length + b2.length : Nat) : Int) - (b2.length : Int))) _ _ _
      rw [ek]
      refine ⟨_, rfl, _, rfl, _, rfl, wl, _, rfl, SqL.of hw2, fun p hp => ?_⟩
      rw [cut_fromU _ _ (by rw [List.length_map, List.length_append]; omega)]
      have hcut : ((b1 ++ b2).map (·.1)).drop b1.length = b2.map (·.1) := by
        rw [List.map_append, List.drop_left' (List.length_map _)]
      have htk : ((b1 ++ b2).map (·.1)).take b1.length = b1.map (·.1) := by
        rw [List.map_append, List.take_left' (List.length_map _)]
      rw [hcut]
      have nPp : Pt ≠ p := by
        intro e
        obtain ⟨_, e2, _⟩ := hT2
        rw [← e, e2] at hp
        cases hp
      have npw : p ≠ wl := fun e => by rw [e, hw2] at hp; cases hp
      have hp0 : H p = none := by
        cases e : H p with
        | none => rfl
        | some o => rw [hf p o nPp.symm e] at hp; cases hp
      have okP : ∀ b, (H b = none ∧ b ≠ wl) → b ≠ Pt := fun b h e => by rw [e, hP0] at h; cases h.1
      refine ⟨_, rfl, _, rfl, wl, _, b1.length, rfl, rfl, (by rw [upd_ne npw.symm]; exact hw2), (by rw [List.length_map, List.length_append]; omega), ?_⟩
      rw [htk]
      generalize hH5 : upd (upd H2 p (.lst (b2.map (·.1)))) wl (.lst (b1.map (·.1))) = H5
      have hw5 : H5 wl = some (.lst (b1.map (·.1))) := by rw [← hH5]; exact upd_same
      have hp5 : H5 p = some (.lst (b2.map (·.1))) := by rw [← hH5, upd_ne npw]; exact upd_same
      have k25 : ∀ b o, b ≠ wl → H2 b = some o → H5 b = some o := fun b o n e => by rw [← hH5, upd_ne n, upd_ne (ne_of_none e hp)]; exact e
      have T5 : LamX.TabS H5 Pt qn := TabS.fr1 hT2 hw2 fun b o n e => k25 b o n e
      have F5 : Fr Pt H H5 := fun b o n e => k25 _ _ (ne_of_none e hwl) (hf b o n e)
      refine ⟨_, rfl, .inl ⟨rfl, _, SqL.of hw5⟩, rfl, F5, _, rfl, _, rfl, F5, c, p, b2, (fun b => H b = none ∧ b ≠ wl), rfl, c1, c2, hp5, ⟨hp0, npw⟩, ?_, ?_, by omega, okP, T5, fun v' as H6 f6 T6 it6 nd6 ha6 => ?_⟩
      · exact fun b hb5 => hIt.imp (fun _ h => h) (fun b o h e => k25 b o h.2 e) (hb b (List.mem_append_right _ hb5))
      · have e0 : lstsI (b1 ++ b2) = lstsI b1 ++ lstsI b2 := by simp [lstsI]
        rw [e0] at hnd
        rw [List.nodup_cons]
        refine ⟨fun hm => ?_, (List.nodup_append.mp hnd).2.1⟩
        obtain ⟨as, ha, hl2⟩ := List.mem_flatten.mp hm
        obtain ⟨b, hb8, rfl⟩ := List.mem_map.mp ha
        obtain ⟨_, xs, e5⟩ := hIt.lst (hb b (List.mem_append_right _ hb8)) p hl2
        rw [hp] at e5
        cases e5
      have hw6 := f6 _ _ nPw.symm hw5
      refine ⟨wl, _, v', rfl, rfl, hw6, Nat.lt_of_le_of_lt (show (b1.map (·.1)).length ≤ 1000000 by rw [List.length_map]; omega) (by decide), ?_⟩
      have k27 : ∀ b o, b ≠ Pt → b ≠ wl → H2 b = some o → (upd H6 wl (.lst (b1.map (·.1) ++ [v']))) b = some o := fun b o n1 n2 e => by
        rw [upd_ne n2]
        exact f6 _ _ n1 (k25 _ _ n2 e)
      obtain ⟨ps5, hP5, _, _⟩ := id T5
      have free5 : ∀ b, H5 b = none → H b = none ∧ b ≠ wl := fun b h => by
        refine ⟨?_, fun e => by rw [e, hw5] at h; cases h⟩
        cases e : H b with
        | none => rfl
        | some o =>
          have n1 : b ≠ Pt := fun e2 => by rw [e2, hP5] at h; cases h
          rw [F5 _ _ n1 e] at h
          cases h
      refine ⟨_, _, _, _, b1 ++ [(v', .node c (b2.map (·.2.1)), as)], rfl, ?_, ?_, ?_, ?_, ?_, ?_, ?_, k27 _ _ nPr.symm nrw hr2, ?_⟩
      · rw [upd_same, List.map_append]
        rfl
      · intro b hb7
        rcases List.mem_append.mp hb7 with h | h
        · exact hIt.imp (fun _ h => h) (fun b o h e => k27 b o (okP b h) h.2 e) (hb b (List.mem_append_left _ h))
        · simp only [List.mem_singleton] at h
          subst h
          refine hIt.imp (fun b h => h.elim id (free5 b)) (fun b o h e => ?_) it6
          rw [upd_ne (h.elim (fun h => h.2) fun h => (free5 b h).2)]
          exact e
      · have e0 : lstsI (b1 ++ b2) = lstsI b1 ++ lstsI b2 := by simp [lstsI]
        have e1 : lstsI (b1 ++ [(v', Tr.node c (b2.map (·.2.1)), as)]) = lstsI b1 ++ as := by simp [lstsI]
        rw [e0] at hnd
        rw [e1]
        refine nodup_snoc (List.nodup_append.mp hnd).1 nd6 fun a h1 h2 => ?_
        obtain ⟨as1, hm1, hl1⟩ := List.mem_flatten.mp h1
        obtain ⟨b, hb8, rfl⟩ := List.mem_map.mp hm1
        obtain ⟨o1, xs, e5⟩ := hIt.lst (hb b (List.mem_append_left _ hb8)) a hl1
        rcases ha6 a h2 with h | h
        · rcases List.mem_cons.mp h with h | h
          · rw [h, hp] at e5; cases e5
          · exact (List.nodup_append.mp hnd).2.2 a h1 a h rfl
        · rw [k25 _ _ o1.2 e5] at h
          cases h
      · rw [List.map_append]
        exact hst
      · rw [List.map_append, sizes_append]
        simp only [List.map_cons, List.map_nil, sizes, Tr.size]
        omega
      · intro b o n e
        exact k27 b o n (ne_of_none e hwl) (hf b o n e)
      · exact TabS.fr1 T6 hw6 fun b o n e => by rw [upd_ne n]; exact e
      · exact hpp.keep fun b o h e => k27 b o h.2.2 h.1 e
  · rintro σ H2 ⟨y3, y4, y5, y6, bs, rfl, hw2, hb, hnd, hst, hsz, hf, hT2, hr2, hpp⟩
    rw [hpp.len, List.drop_length] at hst
    generalize hus : bs.map (·.2.1) = us0 at hst
    cases hst
    obtain ⟨b, rfl⟩ : ∃ b, bs = [b] := by
      have := congrArg List.length hus
      rw [List.length_map] at this
      exact List.length_eq_one_iff.mp this
    simp only [List.map_cons, List.map_nil, List.cons.injEq, and_true] at hus
    refine ⟨_, rfl, wl, _, 0, b.1, rfl, rfl, SqL.of hw2, atI_nat (j := 0) rfl, ?_⟩
    have hb1 := hb b (by simp)
    refine q b.1 b.2.2 H2 hf hT2 ?_ (by simpa [lstsI] using hnd)
    rw [← hus]
    exact hIt.imp (fun b h => h.1) (fun _ _ _ h => h) hb1
end

def FrX (E : Addr → Prop) (H H' : Hp) : Prop := ∀ b o, ¬ E b → H b = some o → H' b = some o
theorem FrX.refl {E : Addr → Prop} {H : Hp} : FrX E H H := fun _ _ _ h => h
theorem FrX.trans {E : Addr → Prop} {H H1 H2 : Hp} (a : FrX E H H1) (b : FrX E H1 H2) : FrX E H H2 := fun c o n h => b c o n (a c o n h)
theorem FrX.same {E : Addr → Prop} {H H' : Hp} (s : Same H H') : FrX E H H' := fun b o _ h => s b o h
def sp_madeJ (R : Tr → V) (E : Addr → Prop) (H0 : Hp) (J : List Tr → Hp → Prop) (t0 : Tr) : Sp := fun vs H Q _ => ∃ (c : Nat) (bl : Addr) (ks done rest : List Tr), vs = [.str (ch c), .ref bl] ∧ t0.post = done ++ .node c ks :: rest ∧ 97 ≤ c ∧ c ≤ 122 ∧ ks.length ≤ 1000000 ∧
  H bl = some (.lst (ks.map R)) ∧ H0 bl = none ∧ FrX E H0 H ∧ J done H ∧ ∀ H', FrX E H H' → J (done ++ [.node c ks]) H' → Q (R (.node c ks)) H'
def sp_built_upwardJ (P : Program) (w : World) (K : PySem.W.Frag) (mg : Str → Option Value) (base : Heap) (k : Nat) : Sp := fun vs H Q _ => ∃ (v : V) (t : Tr) (f : Addr) (R : Tr → V) (E : Addr → Prop) (J : List Tr → Hp → Prop), vs = [v, .ref f] ∧ TrAt (fun b => ¬ E b) H v t ∧ t.size ≤ 1000000 ∧
  (∀ b, E b → H b ≠ none) ∧ (∀ l H' b, J l H' → E b → H' b ≠ none) ∧ (∀ l H1 H2, (∀ b o, H b ≠ none → H1 b = some o → H2 b = some o) → J l H1 → J l H2) ∧ J [] H ∧
  CalX P w K mg base k f (fun H' => FrX E H H') 2 (sp_madeJ R E H J t) ∧ ∀ H', FrX E H H' → J t.post H' → Q (R t) H'
section
variable {P : Program} {w : World} {K : PySem.W.Frag} {mg : Str → Option Value} {base : Heap}
theorem ok_built_upwardJ (T : Txt K mg) (k : Nat) (hk : 5 ≤ k) : FnOk P w K mg base CX0 (k + 1) T.f_built_upward T.d_built_upward ["tree", "made"] (sp_built_upwardJ P w K mg base k) := by
  have G_parts_upward : FnOk P w K mg base CX0 5 T.f_parts_upward T.d_parts_upward ["tree"] sp_parts_upward := ok_parts_upward T
  refine T.F_built_upward.ok sc_built_upward (fun vs H Q E h => ?_) (fun cdv A outer s H vs Q E hr h => ?_)
  · obtain ⟨v, t, f, R, EE, J, rfl, _⟩ := h
    rfl
  obtain ⟨v, t, f, R, EE, J, rfl, ht, hz, hE, hJE, hJ, J0, C, q⟩ := h
  have C_made := C
  refine ⟨_, (pss_cons (ps_set (i := 2) sc_built_upward.nd rfl (Or.inl rfl) (pe_lst pa_nil)) (pss_cons (ps_for PassesOwn.never rfl (pi_list (pe_call G_parts_upward (hr.mono (by omega)) (by rfl) T.m_parts_upward T.F_parts_upward.kp T.b_parts_upward .nil pass0 (pa_cons (pv 0) pa_nil))) (pg_tup rfl (pgs_cons (pg_name (i := 3) sc_built_upward.nd rfl (Or.inl rfl)) (pgs_cons (pg_name (i := 4) sc_built_upward.nd rfl (Or.inl rfl)) pgs_nil))) (pss_cons (ps_set (i := 5) sc_built_upward.nd rfl (Or.inl rfl) (pe_op op_sub (pe_callB call_len_seq (by rfl) T.z_len PySem.boot_len (pa_cons (pv 2) pa_nil)) (pe_callB call_len_seq (by rfl) T.z_len PySem.boot_len (pa_cons (pv 4) pa_nil)))) (pss_cons (ps_set (i := 6) sc_built_upward.nd rfl (Or.inl rfl) (pe_slice sl_list (pv 2) (po_some (pv 5)) po_none)) (pss_cons (ps_delFrom (pv 2) (pv 5)) (pss_one (ps_expr (pe_bm PySem.F.plainAttrs_list PySem.F.slot_list_append PySem.F.type_list_append mt_append (pv 2) (pa_cons (pe_calX (i := 1) C_made (hr.mono (by omega)) rfl (.inl (by rfl)) (pa_cons (pv 3) (pa_cons (pv 6) pa_nil))) pa_nil)))))))) (pss_one (ps_ret (pe_ix ix_list (pv 2) pe_int (fun _ _ => rfl)))))), ?_⟩
  refine ⟨(by show 0 ≤ sizeLine; decide), fun wl hwl => ?_⟩
  have nEw : ∀ b, H b = none → ¬ EE b := fun b h e => hE b e h
  have ht1 := (ht.off hwl).same (same_new (o := .lst []) hwl)
  refine ⟨_, rfl, v, t, _, rfl, ht1, hz, fun r wsv H1 s1 hr0 hr1 hparts => ?_⟩
  have hw1 : H1 wl = some (.lst []) := s1 _ _ upd_same
  have nrw : r ≠ wl := fun e => by rw [e, upd_same] at hr0; cases hr0
  have sH1 : Same H H1 := (same_new hwl).trans s1
  have hr00 : H r = none := by rw [upd_ne nrw] at hr0; exact hr0
  have hp2 : TrsAt (fun b => b ≠ wl ∧ b ≠ r ∧ ¬ EE b) H1 wsv t.post := by
    exact hparts.weak fun b ⟨k, h⟩ => ⟨k.2, fun e => h (by rw [e]; exact hr0), k.1⟩
  refine ⟨r, rfl, ⟨_, SqL.of hr1⟩, for_list (xs := wsv) (fun i σ H2 => ∃ (y3 y4 y5 y6 : Option V) (us : List Tr), σ = [some v, some (.ref f), some (.ref wl), y3, y4, y5, y6] ∧ H2 wl = some (.lst (us.map R)) ∧
      Runs us (t.post.drop i) [t] ∧ sizes us ≤ i ∧ FrX EE H H2 ∧ J (t.post.take i) H2 ∧ H2 r = some (.lst wsv) ∧ TrsAt (fun b => b ≠ wl ∧ b ≠ r ∧ ¬ EE b) H2 wsv t.post)
    ⟨none, none, none, none, [], rfl, hw1, (by rw [List.drop_zero]; exact runs_all t), (Nat.le_refl _), FrX.same sH1, (by rw [List.take_zero]; exact hJ _ _ _ (fun b o _ e => sH1 b o e) J0), hr1, hp2⟩ (fun i σ H2 _ ⟨_, _, _, _, _, _, _, _, _, _, _, h, _⟩ => SqL.of h) ?_ ?_⟩
  · rintro i x σ H2 hx ⟨y3, y4, y5, y6, us0, rfl, hw2, hst, hsz, hf, hJ2, hr2, hpp⟩
    obtain ⟨t1, ht1', hx2⟩ := hpp.getV hx
    have hdrop : t.post.drop i = t1 :: t.post.drop (i + 1) := by
      obtain ⟨hlt, e⟩ := List.getElem?_eq_some_iff.mp ht1'
      rw [← e]
      exact List.drop_eq_getElem_cons hlt
    have hi : i < t.size := by
      have := (List.getElem?_eq_some_iff.mp ht1').1
      rw [post_len] at this
      exact this
    have hsplit : t.post = t.post.take i ++ t1 :: t.post.drop (i + 1) := by rw [← hdrop, List.take_append_drop]
    have htake : t.post.take (i + 1) = t.post.take i ++ [t1] := take_succ_of ht1'
    rw [hdrop] at hst
    cases hst with
    | cons hst =>
    rename_i us ks c
    rw [sizes_append] at hsz
    have lz := len_sizes ks
    have lz1 := len_sizes us
    cases hx2 with
    | node g1 g2 o1 o2 c1 c2 rr =>
      rename_i ax lx vx
      have lr := rr.len
      refine ⟨_, _, rfl, SqT.of g1, rfl, ?_⟩
      refine ⟨_, _, rfl, _, _, rfl, rfl, _, rfl, wl, _, rfl, .inl (SqL.of hw2), _, rfl, lx, _, rfl, .inl (SqL.of g2), _, _, rfl, rfl, ?_⟩
      rw [List.length_map, lr, List.length_append]
      have ek : (((us.length + ks.length : Nat) : Int) - (ks.length : Int)) = (us.length : Int) := by omega
      show gName 5 (.int (((us.length + ks.length : Nat) : Int) - (ks.length : Int))) _ _ _
      rw [ek]
      refine ⟨_, rfl, _, rfl, _, rfl, wl, _, rfl, SqL.of hw2, fun p hp => ?_⟩
      rw [cut_fromU _ _ (by rw [List.length_map, List.length_append]; omega)]
      have hcut : ((us ++ ks).map R).drop us.length = ks.map R := by
        rw [List.map_append, List.drop_left' (List.length_map _)]
      have htk : ((us ++ ks).map R).take us.length = us.map R := by
        rw [List.map_append, List.take_left' (List.length_map _)]
      rw [hcut]
      have npw : p ≠ wl := fun e => by rw [e, hw2] at hp; cases hp
      have hp0 : H p = none := by
        cases e : H p with
        | none => rfl
        | some o =>
          by_cases hEp : EE p
          · exact absurd hp (hJE _ _ _ hJ2 hEp)
          · rw [hf p o hEp e] at hp; cases hp
      refine ⟨_, rfl, _, rfl, wl, _, us.length, rfl, rfl, (by rw [upd_ne npw.symm]; exact hw2), (by rw [List.length_map, List.length_append]; omega), ?_⟩
      rw [htk]
      generalize hH5 : upd (upd H2 p (.lst (ks.map R))) wl (.lst (us.map R)) = H5
      have hw5 : H5 wl = some (.lst (us.map R)) := by rw [← hH5]; exact upd_same
      have hp5 : H5 p = some (.lst (ks.map R)) := by rw [← hH5, upd_ne npw]; exact upd_same
      have k25 : ∀ b o, b ≠ wl → H2 b = some o → H5 b = some o := fun b o n e => by rw [← hH5, upd_ne n, upd_ne (ne_of_none e hp)]; exact e
      have F5 : FrX EE H H5 := fun b o n e => k25 _ _ (ne_of_none e hwl) (hf b o n e)
      have J5 : J (t.post.take i) H5 := hJ _ _ _ (fun b o hb e => k25 b o (fun e2 => hb (by rw [e2]; exact hwl)) e) hJ2
      refine ⟨_, rfl, .inl ⟨rfl, _, SqL.of hw5⟩, rfl, F5, _, rfl, _, rfl, F5, c, p, ks, t.post.take i, _, rfl, hsplit, c1, c2, by omega, hp5, hp0, F5, J5, fun H6 f6 J6 => ?_⟩
      have hw6 := f6 _ _ (nEw _ hwl) hw5
      refine ⟨wl, _, _, rfl, rfl, hw6, Nat.lt_of_le_of_lt (show (us.map R).length ≤ 1000000 by rw [List.length_map]; omega) (by decide), ?_⟩
      have k27 : ∀ b o, ¬ EE b → b ≠ wl → H2 b = some o → (upd H6 wl (.lst (us.map R ++ [R (.node c ks)]))) b = some o := fun b o n1 n2 e => by
        rw [upd_ne n2]
        exact f6 _ _ n1 (k25 _ _ n2 e)
      refine ⟨_, _, _, _, us ++ [.node c ks], rfl, ?_, hst, ?_, ?_, ?_, k27 _ _ (nEw _ hr00) nrw hr2, ?_⟩
      · rw [upd_same, List.map_append]
        rfl
      · rw [sizes_append]
        simp only [sizes, Tr.size]
        omega
      · intro b o n e
        exact k27 b o n (ne_of_none e hwl) (hf b o n e)
      · rw [htake]
        exact hJ _ _ _ (fun b o hb e => by rw [upd_ne (fun e2 => hb (by rw [e2]; exact hwl))]; exact e) J6
      · exact hpp.keep fun b o h e => k27 b o h.2.2 h.1 e
  · rintro σ H2 ⟨y3, y4, y5, y6, us, rfl, hw2, hst, hsz, hf, hJ2, hr2, hpp⟩
    rw [hpp.len, List.drop_length] at hst
    rw [hpp.len, List.take_length] at hJ2
    cases hst
    exact ⟨_, rfl, wl, _, 0, R t, rfl, rfl, SqL.of hw2, atI_nat (j := 0) rfl, q H2 hf hJ2⟩
end

abbrev nI (n : Nat) : V := .int (n : Int)
theorem nI_map (xs : List Nat) : xs.map nI = (xs.map fun n : Nat => (n : Int)).map V.int := by rw [List.map_map]; rfl
theorem tabsN_fr1 {TT : List NdefX.NTab} {H H' : Hp} {p : Addr} {xs : List V} (h : NdefX.TabsN TT H) (hp : H p = some (.lst xs)) (f : Fr p H H') : NdefX.TabsN TT H' := fun z hz => by
  obtain ⟨ps, h1, h2, h3⟩ := h z hz
  refine ⟨ps, f _ _ (fun e => by rw [e, hp] at h1; cases h1) h1, h2, fun pos cv hc => ?_⟩
  obtain ⟨c, e, h4⟩ := h3 pos cv hc
  exact ⟨c, e, f _ _ (fun e => by rw [e, hp] at h4; unfold LamX.CodeO at h4; cases h4) h4⟩
theorem CalX.imp2 {P : Program} {w : World} {K : PySem.W.Frag} {mg : Str → Option Value} {base : Heap} {k j : Nat} {f : Addr} {G G' : Hp → Prop} {np : Nat} {sp sp' : Sp} (C : CalX P w K mg base k f G np sp) (hk : k ≤ j) (hl : ∀ vs H Q E, sp' vs H Q E → vs.length = np) (hG : ∀ H, G' H → G H) (hs : ∀ vs H Q E, G' H → sp' vs H Q E → sp vs H Q E) : CalX P w K mg base j f G' np sp' :=
  ⟨hl, fun s H a b g => C.at_ s H a b (hG H g), fun A outer s H us vs Q E hr e0 g r q => C.run A outer s H us vs Q E (hr.mono hk) e0 (hG H g) r (hs _ _ _ _ g q)⟩


def cnts (n : Nat) (xs : List Nat) : List Nat := (List.range n).map fun s => xs.count s
mutual
def St (fs : Nat → List Nat → Nat) (n : Nat) : Tr → Nat
  | .node c ks => fs c (cnts n (Sts fs n ks))
def Sts (fs : Nat → List Nat → Nat) (n : Nat) : List Tr → List Nat
  | [] => []
  | t :: r => St fs n t :: Sts fs n r
end
theorem Sts_map (fs : Nat → List Nat → Nat) (n : Nat) : ∀ ks : List Tr, Sts fs n ks = ks.map (St fs n)
  | [] => rfl
  | t :: r => by simp only [Sts, List.map_cons, Sts_map fs n r]
theorem count_cast (s : Nat) : ∀ xs : List Nat, (xs.map fun n : Nat => (n : Int)).count (s : Int) = xs.count s
  | [] => rfl
  | x :: r => by
    rw [List.map_cons, List.count_cons, List.count_cons, count_cast s r]
    by_cases e : x = s
    · subst e; simp
    · have : ¬ ((x : Int) = (s : Int)) := by omega
      simp [e, this]
def sp__numbers (K : PySem.W.Frag) : Sp := fun vs H Q _ => ∃ (b : Addr) (xs : List Nat) (n : Nat), vs = [.ref b, nI n] ∧ SqL K H b (xs.map nI) ∧ n ≤ 1000 ∧ ∀ r H', Same H H' → H r = none → H' r = some (.lst ((cnts n xs).map nI)) → Q (.ref r) H'
def sp_state_at (L : Str) (n : Nat) (fs : Nat → List Nat → Nat) : Sp := fun vs H Q _ => ∃ (c : Nat) (b : Addr) (cs : List Nat), vs = [.str (ch c), .ref b] ∧ c ∈ L.cps.toList ∧ cs.length = n ∧ (∀ x ∈ cs, x ≤ 1000000) ∧ H b = some (.lst (cs.map nI)) ∧ ∀ H', Same H H' → Q (nI (fs c cs)) H'
def sp_check_letters (K : PySem.W.Frag) : Sp := fun vs H Q _ => ∃ (a : Addr) (L : Str) (ws : List V) (ts : List Tr) (ok : Addr → Prop), vs = [.ref a, .str L] ∧ SqL K H a ws ∧ TrsAt ok H ws ts ∧ (∀ t ∈ ts, ∀ c ks, t = .node c ks → c ∈ L.cps.toList) ∧ ∀ H', Same H H' → Q .non H'
def sp_next_state (L : Str) (n : Nat) (fs : Nat → List Nat → Nat) (f p : Addr) (G : Hp → Prop) : List (Option V) → Sp := fun ws vs H Q _ => ∃ (c : Nat) (bl : Addr) (xs ds : List Nat), vs = [.str (ch c), .ref bl] ∧ ws = [some (.ref p), some (.ref f), some (nI n)] ∧ c ∈ L.cps.toList ∧ n ≤ 1000 ∧ xs.length ≤ 1000000 ∧ ds.length ≤ 1000000 ∧
  H bl = some (.lst (xs.map nI)) ∧ H p = some (.lst (ds.map nI)) ∧ (∀ H', Same H H' → G H') ∧ ∀ H', Fr p H H' → H' p = some (.lst ((ds ++ [fs c (cnts n xs)]).map nI)) → Q (nI (fs c (cnts n xs))) H'
def sp_states_upward (P : Program) (w : World) (K : PySem.W.Frag) (mg : Str → Option Value) (base : Heap) (TT : List NdefX.NTab) : Sp := fun vs H Q _ => ∃ (v : V) (t : Tr) (L : Str) (n : Nat) (f : Addr) (fs : Nat → List Nat → Nat), vs = [v, .str L, nI n, .ref f] ∧ TrAt (fun _ => True) H v t ∧ t.size ≤ 1000000 ∧
  t.lets (fun c => c ∈ L.cps.toList) ∧ n ≤ 1000 ∧ NdefX.TabsN TT H ∧ CalX P w K mg base 10 f (fun H' => LamX.ExtN H H') 2 (sp_state_at L n fs) ∧
  ∀ r H', LamX.ExtN H H' → NdefX.TabsN TT H' → H r = none → H' r = some (.lst ((t.post.map (St fs n)).map nI)) → Q (.ref r) H'
mutual
theorem lets_post {q : Nat → Prop} : ∀ t : Tr, t.lets q → ∀ u ∈ t.post, ∀ c ks, u = .node c ks → q c
  | .node c ks, h, u, hu, c', ks', e => by
    simp only [Tr.lets] at h
    simp only [Tr.post, List.mem_append, List.mem_singleton] at hu
    rcases hu with hu | hu
    · exact letss_post ks h.2 u hu c' ks' e
    · rw [hu] at e
      cases e
      exact h.1
theorem letss_post {q : Nat → Prop} : ∀ ts : List Tr, letss q ts → ∀ u ∈ posts ts, ∀ c ks, u = .node c ks → q c
  | [], _, u, hu, _, _, _ => by simp [posts] at hu
  | t :: r, h, u, hu, c', ks', e => by
    simp only [letss] at h
    simp only [posts, List.mem_append] at hu
    rcases hu with hu | hu
    · exact lets_post t h.1 u hu c' ks' e
    · exact letss_post r h.2 u hu c' ks' e
end
theorem TrAt.extN1 {ok : Addr → Prop} {H H' : Hp} {v : V} {t : Tr} (x : TrAt ok H v t) (f : LamX.ExtN H H') : TrAt ok H' v t :=
  ((TrAt.kind1 t v x).keep fun b o h e => f b o e fun ps e2 => h.2 ps (by rw [e, e2])).weak fun b h => h.1
theorem Same.fr {H H' : Hp} {p : Addr} (s : Same H H') : Fr p H H' := Fr.same s
section
variable {P : Program} {w : World} {K : PySem.W.Frag} {mg : Str → Option Value} {base : Heap}
theorem ok__numbers (T : Txt K mg) : FnOk P w K mg base CX0 1 T.f__numbers T.d__numbers ["below", "states"] (sp__numbers K) := by
  refine T.F__numbers.ok sc__numbers (fun vs H Q E h => ?_) (fun cdv A outer s H vs Q E hr h => ?_)
  · obtain ⟨b, xs, n, rfl, _⟩ := h
    rfl
  obtain ⟨b, xs, n, rfl, hb, hn, q⟩ := h
  refine ⟨_, (pss_one (ps_ret (pe_lc (own := [("state", 2)]) (g := gName 2) (te := tBM K "list" (rCntI K) (tVar 0) (tCons (tVar 2) tNil)) (tt := tYes) rfl sc__numbers.nd (pi_range1 (by rfl) T.z_range (pa_cons (pv 1) pa_nil)) (blkOk_by (own := [("state", 2)]) (N := ["below", "states", "state"]) (sc := (defScope s__numbers)) (by decide +kernel)) (fun _ _ _ _ _ => (pg_name (i := 2) sc__numbers.nd rfl (Or.inl rfl))) (fun _ _ _ _ _ => pts_nil) (fun _ _ _ _ _ => (by exact (pe_bm PySem.F.plainAttrs_list PySem.F.slot_list_count PySem.F.type_list_count mt_lcount (pv 0) (pa_cons (pv 2) pa_nil))))))), ?_⟩
  refine ⟨_, rfl, (n : Int), rfl, by omega, by omega, fun D hD => lc_range (lo := 0) (n := n) (fun i H3 => H3 D = some (.lst ((cnts i xs).map nI)) ∧ Same H H3)
    ⟨upd_same, same_new hD⟩ ?_ ?_⟩
  · rintro i H3 hi ⟨g1, g2⟩
    have hb3 := Same.seq g2 hb
    rw [nI_map] at hb3
    refine ⟨rfl, _, rfl, .inl ⟨rfl, _, hb3⟩, _, rfl, b, _, (i : Int), rfl, congrArg (fun z => [V.int z]) (Int.zero_add _), hb3, _, g1, ?_, ?_, same_add g2 hD⟩
    · rw [List.length_map]
      unfold cnts
      rw [List.length_map, List.length_range]
      exact Nat.lt_of_le_of_lt (show i ≤ 1000 by omega) (by decide)
    · rw [upd_same, count_cast]
      unfold cnts
      rw [List.range_succ, List.map_append, List.map_append]
      rfl
  · rintro H3 ⟨g1, g2⟩
    exact q D H3 g2 hD g1
theorem ok_check_letters (T : Txt K mg) : FnOk P w K mg base CX0 1 T.f_check_letters T.d_check_letters ["parts", "letters"] (sp_check_letters K) := by
  refine T.F_check_letters.ok sc_check_letters (fun vs H Q E h => ?_) (fun cdv A outer s H vs Q E hr h => ?_)
  · obtain ⟨a, L, ws, ts, ok, rfl, _⟩ := h
    rfl
  obtain ⟨a, L, ws, ts, ok, rfl, ha, ht, hL, q⟩ := h
  refine ⟨_, (pss_one (ps_for PassesOwn.never rfl (pi_list (pv 0)) (pg_tup rfl (pgs_cons (pg_name (i := 2) sc_check_letters.nd rfl (Or.inl rfl)) (pgs_cons (pg_name (i := 3) sc_check_letters.nd rfl (Or.inl rfl)) pgs_nil))) (pss_one (ps_if (pt_cmpR op_notInS (pv 2) (pv 1) (by rfl)) (pss_one ps_never) pss_nil)))), ?_⟩
  refine ⟨_, rfl, a, rfl, ⟨_, ha⟩, for_list (xs := ws) (fun i σ H2 => (∃ y2 y3, σ = [some (.ref a), some (.str L), y2, y3]) ∧ H2 = H) ⟨⟨_, _, rfl⟩, rfl⟩ (fun i σ H2 _ ⟨_, e⟩ => by rw [e]; exact ha) ?_ ?_⟩
  · rintro i x σ H2 hx ⟨⟨y2, y3, rfl⟩, rfl⟩
    obtain ⟨t1, ht1, hx2⟩ := ht.getV hx
    cases hx2 with
    | node g1 g2 o1 o2 c1 c2 rr =>
      rename_i ax lx vx c ks
      have hc := hL _ (List.mem_of_getElem? ht1) c ks rfl
      refine ⟨_, _, rfl, SqT.of g1, rfl, ?_⟩
      refine ⟨_, _, rfl, _, _, rfl, rfl, ?_⟩
      refine ⟨_, rfl, _, rfl, c, L, rfl, rfl, _, rfl, ?_⟩
      rw [decide_eq_true hc]
      exact iteF ⟨⟨_, _, rfl⟩, rfl⟩
  · rintro σ H2 ⟨⟨y2, y3, rfl⟩, rfl⟩
    exact q _ (Same.refl _)
theorem ok_next_state (T : Txt K mg) {f p : Addr} {G : Hp → Prop} {L : Str} {n : Nat} {fs : Nat → List Nat → Nat} (C_state_at : CalX P w K mg base 10 f G 2 (sp_state_at L n fs)) (qual : Str) (cl : List (Str × Addr)) (c' nf : Addr) :
    NdefX.NOk P w K mg base CX0 11 nf (NdefX.NF.of n_states_upward__next_state "next_state" qual cl c') ["letter", "below"] ["told", "state_at", "states"] (sp_next_state L n fs f p G) := by
  have G__numbers : FnOk P w K mg base CX0 1 T.f__numbers T.d__numbers ["below", "states"] (sp__numbers K) := ok__numbers T
  refine NdefX.nok_of sc_states_upward__next_state (fun doc pm ctv us hl => match us, hl with | [_, _], _ => rfl) (fun ws vs H Q E h => ?_) (fun A outer s H vs ws Q E hr hf hc hw h => ?_)
  · obtain ⟨c, bl, xs, ds, rfl, _⟩ := h
    rfl
  obtain ⟨c, bl, xs, ds, rfl, rfl, hcL, hn, hx, hd, hbl, hp, hG, q⟩ := h
  refine ⟨_, (pss_cons (ps_expr (pe_bm PySem.F.plainAttrs_list PySem.F.slot_list_append PySem.F.type_list_append mt_append (pv 2) (pa_cons (pe_calX (i := 3) C_state_at (hr.mono (by omega)) rfl (.inr (.inr (by rfl))) (pa_cons (pv 0) (pa_cons (pe_call G__numbers (hr.mono (by omega)) (by rfl) T.m__numbers T.F__numbers.kp T.b__numbers .nil pass0 (pa_cons (pv 1) (pa_cons (pv 4) pa_nil))) pa_nil))) pa_nil))) (pss_one (ps_ret (pe_ix ix_list (pv 2) (pe_un un_neg pe_int) (fun _ _ => rfl))))), ?_⟩
  refine ⟨_, rfl, .inl ⟨rfl, _, SqL.of hp⟩, rfl, hG _ (Same.refl _), _, rfl, _, rfl, _, rfl, bl, xs, n, rfl, SqL.of hbl, hn, fun r H1 s1 hr1 hr2 => ⟨hG _ s1, c, r, _, rfl, hcL, ?_, ?_, hr2, fun H2 s2 => ?_⟩⟩
  · unfold cnts
    rw [List.length_map, List.length_range]
  · intro x hx2
    obtain ⟨s', _, rfl⟩ := List.mem_map.mp hx2
    exact Nat.le_trans List.count_le_length hx
  have hp2 := s2 _ _ (s1 _ _ hp)
  refine ⟨p, _, _, rfl, rfl, hp2, ?_, ?_⟩
  · rw [List.length_map]
    exact Nat.lt_of_le_of_lt hd (by decide)
  have e1 : ds.map nI ++ [nI (fs c (cnts n xs))] = (ds ++ [fs c (cnts n xs)]).map nI := by rw [List.map_append]; rfl
  rw [e1]
  refine ⟨_, rfl, 1, rfl, p, _, -1, _, rfl, rfl, SqL.of upd_same, ?_, q _ ?_ upd_same⟩
  · rw [← e1]
    exact atI_last _ _
  · intro b o nb e
    rw [upd_ne nb]
    exact s2 _ _ (s1 _ _ e)
theorem ok_states_upward (T : Txt K mg) (B : Tbs T base) (TT : List NdefX.NTab) (hTT : (T.P_states_upward, fun _ _ => q_states_upward) ∈ TT) (hu : ∀ z ∈ TT, z.1 = T.P_states_upward → z.2 = fun _ _ => q_states_upward) : FnOk P w K mg base CX0 14 T.f_states_upward T.d_states_upward ["tree", "letters", "states", "state_at"] (sp_states_upward P w K mg base TT) := by
  have G_check_letters : FnOk P w K mg base CX0 1 T.f_check_letters T.d_check_letters ["parts", "letters"] (sp_check_letters K) := ok_check_letters T
  have G_parts_upward : FnOk P w K mg base CX0 5 T.f_parts_upward T.d_parts_upward ["tree"] sp_parts_upward := ok_parts_upward T
  have G_built_upward : FnOk P w K mg base CX0 12 T.f_built_upward T.d_built_upward ["tree", "made"] (sp_built_upwardJ P w K mg base 11) := ok_built_upwardJ T 11 (by decide)
  refine okC T.F_states_upward T.h_states_upward sc_states_upward (fun vs H Q E h => ?_) (fun A outer s H vs Q E hr h => ?_)
  · obtain ⟨v, t, L, n, f, fs, rfl, _⟩ := h
    rfl
  obtain ⟨v, t, L, n, f, fs, rfl, ht, hz, hL, hn, hT, C, q⟩ := h
  refine ⟨_, (pss_cons (ps_expr (pe_call G_check_letters (hr.mono (by omega)) (by rfl) T.m_check_letters T.F_check_letters.kp T.b_check_letters .nil pass0 (pa_cons (pe_call G_parts_upward (hr.mono (by omega)) (by rfl) T.m_parts_upward T.F_parts_upward.kp T.b_parts_upward .nil pass0 (pa_cons (pv 0) pa_nil)) (pa_cons (pv 1) pa_nil)))) (pss_cons (ps_set (i := 4) sc_states_upward.nd rfl (Or.inr rfl) (pe_lst pa_nil)) (pss_cons (NdefX.ps_ndefMS (T := TT) (nm := fun _ _ => q_states_upward) (i := 5) (st := n_states_upward__next_state) rfl B.tb_states_upward rfl hTT rfl hu (NdefX.ndef_free nd_states_upward__next_state) rfl rfl rfl sc_states_upward.nd rfl (Or.inl rfl) (.inl rfl)) (pss_cons (ps_expr (pe_callLd G_built_upward (hr.mono (by omega)) (by rfl) T.m_built_upward T.F_built_upward.kp T.b_built_upward (fun _ => rfl) (pa_cons (pv 0) (pa_cons (pv 5) pa_nil)))) (pss_one (ps_ret (pv 4))))))), ?_⟩
  refine ⟨_, rfl, v, t, _, rfl, ht, hz, fun r ws H1 s1 hr0 hr1 hparts => ⟨_, rfl, r, L, ws, t.post, _, rfl, SqL.of hr1, hparts, lets_post t hL, fun H2 s2 => ?_⟩⟩
  refine ⟨(by show 0 ≤ sizeLine; decide), fun p hp => ?_⟩
  have S3 : Same H (upd H2 p (.lst [])) := (s1.trans s2).trans (same_new hp)
  have hp0 : H p = none := (s1.trans s2).free hp
  have k3 := upd_same (H := H2) (a := p) (o := .lst [])
  generalize hH3 : upd H2 p (.lst []) = H3 at *
  refine ⟨hT.ext S3, fun nf c' H4 e4 n4 T4 hf0 hf hc => ?_⟩
  have hp4 : H4 p = some (.lst []) := e4 _ _ k3 (fun _ e => by cases e)
  have E4 : LamX.ExtN H H4 := (LamX.ExtN.of S3).trans e4
  refine ⟨_, rfl, _, rfl, fun cs hcs => ?_⟩
  have Cc := hcs.got (C8.fnScope n_states_upward__next_state) ["told", "state_at", "states"] [4, 3, 2] nd_states_upward__next_state rfl
  have hnew := hcs.new
  have hcel := hcs.cel
  clear hcs
  generalize (cloFrom _ _ [] : List (Str × Addr)) = cl at *
  have N0 := ok_next_state T C (q_states_upward) cl c' nf (p := p)
  have X0 := calX_ndef N0 Cc hcel
  have hpL : (lend H4 cs) p = some (.lst []) := lend_some hnew hp4
  have npf : nf ≠ p := fun e => by rw [e, hp4] at hf; unfold NdefX.FnO at hf; cases hf
  have npc : c' ≠ p := fun e => by rw [e, hp4] at hc; unfold LamX.CodeO at hc; cases hc
  have hE0 : ∀ H', FrX (fun b => b = p) (lend H4 cs) H' → Fr p H4 (unl H' cs) := fun H' f b o n e => by
    rw [unl_out (hnew.out e)]
    exact f b o n (lend_some hnew e)
  have hlt : ∀ H', FrX (fun b => b = p) (lend H4 cs) H' → LentAt cs H' := fun H' f c o e => f c _ (fun e2 => by
    have := hnew c o e
    rw [show c = p from e2, hp4] at this
    cases this) (lend_in e)
  refine ⟨v, t, nf, fun u => nI (St fs n u), (fun b => b = p), (fun l H' => H' p = some (.lst ((l.map (St fs n)).map nI))), rfl, ?_, hz, ?_, ?_, ?_, hpL, ?_, fun H5 f5 J5 => ⟨?_, ?_⟩⟩
  · exact ((TrAt.extN1 (TrAt.there t v ht) E4).same (lend_same hnew)).weak fun b ⟨_, o, e⟩ e2 => by rw [e2, hp0] at e; cases e
  · rintro b rfl; rw [hpL]; simp
  · rintro l H' b e rfl; rw [e]; simp
  · intro l Ha Hb k e
    exact k _ _ (by rw [hpL]; simp) e
  · refine CalX.imp2 X0 (Nat.le_refl _) (fun vs H Q E h => ?_) (fun H' f => ⟨f _ _ npf (lend_some hnew hf), f _ _ npc (lend_some hnew hc), hlt H' f⟩) (fun vs H' Q E f h => ?_)
    · obtain ⟨c, bl, ks, done, rest, rfl, _⟩ := h
      rfl
    · obtain ⟨c, bl, ks, done, rest, rfl, hsplit, c1, c2, hk, hbl, hbl0, hf', hJ, qq⟩ := h
      have hl' := hlt H' f
      have hlen : done.length ≤ 1000000 := by
        have e1 := congrArg List.length hsplit
        rw [post_len, List.length_append] at e1
        omega
      have eS : (ks.map (St fs n)).map nI = ks.map fun u => nI (St fs n u) := by rw [List.map_map]; rfl
      have eN : St fs n (.node c ks) = fs c (cnts n (ks.map (St fs n))) := by simp only [St, Sts_map]
      refine ⟨c, bl, ks.map (St fs n), done.map (St fs n), rfl, rfl, lets_post t hL (.node c ks) (by rw [hsplit]; simp) c ks rfl, hn, by rw [List.length_map]; exact hk, by rw [List.length_map]; exact hlen, ?_, unl_keep hl' hJ (fun _ e => by cases e), fun H2 s2 b o e nt => s2 _ _ (hE0 H' f b o (fun e2 => by rw [e2, hp0] at e; cases e) (E4 b o e nt)), fun H2 f2 e2 => ?_⟩
      · rw [eS]; exact unl_keep hl' hbl (fun _ e => by cases e)
      · rw [← eN] at e2 ⊢
        refine qq (lend H2 cs) (fun b o nb e => ?_) ?_
        · cases hb : cs.lookup b with
          | some ob =>
            rw [lend_in hb, ← hl' b ob hb]
            exact e
          | none =>
            rw [lend_out hb]
            exact f2 b o nb (by rw [unl_out hb]; exact e)
        · show (lend H2 cs) p = some (.lst (((done ++ [Tr.node c ks]).map (St fs n)).map nI))
          rw [lend_out (hnew.out hp4), e2]
          simp only [List.map_append, List.map_cons, List.map_nil]
  · exact hlt H5 f5
  · refine ⟨_, rfl, q p (unl H5 cs) (fun b o e nt => hE0 H5 f5 b o (fun e2 => by rw [e2, hp0] at e; cases e) (E4 b o e nt)) (tabsN_fr1 T4 hp4 (hE0 H5 f5)) hp0 (unl_keep (hlt H5 f5) J5 (fun _ e => by cases e))⟩
end

mutual
inductive Dt (ok : Addr → Prop) (H : Hp) : V → PyData → Prop
  | non : Dt ok H .non .none
  | bl (b : Bool) : Dt ok H (.bl b) (.bool b)
  | int (i : Int) : Dt ok H (.int i) (.int i)
  | str (x : Str) : Dt ok H (.str x) (.str x)
  | dic {a : Addr} : H a = some (.dK []) → ok a → Dt ok H (.ref a) (.dict [])
  | lst {a : Addr} {xs : List V} {ds : List PyData} : H a = some (.lst xs) → ok a → xs.length ≤ 1000 → DtAll ok H xs ds → Dt ok H (.ref a) (.list ds)
  | tup {a : Addr} {xs : List V} {ds : List PyData} : H a = some (.tup xs) → ok a → xs.length ≤ 1000 → DtAll ok H xs ds → Dt ok H (.ref a) (.tuple ds)
inductive DtAll (ok : Addr → Prop) (H : Hp) : List V → List PyData → Prop
  | nil : DtAll ok H [] []
  | cons {v : V} {vs : List V} {d : PyData} {ds : List PyData} : Dt ok H v d → DtAll ok H vs ds → DtAll ok H (v :: vs) (d :: ds)
end
section
variable {ok ok' : Addr → Prop} {H H' : Hp} {K : PySem.W.Frag}
mutual
theorem Dt.imp (hk : ∀ b o, ok b → H b = some o → ok' b) (h : ∀ b o, ok b → H b = some o → H' b = some o) : ∀ {v : V} {d : PyData}, Dt ok H v d → Dt ok' H' v d
  | _, _, .non => .non
  | _, _, .bl b => .bl b
  | _, _, .int i => .int i
  | _, _, .str x => .str x
  | _, _, .dic e k => .dic (h _ _ k e) (hk _ _ k e)
  | _, _, .lst e k l r => .lst (h _ _ k e) (hk _ _ k e) l (DtAll.imp hk h r)
  | _, _, .tup e k l r => .tup (h _ _ k e) (hk _ _ k e) l (DtAll.imp hk h r)
theorem DtAll.imp (hk : ∀ b o, ok b → H b = some o → ok' b) (h : ∀ b o, ok b → H b = some o → H' b = some o) : ∀ {vs : List V} {ds : List PyData}, DtAll ok H vs ds → DtAll ok' H' vs ds
  | _, _, .nil => .nil
  | _, _, .cons a b => .cons (Dt.imp hk h a) (DtAll.imp hk h b)
end
theorem Dt.keep {v : V} {d : PyData} (x : Dt ok H v d) (h : ∀ b o, ok b → H b = some o → H' b = some o) : Dt ok H' v d := x.imp (fun _ _ k _ => k) h
theorem Dt.same {v : V} {d : PyData} (x : Dt ok H v d) (s : Same H H') : Dt ok H' v d := x.keep fun b o _ h => s b o h
theorem Dt.weak {v : V} {d : PyData} (x : Dt ok H v d) (h : ∀ b, ok b → ok' b) : Dt ok' H v d := x.imp (fun b _ k _ => h b k) fun _ _ _ e => e
theorem Dt.any {v : V} {d : PyData} (x : Dt ok H v d) : Dt (fun _ => True) H v d := x.weak fun _ _ => trivial
theorem Dt.off {w : Addr} {v : V} {d : PyData} (x : Dt ok H v d) (h : H w = none) : Dt (fun b => ok b ∧ b ≠ w) H v d := x.imp (fun _ _ k e => ⟨k, ne_of_none e h⟩) fun _ _ _ e => e
theorem DtAll.keep {vs : List V} {ds : List PyData} (x : DtAll ok H vs ds) (h : ∀ b o, ok b → H b = some o → H' b = some o) : DtAll ok H' vs ds := x.imp (fun _ _ k _ => k) h
theorem DtAll.same {vs : List V} {ds : List PyData} (x : DtAll ok H vs ds) (s : Same H H') : DtAll ok H' vs ds := x.keep fun b o _ h => s b o h
theorem DtAll.weak {vs : List V} {ds : List PyData} (x : DtAll ok H vs ds) (h : ∀ b, ok b → ok' b) : DtAll ok' H vs ds := x.imp (fun b _ k _ => h b k) fun _ _ _ e => e
mutual
theorem Dt.dp : ∀ {v : V} {d : PyData}, Dt ok H v d → d.canLay0 = true → Dp K H v d
  | _, _, .non, _ => .non
  | _, _, .bl b, _ => .bl b
  | _, _, .int i, _ => .int i
  | _, _, .str x, _ => .str x
  | _, _, .dic _ _, h => by simp [PyData.canLay0] at h
  | _, _, .lst e _ _ r, h => .lst (SqL.of e) (DtAll.dp r (by simpa only [PyData.canLay0] using h))
  | _, _, .tup e _ _ r, h => .tup (SqT.of e) (DtAll.dp r (by simpa only [PyData.canLay0] using h))
theorem DtAll.dp : ∀ {vs : List V} {ds : List PyData}, DtAll ok H vs ds → PyData.canLayAll0 ds = true → DpAll K H vs ds
  | _, _, .nil, _ => .nil
  | _, _, .cons a b, h => by
    simp only [PyData.canLayAll0, Bool.and_eq_true] at h
    exact .cons (Dt.dp a h.1) (DtAll.dp b h.2)
end
theorem DtAll.len : ∀ {vs : List V} {ds : List PyData}, DtAll ok H vs ds → vs.length = ds.length
  | _, _, .nil => rfl
  | _, _, .cons _ b => by simp only [List.length_cons, DtAll.len b]
theorem DtAll.getV : ∀ {vs : List V} {ds : List PyData} {i : Nat} {x : V}, DtAll ok H vs ds → vs[i]? = some x → ∃ d, ds[i]? = some d ∧ Dt ok H x d
  | _, _, 0, _, .cons a _, h => by cases h; exact ⟨_, rfl, a⟩
  | _, _, i + 1, _, .cons _ b, h => by
    rw [List.getElem?_cons_succ] at h
    obtain ⟨d, h1, h2⟩ := DtAll.getV b h
    exact ⟨d, by rw [List.getElem?_cons_succ]; exact h1, h2⟩
theorem DtAll.snoc : ∀ {vs : List V} {ds : List PyData} {v : V} {d : PyData}, DtAll ok H vs ds → Dt ok H v d → DtAll ok H (vs ++ [v]) (ds ++ [d])
  | _, _, _, _, .nil, y => .cons y .nil
  | _, _, _, _, .cons a b, y => .cons a (DtAll.snoc b y)
theorem dt_ints : ∀ xs : List Int, DtAll ok H (xs.map V.int) (xs.map PyData.int)
  | [] => .nil
  | x :: r => .cons (.int x) (dt_ints r)
theorem dt_intsL {a : Addr} {xs : List Int} (h : H a = some (.lst (xs.map V.int))) (k : ok a) (l : xs.length ≤ 1000) : Dt ok H (.ref a) (.list (xs.map PyData.int)) := .lst h k (by rw [List.length_map]; exact l) (dt_ints xs)
theorem dtAll_ints : ∀ {w : List Int} {vs : List V}, DtAll ok H vs (w.map PyData.int) → vs = w.map V.int
  | [], _, h => by cases h; rfl
  | x :: r, _, h => by
    cases h with
    | cons a b =>
      cases a
      rw [dtAll_ints b]
      rfl
theorem Dt.intsL {v : V} {w : List Int} (h : Dt ok H v (.list (w.map PyData.int))) : ∃ a, v = .ref a ∧ H a = some (.lst (w.map V.int)) ∧ ok a := by
  cases h with
  | lst e k l r =>
    rw [dtAll_ints r] at e
    exact ⟨_, rfl, e, k⟩
end
theorem layAll_mem {d : PyData} : ∀ {ds : List PyData}, PyData.canLayAll0 ds = true → d ∈ ds → d.canLay0 = true
  | x :: r, h, hm => by
    simp only [PyData.canLayAll0, Bool.and_eq_true] at h
    rcases List.mem_cons.mp hm with rfl | hm
    · exact h.1
    · exact layAll_mem h.2 hm
theorem depthAll_mem {d : PyData} : ∀ {ds : List PyData}, d ∈ ds → d.depth ≤ PyData.depthAll ds
  | x :: r, h => by
    simp only [PyData.depthAll]
    rcases List.mem_cons.mp h with rfl | h
    · omega
    · have := depthAll_mem h
      omega
theorem eqT {x y : V} {i : Decidable (x = y)} {A B : Prop} (h : x = y) (k : A) : if (@decide (x = y) i) = true then A else B := by
  rw [decide_eq_true h]
  exact iteT k
theorem eqF {x y : V} {i : Decidable (x = y)} {A B : Prop} (h : x ≠ y) (k : B) : if (@decide (x = y) i) = true then A else B := by
  rw [decide_eq_false h]
  exact iteF k
theorem noneOf {sp : Sp} {P : Program} {w : World} {K : PySem.W.Frag} {mg : Str → Option Value} {base : Heap} {f : Addr} {fd : FuncData} {ps : List Str} {k : Nat} (no : ∀ vs H Q E, ¬ sp vs H Q E) : FnOk P w K mg base CX0 k f fd ps sp :=
  ⟨fun vs H Q E h => absurd h (no vs H Q E), fun A outer s H args us vs Q E _ _ _ _ h => absurd h (no vs H Q E)⟩


def Dn (H : Hp) (p : Addr) : Prop := ∃ xs : List Int, H p = some (.lst (xs.map V.int)) ∧ (∀ x ∈ xs, 0 ≤ x ∧ x < 2147483648) ∧ 1 ≤ xs.length ∧ xs.length ≤ 2000
theorem Dn.some {H : Hp} {p : Addr} (h : Dn H p) : H p ≠ none := by obtain ⟨xs, e, _⟩ := h; rw [e]; simp
theorem Dn.ne {H : Hp} {p q : Addr} (h : Dn H p) (e : H q = none) : q ≠ p := fun e2 => h.some (by rw [← e2]; exact e)
theorem Dn.keep {H H' : Hp} {p : Addr} (h : Dn H p) (s : Same H H') : Dn H' p := by obtain ⟨xs, e, r⟩ := h; exact ⟨xs, s _ _ e, r⟩
theorem Dn.upd {H : Hp} {p q : Addr} {o : HO} (h : Dn H p) (n : q ≠ p) : Dn (upd H q o) p := by obtain ⟨xs, e, r⟩ := h; exact ⟨xs, by rw [upd_ne (fun e => n e.symm)]; exact e, r⟩
theorem Dn.ext {H H' : Hp} {p : Addr} (d : Dn H p) (f : LamX.ExtN H H') : Dn H' p := by
  obtain ⟨xs, h, r⟩ := d
  exact ⟨xs, f _ _ h (fun _ z => by cases z), r⟩
theorem Dn.tabs {p : Addr} {H H' : Hp} {TT : List NdefX.NTab} (d : Dn H p) (t : NdefX.TabsN TT H) (f : Fr p H H') : NdefX.TabsN TT H' := by
  obtain ⟨xs, h, _⟩ := d
  exact tabsN_fr1 t h f
def sp__law_cell_at (K : PySem.W.Frag) : Sp := fun vs H Q _ => ∃ (a : Addr) (ns : List Int) (k : Int), vs = [.ref a, .int k] ∧ SqL K H a (ns.map V.int) ∧ 0 ≤ k ∧ ∀ x, Q (.int x) H
def sp__law_stir : Sp := fun vs H Q _ => ∃ (c k : Int), vs = [.int c, .int k] ∧ 0 ≤ k ∧ k ≤ 100000 ∧ ∀ x, 0 ≤ x → x < 268435456 → Q (.int x) H
def sp__law_deck : Sp := fun vs H Q _ => ∃ (c m : Int), vs = [.int c, .int m] ∧ 1 ≤ m ∧ m ≤ 1000 ∧ ∀ p H', Same H H' → H p = none → Dn H' p → Q (.ref p) H'
def sp__law_next : Sp := fun vs H Q _ => ∃ p : Addr, vs = [.ref p] ∧ Dn H p ∧ ∀ x H', 0 ≤ x → x < 2147483648 → Fr p H H' → Dn H' p → Q (.int x) H'
section
variable {P : Program} {w : World} {K : PySem.W.Frag} {mg : Str → Option Value} {base : Heap}
theorem ok__law_cell_at (T : Txt K mg) : FnOk P w K mg base CX0 1 T.f__law_cell_at T.d__law_cell_at ["script", "k"] (sp__law_cell_at K) := by
  refine T.F__law_cell_at.ok sc__law_cell_at (fun vs H Q E h => ?_) (fun cdv A outer s H vs Q E hr h => ?_)
  · obtain ⟨a, ns, k, rfl, _⟩ := h
    rfl
  obtain ⟨a, ns, k, rfl, hS, h0, q⟩ := h
  refine ⟨_, (pss_cons (ps_if (pt_cmpR op_lt (pv 1) (pe_callB call_len_seq (by rfl) T.z_len PySem.boot_len (pa_cons (pv 0) pa_nil)) (nomark _)) (pss_one (ps_ret (pe_ix ix_list (pv 0) (pv 1) (fun _ _ => rfl)))) pss_nil) (pss_one (ps_ret pe_int))), ?_⟩
  refine ⟨_, rfl, _, rfl, a, _, rfl, .inl hS, _, _, rfl, rfl, _, rfl, ?_⟩
  refine ite2 (fun c => ?_) (fun c => ?_)
  · have hk : k.toNat < ns.length := by
      have c' : k < (((ns.map V.int).length : Nat) : Int) := of_decide_eq_true c
      rw [List.length_map] at c'
      omega
    exact ⟨_, rfl, _, rfl, a, _, _, _, rfl, rfl, hS, at_of (j := k.toNat) (v := V.int ns[k.toNat]) (by omega) (by rw [List.getElem?_map, List.getElem?_eq_getElem hk]; rfl), q _⟩
  · exact q _
theorem ok__law_stir (T : Txt K mg) : FnOk P w K mg base CX0 1 T.f__law_stir T.d__law_stir ["cell", "k"] sp__law_stir := by
  refine T.F__law_stir.ok sc__law_stir (fun vs H Q E h => ?_) (fun cdv A outer s H vs Q E hr h => ?_)
  · obtain ⟨c, k, rfl, _⟩ := h
    rfl
  obtain ⟨c, k, rfl, h0, h1, q⟩ := h
  refine ⟨_, (pss_cons (ps_set (i := 2) sc__law_stir.nd rfl (Or.inl rfl) (pe_op op_mod (pe_op op_mul (pe_op op_add (pe_op op_add (pe_op op_mod (pv 0) pe_int) (pe_op op_mul pe_int (pv 1))) pe_int) pe_int) pe_int)) (pss_cons (ps_set (i := 2) sc__law_stir.nd rfl (Or.inl rfl) (pe_op op_mod (pe_op op_mul (pv 2) (pv 2)) pe_int)) (pss_one (ps_ret (pe_op op_fdivW (pe_op op_mod (pe_op op_mul (pe_op op_add (pv 2) (pe_op op_mul pe_int (pv 1))) pe_int) pe_int) pe_int))))), ?_⟩
  have a0 : 0 ≤ c % 2147483629 := Int.emod_nonneg _ (by decide)
  have a1 : c % 2147483629 < 2147483629 := Int.emod_lt_of_pos _ (by decide)
  refine ⟨_, rfl, _, _, rfl, rfl, (by show (0 : Int) < 2147483629; decide), _, rfl, 9973, k, rfl, rfl, .inl ⟨by decide, by decide⟩, _, _, rfl, rfl, _, _, rfl, rfl, _, _, rfl, rfl, .inl ⟨by omega, by omega⟩, _, _, rfl, rfl, (by show (0 : Int) < 2147483647; decide), ?_⟩
  have b0 : 0 ≤ (c % 2147483629 + 9973 * k + 5) * 48271 % 2147483647 := Int.emod_nonneg _ (by decide)
  have b1 : (c % 2147483629 + 9973 * k + 5) * 48271 % 2147483647 < 2147483647 := Int.emod_lt_of_pos _ (by decide)
  generalize (c % 2147483629 + 9973 * k + 5) * 48271 % 2147483647 = y at *
  refine ⟨_, rfl, _, rfl, _, _, rfl, rfl, .inl ⟨by omega, by omega⟩, _, _, rfl, rfl, (by show (0 : Int) < 2147483587; decide), ?_⟩
  have c0 : 0 ≤ y * y % 2147483587 := Int.emod_nonneg _ (by decide)
  have c1 : y * y % 2147483587 < 2147483587 := Int.emod_lt_of_pos _ (by decide)
  generalize y * y % 2147483587 = z at *
  refine ⟨_, rfl, _, rfl, 7919, k, rfl, rfl, .inl ⟨by decide, by decide⟩, _, _, rfl, rfl, _, _, rfl, rfl, .inl ⟨by omega, by omega⟩, _, _, rfl, rfl, (by show (0 : Int) < 2147483563; decide), _, _, rfl, rfl, divW (by decide) (by decide), ?_⟩
  have d0 : 0 ≤ (z + 7919 * k) * 16807 % 2147483563 := Int.emod_nonneg _ (by decide)
  have d1 : (z + 7919 * k) * 16807 % 2147483563 < 2147483563 := Int.emod_lt_of_pos _ (by decide)
  exact q _ (by omega) (by omega)
theorem ok__law_deck (T : Txt K mg) : FnOk P w K mg base CX0 2 T.f__law_deck T.d__law_deck ["cell", "many"] sp__law_deck := by
  have G__law_stir : FnOk P w K mg base CX0 1 T.f__law_stir T.d__law_stir ["cell", "k"] sp__law_stir := ok__law_stir T
  refine T.F__law_deck.ok sc__law_deck (fun vs H Q E h => ?_) (fun cdv A outer s H vs Q E hr h => ?_)
  · obtain ⟨c, m, rfl, _⟩ := h
    rfl
  obtain ⟨c, m, rfl, h0, h1, q⟩ := h
  refine ⟨_, (pss_cons (ps_set (i := 2) sc__law_deck.nd rfl (Or.inl rfl) (pe_lst pa_nil)) (pss_cons (ps_set (i := 3) sc__law_deck.nd rfl (Or.inl rfl) (pv 0)) (pss_cons (ps_for PassesOwn.never rfl (pi_range1 (by rfl) T.z_range (pa_cons (pv 1) pa_nil)) (pg_name (i := 4) sc__law_deck.nd rfl (Or.inl rfl)) (pss_cons (ps_set (i := 5) sc__law_deck.nd rfl (Or.inl rfl) (pe_call G__law_stir (hr.mono (by omega)) (by rfl) T.m__law_stir T.F__law_stir.kp T.b__law_stir .nil pass0 (pa_cons (pv 0) (pa_cons (pv 4) pa_nil)))) (pss_cons (ps_if (pt_cmpR op_ge (pv 0) (pe_op op_pow pe_int pe_int) (nomark _)) (pss_one (ps_set (i := 5) sc__law_deck.nd rfl (Or.inl rfl) (pe_op op_mod (pv 3) pe_int))) pss_nil) (pss_cons (ps_set (i := 3) sc__law_deck.nd rfl (Or.inl rfl) (pe_op op_fdivW (pv 3) pe_int)) (pss_one (ps_expr (pe_bm PySem.F.plainAttrs_list PySem.F.slot_list_append PySem.F.type_list_append mt_append (pv 2) (pa_cons (pv 5) pa_nil)))))))) (pss_one (ps_ret (pe_revL (pv 2))))))), ?_⟩
  refine ⟨(by show 0 ≤ sizeLine; decide), fun p hp => ?_⟩
  refine ⟨_, rfl, _, rfl, m, rfl, by omega, by omega, for_range (lo := 0) (n := m.toNat) (fun i σ H' => ∃ (dg : Int) (xs : List Int) (y4 y5 : Option V), σ = [some (.int c), some (.int m), some (.ref p), some (.int dg), y4, y5] ∧ H' p = some (.lst (xs.map V.int)) ∧ (∀ x ∈ xs, 0 ≤ x ∧ x < 2147483648) ∧ xs.length = i ∧ Same H H') ⟨_, [], _, _, rfl, upd_same, (fun _ h => by cases h), rfl, same_new hp⟩ ?_ ?_⟩
  · rintro i σ H' hi ⟨dg, xs, y4, y5, rfl, g1, g2, g3, g4⟩
    refine ⟨_, rfl, _, rfl, c, 0 + (i : Int), rfl, by omega, by omega, fun x x0 x1 => ?_⟩
    have fits : (xs.map V.int).length < sizeLine := by
      rw [List.length_map]
      exact Nat.lt_of_le_of_lt (show _ ≤ 1000000 by omega) (by decide)
    have fin : ∀ (z d : Int), 0 ≤ z → z < 2147483648 → ∃ (dg : Int) (xs1 : List Int) (y4 y5 : Option V), [some (.int c), some (.int m), some (.ref p), some (.int d), some (.int (0 + (i : Int))), some (.int z)] = [some (.int c), some (.int m), some (.ref p), some (V.int dg), y4, y5] ∧ upd H' p (.lst (xs.map V.int ++ [V.int z])) p = some (.lst (xs1.map V.int)) ∧ (∀ x ∈ xs1, 0 ≤ x ∧ x < 2147483648) ∧ xs1.length = i + 1 ∧ Same H (upd H' p (.lst (xs.map V.int ++ [V.int z]))) := fun z d z0 z1 =>
      ⟨d, xs ++ [z], _, _, rfl, by rw [upd_same, List.map_append]; rfl, fun y hy => by
        rcases List.mem_append.mp hy with hy | hy
        · exact g2 y hy
        · rw [List.mem_singleton.mp hy]; exact ⟨z0, z1⟩, by rw [List.length_append, g3]; rfl, same_add g4 hp⟩
    have e0 : 0 ≤ dg % 720720 := Int.emod_nonneg _ (by decide)
    have e1 : dg % 720720 < 720720 := Int.emod_lt_of_pos _ (by decide)
    refine ⟨_, rfl, 10, 18, rfl, rfl, ⟨by decide, by decide, by decide⟩, _, _, rfl, rfl, _, rfl, ite2 (fun k2 => ?_) (fun k2 => ?_)⟩
    · refine ⟨_, rfl, _, _, rfl, rfl, (by show (0 : Int) < 720720; decide), ?_⟩
      refine ⟨_, rfl, _, _, rfl, rfl, divW (by decide) (by decide), ?_⟩
      exact ⟨_, rfl, .inl ⟨rfl, _, SqL.of g1⟩, _, rfl, p, _, _, rfl, rfl, g1, fits, fin _ _ e0 (by omega)⟩
    · refine ⟨_, rfl, _, _, rfl, rfl, divW (by decide) (by decide), ?_⟩
      exact ⟨_, rfl, .inl ⟨rfl, _, SqL.of g1⟩, _, rfl, p, _, _, rfl, rfl, g1, fits, fin _ _ x0 (by omega)⟩
  · rintro σ H' ⟨dg, xs, y4, y5, rfl, g1, g2, g3, g4⟩
    refine ⟨_, rfl, p, _, rfl, SqL.of g1, fun p2 hp2 => ?_⟩
    refine q p2 _ (g4.trans (same_new hp2)) (g4.free hp2) ⟨xs.reverse, by rw [upd_same, List.map_reverse], fun x hx => g2 x (List.mem_reverse.mp hx), by rw [List.length_reverse]; omega, by rw [List.length_reverse]; omega⟩
theorem ok__law_next (T : Txt K mg) : FnOk P w K mg base CX0 2 T.f__law_next T.d__law_next ["deck"] sp__law_next := by
  have G__law_stir : FnOk P w K mg base CX0 1 T.f__law_stir T.d__law_stir ["cell", "k"] sp__law_stir := ok__law_stir T
  refine T.F__law_next.ok sc__law_next (fun vs H Q E h => ?_) (fun cdv A outer s H vs Q E hr h => ?_)
  · obtain ⟨p, rfl, _⟩ := h
    rfl
  obtain ⟨p, rfl, ⟨xs, hp, hx, l1, l2⟩, q⟩ := h
  refine ⟨_, (pss_cons (ps_if (pt_cmpR op_eq (pe_callB call_len_seq (by rfl) T.z_len PySem.boot_len (pa_cons (pv 0) pa_nil)) pe_int (nomark _)) (pss_one (ps_expr (pe_bm PySem.F.plainAttrs_list PySem.F.slot_list_insert PySem.F.type_list_insert mt_insert (pv 0) (pa_cons pe_int (pa_cons (pe_op op_mul (pe_call G__law_stir (hr.mono (by omega)) (by rfl) T.m__law_stir T.F__law_stir.kp T.b__law_stir .nil pass0 (pa_cons (pe_ix ix_list (pv 0) pe_int (fun _ _ => rfl)) (pa_cons pe_int pa_nil))) (pe_callTy call_int1 (by rfl) T.z_int (by decide +kernel) (pa_cons (pe_cmpR op_gt (pe_ix ix_list (pv 0) pe_int (fun _ _ => rfl)) pe_int (nomark _)) pa_nil))) pa_nil))))) pss_nil) (pss_one (ps_ret (pe_bm0 PySem.F.plainAttrs_list PySem.F.slot_list_pop PySem.F.type_list_pop mt_pop (pv 0))))), ?_⟩
  have pop : ∀ (ys : List Int) (H1 : Hp), H1 p = some (.lst (ys.map V.int)) → (∀ x ∈ ys, 0 ≤ x ∧ x < 2147483648) → 2 ≤ ys.length → ys.length ≤ 2000 → Fr p H H1 → ∃ y : Int, (ys.map V.int)[(ys.map V.int).length - 1]? = some (V.int y) ∧ Q (.int y) (upd H1 p (.lst ((ys.map V.int).dropLast))) := fun ys H1 e h h2 h3 f => by
    have hl : ys.length - 1 < ys.length := by omega
    refine ⟨ys[ys.length - 1], by rw [List.length_map, List.getElem?_map, List.getElem?_eq_getElem hl]; rfl, ?_⟩
    have hm := h _ (List.getElem_mem hl)
    exact q _ _ hm.1 hm.2 (fun b o n e1 => by rw [upd_ne n]; exact f b o n e1) ⟨ys.dropLast, by rw [upd_same, List.map_dropLast], fun x hx => h x (List.dropLast_subset _ hx), by rw [List.length_dropLast]; omega, by rw [List.length_dropLast]; omega⟩
  refine ⟨_, rfl, p, _, rfl, .inl (SqL.of hp), rfl, _, rfl, ?_⟩
  rw [List.length_map]
  by_cases hu : xs.length = 1
  · obtain ⟨x, rfl⟩ : ∃ x, xs = [x] := by
      match xs, hu with
      | [x], _ => exact ⟨x, rfl⟩
    obtain ⟨x0, x1⟩ := hx x (List.mem_singleton.mpr rfl)
    refine eqT (by rw [hu]; rfl) ?_
    refine ⟨_, rfl, .inl ⟨rfl, _, SqL.of hp⟩, _, rfl, p, _, 0, .int x, rfl, rfl, SqL.of hp, atI_nat (j := 0) rfl, x, 7, rfl, by decide, by decide, fun y y0 y1 => ?_⟩
    refine ⟨_, rfl, p, _, 0, .int x, rfl, rfl, SqL.of hp, atI_nat (j := 0) rfl, _, _, rfl, rfl, .inr ⟨_, rfl, y, _, rfl, rfl, .inl ⟨by omega, by omega⟩, ?_⟩⟩
    have e : ∀ b : Bool, 0 ≤ y * (if b = true then 1 else 0) ∧ y * (if b = true then 1 else 0) < 268435456 := fun b => by cases b <;> simp <;> omega
    obtain ⟨z0, z1⟩ := e (decide (0 < x))
    refine ⟨p, _, 0, _, rfl, rfl, hp, (by show 1 < sizeLine; decide), by decide, by decide, ?_⟩
    have eu : upd H p (.lst ([V.int x].take (0 : Int).toNat ++ [V.int (y * (if decide (0 < x) = true then 1 else 0))] ++ [V.int x].drop (0 : Int).toNat)) p = some (.lst ([y * (if decide (0 < x) = true then 1 else 0), x].map V.int)) := upd_same
    obtain ⟨y2, k1, k2⟩ := pop [y * (if decide (0 < x) = true then 1 else 0), x] _ eu (fun z hz => by
      simp only [List.mem_cons, List.not_mem_nil, or_false] at hz
      rcases hz with rfl | rfl
      · exact ⟨z0, by omega⟩
      · exact ⟨x0, x1⟩) (by show 2 ≤ 2; decide) (by show 2 ≤ 2000; decide) (fun b o n e1 => by rw [upd_ne n]; exact e1)
    exact ⟨_, rfl, .inl ⟨rfl, _, SqL.of eu⟩, p, _, _, rfl, rfl, eu, k1, k2⟩
  · refine eqF (fun e => hu (by have := V.int.inj e; omega)) ?_
    obtain ⟨y, h1, h2⟩ := pop xs H hp hx (by omega) l2 (Fr.refl p H)
    exact ⟨_, rfl, .inl ⟨rfl, _, SqL.of hp⟩, p, _, _, rfl, rfl, hp, h1, h2⟩
end

mutual
inductive NK (H : Hp) : NestedKey → V → Prop
  | int (i : Int) : NK H (.num i) (.int i)
  | text (x : Str) : NK H (.text x) (.str x)
  | tup {a : Addr} {vs : List V} {ks : List NestedKey} : H a = some (.tup vs) → NKs H ks vs → NK H (.tup ks) (.ref a)
inductive NKs (H : Hp) : List NestedKey → List V → Prop
  | nil : NKs H [] []
  | cons {k : NestedKey} {v : V} {ks : List NestedKey} {vs : List V} : NK H k v → NKs H ks vs → NKs H (k :: ks) (v :: vs)
end
section
variable {X : Cx} {pins : List (Addr × Obj)} {σ : L2.St} {H H' : Hp} {s : Shared}
mutual
theorem NK.is (I : Inv X pins σ H s) : ∀ {k : NestedKey} {v : V} {u : Value}, NK H k v → RelV v u → NestedIs s.heap k u
  | _, _, _, .int i, r => by
    obtain ⟨t, rfl⟩ := r
    exact .int i t
  | _, _, _, .text x, r => by
    obtain ⟨t, rfl⟩ := r
    exact .text x t
  | _, _, _, .tup h1 h2, r => by
    cases r
    obtain ⟨_, its, rv, o, e1, e2, n, e3⟩ := I.hok _ _ h1
    exact .tup e1 e2 e3 (by simpa using NKs.is I h2 rv)
theorem NKs.is (I : Inv X pins σ H s) : ∀ {ks : List NestedKey} {vs : List V} {us : List Value}, NKs H ks vs → Vals vs us → NestedAll s.heap ks us
  | _, _, _, .nil, r => by cases r; exact .nil
  | _, _, _, .cons a b, r => by
    cases r with
    | cons r1 r2 => exact .cons (NK.is I a r1) (NKs.is I b r2)
end
mutual
theorem NK.keep (f : ∀ b xs, H b = some (.tup xs) → H' b = some (.tup xs)) : ∀ {k : NestedKey} {v : V}, NK H k v → NK H' k v
  | _, _, .int i => .int i
  | _, _, .text x => .text x
  | _, _, .tup h1 h2 => .tup (f _ _ h1) (NKs.keep f h2)
theorem NKs.keep (f : ∀ b xs, H b = some (.tup xs) → H' b = some (.tup xs)) : ∀ {ks : List NestedKey} {vs : List V}, NKs H ks vs → NKs H' ks vs
  | _, _, .nil => .nil
  | _, _, .cons a b => .cons (NK.keep f a) (NKs.keep f b)
end
end
abbrev NRow := NestedKey × Addr × V
def DictN (P : Program) (w : World) (a : Addr) (xs : List NRow) : HO := .ext fun h => (a == sysModules) = false ∧ xs.length ≤ sizeLine ∧ ∃ us : List (NestedKey × Addr × Value), Paired (fun (p : NRow) (q : NestedKey × Addr × Value) => p.1 = q.1 ∧ p.2.1 = q.2.1 ∧ RelV p.2.2 q.2.2) xs us ∧
  ∃ o es ep, h.get? a = some o ∧ o.ExactDict ∧ o.data = .dict es ep ∧ es.toList = us.map (entryOfKey (nestedKind P w)) ∧ (us.map (·.1)).Nodup
theorem dictN_ok {P : Program} {w : World} {H : Hp} {h : Heap} {a : Addr} {xs : List NRow} (h1 : (a == sysModules) = false) (h2 : xs.length ≤ sizeLine) {us : List (NestedKey × Addr × Value)} (h3 : Paired (fun (p : NRow) (q : NestedKey × Addr × Value) => p.1 = q.1 ∧ p.2.1 = q.2.1 ∧ RelV p.2.2 q.2.2) xs us)
    (h4 : ∃ o es ep, h.get? a = some o ∧ o.ExactDict ∧ o.data = .dict es ep ∧ es.toList = us.map (entryOfKey (nestedKind P w)) ∧ (us.map (·.1)).Nodup) : ObjOk P w H h a (DictN P w a xs) :=
  ⟨⟨h1, h2, us, h3, h4⟩, (let ⟨o, _, _, e, _⟩ := h4; ⟨o, e⟩), fun _ _ ⟨b1, b2, us, b3, o, es, ep, e, r⟩ k => ⟨b1, b2, us, b3, o, es, ep, k o e, r⟩⟩
def RowsN (H : Hp) (xs : List NRow) : Prop := ∀ x ∈ xs, NK H x.1 (.ref x.2.1) ∧ x.1.depth ≤ 8
def atN (xs : List NRow) (k : NestedKey) : Option V := (xs.find? fun x => decide (x.1 = k)).map (·.2.2)
section
variable {X : Cx} {pins : List (Addr × Obj)} {σ : L2.St} {H : Hp} {s : Shared} {a : Addr} {xs : List NRow}
theorem dictN_of (I : Inv X pins σ H s) (h : H a = some (DictN X.prog X.w a xs)) (hk : RowsN H xs) : (a == sysModules) = false ∧ ∃ us : List (NestedKey × Addr × Value), Paired (fun (p : NRow) (q : NestedKey × Addr × Value) => p.1 = q.1 ∧ p.2.1 = q.2.1 ∧ RelV p.2.2 q.2.2) xs us ∧ s.heap.DictOfH (nestedKind X.prog X.w) a us := by
  obtain ⟨⟨h1, h2, us, h3, o, es, ep, e1, e2, e3, e4, e5⟩, _, _⟩ := I.hok _ _ h
  refine ⟨h1, us, h3, o, es, ep, e1, e2, e3, e4, fun u hu => ?_, e5⟩
  have : ∀ (xs : List NRow) (us : List (NestedKey × Addr × Value)), Paired (fun (p : NRow) (q : NestedKey × Addr × Value) => p.1 = q.1 ∧ p.2.1 = q.2.1 ∧ RelV p.2.2 q.2.2) xs us → RowsN H xs → ∀ u ∈ us, (nestedKind X.prog X.w).is s.heap u.1 u.2.1 := by
    intro xs us p
    induction p with
    | nil => intro _ u hu; cases hu
    | cons r t ih =>
      intro hk u hu
      rcases List.mem_cons.mp hu with rfl | hu
      · obtain ⟨n1, n2⟩ := hk _ List.mem_cons_self
        refine ⟨?_, ?_⟩
        · rw [← r.1, ← r.2.1]
          exact NK.is I n1 rfl
        · rw [← r.1]
          exact n2
      · exact ih (fun x hx => hk x (List.mem_cons_of_mem _ hx)) u hu
  exact this _ _ h3 hk u hu
def tDGetN (P : Program) (w : World) (td ty : TE) : TE := fun σ H Q => td σ H fun x H1 => ty σ H1 fun y H2 => ∃ (a b : Addr) (xs : List NRow) (k : NestedKey) (v : V), x = .ref a ∧ y = .ref b ∧ H2 a = some (DictN P w a xs) ∧ RowsN H2 xs ∧ NK H2 k (.ref b) ∧ k.depth ≤ 8 ∧ atN xs k = some v ∧ Q v H2
theorem atN_pairs {k : NestedKey} {xs : List NRow} {us : List (NestedKey × Addr × Value)} (p : Paired (fun (p : NRow) (q : NestedKey × Addr × Value) => p.1 = q.1 ∧ p.2.1 = q.2.1 ∧ RelV p.2.2 q.2.2) xs us) : (∃ v u, atN xs k = some v ∧ valueAt (pairsH us) k = some u ∧ RelV v u) ∨ (atN xs k = none ∧ valueAt (pairsH us) k = none) := by
  induction p with
  | nil => exact .inr ⟨rfl, rfl⟩
  | cons r t ih =>
    rename_i x u xs us
    by_cases e : x.1 = k
    · have e2 : u.1 = k := r.1.symm.trans e
      exact .inl ⟨x.2.2, u.2.2, by simp [atN, e], by simp [valueAt, pairsH, e2], r.2.2⟩
    · have e2 : ¬ u.1 = k := fun z => e (r.1.trans z)
      have a1 : atN (x :: xs) k = atN xs k := by simp [atN, List.find?_cons, e]
      have a2 : valueAt (pairsH (u :: us)) k = valueAt (pairsH us) k := by simp [valueAt, pairsH, List.find?_cons, e2]
      rw [a1, a2]
      exact ih
theorem pe_dgetN {o i : PySem.Expr} {td ty : TE} {pos : Pos} (hu : X.A.units + 9 < cLine) (ho : PE X o td) (hi : PE X i ty) (hs : NoSl i) : PE X (.Subscript o i pos) (tDGetN X.prog X.w td ty) := by
  refine ⟨fun pins s σ H Q I h => ?_⟩
  refine subD_of PySem.F.slot_dict_getitem.lookup hs (thn (ho.run pins s σ H _ I h) fun u s1 ⟨x, H1, I1, rx, q1⟩ => thn (hi.run pins s1 σ H1 _ I1 q1) fun iv s2 ⟨y, H2, I2, ry, a, b, xs, k, v, ex, ey, g, gr, gk, gd, ga, q2⟩ => ?_)
  subst ex ey
  cases rx
  cases ry
  obtain ⟨ha, us, hp, hm⟩ := dictN_of I2 g gr
  rcases atN_pairs (k := k) hp with ⟨v', uv, e1, e2, rv⟩ | ⟨e1, _⟩
  · have ev := Option.some.inj (e1.symm.trans ga)
    subst ev
    exact ⟨hm.typeIs, getItem_keyed (knd := nestedKind X.prog X.w) (show X.A.units + 1 + 8 < cLine by omega) ⟨NK.is I2 gk rfl, gd⟩ ⟨us, hm, rfl⟩ e2 ⟨_, H2, I2.tok _, rv, q2⟩⟩
  · rw [ga] at e1
    cases e1
def rInN (P : Program) (w : World) : R2 := fun y x H Q => ∃ (a b : Addr) (xs : List NRow) (k : NestedKey), x = .ref a ∧ y = .ref b ∧ H a = some (DictN P w a xs) ∧ RowsN H xs ∧ NK H k (.ref b) ∧ k.depth ≤ 8 ∧ Q (.bl (atN xs k).isSome) H
theorem op_inN (hu : X.A.units + 9 < cLine) : OpR X (compareOp .In) (rInN X.prog X.w) := by
  intro pins s σ H y x u iv Q I ry rx h
  obtain ⟨a, b, xs, k, rfl, rfl, g, gr, gk, gd, q⟩ := h
  cases rx
  cases ry
  obtain ⟨ha, us, hp, hm⟩ := dictN_of I g gr
  refine in_keyed (knd := nestedKind X.prog X.w) (show X.A.units + 1 + 8 < cLine by omega) ⟨NK.is I gk rfl, gd⟩ ha ⟨us, hm, rfl⟩ ?_
  rcases atN_pairs (k := k) hp with ⟨v', uv, e1, e2, _⟩ | ⟨e1, e2⟩
  · rw [e1] at q
    rw [e2]
    exact ⟨.bl true, H, I.tok _, rfl, q⟩
  · rw [e1] at q
    rw [e2]
    exact ⟨.bl false, H, I.tok _, rfl, q⟩
def rNotInN (P : Program) (w : World) : R2 := fun y x H Q => ∃ (a b : Addr) (xs : List NRow) (k : NestedKey), x = .ref a ∧ y = .ref b ∧ H a = some (DictN P w a xs) ∧ RowsN H xs ∧ NK H k (.ref b) ∧ k.depth ≤ 8 ∧ Q (.bl (!(atN xs k).isSome)) H
theorem op_notInN (hu : X.A.units + 9 < cLine) : OpR X (compareOp .NotIn) (rNotInN X.prog X.w) := by
  intro pins s σ H y x u iv Q I ry rx h
  obtain ⟨a, b, xs, k, rfl, rfl, g, gr, gk, gd, q⟩ := h
  cases rx
  cases ry
  obtain ⟨ha, us, hp, hm⟩ := dictN_of I g gr
  refine notIn_keyed (knd := nestedKind X.prog X.w) (show X.A.units + 1 + 8 < cLine by omega) ⟨NK.is I gk rfl, gd⟩ ha ⟨us, hm, rfl⟩ ?_
  rcases atN_pairs (k := k) hp with ⟨v', uv, e1, e2, _⟩ | ⟨e1, e2⟩
  · rw [e1] at q
    rw [e2]
    exact ⟨.bl false, H, I.tok _, rfl, q⟩
  · rw [e1] at q
    rw [e2]
    exact ⟨.bl true, H, I.tok _, rfl, q⟩
def storedN (xs : List NRow) (k : NestedKey) (b : Addr) (v : V) : List NRow := if (atN xs k).isSome then xs.map (fun x => if x.1 = k then (x.1, x.2.1, v) else x) else xs ++ [(k, b, v)]
abbrev RowsP (xs : List NRow) (us : List (NestedKey × Addr × Value)) : Prop := Paired (fun (p : NRow) (q : NestedKey × Addr × Value) => p.1 = q.1 ∧ p.2.1 = q.2.1 ∧ RelV p.2.2 q.2.2) xs us
theorem rows_map {k : NestedKey} {v : V} {u : Value} (rv : RelV v u) : ∀ {xs : List NRow} {us : List (NestedKey × Addr × Value)}, RowsP xs us → RowsP (xs.map (fun x => if x.1 = k then (x.1, x.2.1, v) else x)) (us.map (putAt k u))
  | _, _, .nil => .nil
  | x :: xs, y :: us, .cons r t => by
    refine .cons ?_ (rows_map rv t)
    show (if x.1 = k then (x.1, x.2.1, v) else x).1 = (putAt k u y).1 ∧ (if x.1 = k then (x.1, x.2.1, v) else x).2.1 = (putAt k u y).2.1 ∧ RelV (if x.1 = k then (x.1, x.2.1, v) else x).2.2 (putAt k u y).2.2
    unfold putAt
    by_cases e : x.1 = k
    · rw [if_pos e, if_pos (r.1.symm.trans e)]
      exact ⟨r.1, r.2.1, rv⟩
    · rw [if_neg e, if_neg (fun z => e (r.1.trans z))]
      exact r
theorem rows_app {k : NestedKey} {b : Addr} {v : V} {u : Value} (rv : RelV v u) : ∀ {xs : List NRow} {us : List (NestedKey × Addr × Value)}, RowsP xs us → RowsP (xs ++ [(k, b, v)]) (us ++ [(k, b, u)])
  | _, _, .nil => .cons ⟨rfl, rfl, rv⟩ .nil
  | _ :: _, _ :: _, .cons r t => .cons r (rows_app rv t)
theorem stored_pairs {k : NestedKey} {b : Addr} {v : V} {u : Value} (rv : RelV v u) {xs : List NRow} {us : List (NestedKey × Addr × Value)} (p : Paired (fun (p : NRow) (q : NestedKey × Addr × Value) => p.1 = q.1 ∧ p.2.1 = q.2.1 ∧ RelV p.2.2 q.2.2) xs us) :
    Paired (fun (p : NRow) (q : NestedKey × Addr × Value) => p.1 = q.1 ∧ p.2.1 = q.2.1 ∧ RelV p.2.2 q.2.2) (storedN xs k b v) (storedH us k b u) := by
  have hs : (atN xs k).isSome = (atKey us k).isSome := by
    have e : valueAt (pairsH us) k = (atKey us k).map (·.2) := valueAt_pairsH us k
    rcases atN_pairs (k := k) p with ⟨v', u', e1, e2, _⟩ | ⟨e1, e2⟩
    · rw [e1]
      rw [e2] at e
      cases h : atKey us k with
      | none => rw [h] at e; cases e
      | some _ => rfl
    · rw [e1]
      rw [e2] at e
      cases h : atKey us k with
      | none => rfl
      | some _ => rw [h] at e; cases e
  unfold storedN storedH
  rw [hs]
  split
  · exact rows_map rv p
  · exact rows_app rv p
theorem storedN_len (xs : List NRow) (k : NestedKey) (b : Addr) (v : V) : (storedN xs k b v).length ≤ xs.length + 1 := by
  unfold storedN
  split
  · rw [List.length_map]; omega
  · rw [List.length_append]; exact Nat.le_refl _
def sDPutN (P : Program) (w : World) (td ty tv : TE) : TS := fun D σ H => tv σ H fun v H1 => td σ H1 fun x H2 => ty σ H2 fun y H3 => ∃ (a b : Addr) (xs : List NRow) (k : NestedKey), x = .ref a ∧ y = .ref b ∧ H3 a = some (DictN P w a xs) ∧ RowsN H3 xs ∧ NK H3 k (.ref b) ∧ k.depth ≤ 8 ∧ xs.length < sizeLine ∧ D.nx σ (upd H3 a (DictN P w a (storedN xs k b v)))
theorem ps_dputN {o i value : PySem.Expr} {td ty tv : TE} {pos pos' : Pos} (hu : X.A.units + 9 < cLine) (ho : PE X o td) (hi : PE X i ty) (hv : PE X value tv) (hs : swapsWith value (some (.Subscript o i pos')) pos.line X.env = pure false) :
    PS X (.Assign [.Subscript o i pos'] value pos) (sDPutN X.prog X.w td ty tv) := by
  refine ⟨fun pins s σ H D I h => ?_⟩
  refine wpAny_Assign_Subscript (thn (hv.run pins s σ H _ I h) fun r s1 ⟨v, H1, I1, rv, q1⟩ => thn (ho.run pins s1 σ H1 _ I1 q1) fun u s2 ⟨x, H2, I2, rx, q2⟩ => thn (hi.run pins s2 σ H2 _ I2 q2) fun iv s3 ⟨y, H3, I3, ry, a, b, xs, k, ex, ey, g, gr, gk, gd, gz, q3⟩ => ?_) hs
  subst ex ey
  cases rx
  cases ry
  obtain ⟨ha, us, hp, hm⟩ := dictN_of I3 g gr
  have hl : us.length ≤ sizeLine := by rw [← Paired.length hp]; omega
  refine wpAny_setItem_heap (knd := nestedKind X.prog X.w) (hsz := hl) (show X.A.units + 1 + 8 < cLine by omega) ⟨NK.is I3 gk rfl, gd⟩ hm fun h' hm' sb => ?_
  obtain ⟨ob, es, ep, e1, e2, e3, e4, _, e5⟩ := hm'
  have hz : (storedN xs k b v).length ≤ sizeLine := by have := storedN_len xs k b v; omega
  exact ⟨σ, _, d_write I3 (by rw [g]; exact True.intro) sb ⟨ob, e1⟩ (dictN_ok ha hz (stored_pairs rv hp) ⟨ob, es, ep, e1, e2, e3, e4, e5⟩), q3⟩
theorem pe_dnewN {pos : Pos} : PE X (.Dict [] [] pos) (fun _ H Q => ∀ p, H p = none → Q (.ref p) (upd H p (DictN X.prog X.w p []))) := ⟨fun pins s σ H Q I h =>
  wpAny_Dict_empty ⟨.ref s.heap.objs.size, _, I.laid (a := s.heap.objs.size) (o := DictN X.prog X.w s.heap.objs.size []) (t' := s.toks) (fun _ _ q => Heap.get?_push_of_some _ q) (Nat.le_refl _)
    (dictN_ok (beq_eq_false_iff_ne.mpr (Ne.symm (Nat.ne_of_lt I.big))) (Nat.zero_le _) .nil ⟨_, #[], 0, Heap.get?_push_size _ rfl, ⟨rfl, rfl, rfl⟩, rfl, rfl, List.nodup_nil⟩), rfl, h _ (I.hok.fresh (Nat.le_refl _))⟩⟩
end
theorem frzN {X : Cx} {pins : List (Addr × Obj)} {σ : L2.St} {H : Hp} {s : Shared} {a : Addr} {o : Obj} {xs : List NRow} (I : Inv X pins σ H s) (h : H a = some (.frz o (DictN X.prog X.w a xs))) :
    (a == sysModules) = false ∧ s.heap.get? a = some o ∧ o.ExactDict ∧ ∃ (es : Array DictEntry) (ep : Nat), o.data = .dict es ep ∧ es.size = xs.length ∧ ∀ (i : Nat) (row : NRow), xs[i]? = some row → ∃ en : DictEntry, es[i]? = some en ∧ en.key = Value.ref row.2.1 ∧ RelV row.2.2 en.val := by
  obtain ⟨hg, ⟨h1, h2, us, h3, o2, es, ep, e1, e2, e3, e4, e5⟩, _, _⟩ := I.hok _ _ h
  have eo : o2 = o := Option.some.inj (e1.symm.trans hg)
  subst eo
  have hl : us.length = es.size := by
    have := congrArg List.length e4
    rw [List.length_map, Array.length_toList] at this
    exact this.symm
  refine ⟨h1, hg, e2, es, ep, e3, by rw [← hl]; exact (Paired.length h3).symm, fun i row hr => ?_⟩
  have : ∀ (xs : List NRow) (us : List (NestedKey × Addr × Value)), RowsP xs us → ∀ (i : Nat) (row : NRow), xs[i]? = some row → ∃ u : NestedKey × Addr × Value, us[i]? = some u ∧ u.2.1 = row.2.1 ∧ RelV row.2.2 u.2.2 := by
    intro xs us p
    induction p with
    | nil => intro i row h; cases h
    | cons r t ih =>
      intro i row h
      cases i with
      | zero => cases h; exact ⟨_, rfl, r.2.1.symm, r.2.2⟩
      | succ i => exact ih i row (by simpa using h)
  obtain ⟨u, hu, k1, k2⟩ := this _ _ h3 i row hr
  refine ⟨entryOfKey (nestedKind X.prog X.w) u, ?_, by show Value.ref u.2.1 = _; rw [k1], k2⟩
  rw [← Array.getElem?_toList, e4, List.getElem?_map, hu]
  rfl
def ItkN (P : Program) (w : World) (d : Addr) (o : Obj) (xs : List NRow) : It :=
  ⟨fun i H => H d = some (.frz o (DictN P w d xs)) ∧ i < xs.length, fun i H x H' => H' = H ∧ ∃ row, xs[i]? = some row ∧ x = .ref row.2.1, fun i H => H d = some (.frz o (DictN P w d xs)) ∧ xs.length ≤ i⟩
theorem turn_keysN {P : Program} {w : World} {K : PySem.W.Frag} {tg : PySem.Expr} {d : Addr} {o : Obj} {es : Array DictEntry} {ep : Nat} {xs : List NRow} (it : Addr) (hod : o.data = .dict es ep) : Turn P w K tg (ItkN P w d o xs) [it] it (fun i h => h.IsKeyIter it d i xs.length ep) where
  mem := List.mem_singleton.mpr rfl
  obj := by
    intro i h st b hb
    cases List.mem_singleton.mp hb
    obtain ⟨x, e, c, dd⟩ := st
    exact ⟨x, e, fun v z => by rw [dd] at z; cases z⟩
  keep := by
    intro i h h' st k
    exact st.at fun x e => k it (List.mem_singleton.mpr rfl) x e
  item := by
    intro X hP hw hK hc i pins s σ H E I hf st hg
    subst hP hw hK
    obtain ⟨hd, hi⟩ := hg
    obtain ⟨z0, z1, z2, z3, z4, z5⟩ := hf it (List.mem_singleton.mpr rfl)
    obtain ⟨hs, hgd, hx, es2, ep2, hdt, hsz, ent⟩ := frzN I hd
    obtain ⟨rfl, rfl⟩ := dict_ep hod hdt
    obtain ⟨row, hrow⟩ : ∃ row, xs[i]? = some row := ⟨_, List.getElem?_eq_getElem hi⟩
    obtain ⟨en, hen, hkey, _⟩ := ent i row hrow
    refine next_key_item st hgd hdt hsz hen fun h' st' sb => ?_
    have J : Inv X pins σ H { s with heap := h' } := I.turned (t' := s.toks) (fun b ob hb e => (sb.2 b hb).trans e) z0 z1 z3 z4 z5
    obtain ⟨x, e, c, dd⟩ := id st'
    exact ⟨en.key, rfl, go_of (s := { s with heap := h' }) e c dd (by decide) ⟨.ref row.2.1, H, J, hkey, ⟨rfl, row, hrow, rfl⟩, st', fun b hb => (hf b hb).1⟩⟩
  done := by
    intro X hP hw hK hc i pins s σ H E I hf st hg
    subst hP hw hK
    obtain ⟨hd, hi⟩ := hg
    obtain ⟨z0, z1, z2, z3, z4, z5⟩ := hf it (List.mem_singleton.mpr rfl)
    obtain ⟨hs, hgd, hx, es2, ep2, hdt, hsz, ent⟩ := frzN I hd
    obtain ⟨rfl, rfl⟩ := dict_ep hod hdt
    exact next_key_end (I.ok.hd hc) st hgd hdt hsz hi fun h' eb => ⟨rfl, I.turned (t' := s.toks) (fun b ob hb e => eb b ob hb e) z0 z1 z3 z4 z5⟩
  self := fun A i s Q E st h => wpAny_pyIter_keyiter st h
def iKeysN (P : Program) (w : World) (td : TE) : TI := fun σ H R => td σ H fun x H1 => ∃ d o xs, x = .ref d ∧ H1 d = some (.frz o (DictN P w d xs)) ∧ R (ItkN P w d o xs) H1
theorem pi_keysN {X : Cx} {tg e : PySem.Expr} {td : TE} (he : PE X e td) : PI X tg e (iKeysN X.prog X.w td) := by
  refine ⟨fun pins s σ H R I h => ?_⟩
  refine thn (he.run pins s σ H _ I h) fun u s1 ⟨x, H1, I1, rx, d, o, xs, ex, hd, q⟩ => ?_
  subst ex
  cases rx
  obtain ⟨hs, hgd, hx, es, ep, hdt, hsz, ent⟩ := frzN I1 hd
  refine iter_keys hs hgd hx hdt (pi_one (tk := s1.toks) I1 _ (turn_keysN _ hdt) ⟨_, Heap.get?_push_size _ rfl, rfl, ?_⟩ q)
  rw [hsz] <;> rfl
theorem walk_keysN {P : Program} {w : World} {d : Addr} {o : Obj} {xs : List NRow} : Walk (ItkN P w d o xs) xs.length (fun H => H d = some (.frz o (DictN P w d xs))) (fun i H x H' => H' = H ∧ ∃ row, xs[i]? = some row ∧ x = .ref row.2.1) :=
  ⟨fun _ _ hi q => ⟨q, hi⟩, fun _ q => ⟨q, Nat.le_refl _⟩, fun _ _ _ _ _ _ y => y⟩
theorem roomN {k : Nat} {A : Around} (r : Room k A) : A.units + 9 < cLine := by have := r.un; omega
theorem call_lenN {X : Cx} : CallR X (.builtin "len") (fun xs H Q => ∃ (a : Addr) (rows : List NRow), xs = [.ref a] ∧ H a = some (DictN X.prog X.w a rows) ∧ RowsN H rows ∧ Q (.int (rows.length : Nat)) H) := by
  intro pins s σ H xs us Q I r h
  obtain ⟨a, rows, rfl, g, gr, q⟩ := h
  have hz : rows.length ≤ sizeLine := by
    obtain ⟨⟨_, h2, _⟩, _, _⟩ := I.hok _ _ g
    exact h2
  cases r with
  | cons r1 r2 =>
    cases r2
    cases r1
    obtain ⟨ha, us, hp, hm⟩ := dictN_of I g gr
    have hl : (pairsH us).length = rows.length := by
      rw [pairsH_length]
      exact (Paired.length hp).symm
    refine PyProof.Rows.call_len_slot (n := (pairsH us).length) hm.typeIs PySem.F.slot_dict_len (fun Q' hq => len_keyed (knd := nestedKind X.prog X.w) ha ⟨us, hm, rfl⟩ hq) (by omega) (by rw [hl]; rw [sizeLine_eq] at hz; omega) ?_
    rw [hl]
    exact ⟨.int _, H, I.tok _, ⟨_, rfl⟩, q⟩

def ItiN (P : Program) (w : World) (d : Addr) (o : Obj) (xs : List NRow) : It :=
  ⟨fun n H => H d = some (.frz o (DictN P w d xs)) ∧ n < xs.length, fun n H v H' => ∃ (p : Addr) (row : NRow), xs[n]? = some row ∧ v = .ref p ∧ H p = none ∧ H' = upd H p (.tup [.ref row.2.1, row.2.2]), fun n H => H d = some (.frz o (DictN P w d xs)) ∧ xs.length ≤ n⟩
theorem turn_itemsN {P : Program} {w : World} {K : PySem.W.Frag} {parts : List PySem.Expr} {many : Nat} {at_ : Pos} {d : Addr} {o : Obj} {es : Array DictEntry} {ep : Nat} {xs : List NRow} (it : Addr) (hod : o.data = .dict es ep) :
    Turn P w K (.Tuple parts many at_) (ItiN P w d o xs) [it] it (fun n h => ∃ x y, IsItemIter h it d n xs.length ep x y) where
  mem := List.mem_singleton.mpr rfl
  obj := by
    rintro n h ⟨x, y, e⟩ b hb
    cases List.mem_singleton.mp hb
    exact ⟨_, e, fun v z => nomatch z⟩
  keep := by
    rintro n h h' ⟨x, y, e⟩ k
    exact ⟨x, y, k it (List.mem_singleton.mpr rfl) _ e⟩
  item := by
    rintro X rfl rfl rfl calm n pins s σ H E I free ⟨x, y, here⟩ ⟨hd, more⟩
    obtain ⟨sys, got, exact_, es2, ep2, hdt, hsz, ent⟩ := frzN I hd
    obtain ⟨rfl, rfl⟩ := dict_ep hod hdt
    obtain ⟨row, hrow⟩ : ∃ row, xs[n]? = some row := ⟨_, List.getElem?_eq_getElem more⟩
    obtain ⟨en, hen, hkey, hval⟩ := ent n row hrow
    rw [← hsz] at here more
    have een : es2[n] = en := by
      have := List.getElem?_eq_some_iff.mp (show es2.toList[n]? = some en by rw [Array.getElem?_toList]; exact hen)
      simpa using this.2
    have low : it < s.heap.objs.size := Heap.lt_size here
    refine DT.nextI here ⟨o, got, exact_, hdt⟩ more fun h1 out tup _ stays => ?_
    refine ⟨_, rfl, wpAny_letOwnedTupleGo_items (s := { s with heap := h1 }) out fun h2 back but => ?_⟩
    rw [een] at tup back
    have tup2 : h2.get? s.heap.objs.size = some { cls := .type "tuple", data := .seq #[en.key, en.val] } := (but.2 _ (Nat.ne_of_gt low)).trans tup
    have made : ObjOk X.prog X.w (upd H s.heap.objs.size (.tup [.ref row.2.1, row.2.2])) h2 s.heap.objs.size (.tup [.ref row.2.1, row.2.2]) :=
      ⟨by show 2 ≤ sizeLine; decide, [en.key, en.val], .cons hkey (.cons hval .nil), _, tup2, rfl, _, rfl⟩
    have J : Inv X pins σ (upd H s.heap.objs.size (.tup [.ref row.2.1, row.2.2])) { s with heap := h2 } :=
      I.turnedNew (t' := s.toks) (ch := [it]) (fun b ob hb e => by
        have ne : b ≠ it := fun z => hb (by rw [z]; exact List.mem_singleton.mpr rfl)
        exact (but.2 b ne).trans (stays b ob ne e)) free (Nat.le_refl _) made
    refine ⟨.ref s.heap.objs.size, _, J, rfl, ⟨_, row, hrow, rfl, I.hok.fresh (Nat.le_refl _), rfl⟩, ⟨en.key, en.val, ?_⟩, fun b hb => ?_⟩
    · rw [← hsz]
      exact back
    · cases List.mem_singleton.mp hb
      rw [upd_ne (Nat.ne_of_lt low)]
      exact (free it (List.mem_singleton.mpr rfl)).1
  done := by
    rintro X rfl rfl rfl calm n pins s σ H E I free ⟨x, y, here⟩ ⟨hd, over⟩
    obtain ⟨z0, z1, z2, z3, z4, z5⟩ := free it (List.mem_singleton.mpr rfl)
    obtain ⟨sys, got, exact_, es2, ep2, hdt, hsz, _⟩ := frzN I hd
    obtain ⟨rfl, rfl⟩ := dict_ep hod hdt
    rw [← hsz] at here over
    exact DT.endI (I.ok.hd calm) here ⟨o, got, exact_, hdt⟩ over fun h' eb => ⟨rfl, I.turned (t' := s.toks) (fun b ob hb e => eb b ob hb e) z0 z1 z3 z4 z5⟩
  self := fun A i s Q E st h => let ⟨_, _, e⟩ := st; PySem.W.kcp_self e h
def iItemsN (P : Program) (w : World) (td : TE) : TI := fun σ H R => td σ H fun x H1 => ∃ d o xs, x = .ref d ∧ H1 d = some (.frz o (DictN P w d xs)) ∧ R (ItiN P w d o xs) H1
theorem pi_itemsN {X : Cx} {e : PySem.Expr} {td : TE} {parts : List PySem.Expr} {many : Nat} {at_ at1 at2 : Pos} (he : PE X e td) (base : attributeBase e "items" X.env (eval e X.env) = eval e X.env := by rfl) (line : (at1.endLine == at2.line) = true := by rfl) :
    PI X (.Tuple parts many at_) (.Call (.Attribute e "items" at1) [] [] at2) (iItemsN X.prog X.w td) := by
  refine ⟨fun pins s σ H R I h => wpAny_Call_method (T := "dict") (id := "dict.items") base rfl line F.plainAttrs_dict F.slot_dict_items F.type_dict_items (thn (he.run pins s σ H _ I h) ?_)⟩
  rintro u s1 ⟨x, H1, I1, rx, d, o, xs, rfl, hd, q⟩
  obtain rfl : u = Value.ref d := rx
  obtain ⟨sys, got, exact_, es, ep, hdt, hsz, _⟩ := frzN I1 hd
  have raw : DT.Raw s1.heap d es ep := ⟨o, got, exact_, hdt⟩
  refine ⟨raw.typeIs, (fun a e => by cases e; exact ⟨o, got, exact_.2.1⟩), ?_⟩
  have I2 : Inv X pins σ H1 { s1 with heap := s1.heap.push { cls := .type "dict_items", data := .fields #[.ref d] } } := I1.kept (t' := s1.toks) fun b ob z => Heap.get?_push_of_some _ z
  have go : wpAny (model X.prog X.w) X.A (pyIter (.ref s1.heap.objs.size)) (PIE X pins σ (.Tuple parts many at_) R) X.xe { s1 with heap := s1.heap.push { cls := .type "dict_items", data := .fields #[.ref d] } } := by
    refine DT.iterI (d := d) (es := es) (ep := ep) ⟨_, Heap.get?_push_size _ rfl, rfl, rfl⟩ (raw.push _) (pi_one (tk := s1.toks) I2 _ (turn_itemsN _ hdt) ⟨.none, .none, ?_⟩ q)
    rw [← hsz]
    exact Heap.get?_push_size _ rfl
  show wpAny _ _ (callWith at2 (.builtin "dict.items") [.ref d] [] []) _ X.xe s1
  exact method_meetsIn F.slot_dict_items F.entry_dict_items rfl (PySem.evalArgs_none ⟨rfl, raw.typeIs, F.args_dict_items_1 _, _, DT.meetsItems (es := es) (ep := ep) sys, raw, go⟩)
theorem walk_itemsN {P : Program} {w : World} {d : Addr} {o : Obj} {xs : List NRow} : Walk (ItiN P w d o xs) xs.length (fun H => H d = some (.frz o (DictN P w d xs))) (fun i H x H' => ∃ (p : Addr) (row : NRow), xs[i]? = some row ∧ x = .ref p ∧ H p = none ∧ H' = upd H p (.tup [.ref row.2.1, row.2.2])) :=
  ⟨fun _ _ hi q => ⟨q, hi⟩, fun _ q => ⟨q, Nat.le_refl _⟩, fun _ _ _ _ _ _ y => y⟩
def rIsN (P : Program) (w : World) (K : PySem.W.Frag) : List V → Hp → VK → Prop := fun xs H Q => ∃ (a : Addr) (rows : List NRow) (y : V) (u : Value) (b : Bool), xs = [.ref a, y] ∧ H a = some (DictN P w a rows) ∧ ClsV y u ∧ PySem.W.kitOne K (.type "dict") u = some b ∧ Q (.bl b) H
theorem call_isN {X : Cx} : CallR X (.builtin "isinstance") (rIsN X.prog X.w X.K) := by
  rintro pins s σ H _ us Q I r ⟨a, rows, y, u, b, rfl, ha, hy, hk, q⟩
  obtain ⟨_, u2, rfl, r1, r2⟩ := vals2 r
  obtain rfl := hy.eq r2
  cases r1
  obtain ⟨⟨_, _, _, _, o, _, _, e1, e2, _⟩, _, _⟩ := I.hok a _ ha
  exact PySem.W.kia_one PySem.W.kitx_dict I.kIn ⟨o, e1, e2.1⟩ hk (fun z => nomatch z) fun tk => ⟨.bl b, H, I.tok tk, rfl, q⟩

abbrev InBlk (X : Cx) (scope : PySem.Scope) (F : Cx → Prop) : Prop := ∀ (s : Shared) (H : Hp) (C : Addr) (cl : List (Str × Addr)) (fp : List Addr), F (X.blk s H scope (compEnvC scope cl C X.env) fp)
def tDcN (P : Program) (w : World) (wi : TI) (g : TG) (tt : TT) (tk tv : TE) (vs : List Nat) : TE := fun σ H Q => wi σ H fun J H1 => ∀ D, H1 D = none → ∃ W : Nat → Nat → Hp → Prop, (∃ m, W 0 m (upd H1 D (DictN P w D []))) ∧ ∀ n m H, W n m H →
  ((J.stop n H ∧ Q (.ref D) H) ∨ (J.go n H ∧ ∃ Nx : Hp → Prop, (∀ H', Nx H' → ∃ less, less < m ∧ W (n + 1) less H') ∧ ∀ x H', J.yld n H x H' → g x (wipe σ vs) H' fun σ2 H2 => wipe σ2 vs = wipe σ vs ∧ tt σ2 H2 fun yes H3 =>
    if yes = true then tk σ2 H3 fun y H4 => tv σ2 H4 fun z H5 => ∃ (xs : List NRow) (k : NestedKey) (b : Addr), y = .ref b ∧ H5 D = some (DictN P w D xs) ∧ RowsN H5 xs ∧ NK H5 k (.ref b) ∧ k.depth ≤ 8 ∧ xs.length < sizeLine ∧ Nx (upd H5 D (DictN P w D (storedN xs k b z))) else Nx H3))
section
variable {X : Cx} {pins : List (Addr × Obj)} {σ : L2.St} {H : Hp} {s : Shared}
theorem put_rowN {D b : Addr} {xs : List NRow} {k : NestedKey} {z : V} {r : Value} {E : Value → Shared → Prop} {Q : Unit → Shared → Prop} (hu : X.A.units + 9 < cLine) (I : Inv X pins σ H s) (hD : H D = some (DictN X.prog X.w D xs)) (hr : RowsN H xs) (hk : NK H k (.ref b)) (hd : k.depth ≤ 8) (hz : xs.length < sizeLine) (rv : RelV z r)
    (h : ∀ s', Inv X pins σ (upd H D (DictN X.prog X.w D (storedN xs k b z))) s' → Q () s') : wpAny (model X.prog X.w) X.A (dictSet D (.ref b) r) Q E s := by
  obtain ⟨hs, us, hp, hm⟩ := dictN_of I hD hr
  have hl : us.length ≤ sizeLine := by rw [← Paired.length hp]; omega
  refine wpAny_dictSet_heap (knd := nestedKind X.prog X.w) (hsz := hl) (show X.A.units + 8 < cLine by omega) ⟨NK.is I hk rfl, hd⟩ hm fun h' hm' but => h _ ?_
  obtain ⟨ob, es, ep, e1, e2, e3, e4, _, e5⟩ := hm'
  have fits : (storedN xs k b z).length ≤ sizeLine := by have := storedN_len xs k b z; omega
  exact d_write I (by rw [hD]; exact True.intro) but ⟨ob, e1⟩ (dictN_ok hs fits (stored_pairs rv hp) ⟨ob, es, ep, e1, e2, e3, e4, e5⟩)
theorem pe_dcN {kx vx tg iter : PySem.Expr} {ifs : List PySem.Expr} {scope : PySem.Scope} {own : List (Str × Nat)} {pos : Pos} {wi : TI} {g : TG} {tt : TT} {tk tv : TE} (hu : X.A.units + 9 < cLine) (calm : X.calm = true) (nd : X.N.Nodup) (hi : PI X tg iter wi) (ok : BlkOk X.N X.env.scope scope own)
    (hg : InBlk X scope fun Y => PG Y tg g) (ht : InBlk X scope fun Y => PTs Y ifs tt) (hk : InBlk X scope fun Y => PE Y kx tk) (he : InBlk X scope fun Y => PE Y vx tv) (plain : ∀ x, foldedSetIterable iter X.env x = pure x := by intro _; rfl) :
    PE X (.DictComp kx vx [⟨tg, iter, ifs, 0⟩] scope pos) (tDcN X.prog X.w wi g tt tk tv (own.map (·.2))) := by
  refine ⟨fun pins s σ H Q I h => ?_⟩
  rw [arm_eval_DictComp]
  have known : ∀ y ∈ scope.names, y.2 = .free → ∃ c, X.env.cells.lookup y.1 = some c := fun y hy e => (ok.free y hy e).elim (fun k => I.ok.has _ (.inl k)) (fun k => I.ok.has _ (.inr k))
  refine wpAny_comprehension_free (use := none) rfl plain (closure_ok known) ok.kind (fun y hy e => by rw [ok.uniq y hy, e]) (thn (hi.run pins s σ H _ I h) fun _ t1 a1 => thn a1 fun _ t2 a2 => ?_)
  obtain ⟨it, fp, tn, J, H2, rfl, I2, T, st2, apart, q⟩ := a2
  refine wpAny_newObj_type (newEnv_comp ?_)
  obtain ⟨W, ⟨m0, w0⟩, turn⟩ := q _ (I2.hok.fresh (Nat.le_refl _))
  have nsys : (t2.heap.objs.size == sysModules) = false := beq_eq_false_iff_ne.mpr (Ne.symm (Nat.ne_of_lt I2.big))
  have I3 : Inv X pins σ (upd H2 t2.heap.objs.size (DictN X.prog X.w t2.heap.objs.size [])) { t2 with heap := t2.heap.push { cls := .type "dict", data := .dict #[] } } :=
    I2.laid (t' := t2.toks) (fun _ _ z => Heap.get?_push_of_some _ z) (Nat.le_refl _) (dictN_ok nsys (Nat.zero_le _) .nil ⟨_, #[], 0, Heap.get?_push_size _ rfl, ⟨rfl, rfl, rfl⟩, rfl, rfl, List.nodup_nil⟩)
  have ahead : ∀ b ∈ fp, b < t2.heap.objs.size := fun b hb => let ⟨_, z, _⟩ := T.obj _ _ st2 b hb; Heap.lt_size z
  generalize e3 : ({ t2 with heap := t2.heap.push { cls := .type "dict", data := .dict #[] } } : Shared) = t3 at I3
  have h3 : t3.heap = t2.heap.push { cls := .type "dict", data := .dict #[] } := by rw [← e3]
  have fp3 : ∀ b ∈ fp, FpOk X pins (upd H2 t2.heap.objs.size (DictN X.prog X.w t2.heap.objs.size [])) b ∧ b < t3.heap.objs.size := fun b hb => by
    refine ⟨⟨?_, (apart b hb).2⟩, ?_⟩
    · rw [upd_ne (Nat.ne_of_lt (ahead b hb))]
      exact (apart b hb).1
    · rw [h3, Heap.size_push]
      exact Nat.lt_succ_of_lt (ahead b hb)
  have st3 : tn 0 t3.heap := T.keep _ _ _ st2 fun b _ o z => by rw [h3]; exact Heap.get?_push_of_some _ z
  have I4 := block_start I3 ok nd fp3
  generalize eD : t2.heap.objs.size = D at *
  generalize eH : upd H2 D (DictN X.prog X.w D []) = H3 at *
  have pg := hg t3 H3 t3.heap.objs.size (cellsFrom (t3.heap.objs.size + 1) scope.names (cloFrom X.env.cells scope.names [])) fp
  have pt := ht t3 H3 t3.heap.objs.size (cellsFrom (t3.heap.objs.size + 1) scope.names (cloFrom X.env.cells scope.names [])) fp
  have pk := hk t3 H3 t3.heap.objs.size (cellsFrom (t3.heap.objs.size + 1) scope.names (cloFrom X.env.cells scope.names [])) fp
  have pv := he t3 H3 t3.heap.objs.size (cellsFrom (t3.heap.objs.size + 1) scope.names (cloFrom X.env.cells scope.names [])) fp
  show codeAny _ _ (.compStart (.DictComp kx vx [⟨tg, iter, ifs, 0⟩] scope pos) 0 (.ref it) (.ref D) (compEnvC scope (cellsFrom (t3.heap.objs.size + 1) scope.names (cloFrom X.env.cells scope.names [])) t3.heap.objs.size X.env)) (compPost (model X.prog X.w) X.A X.xe none (EP X pins σ Q) (.ref D) t3.heap.objs.size) { t3 with heap := pushCells (t3.heap.push { cls := .type "dict", data := .dict #[] }) scope.names }
  have off : ∀ b ∈ fp, H3 b = none := fun b hb => (fp3 b hb).1.1
  generalize eC : compEnvC scope (cellsFrom (t3.heap.objs.size + 1) scope.names (cloFrom X.env.cells scope.names [])) t3.heap.objs.size X.env = ce at I4 pg pt pk pv ⊢
  have place : ce.locals = t3.heap.objs.size := by rw [← eC]; rfl
  generalize e4 : ({ t3 with heap := pushCells (t3.heap.push { cls := .type "dict", data := .dict #[] }) scope.names } : Shared) = t4 at I4 ⊢
  have st4 : tn 0 t4.heap := T.keep _ _ _ st3 fun b _ o z => by rw [← e4]; exact pushCells_keeps _ _ _ _ (Heap.get?_push_of_some _ z)
  have still : ∀ {σ' : L2.St} {H' : Hp} {t : Shared}, Inv (X.blk t3 H3 scope ce fp) [] σ' H' t → (∀ b ∈ fp, H' b = none) → ∀ b ∈ fp, FpOk (X.blk t3 H3 scope ce fp) [] H' b := fun J n b hb =>
    ⟨n b hb, (J.ok.exf b hb).1, J.ok.exfs b hb, .inl hb, fun x c z => (J.ok.exf b hb).2 x c z, fun z hz => absurd (show z ∈ ([] : List (Addr × Obj)) ++ [] from hz) (by simp)⟩
  have main : codeAny (model X.prog X.w) X.A (.compLoop (.DictComp kx vx [⟨tg, iter, ifs, 0⟩] scope pos) 0 (.ref it) (.ref D) ce) (compPost (model X.prog X.w) X.A X.xe none (EP X pins σ Q) (.ref D) t3.heap.objs.size) t4 := by
    refine compLoop_anyD (fun m t => ∃ n Hn, Inv (X.blk t3 H3 scope ce fp) [] (wipe σ (own.map (·.2))) Hn t ∧ tn n t.heap ∧ (∀ b ∈ fp, Hn b = none) ∧ W n m Hn) ?_ m0 ⟨0, H3, I4, st4, off, w0⟩
    rintro m t5 ⟨n, H5, I5, st5, off5, w5⟩
    rcases turn n m H5 w5 with ⟨stop, over⟩ | ⟨go, Nx, lower, step⟩
    · refine thnF (T.done (X.blk t3 H3 scope ce fp) rfl rfl rfl calm n [] t5 _ H5 (fun _ _ => False) I5 (still I5 off5) st5 stop) ?_
      rintro _ t6 ⟨rfl, I6⟩
      have I7 : Inv X pins σ H5 t6 := I3.call' (ch := fp) I6.os I6.base I6.hok I6.bare fun b hb => let z := (fp3 b hb).1.2; ⟨z.2.2.1, z.1, z.2.2.2.1, z.2.2.2.2⟩
      have gone : H5 t3.heap.objs.size = none := by rw [← place]; exact I6.free
      obtain ⟨names, hn, _⟩ := I6.loc
      have hn2 : t6.heap.Ns ce.locals names := hn
      rw [place] at hn2
      obtain ⟨z0, z1, z2, z3, z4, z5⟩ := I3.fpOk (Nat.le_refl _) gone
      exact ⟨names, hn2, fun h7 but => ⟨.ref D, H5, I7.turned (t' := t6.toks) (fun b ob hb z => (but.2 b hb).trans z) z0 z1 z3 z4 z5, rfl, over⟩⟩
    · refine thnF (T.item (X.blk t3 H3 scope ce fp) rfl rfl rfl calm n [] t5 _ H5 (fun _ _ => False) I5 (still I5 off5) st5 go) ?_
      rintro _ t6 ⟨u, rfl, a6⟩
      refine thnF a6 ?_
      rintro _ t7 ⟨x, H7, I7, rx, yx, st7, off7⟩
      refine thnF (pg.run _ t7 _ H7 x u _ (I7.pinned (still I7 off7) (T.obj _ _ st7)) rx (step x H7 yx)) ?_
      rintro _ t8 ⟨σ8, H8, I8, same8, q8⟩
      have close : ∀ {t : Shared} {Hn : Hp}, Inv (X.blk t3 H3 scope ce fp) ([] ++ pinsAt fp t7.heap) σ8 Hn t → Nx Hn → ∃ less, less < m ∧ ∃ n Hn, Inv (X.blk t3 H3 scope ce fp) [] (wipe σ (own.map (·.2))) Hn t ∧ tn n t.heap ∧ (∀ b ∈ fp, Hn b = none) ∧ W n less Hn := fun {t Hn} J nx => by
        obtain ⟨less, hl, wl⟩ := lower Hn nx
        have kept : ∀ b ∈ fp, ∀ o, t7.heap.get? b = some o → t.heap.get? b = some o ∧ Hn b = none := fun b hb o z =>
          let y := J.pin (b, o) (List.mem_append_right _ (List.mem_append_right _ (mem_pinsAt hb z)))
          ⟨y.1, y.2.1⟩
        refine ⟨less, hl, n + 1, Hn, (J.unpinned (pins := [])).weak (by rw [← same8, wipe_length]) fun j v z => ?_, T.keep _ _ _ st7 fun b hb o z => (kept b hb o z).1, fun b hb => ?_, wl⟩
        · rw [← same8] at z
          exact (wipe_some z).1
        · obtain ⟨o, z, _⟩ := T.obj _ _ st7 b hb
          exact (kept b hb o z).2
      refine thnF (pt.run _ t8 σ8 H8 _ I8 q8) ?_
      rintro yes t9 ⟨H9, I9, q9⟩
      cases yes with
      | false => exact close I9 (by simpa using q9)
      | true =>
        simp only [if_true] at q9 ⊢
        refine thnF (pk.run _ t9 σ8 H9 _ I9 q9) ?_
        rintro uk t10 ⟨y, H10, I10, ry, q10⟩
        refine thnF (pv.run _ t10 σ8 H10 _ I10 q10) ?_
        rintro uz t11 ⟨z, H11, I11, rz, xs, k, b, rfl, g1, g2, g3, g4, g5, nx⟩
        cases ry
        exact put_rowN (X := X.blk t3 H3 scope ce fp) hu I11 g1 g2 g3 g4 g5 rz fun t12 I12 => close I12 nx
  exact codeAny_compStart_dict main (T.self X.A 0 _ _ _ st4 main)
end

def Lets (L : Str) : Prop := 1 ≤ L.length ∧ L.length ≤ 26 ∧ ∀ c ∈ L.cps.toList, 97 ≤ c ∧ c ≤ 122

def rLcm : List V → Hp → VK → Prop := fun vs H Q => ∃ a b : Nat, vs = [nI a, nI b] ∧ a < 1000 ∧ b < 1000 ∧ Q (nI (a.lcm b)) H
theorem cr_lcm {X : Cx} : CallR X (.builtin "math.lcm") rLcm := by
  intro pins s σ H vs us Q I r ⟨a, b, e, ha, hb, q⟩
  subst e
  obtain ⟨t, u, rfl⟩ := Vals.int2 r
  refine PySem.W.mc_lcm (by rw [Int.natAbs_natCast]; exact Nat.lt_trans ha (by decide)) (by rw [Int.natAbs_natCast]; exact Nat.lt_trans hb (by decide)) fun _ => ⟨nI (a.lcm b), H, I.tok _, ⟨s.toks, ?_⟩, q⟩
  simp

theorem lc_outT {K : PySem.W.Frag} {a : Addr} {xs : List V} {Bd : V → Hp → (Hp → Prop) → Prop} {Qd : Hp → Prop} {H0 : Hp} (Pv : Nat → Hp → Prop) (h0 : Pv 0 H0) (hl : ∀ i H, i ≤ xs.length → Pv i H → SqT K H a xs)
    (hs : ∀ i x H, xs[i]? = some x → Pv i H → Bd x H (Pv (i + 1))) (hd : ∀ H, Pv xs.length H → Qd H) :
    ∃ W : Nat → Nat → Hp → Prop, (∃ m, W 0 m H0) ∧ ∀ i m H, W i m H → ((Itt K a).stop i H ∧ Qd H) ∨ ((Itt K a).go i H ∧ ∃ Nx : Hp → Prop, (∀ H', Nx H' → ∃ m', m' < m ∧ W (i + 1) m' H') ∧ ∀ x H', (Itt K a).yld i H x H' → Bd x H' Nx) := by
  refine ⟨fun i m H => m = xs.length - i ∧ i ≤ xs.length ∧ Pv i H, ⟨xs.length, by simp, Nat.zero_le _, h0⟩, ?_⟩
  rintro i m H ⟨rfl, hi, p⟩
  have q := hl i H hi p
  rcases Nat.lt_or_ge i xs.length with lt | ge
  · exact .inr ⟨⟨xs, xs[i], q, by simp [lt]⟩, Pv (i + 1), fun H' p' => ⟨_, by omega, rfl, lt, p'⟩, fun x H' y => by
      obtain ⟨e, y⟩ := y
      subst e
      exact hs i x _ (y xs q) p⟩
  · obtain rfl : i = xs.length := by omega
    exact .inl ⟨⟨xs, q, Nat.le_refl _⟩, hd H p⟩
theorem cut1 {x : V} {r : List V} : cutV (x :: r) (some 1) none = r := by
  have h1 : HT.sIx (x :: r).length 0 (some 1) = 1 := by
    have := HT.sIx_nat (x :: r).length 0 1
    rw [show ((1 : Nat) : Int) = 1 from rfl] at this
    rw [this, List.length_cons]
    omega
  unfold cutV
  rw [h1, HT.sIx_none, List.length_cons, List.drop_succ_cons, List.drop_zero, Nat.add_sub_cancel, List.take_length]
theorem cut1_not {x : V} {r : List V} : ¬ (HT.sIx (x :: r).length 0 (some 1) = 0 ∧ HT.sIx (x :: r).length (x :: r).length none = (x :: r).length) := by
  have h1 : HT.sIx (x :: r).length 0 (some 1) = 1 := by
    have := HT.sIx_nat (x :: r).length 0 1
    rw [show ((1 : Nat) : Int) = 1 from rfl] at this
    rw [this, List.length_cons]
    omega
  rw [h1]
  omega
theorem dtAll_app {ok : Addr → Prop} {H : Hp} : ∀ {xs ys : List V} {ds es : List PyData}, DtAll ok H xs ds → DtAll ok H ys es → DtAll ok H (xs ++ ys) (ds ++ es)
  | _, _, _, _, .nil, y => y
  | _, _, _, _, .cons a b, y => .cons a (dtAll_app b y)
theorem flat_take {α β : Type} (f : α → List β) {l : List α} {i : Nat} {x : α} (h : l[i]? = some x) : (l.take (i + 1)).flatMap f = (l.take i).flatMap f ++ f x := by
  rw [take_succ_of h, List.flatMap_append]
  simp


def rowsTo : Nat → Nat → List (List Nat)
  | 0, _ => [[]]
  | n + 1, k => (rowsTo n k).flatMap fun r => (List.range k).map fun x => r ++ [x]
def keysOf (L : Str) (n k : Nat) : List (Nat × List Nat) := L.cps.toList.flatMap fun c => (rowsTo n k).map fun r => (c, r)
def RowsAt (H : Hp) (as : List Addr) (rows : List (List Nat)) : Prop := Paired (fun (a : Addr) (row : List Nat) => H a = some (.tup (row.map nI))) as rows
def KeysAt (H : Hp) (bs : List Addr) (keys : List (Nat × List Nat)) : Prop := Paired (fun (b : Addr) (key : Nat × List Nat) => ∃ a, H b = some (.tup [.str (ch key.1), .ref a]) ∧ H a = some (.tup (key.2.map nI))) bs keys
theorem ext_len (k : Nat) : ∀ l : List (List Nat), (l.flatMap fun r => (List.range k).map fun x => r ++ [x]).length = l.length * k
  | [] => by simp
  | a :: t => by rw [List.flatMap_cons, List.length_append, List.length_map, List.length_range, ext_len k t, List.length_cons, Nat.succ_mul, Nat.add_comm]
theorem rowsTo_len (k : Nat) : ∀ n, (rowsTo n k).length = k ^ n
  | 0 => rfl
  | n + 1 => by rw [rowsTo, ext_len, rowsTo_len k n, Nat.pow_succ]
theorem rowsTo_mem {k : Nat} : ∀ {n : Nat} {r : List Nat}, r ∈ rowsTo n k → r.length = n ∧ ∀ x ∈ r, x < k
  | 0, r, h => by simp [rowsTo] at h; subst h; simp
  | n + 1, r, h => by
    simp only [rowsTo, List.mem_flatMap, List.mem_map, List.mem_range] at h
    obtain ⟨r0, h0, x, hx, rfl⟩ := h
    obtain ⟨a, b⟩ := rowsTo_mem h0
    refine ⟨by simp [a], fun y hy => ?_⟩
    rcases List.mem_append.mp hy with hy | hy
    · exact b y hy
    · rw [List.mem_singleton.mp hy]; exact hx
theorem prd_app {α β : Type} {F : α → β → Prop} : ∀ {as cs : List α} {bs ds : List β}, Paired F as bs → Paired F cs ds → Paired F (as ++ cs) (bs ++ ds)
  | _, _, _, _, .nil, y => y
  | _, _, _, _, .cons r t, y => .cons r (prd_app t y)
theorem prd_at {α β : Type} {F : α → β → Prop} : ∀ {as : List α} {bs : List β} {i : Nat} {a : α}, Paired F as bs → as[i]? = some a → ∃ b, bs[i]? = some b ∧ F a b
  | _, _, 0, _, .cons r _, h => by cases h; exact ⟨_, rfl, r⟩
  | _, _, i + 1, _, .cons _ t, h => by
    rw [List.getElem?_cons_succ] at h
    obtain ⟨b, h1, h2⟩ := prd_at t h
    exact ⟨b, by rw [List.getElem?_cons_succ]; exact h1, h2⟩
theorem RowsAt.keep {H H' : Hp} {as : List Addr} {rows : List (List Nat)} (x : RowsAt H as rows) (h : ∀ b xs, H b = some (.tup xs) → H' b = some (.tup xs)) : RowsAt H' as rows := Paired.mapP x fun _ _ e => h _ _ e
theorem KeysAt.keep {H H' : Hp} {as : List Addr} {ks : List (Nat × List Nat)} (x : KeysAt H as ks) (h : ∀ b xs, H b = some (.tup xs) → H' b = some (.tup xs)) : KeysAt H' as ks := Paired.mapP x fun _ _ ⟨a, e1, e2⟩ => ⟨a, h _ _ e1, h _ _ e2⟩
theorem upd_tup {H : Hp} {D : Addr} {xs : List V} {o : HO} (hD : H D = some (.lst xs)) : ∀ b ys, H b = some (.tup ys) → (upd H D o) b = some (.tup ys) := fun b ys e => by
  rw [upd_ne (fun z => by rw [z, hD] at e; cases e)]
  exact e
theorem lc_walk {J : It} {len : Nat} {G : Hp → Prop} {Y : Nat → Hp → V → Hp → Prop} (wk : Walk J len G Y) {Bd : V → Hp → (Hp → Prop) → Prop} {Qd : Hp → Prop} {H0 : Hp} (Pv : Nat → Hp → Prop) (h0 : Pv 0 H0) (hp : ∀ i H, i ≤ len → Pv i H → G H)
    (hs : ∀ i x H H', i < len → Pv i H → Y i H x H' → Bd x H' (Pv (i + 1))) (hd : ∀ H, Pv len H → Qd H) :
    ∃ W : Nat → Nat → Hp → Prop, (∃ m, W 0 m H0) ∧ ∀ i m H, W i m H → (J.stop i H ∧ Qd H) ∨ (J.go i H ∧ ∃ Nx : Hp → Prop, (∀ H', Nx H' → ∃ m', m' < m ∧ W (i + 1) m' H') ∧ ∀ x H', J.yld i H x H' → Bd x H' Nx) := by
  refine ⟨fun i m H => m = len - i ∧ i ≤ len ∧ Pv i H, ⟨len, by simp, Nat.zero_le _, h0⟩, ?_⟩
  rintro i m H ⟨rfl, hi, p⟩
  have g := hp i H hi p
  rcases Nat.lt_or_ge i len with lt | ge
  · exact .inr ⟨wk.goes i H lt g, Pv (i + 1), fun H' p' => ⟨_, by omega, rfl, lt, p'⟩, fun x H' y => hs i x H H' lt p (wk.yields i H x H' lt g y)⟩
  · obtain rfl : i = len := by omega
    exact .inl ⟨wk.stops H g, hd H p⟩
def sp_tuples_due : Sp := fun vs H Q _ => ∃ (L : Str) (n k : Nat), vs = [.str L, nI n, nI k] ∧ L.length ≤ 26 ∧ n ≤ 6 ∧ k ≤ 20 ∧ Q (nI (L.length * k ^ n)) H
def sp_class_rows : Sp := fun vs H Q _ => ∃ (n k : Nat), vs = [nI n, nI k] ∧ n ≤ 6 ∧ 1 ≤ k ∧ k ≤ 20 ∧ k ^ n ≤ 600 ∧ ∀ r as H', Same H H' → H r = none → H' r = some (.lst (as.map V.ref)) → RowsAt H' as (rowsTo n k) → Q (.ref r) H'
def sp_keys_due : Sp := fun vs H Q _ => ∃ (L : Str) (n k : Nat), vs = [.str L, nI n, nI k] ∧ Lets L ∧ n ≤ 6 ∧ 1 ≤ k ∧ k ≤ 20 ∧ L.length * k ^ n ≤ 600 ∧ ∀ r bs H', Same H H' → H r = none → H' r = some (.lst (bs.map V.ref)) → KeysAt H' bs (keysOf L n k) → Q (.ref r) H'
section
variable {P : Program} {w : World} {K : PySem.W.Frag} {mg : Str → Option Value} {base : Heap}
theorem ok_tuples_due (T : Txt K mg) : FnOk P w K mg base CX0 1 T.f_tuples_due T.d_tuples_due ["letters", "states", "classes"] sp_tuples_due := by
  refine T.F_tuples_due.ok sc_tuples_due (fun vs H Q E h => ?_) (fun cdv A outer s H vs Q E hr h => ?_)
  · obtain ⟨L, n, k, rfl, _⟩ := h
    rfl
  obtain ⟨L, n, k, rfl, hl, h6, k20, q⟩ := h
  refine ⟨_, (pss_cons (ps_set (i := 3) sc_tuples_due.nd rfl (Or.inl rfl) (pe_callB call_len_str (by rfl) T.z_len PySem.boot_len (pa_cons (pv 0) pa_nil))) (pss_cons (ps_for PassesOwn.never rfl (pi_range1 (by rfl) T.z_range (pa_cons (pv 1) pa_nil)) (pg_name (i := 4) sc_tuples_due.nd rfl (Or.inl rfl)) (pss_one (ps_set (i := 3) sc_tuples_due.nd rfl (Or.inl rfl) (pe_op op_mul (pv 3) (pv 2))))) (pss_one (ps_ret (pv 3))))), ?_⟩
  refine ⟨_, rfl, L, rfl, Nat.le_of_lt (Nat.lt_of_le_of_lt (show _ ≤ 1000000 by omega) (by decide)), _, rfl, n, rfl, by omega, by omega, for_range (lo := 0) (n := n) (fun i σ H' => ∃ y4, σ = [some (.str L), some (nI n), some (nI k), some (nI (L.length * k ^ i)), y4] ∧ H' = H) ⟨_, by rw [Nat.pow_zero, Nat.mul_one]; rfl, rfl⟩ ?_ ?_⟩
  · rintro i σ H1 hi ⟨y4, rfl, rfl⟩
    refine ⟨_, rfl, _, rfl, _, _, rfl, rfl, .inr ⟨by omega, by omega⟩, ?_⟩
    refine ⟨some (V.int (0 + (i : Int))), ?_, rfl⟩
    have e : ((L.length * k ^ i : Nat) : Int) * (k : Int) = ((L.length * k ^ (i + 1) : Nat) : Int) := by
      rw [Nat.pow_succ, ← Nat.mul_assoc]
      push_cast
      rfl
    show ([some (V.str L), some (nI n), some (nI k), some (V.int (((L.length * k ^ i : Nat) : Int) * (k : Int))), some (V.int (0 + (i : Int)))] : List (Option V)) = _
    rw [e]
  · rintro σ H1 ⟨y4, rfl, rfl⟩
    exact ⟨_, rfl, q⟩
theorem ok_class_rows (T : Txt K mg) : FnOk P w K mg base CX0 1 T.f_class_rows T.d_class_rows ["states", "classes"] sp_class_rows := by
  refine T.F_class_rows.ok sc_class_rows (fun vs H Q E h => ?_) (fun cdv A outer s H vs Q E hr h => ?_)
  · obtain ⟨n, k, rfl, _⟩ := h
    rfl
  obtain ⟨n, k, rfl, h6, k1, k20, h600, q⟩ := h
  refine ⟨_, (pss_cons (ps_set (i := 2) sc_class_rows.nd rfl (Or.inl rfl) (pe_lst (pa_cons (pe_tup pa_nil) pa_nil))) (pss_cons (ps_for PassesOwn.never rfl (pi_range1 (by rfl) T.z_range (pa_cons (pv 0) pa_nil)) (pg_name (i := 3) sc_class_rows.nd rfl (Or.inl rfl)) (pss_one (ps_setLc2 (i := 2) (own := [("row", 4), ("number", 5)]) (vs1 := [5]) (g := gName 4) (g1 := gName 5) (tt := tYes) (tt1 := tYes) (wi1 := iRng1 (tCons (tVar 1) tNil)) (te := tTup (StX.tStar K (tVar 4) (tCons (tVar 5) tNil))) rfl sc_class_rows.nd rfl rfl (sw_true rfl rfl rfl (by decide +kernel)) (pi_list (pv 2)) (blkOk_by (own := [("row", 4), ("number", 5)]) (N := ["states", "classes", "rows", "_", "row", "number"]) (sc := (defScope s_class_rows)) (by decide +kernel)) (by decide) (fun _ _ _ _ _ => (pg_name (i := 4) sc_class_rows.nd rfl (Or.inl rfl))) (fun _ _ _ _ _ => pts_nil) (fun _ _ _ _ _ => (pi_range1 (by rfl) T.z_range (pa_cons (pv 1) pa_nil))) (fun _ _ _ _ _ => (pg_name (i := 5) sc_class_rows.nd rfl (Or.inl rfl))) (fun _ _ _ _ _ => pts_nil) (fun _ _ _ _ _ => (pe_tup (StX.pa_star (pv 4) (pa_cons (pv 5) pa_nil))))))) (pss_one (ps_ret (pv 2))))), ?_⟩
  refine ⟨(by show 0 ≤ sizeLine; decide), fun p0 hp0 => ⟨(by show 1 ≤ sizeLine; decide), fun r0 hr0 => ?_⟩⟩
  have s0 := (same_new (o := .tup []) hp0).trans (same_new (o := .lst [V.ref p0]) hr0)
  have kp0 := same_new (o := .lst [V.ref p0]) hr0 _ _ (upd_same (H := H) (a := p0) (o := .tup []))
  have kr0 := upd_same (H := upd H p0 (.tup [])) (a := r0) (o := .lst [V.ref p0])
  have fr0 := (same_new (o := .tup []) hp0).free hr0
  generalize upd (upd H p0 (.tup [])) r0 (.lst [V.ref p0]) = H0 at *
  refine ⟨_, rfl, n, rfl, by omega, by omega, for_range (lo := 0) (n := n) (fun i σ H' => ∃ (r : Addr) (as : List Addr) (y3 y4 y5 : Option V), σ = [some (nI n), some (nI k), some (.ref r), y3, y4, y5] ∧ H' r = some (.lst (as.map V.ref)) ∧ RowsAt H' as (rowsTo i k) ∧ Same H H' ∧ H r = none) ⟨r0, [p0], none, none, none, rfl, kr0, .cons kp0 .nil, s0, fr0⟩ ?_ ?_⟩
  · rintro i σ H1 hi ⟨r, as, y3, y4, y5, rfl, hr1, ha, s1, fr1⟩
    have la : as.length = k ^ i := by rw [Paired.length ha, rowsTo_len]
    have pw : k ^ i ≤ 600 := Nat.le_trans (Nat.pow_le_pow_right k1 (by omega)) h600
    refine ⟨_, rfl, r, rfl, ⟨_, SqL.of hr1⟩, fun D hD => ?_⟩
    have nDr : r ≠ D := ne_of_none hr1 hD
    refine lc_outer (xs := as.map V.ref) (fun j H2 => ∃ bs : List Addr, H2 D = some (.lst (bs.map V.ref)) ∧ RowsAt H2 bs (((rowsTo i k).take j).flatMap fun r => (List.range k).map fun x => r ++ [x]) ∧ RowsAt H2 as (rowsTo i k) ∧ H2 r = some (.lst (as.map V.ref)) ∧ Same H1 H2)
      ⟨[], upd_same, .nil, ha.keep fun b xs e => same_new hD _ _ e, same_new hD _ _ hr1, same_new hD⟩ (fun j H2 _ ⟨_, _, _, _, h, _⟩ => SqL.of h) ?_ ?_
    · rintro j x H2 hx ⟨bs, g1, g2, g3, g4, g5⟩
      rw [List.getElem?_map] at hx
      cases haj : as[j]? with
      | none => rw [haj] at hx; cases hx
      | some aj =>
      rw [haj] at hx
      cases hx
      obtain ⟨row, hrow, kaj⟩ := prd_at g3 haj
      have hj := (List.getElem?_eq_some_iff.mp haj).1
      have lb := Paired.length g2
      rw [ext_len, List.length_take, rowsTo_len] at lb
      have lb2 : bs.length ≤ 600 * 20 := by rw [lb]; exact Nat.mul_le_mul (Nat.le_trans (Nat.min_le_right _ _) pw) k20
      refine ⟨rfl, _, rfl, k, rfl, by omega, by omega, ?_⟩
      refine lc_walk (len := k) (walk_range (lo := 0)) (fun m H3 => ∃ cs : List Addr, H3 D = some (.lst ((bs ++ cs).map V.ref)) ∧ RowsAt H3 bs (((rowsTo i k).take j).flatMap fun r => (List.range k).map fun x => r ++ [x]) ∧ RowsAt H3 cs ((List.range m).map fun x => row ++ [x]) ∧ RowsAt H3 as (rowsTo i k) ∧ H3 r = some (.lst (as.map V.ref)) ∧ H3 aj = some (.tup (row.map nI)) ∧ Same H1 H3)
        ⟨[], by simpa using g1, g2, .nil, g3, g4, kaj, g5⟩ (fun _ _ _ _ => trivial) ?_ ?_
      · rintro m z H3 H4 hm ⟨cs, k1', k2, k3, k4, k5, k6, k7⟩ ⟨rfl, rfl⟩
        have lc := Paired.length k3
        rw [List.length_map, List.length_range] at lc
        refine ⟨rfl, _, rfl, aj, _, rfl, .inl (SqT.of k6), _, rfl, ?_, fun b hb => ?_⟩
        · rw [List.length_append, List.length_map, (rowsTo_mem (List.mem_of_getElem? hrow)).1]
          exact Nat.le_of_lt (Nat.lt_of_le_of_lt (show _ ≤ 1000000 by simp; omega) (by decide))
        have sb := same_new (o := .tup (row.map nI ++ [V.int (0 + (m : Int))])) hb
        have kb := upd_same (H := H4) (a := b) (o := .tup (row.map nI ++ [V.int (0 + (m : Int))]))
        generalize upd H4 b (.tup (row.map nI ++ [V.int (0 + (m : Int))])) = H5 at *
        have kD := sb _ _ k1'
        have tk := upd_tup (o := .lst ((bs ++ cs).map V.ref ++ [V.ref b])) kD
        refine ⟨_, kD, ?_, cs ++ [b], ?_, (k2.keep fun b xs e => sb _ _ e).keep tk, ?_, (k4.keep fun b xs e => sb _ _ e).keep tk, ?_, tk _ _ (sb _ _ k6), same_add (k7.trans sb) hD⟩
        · rw [List.length_map, List.length_append, lc]
          exact Nat.lt_of_le_of_lt (show _ ≤ 1000000 by omega) (by decide)
        · rw [upd_same, ← List.append_assoc, List.map_append (l₂ := [b])]
          rfl
        · rw [List.range_succ, List.map_append (f := fun x => row ++ [x])]
          refine prd_app ((RowsAt.keep k3 fun b xs e => sb _ _ e).keep tk) (.cons ?_ .nil)
          have e : row.map nI ++ [V.int (0 + (m : Int))] = (row ++ [m]).map nI := by rw [List.map_append, Int.zero_add]; rfl
          rw [← e]
          exact tk _ _ kb
        · rw [upd_ne nDr]; exact sb _ _ k5
      · rintro H3 ⟨cs, k1', k2, k3, k4, k5, k6, k7⟩
        refine ⟨bs ++ cs, k1', ?_, k4, k5, k7⟩
        rw [flat_take _ hrow]
        exact prd_app k2 k3
    · rintro H2 ⟨bs, g1, g2, g3, g4, g5⟩
      rw [List.length_map, la, ← rowsTo_len k i, List.take_length] at g2
      exact ⟨D, bs, _, _, _, rfl, g1, g2, s1.trans g5, s1.free hD⟩
  · rintro σ H1 ⟨r, as, y3, y4, y5, rfl, hr1, ha, s1, fr1⟩
    exact ⟨_, rfl, q r as H1 s1 fr1 hr1 ha⟩
theorem ok_keys_due (T : Txt K mg) : FnOk P w K mg base CX0 2 T.f_keys_due T.d_keys_due ["letters", "states", "classes"] sp_keys_due := by
  have G_class_rows : FnOk P w K mg base CX0 1 T.f_class_rows T.d_class_rows ["states", "classes"] sp_class_rows := ok_class_rows T
  refine T.F_keys_due.ok sc_keys_due (fun vs H Q E h => ?_) (fun cdv A outer s H vs Q E hr h => ?_)
  · obtain ⟨L, n, k, rfl, _⟩ := h
    rfl
  obtain ⟨L, n, k, rfl, hL, h6, k1, k20, h600, q⟩ := h
  refine ⟨_, (pss_cons (ps_set (i := 3) sc_keys_due.nd rfl (Or.inr rfl) (pe_call G_class_rows (hr.mono (by omega)) (by rfl) T.m_class_rows T.F_class_rows.kp T.b_class_rows .nil pass0 (pa_cons (pv 1) (pa_cons (pv 2) pa_nil)))) (pss_one (ps_ret (pe_lc2 (own := [("letter", 4), ("row", 5)]) (vs1 := [5]) (g := gName 4) (g1 := gName 5) (tt := tYes) (tt1 := tYes) (wi1 := iList K (tVar 3)) (te := tTup (tCons (tVar 4) (tCons (tVar 5) tNil))) rfl sc_keys_due.nd (pi_str (pv 0)) (blkOk_by (own := [("letter", 4), ("row", 5)]) (N := ["letters", "states", "classes", "rows", "letter", "row"]) (sc := (defScope s_keys_due)) (by decide +kernel)) (by decide) (fun _ _ _ _ _ => (pg_name (i := 4) sc_keys_due.nd rfl (Or.inl rfl))) (fun _ _ _ _ _ => pts_nil) (fun _ _ _ _ _ => (pi_list (pv 3))) (fun _ _ _ _ _ => (pg_name (i := 5) sc_keys_due.nd rfl (Or.inl rfl))) (fun _ _ _ _ _ => pts_nil) (fun _ _ _ _ _ => (pe_tup (pa_cons (pv 4) (pa_cons (pv 5) pa_nil)))))))), ?_⟩
  have l1 := hL.1
  have hk : k ^ n ≤ 600 := Nat.le_trans (Nat.le_mul_of_pos_left _ l1) h600
  refine ⟨_, rfl, _, rfl, n, k, rfl, h6, k1, k20, hk, fun r as H1 s1 hr0 hr1 ha => ?_⟩
  refine ⟨_, rfl, L, rfl, fun D hD => ?_⟩
  have la : as.length = k ^ n := by rw [Paired.length ha, rowsTo_len]
  have nDr : r ≠ D := ne_of_none hr1 hD
  have lsz : L.cps.size = L.cps.toList.length := (Array.length_toList).symm
  have l26 : L.cps.toList.length ≤ 26 := by rw [← lsz]; exact hL.2.1
  refine lc_walk (len := L.cps.size) walk_str (fun j H2 => ∃ bs : List Addr, H2 D = some (.lst (bs.map V.ref)) ∧ KeysAt H2 bs ((L.cps.toList.take j).flatMap fun c => (rowsTo n k).map fun r => (c, r)) ∧ RowsAt H2 as (rowsTo n k) ∧ H2 r = some (.lst (as.map V.ref)) ∧ bs.length ≤ 600 * j ∧ Same H1 H2)
    ⟨[], upd_same, .nil, ha.keep fun b xs e => same_new hD _ _ e, same_new hD _ _ hr1, Nat.zero_le _, same_new hD⟩ (fun _ _ _ _ => trivial) ?_ ?_
  · rintro j x H2 H2' hj ⟨bs, g1, g2, g3, g4, g5, g6⟩ ⟨rfl, c, hc, rfl⟩
    have hc2 : L.cps.toList[j]? = some c := by rw [Array.getElem?_toList]; exact hc
    refine ⟨rfl, _, rfl, r, rfl, ⟨_, SqL.of g4⟩, ?_⟩
    refine lc_outer (xs := as.map V.ref) (fun m H3 => ∃ cs : List Addr, H3 D = some (.lst ((bs ++ cs).map V.ref)) ∧ KeysAt H3 bs ((L.cps.toList.take j).flatMap fun c => (rowsTo n k).map fun r => (c, r)) ∧ KeysAt H3 cs (((rowsTo n k).take m).map fun r => (c, r)) ∧ RowsAt H3 as (rowsTo n k) ∧ H3 r = some (.lst (as.map V.ref)) ∧ Same H1 H3)
      ⟨[], by simpa using g1, g2, .nil, g3, g4, g6⟩ (fun m H3 _ ⟨_, _, _, _, _, h, _⟩ => SqL.of h) ?_ ?_
    · rintro m z H3 hz ⟨cs, k1', k2, k3, k4, k5, k7⟩
      rw [List.getElem?_map] at hz
      cases ham : as[m]? with
      | none => rw [ham] at hz; cases hz
      | some am =>
      rw [ham] at hz
      cases hz
      obtain ⟨row, hrow, kam⟩ := prd_at k4 ham
      have lc := Paired.length k3
      rw [List.length_map, List.length_take, rowsTo_len] at lc
      refine ⟨rfl, _, rfl, _, rfl, (by show 2 ≤ sizeLine; decide), fun b hb => ?_⟩
      have sb := same_new (o := .tup [.str ⟨#[c]⟩, V.ref am]) hb
      have kb := upd_same (H := H3) (a := b) (o := .tup [.str ⟨#[c]⟩, V.ref am])
      generalize upd H3 b (.tup [.str ⟨#[c]⟩, V.ref am]) = H5 at *
      have kD := sb _ _ k1'
      have tk := upd_tup (o := .lst ((bs ++ cs).map V.ref ++ [V.ref b])) kD
      refine ⟨_, kD, ?_, cs ++ [b], ?_, (k2.keep fun b xs e => sb _ _ e).keep tk, ?_, (k4.keep fun b xs e => sb _ _ e).keep tk, ?_, same_add (k7.trans sb) hD⟩
      · rw [List.length_map, List.length_append]
        have : j < 26 := by omega
        exact Nat.lt_of_le_of_lt (show _ ≤ 1000000 by omega) (by decide)
      · rw [upd_same, ← List.append_assoc, List.map_append (l₂ := [b])]
        rfl
      · rw [take_succ_of hrow, List.map_append (f := fun r => (c, r))]
        exact prd_app ((KeysAt.keep k3 fun b xs e => sb _ _ e).keep tk) (.cons ⟨am, tk _ _ kb, tk _ _ (sb _ _ kam)⟩ .nil)
      · rw [upd_ne nDr]; exact sb _ _ k5
    · rintro H3 ⟨cs, k1', k2, k3, k4, k5, k7⟩
      rw [List.length_map, la, ← rowsTo_len k n, List.take_length] at k3
      have lc := Paired.length k3
      rw [List.length_map, rowsTo_len] at lc
      refine ⟨bs ++ cs, k1', ?_, k4, k5, by rw [List.length_append]; omega, k7⟩
      rw [flat_take _ hc2]
      exact prd_app k2 k3
  · rintro H2 ⟨bs, g1, g2, g3, g4, g5, g6⟩
    rw [lsz, List.take_length] at g2
    exact q D bs H2 (s1.trans g6) (s1.free hD) g1 g2
end

def keyN (c : Nat) (row : List Nat) : NestedKey := .tup [.text (ch c), .tup (row.map fun x : Nat => .num (x : Int))]
def RowsJ (xs : List NRow) (keys : List (Nat × List Nat)) (fs : Nat → List Nat → Nat) : Prop := Paired (fun (x : NRow) (key : Nat × List Nat) => x.1 = keyN key.1 key.2 ∧ x.2.2 = nI (fs key.1 key.2)) xs keys
def Rises (L : Str) : Prop := L.cps.toList.Pairwise (· < ·)
def sp_at (L : Str) (n : Nat) (fs : Nat → List Nat → Nat) : Sp := fun vs H Q _ => ∃ (c : Nat) (b : Addr) (row : List Nat), vs = [.str (ch c), .ref b] ∧ c ∈ L.cps.toList ∧ row.length = n ∧ H b = some (.tup (row.map nI)) ∧ ∀ H', Same H H' → Q (nI (fs c row)) H'
def sp_table_made (P : Program) (w : World) (K : PySem.W.Frag) (mg : Str → Option Value) (base : Heap) : Sp := fun vs H Q _ => ∃ (L : Str) (n few turn : Nat) (f : Addr) (fs : Nat → List Nat → Nat), vs = [.str L, nI n, nI few, nI turn, .ref f] ∧ Lets L ∧ Rises L ∧ n ≤ 6 ∧ few ≤ 4 ∧ 1 ≤ turn ∧ turn ≤ 4 ∧ L.length * (few + turn) ^ n ≤ 600 ∧
  CalX P w K mg base 8 f (fun H' => Same H H') 2 (sp_at L n fs) ∧ ∀ d xs H', Same H H' → H d = none → H' d = some (DictN P w d xs) → RowsN H' xs → RowsJ xs (keysOf L n (few + turn)) fs → Q (.ref d) H'
theorem ch_inj {a b : Nat} (h : ch a = ch b) : a = b := by
  have := congrArg (fun s : Str => s.cps.toList) h
  simpa [ch] using this
theorem keyN_inj {c c' : Nat} {r r' : List Nat} (h : keyN c r = keyN c' r') : c = c' ∧ r = r' := by
  unfold keyN at h
  injection h with h
  injection h with h1 h2
  injection h1 with h1
  injection h2 with h2
  injection h2 with h2
  refine ⟨ch_inj h1, ?_⟩
  clear h1
  induction r generalizing r' with
  | nil => cases r' with | nil => rfl | cons a b => cases h2
  | cons a b ih => cases r' with
    | nil => cases h2
    | cons a' b' =>
      rw [List.map_cons, List.map_cons] at h2
      injection h2 with e1 e2
      injection e1 with e1
      rw [ih e2, show a = a' by omega]
theorem keyN_depth (c : Nat) (r : List Nat) : (keyN c r).depth ≤ 8 := by
  have : ∀ r : List Nat, NestedKey.depthAll (r.map fun x : Nat => NestedKey.num (x : Int)) ≤ 1 := by
    intro r
    induction r with
    | nil => simp [NestedKey.depthAll]
    | cons a b ih => simp only [List.map_cons, NestedKey.depthAll, NestedKey.depth]; omega
  have := this r
  simp only [keyN, NestedKey.depth, NestedKey.depthAll]
  omega
theorem nk_nums {H : Hp} : ∀ r : List Nat, NKs H (r.map fun x : Nat => .num (x : Int)) (r.map nI)
  | [] => .nil
  | x :: r => .cons (.int _) (nk_nums r)
theorem nk_key {H : Hp} {b a : Addr} {c : Nat} {r : List Nat} (hb : H b = some (.tup [.str (ch c), .ref a])) (ha : H a = some (.tup (r.map nI))) : NK H (keyN c r) (.ref b) := .tup hb (.cons (.text _) (.cons (.tup ha (nk_nums r)) .nil))
theorem rowsTo_nd (k : Nat) : ∀ n, (rowsTo n k).Pairwise (· ≠ ·)
  | 0 => by simp [rowsTo]
  | n + 1 => by
    rw [rowsTo, List.pairwise_flatMap]
    refine ⟨fun r _ => ?_, (rowsTo_nd k n).imp fun {a b} hab x hx y hy e => ?_⟩
    · rw [List.pairwise_map]
      exact List.nodup_range.imp fun h e => h (by simpa using e)
    · simp only [List.mem_map] at hx hy
      obtain ⟨p, _, rfl⟩ := hx
      obtain ⟨q, _, rfl⟩ := hy
      exact hab (List.append_inj' e rfl).1
theorem keysOf_nd {L : Str} (h : Rises L) (n k : Nat) : (keysOf L n k).Pairwise (· ≠ ·) := by
  unfold keysOf
  rw [List.pairwise_flatMap]
  refine ⟨fun c _ => ?_, h.imp fun {a b} hab x hx y hy e => ?_⟩
  · rw [List.pairwise_map]
    exact (rowsTo_nd k n).imp fun h e => h (by simpa using e)
  · simp only [List.mem_map] at hx hy
    obtain ⟨p, _, rfl⟩ := hx
    obtain ⟨q, _, rfl⟩ := hy
    have : a = b := (Prod.mk.inj e).1
    omega
theorem atN_none {xs : List NRow} {k : NestedKey} (h : ∀ x ∈ xs, x.1 ≠ k) : atN xs k = none := by
  unfold atN
  rw [List.find?_eq_none.mpr fun x hx => by simpa using h x hx]
  rfl
theorem storedN_new {xs : List NRow} {k : NestedKey} {b : Addr} {v : V} (h : ∀ x ∈ xs, x.1 ≠ k) : storedN xs k b v = xs ++ [(k, b, v)] := by
  unfold storedN
  rw [atN_none h]
  rfl
theorem prd_mem {α β : Type} {F : α → β → Prop} {as : List α} {bs : List β} {a : α} (p : Paired F as bs) (h : a ∈ as) : ∃ b ∈ bs, F a b := by
  obtain ⟨i, hi⟩ := List.getElem?_of_mem h
  obtain ⟨b, h1, h2⟩ := prd_at p hi
  exact ⟨b, List.mem_of_getElem? h1, h2⟩
theorem ahead_ne {α : Type} {l : List α} {i : Nat} {x : α} (h : l.Pairwise (· ≠ ·)) (hx : l[i]? = some x) : ∀ y ∈ l.take i, y ≠ x := fun y hy e => by
  obtain ⟨j, hj⟩ := List.getElem?_of_mem hy
  have lt := (List.getElem?_eq_some_iff.mp hj).1
  rw [List.length_take] at lt
  rw [List.getElem?_take_of_lt (by omega)] at hj
  have h1 := List.getElem?_eq_some_iff.mp hj
  have h2 := List.getElem?_eq_some_iff.mp hx
  exact (List.pairwise_iff_getElem.mp h) j i h1.1 h2.1 (by omega) (by rw [h1.2, h2.2]; exact e)
theorem dF {p : Prop} {i : Decidable p} {A B : Prop} (h : ¬p) (k : B) : if (@decide p i) = true then A else B := by
  rw [decide_eq_false h]
  exact iteF k
theorem dT {p : Prop} {i : Decidable p} {A B : Prop} (h : p) (k : A) : if (@decide p i) = true then A else B := by
  rw [decide_eq_true h]
  exact iteT k
theorem RowsN.keep {H H' : Hp} {xs : List NRow} (x : RowsN H xs) (h : ∀ b ys, H b = some (.tup ys) → H' b = some (.tup ys)) : RowsN H' xs := fun r hr => ⟨NK.keep h (x r hr).1, (x r hr).2⟩
theorem upd_tupN {H : Hp} {D : Addr} {P : Program} {w : World} {d : Addr} {xs : List NRow} {o : HO} (hD : H D = some (DictN P w d xs)) : ∀ b ys, H b = some (.tup ys) → (upd H D o) b = some (.tup ys) := fun b ys e => by
  rw [upd_ne (fun z => by rw [z, hD] at e; unfold DictN at e; cases e)]
  exact e
theorem upd_lstN {H : Hp} {D : Addr} {P : Program} {w : World} {d : Addr} {xs : List NRow} {o : HO} (hD : H D = some (DictN P w d xs)) : ∀ b ys, H b = some (.lst ys) → (upd H D o) b = some (.lst ys) := fun b ys e => by
  rw [upd_ne (fun z => by rw [z, hD] at e; unfold DictN at e; cases e)]
  exact e
section
variable {P : Program} {w : World} {K : PySem.W.Frag} {mg : Str → Option Value} {base : Heap}
theorem ok_table_made (T : Txt K mg) : FnOk P w K mg base CX0 10 T.f_table_made T.d_table_made ["letters", "states", "few", "turn", "state_at"] (sp_table_made P w K mg base) := by
  have G_tuples_due : FnOk P w K mg base CX0 1 T.f_tuples_due T.d_tuples_due ["letters", "states", "classes"] sp_tuples_due := ok_tuples_due T
  have G_keys_due : FnOk P w K mg base CX0 2 T.f_keys_due T.d_keys_due ["letters", "states", "classes"] sp_keys_due := ok_keys_due T
  refine T.F_table_made.ok sc_table_made (fun vs H Q E h => ?_) (fun cdv A outer s H vs Q E hr h => ?_)
  · obtain ⟨L, n, few, turn, f, fs, rfl, _⟩ := h
    rfl
  obtain ⟨L, n, few, turn, f, fs, rfl, hL, hR, h6, f4, t1, t4, h600, C_state_at, q⟩ := h
  refine ⟨_, (pss_cons (ps_if (pt_cmpR op_gt (pv 3) (pe_glob (v := .int (4)) rfl T.g_MOST_TURN ⟨_, rfl⟩) (nomark _)) (pss_one ps_never) pss_nil) (pss_cons (ps_if (pt_cmpR op_gt (pe_call G_tuples_due (hr.mono (by omega)) (by rfl) T.m_tuples_due T.F_tuples_due.kp T.b_tuples_due .nil pass0 (pa_cons (pv 0) (pa_cons (pv 1) (pa_cons (pe_op op_add (pv 2) (pv 3)) pa_nil)))) (pe_glob (v := .int (600)) rfl T.g_MOST_TUPLES ⟨_, rfl⟩) (nomark _)) (pss_one ps_never) pss_nil) (pss_cons (ps_set (i := 5) sc_table_made.nd rfl (Or.inl rfl) (pe_call G_keys_due (hr.mono (by omega)) (by rfl) T.m_keys_due T.F_keys_due.kp T.b_keys_due .nil pass0 (pa_cons (pv 0) (pa_cons (pv 1) (pa_cons (pe_op op_add (pv 2) (pv 3)) pa_nil))))) (pss_one (ps_ret (pe_dcN (own := [("letter", 6), ("row", 7)]) (tt := tYes) (g := (gTup K 2 (gCons (gName 6) (gCons (gName 7) gNil))))  (roomN hr) rfl sc_table_made.nd (pi_list (pv 5)) (blkOk_by (own := [("letter", 6), ("row", 7)]) (N := ["letters", "states", "few", "turn", "state_at", "keys", "letter", "row"]) (sc := (defScope s_table_made)) (by decide +kernel)) (fun _ _ _ _ _ => (pg_tup rfl (pgs_cons (pg_name (i := 6) sc_table_made.nd rfl (Or.inl rfl)) (pgs_cons (pg_name (i := 7) sc_table_made.nd rfl (Or.inl rfl)) pgs_nil)))) (fun _ _ _ _ _ => pts_nil) (fun _ _ _ _ _ => (pe_tup (pa_cons (pv 6) (pa_cons (pv 7) pa_nil)))) (fun _ _ _ _ _ => (pe_calX (i := 4) C_state_at (hr.mono (by omega)) rfl (.inr (.inl (by rfl))) (pa_cons (pv 6) (pa_cons (pv 7) pa_nil)))))))))), ?_⟩
  refine ⟨_, rfl, _, _, rfl, rfl, _, rfl, dF (by omega) ?_⟩
  refine ⟨_, rfl, _, rfl, _, rfl, _, rfl, _, _, rfl, rfl, L, n, few + turn, rfl, hL.2.1, h6, by omega, _, _, rfl, rfl, _, rfl, dF (by omega) ?_⟩
  refine ⟨_, rfl, _, rfl, _, rfl, _, rfl, _, _, rfl, rfl, L, n, few + turn, rfl, hL, h6, by omega, by omega, h600, fun r bs H1 s1 hr0 hr1 hk => ?_⟩
  refine ⟨_, rfl, r, rfl, ⟨_, SqL.of hr1⟩, fun D hD => ?_⟩
  have nDr : r ≠ D := ne_of_none hr1 hD
  have knd := keysOf_nd hR n (few + turn)
  have kmem : ∀ key ∈ keysOf L n (few + turn), key.1 ∈ L.cps.toList ∧ key.2.length = n := fun key hm => by
    simp only [keysOf, List.mem_flatMap, List.mem_map] at hm
    obtain ⟨c, hc, row, hrow, rfl⟩ := hm
    exact ⟨hc, (rowsTo_mem hrow).1⟩
  have lk : bs.length ≤ 600 := by
    have e : (keysOf L n (few + turn)).length = L.cps.toList.length * (rowsTo n (few + turn)).length := by
      unfold keysOf
      generalize L.cps.toList = l
      induction l with
      | nil => simp
      | cons a t ih => rw [List.flatMap_cons, List.length_append, List.length_map, ih, List.length_cons, Nat.succ_mul, Nat.add_comm]
    rw [Paired.length hk, e, rowsTo_len, show L.cps.toList.length = L.length from Array.length_toList]
    exact h600
  generalize keysOf L n (few + turn) = keys at *
  refine lc_outer (xs := bs.map V.ref) (fun i H2 => ∃ xs : List NRow, H2 D = some (DictN P w D xs) ∧ RowsN H2 xs ∧ RowsJ xs (keys.take i) fs ∧ KeysAt H2 bs keys ∧ H2 r = some (.lst (bs.map V.ref)) ∧ Same H1 H2)
    ⟨[], upd_same, (fun x h => by cases h), .nil, hk.keep fun b xs e => same_new hD _ _ e, same_new hD _ _ hr1, same_new hD⟩ (fun i H2 _ ⟨_, _, _, _, _, h, _⟩ => SqL.of h) ?_ ?_
  · rintro i x H2 hx ⟨xs, g1, g2, g3, g4, g5, g6⟩
    rw [List.getElem?_map] at hx
    cases hb : bs[i]? with
    | none => rw [hb] at hx; cases hx
    | some b =>
    rw [hb] at hx
    cases hx
    obtain ⟨⟨c, row⟩, hkey, a, kb, ka⟩ := prd_at g4 hb
    obtain ⟨hc, hlen⟩ := kmem _ (List.mem_of_getElem? hkey)
    have hi := (List.getElem?_eq_some_iff.mp hb).1
    have lx := Paired.length g3
    rw [List.length_take] at lx
    refine ⟨b, _, rfl, SqT.of kb, rfl, _, _, rfl, _, _, rfl, rfl, rfl, ?_⟩
    refine ⟨_, rfl, _, rfl, (by show 2 ≤ sizeLine; decide), fun b2 hb2 => ?_⟩
    have s2 := same_new (o := .tup [.str (ch c), V.ref a]) hb2
    have kb2 := upd_same (H := H2) (a := b2) (o := .tup [.str (ch c), V.ref a])
    generalize upd H2 b2 (.tup [.str (ch c), V.ref a]) = H3 at *
    have S3 : Same H H3 := (s1.trans g6).trans s2
    refine ⟨rfl, S3, _, rfl, _, rfl, S3, c, a, row, rfl, hc, hlen, s2 _ _ ka, fun H4 s4 => ?_⟩
    have s24 := s2.trans s4
    have kD := s24 _ _ g1
    have tk := fun b ys e => upd_tupN (o := DictN P w D (storedN xs (keyN c row) b2 (nI (fs c row)))) kD b ys (s24 _ _ e)
    refine ⟨xs, keyN c row, b2, rfl, kD, g2.keep fun b ys e => s24 _ _ e, nk_key (s4 _ _ kb2) (s24 _ _ ka), keyN_depth c row, ?_, ?_⟩
    · exact Nat.lt_of_le_of_lt (show _ ≤ 1000000 by omega) (by decide)
    have fresh : ∀ x ∈ xs, x.1 ≠ keyN c row := fun x hx e => by
      obtain ⟨key, hm, e1, _⟩ := prd_mem g3 hx
      rw [e1] at e
      obtain ⟨e2, e3⟩ := keyN_inj e
      exact ahead_ne knd hkey key hm (Prod.ext e2 e3)
    rw [storedN_new fresh] at tk ⊢
    refine ⟨_, upd_same, ?_, ?_, g4.keep tk, upd_lstN kD _ _ (s24 _ _ g5), same_add (g6.trans s24) hD⟩
    · intro x hx
      rcases List.mem_append.mp hx with hx | hx
      · exact (g2.keep tk) x hx
      · rw [List.mem_singleton.mp hx]
        exact ⟨nk_key (upd_tupN kD _ _ (s4 _ _ kb2)) (tk _ _ ka), keyN_depth c row⟩
    · rw [take_succ_of hkey]
      exact prd_app g3 (.cons ⟨rfl, rfl⟩ .nil)
  · rintro H2 ⟨xs, g1, g2, g3, g4, g5, g6⟩
    rw [List.length_map, Paired.length hk, List.take_length] at g3
    exact q D xs H2 (s1.trans g6) (s1.free hD) g1 g2 g3
end

theorem inV_nI (x : Nat) : ∀ g : List Nat, inV (nI x) (g.map nI) = decide (x ∈ g)
  | [] => rfl
  | y :: r => by
    have ih := inV_nI x r
    unfold inV at ih ⊢
    rw [List.map_cons, List.any_cons, ih]
    have e : eqV (nI y) (nI x) = decide (x = y) := by
      show ((y : Int) == (x : Int)) = _
      rw [Bool.eq_iff_iff]
      simp
      omega
    rw [e]
    simp
theorem flat_nI : ∀ g : List Nat, (g.map nI).all flatV = true
  | [] => rfl
  | y :: r => by rw [List.map_cons, List.all_cons, flat_nI r]; rfl
theorem post_last : ∀ t : Tr, ∃ l, t.post = l ++ [t]
  | .node c ks => ⟨posts ks, rfl⟩

theorem tabsN_frP {TT : List NdefX.NTab} {H H' : Hp} {P : Addr} {q : Str} (h : NdefX.TabsN TT H) (hm : (P, fun _ _ => q) ∈ TT) (hu : ∀ z ∈ TT, z.1 = P → z.2 = fun _ _ => q) (f : Fr P H H') (t : LamX.TabS H' P q) : NdefX.TabsN TT H' := fun z hz => by
  by_cases e : z.1 = P
  · rw [hu z hz e, e]
    exact NdefX.TabN.of t
  · obtain ⟨ps, h1, h2, h3⟩ := h z hz
    refine ⟨ps, f _ _ e h1, h2, fun pos cv hc => ?_⟩
    obtain ⟨c, e1, h4⟩ := h3 pos cv hc
    obtain ⟨ps0, g1, _⟩ := h _ hm
    exact ⟨c, e1, f _ _ (fun e2 => by rw [e2, g1] at h4; unfold LamX.CodeO at h4; cases h4) h4⟩
theorem extN_of_frP {H H' : Hp} {P : Addr} {TT : List NdefX.NTab} {q : Str} (h : NdefX.TabsN TT H) (hm : (P, fun _ _ => q) ∈ TT) (f : Fr P H H') : LamX.ExtN H H' := fun b o e n => f b o (fun e2 => by
  obtain ⟨ps0, g1, _⟩ := h _ hm
  rw [e2, g1] at e
  cases e
  exact n _ rfl) e
theorem lent_extN {cs : Lent} {H H' : Hp} (f : LamX.ExtN (lend H cs) H') : LentAt cs H' := fun c o e => f c _ (lend_in e) (fun ps z => by unfold CellO at z; cases z)
theorem same_lend {cs : Lent} {H H2 : Hp} (l : LentAt cs H) (s : Same (unl H cs) H2) : Same H (lend H2 cs) := fun b o e => by
  cases hb : cs.lookup b with
  | some ob => rw [lend_in hb, ← l b ob hb]; exact e
  | none => rw [lend_out hb]; exact s b o (by rw [unl_out hb]; exact e)
theorem extN_unl {cs : Lent} {H H' : Hp} (hn : Fresh cs H) (f : LamX.ExtN (lend H cs) H') : LamX.ExtN H (unl H' cs) := fun b o e n => by
  rw [unl_out (hn.out e)]
  exact f b o (lend_some hn e) n
theorem tabsN_unl {cs : Lent} {TT : List NdefX.NTab} {H H' : Hp} (hn : Fresh cs H) (h : NdefX.TabsN TT H') (l : LentAt cs H') (hcel : Cells cs) : NdefX.TabsN TT (unl H' cs) := fun z hz => by
  obtain ⟨ps, h1, h2, h3⟩ := h z hz
  refine ⟨ps, unl_keep l h1 (fun _ e => by cases e), h2, fun pos cv hc => ?_⟩
  obtain ⟨c, e, h4⟩ := h3 pos cv hc
  refine ⟨c, e, ?_⟩
  cases hb : cs.lookup c with
  | none => rw [unl_out hb]; exact h4
  | some ob =>
    obtain ⟨v, hv⟩ := hcel _ _ hb
    rw [l c ob hb] at h4
    exact absurd (Option.some.inj h4).symm (codeO_cell hv)

theorem neS {x y : V} {i : Decidable (x = y)} {A B : Prop} (h : x = y) (k : B) : if (!@decide (x = y) i) = true then A else B := by
  rw [decide_eq_true h]
  exact iteF k
def FrD (d : Addr) (H H' : Hp) : Prop := ∀ b o, b ≠ d → H b = some o → H' b = some o
theorem keysOf_len (L : Str) (n k : Nat) : (keysOf L n k).length = L.length * k ^ n := by
  have e : (keysOf L n k).length = L.cps.toList.length * (rowsTo n k).length := by
    unfold keysOf
    generalize L.cps.toList = l
    induction l with
    | nil => simp
    | cons a t ih => rw [List.flatMap_cons, List.length_append, List.length_map, ih, List.length_cons, Nat.succ_mul, Nat.add_comm]
  rw [e, rowsTo_len, Array.length_toList]
  rfl
theorem keysOf_mem {L : Str} {n k : Nat} {key : Nat × List Nat} (h : key ∈ keysOf L n k) : key.1 ∈ L.cps.toList ∧ key.2.length = n ∧ ∀ x ∈ key.2, x < k := by
  simp only [keysOf, List.mem_flatMap, List.mem_map] at h
  obtain ⟨c, hc, row, hrow, rfl⟩ := h
  exact ⟨hc, rowsTo_mem hrow⟩
theorem nks_nums {H : Hp} : ∀ {r : List Nat} {vs : List V}, NKs H (r.map fun x : Nat => .num (x : Int)) vs → vs = r.map nI
  | [], _, h => by cases h; rfl
  | x :: r, _, h => by
    cases h with
    | cons a b =>
      cases a
      rw [nks_nums b]
      rfl
theorem nk_inv {H : Hp} {b : Addr} {c : Nat} {r : List Nat} (h : NK H (keyN c r) (.ref b)) : ∃ a, H b = some (.tup [.str (ch c), .ref a]) ∧ H a = some (.tup (r.map nI)) := by
  unfold keyN at h
  cases h with
  | tup h1 h2 =>
    cases h2 with
    | cons a1 a2 =>
    cases a1
    cases a2 with
    | cons b1 b2 =>
    cases b2
    cases b1 with
    | tup c1 c2 =>
    rw [nks_nums c2] at c1
    exact ⟨_, h1, c1⟩

def clsN (few turn x : Nat) : Nat := if x < few + turn then x else few + (x - few) % turn
theorem clsN_lt {few turn : Nat} (h : 1 ≤ turn) (x : Nat) : clsN few turn x < few + turn := by
  unfold clsN
  split
  · assumption
  · have := Nat.mod_lt (x - few) (show turn > 0 by omega)
    omega
theorem clsN_low {few turn x : Nat} (h : x < few + turn) : clsN few turn x = x := by
  unfold clsN
  rw [if_pos h]
theorem clsN_few {few turn x : Nat} (h : few ≤ x) : few ≤ clsN few turn x := by
  unfold clsN
  split <;> omega
theorem clsN_dvd {few turn m : Nat} (hm : m ∣ turn) (x : Nat) : ((clsN few turn x : Nat) : Int) % (m : Int) = ((x : Nat) : Int) % (m : Int) := by
  unfold clsN
  split
  · rfl
  · obtain ⟨q, rfl⟩ := hm
    have e := Nat.div_add_mod (x - few) (m * q)
    have e2 : x = (few + (x - few) % (m * q)) + m * (q * ((x - few) / (m * q))) := by
      rw [← Nat.mul_assoc]
      omega
    have e3 : ((x : Nat) : Int) = ((few + (x - few) % (m * q) : Nat) : Int) + (m : Int) * ((q * ((x - few) / (m * q)) : Nat) : Int) := by
      rw [← Int.natCast_mul, ← Int.natCast_add, ← e2]
    rw [e3, Int.add_mul_emod_self_left]

theorem atN_rows {c : Nat} {row : List Nat} {fs : Nat → List Nat → Nat} : ∀ {xs : List NRow} {keys : List (Nat × List Nat)}, RowsJ xs keys fs → (c, row) ∈ keys → atN xs (keyN c row) = some (nI (fs c row))
  | _, _, .nil, h => by cases h
  | x :: xs, (c', row') :: keys, .cons r t, h => by
    obtain ⟨e1, e2⟩ := r
    by_cases e : (c', row') = (c, row)
    · cases e
      simp [atN, e1, e2]
    · have hm : (c, row) ∈ keys := (List.mem_cons.mp h).resolve_left fun z => e z.symm
      have ne : ¬ x.1 = keyN c row := fun z => e (by
        obtain ⟨a, b⟩ := keyN_inj (e1.symm.trans z)
        dsimp only at a b
        rw [a, b])
      have : atN (x :: xs) (keyN c row) = atN xs (keyN c row) := by simp [atN, List.find?_cons, ne]
      rw [this]
      exact atN_rows t hm


structure JD where
  L : Str
  n : Nat
  few : Nat
  turn : Nat
  fs : Nat → List Nat → Nat
  good : List Nat
def JD.keys (J : JD) : List (Nat × List Nat) := keysOf J.L J.n (J.few + J.turn)
def JD.sf (J : JD) (c : Nat) (row : List Nat) : Nat := J.fs c (row.map (clsN J.few J.turn))
structure JD.ok (J : JD) : Prop where
  L : Lets J.L
  n1 : 1 ≤ J.n
  n6 : J.n ≤ 6
  f4 : J.few ≤ 4
  t1 : 1 ≤ J.turn
  t4 : J.turn ≤ 4
  h600 : J.L.length * (J.few + J.turn) ^ J.n ≤ 600
  lt : ∀ key ∈ J.keys, J.fs key.1 key.2 < J.n
  g6 : J.good.length ≤ 6
  gn : ∀ g ∈ J.good, g < J.n
def JAt (P : Program) (w : World) (H : Hp) (v : V) (J : JD) : Prop := ∃ (j d g : Addr) (xs : List NRow) (keys : List (Nat × List Nat)), v = .ref j ∧ H j = some (.tup [.str J.L, nI J.n, nI J.few, nI J.turn, .ref d, .ref g]) ∧ H d = some (DictN P w d xs) ∧ RowsN H xs ∧ RowsJ xs keys J.fs ∧ keys.Perm J.keys ∧ H g = some (.lst (J.good.map nI))
theorem not_tbl {P : Program} {w : World} {d : Addr} {xs : List NRow} : ∀ ps, DictN P w d xs ≠ .tbl ps := fun ps z => by unfold DictN at z; cases z
theorem JAt.extN {P : Program} {w : World} {H H' : Hp} {v : V} {J : JD} (x : JAt P w H v J) (f : LamX.ExtN H H') : JAt P w H' v J := by
  obtain ⟨j, d, g, xs, keys, rfl, h1, h2, h3, h4, h5, h6⟩ := x
  exact ⟨j, d, g, xs, keys, rfl, f _ _ h1 (fun _ z => by cases z), f _ _ h2 not_tbl, h3.keep fun b ys e => f _ _ e (fun _ z => by cases z), h4, h5, f _ _ h6 (fun _ z => by cases z)⟩
theorem JAt.same {P : Program} {w : World} {H H' : Hp} {v : V} {J : JD} (x : JAt P w H v J) (f : Same H H') : JAt P w H' v J := x.extN (.of f)
theorem rowsTo_all {k : Nat} : ∀ {n : Nat} {r : List Nat}, r.length = n → (∀ x ∈ r, x < k) → r ∈ rowsTo n k
  | 0, r, h, _ => by
    rw [List.length_eq_zero_iff] at h
    subst h
    simp [rowsTo]
  | n + 1, r, h, hx => by
    obtain ⟨a, b, rfl⟩ := concat_of (l := r) (by intro z; rw [z] at h; cases h)
    rw [List.length_append, List.length_singleton] at h
    simp only [rowsTo, List.mem_flatMap, List.mem_map, List.mem_range]
    exact ⟨a, rowsTo_all (by omega) fun x hm => hx x (List.mem_append_left _ hm), b, hx b (List.mem_append_right _ (List.mem_singleton.mpr rfl)), rfl⟩
theorem keysOf_all {L : Str} {n k c : Nat} {row : List Nat} (hc : c ∈ L.cps.toList) (hl : row.length = n) (hx : ∀ x ∈ row, x < k) : (c, row) ∈ keysOf L n k :=
  List.mem_flatMap.mpr ⟨c, hc, List.mem_map.mpr ⟨row, rowsTo_all hl hx, rfl⟩⟩
theorem JD.ok.key {J : JD} (h : J.ok) {c : Nat} {row : List Nat} (hc : c ∈ J.L.cps.toList) (hl : row.length = J.n) : (c, row.map (clsN J.few J.turn)) ∈ J.keys :=
  keysOf_all hc (by rw [List.length_map, hl]) fun x hx => by
    obtain ⟨y, _, rfl⟩ := List.mem_map.mp hx
    exact clsN_lt h.t1 y
theorem JD.ok.sf_lt {J : JD} (h : J.ok) {c : Nat} {row : List Nat} (hc : c ∈ J.L.cps.toList) (hl : row.length = J.n) : J.sf c row < J.n := h.lt _ (h.key hc hl)
def NewN (H : Hp) (r : Addr) : Prop := ∀ o, H r = some o → ∃ ps, o = .tbl ps
def sp_class_of : Sp := fun vs H Q _ => ∃ x few turn : Nat, vs = [nI x, nI few, nI turn] ∧ 1 ≤ turn ∧ Q (nI (clsN few turn x)) H
def sp_state_by_numbers (P : Program) (w : World) : Sp := fun vs H Q _ => ∃ (v : V) (J : JD) (c : Nat) (b : Addr) (row : List Nat), vs = [v, .str (ch c), .ref b] ∧ JAt P w H v J ∧ J.ok ∧ c ∈ J.L.cps.toList ∧ row.length = J.n ∧ H b = some (.lst (row.map nI)) ∧ ∀ H', Same H H' → Q (nI (J.sf c row)) H'
def sp_part_states (P : Program) (w : World) (TT : List NdefX.NTab) : Sp := fun vs H Q _ => ∃ (v u : V) (J : JD) (t : Tr), vs = [v, u] ∧ JAt P w H v J ∧ J.ok ∧ TrAt (fun _ => True) H u t ∧ t.size ≤ 1000000 ∧ t.lets (fun c => c ∈ J.L.cps.toList) ∧ NdefX.TabsN TT H ∧
  ∀ r H', LamX.ExtN H H' → NdefX.TabsN TT H' → NewN H r → H' r = some (.lst ((t.post.map (St J.sf J.n)).map nI)) → Q (.ref r) H'
def sp_state_of (P : Program) (w : World) (TT : List NdefX.NTab) : Sp := fun vs H Q _ => ∃ (v u : V) (J : JD) (t : Tr), vs = [v, u] ∧ JAt P w H v J ∧ J.ok ∧ TrAt (fun _ => True) H u t ∧ t.size ≤ 1000000 ∧ t.lets (fun c => c ∈ J.L.cps.toList) ∧ NdefX.TabsN TT H ∧
  ∀ H', LamX.ExtN H H' → NdefX.TabsN TT H' → Q (nI (St J.sf J.n t)) H'
def sp_lets_by (P : Program) (w : World) (TT : List NdefX.NTab) : Sp := fun vs H Q _ => ∃ (v u : V) (J : JD) (t : Tr), vs = [v, u] ∧ JAt P w H v J ∧ J.ok ∧ TrAt (fun _ => True) H u t ∧ t.size ≤ 1000000 ∧ t.lets (fun c => c ∈ J.L.cps.toList) ∧ NdefX.TabsN TT H ∧
  ∀ H', LamX.ExtN H H' → NdefX.TabsN TT H' → Q (.bl (decide (St J.sf J.n t ∈ J.good))) H'
structure TTp {K : PySem.W.Frag} {mg : Str → Option Value} (T : Txt K mg) (TT : List NdefX.NTab) : Prop where
  s1 : (T.P_states_upward, fun _ _ => q_states_upward) ∈ TT
  s2 : ∀ z ∈ TT, z.1 = T.P_states_upward → z.2 = fun _ _ => q_states_upward
  r1 : (T.P_part_states, fun _ _ => q_part_states) ∈ TT
  r2 : ∀ z ∈ TT, z.1 = T.P_part_states → z.2 = fun _ _ => q_part_states
section
variable {P : Program} {w : World} {K : PySem.W.Frag} {mg : Str → Option Value} {base : Heap}
theorem ok_class_of (T : Txt K mg) : FnOk P w K mg base CX0 1 T.f_class_of T.d_class_of ["number", "few", "turn"] sp_class_of := by
  refine T.F_class_of.ok sc_class_of (fun vs H Q E h => ?_) (fun cdv A outer s H vs Q E hr h => ?_)
  · obtain ⟨x, few, turn, rfl, _⟩ := h
    rfl
  obtain ⟨x, few, turn, rfl, ht, q⟩ := h
  refine ⟨_, (pss_cons (ps_if (pt_cmpR op_lt (pv 0) (pe_op op_add (pv 1) (pv 2)) (nomark _)) (pss_one (ps_ret (pv 0))) pss_nil) (pss_one (ps_ret (pe_op op_add (pv 1) (pe_op op_mod (pe_op op_sub (pv 0) (pv 1)) (pv 2)))))), ?_⟩
  refine ⟨_, rfl, _, rfl, _, rfl, _, _, rfl, rfl, _, _, rfl, rfl, _, rfl, ?_⟩
  by_cases hx : x < few + turn
  · rw [clsN_low hx] at q
    exact dT (by omega) ⟨_, rfl, q⟩
  · refine dF (by omega) ⟨_, rfl, _, rfl, _, rfl, _, _, rfl, rfl, _, rfl, _, _, rfl, rfl, by omega, _, _, rfl, rfl, ?_⟩
    have e : (few : Int) + ((x : Int) - (few : Int)) % (turn : Int) = ((clsN few turn x : Nat) : Int) := by
      unfold clsN
      rw [if_neg hx]
      have : ((x : Int) - (few : Int)) = ((x - few : Nat) : Int) := by omega
      rw [this]
      push_cast
      rfl
    show Q (V.int ((few : Int) + ((x : Int) - (few : Int)) % (turn : Int))) H
    rw [e]
    exact q
theorem ok_state_by_numbers (T : Txt K mg) : FnOk P w K mg base CX0 2 T.f_state_by_numbers T.d_state_by_numbers ["judge", "letter", "numbers"] (sp_state_by_numbers P w) := by
  have G_class_of : FnOk P w K mg base CX0 1 T.f_class_of T.d_class_of ["number", "few", "turn"] sp_class_of := ok_class_of T
  refine T.F_state_by_numbers.ok sc_state_by_numbers (fun vs H Q E h => ?_) (fun cdv A outer s H vs Q E hr h => ?_)
  · obtain ⟨v, J, c, b, row, rfl, _⟩ := h
    rfl
  obtain ⟨v, J, c, b, row, rfl, hJ, hok, hc, hl, hb, q⟩ := h
  refine ⟨_, (pss_cons (ps_setLc (i := 3) (own := [("number", 4)]) (g := gName 4) (te := tCall sp_class_of [] E0 (tCons (tVar 4) (tCons (tOp (rIxT K) (tVar 0) (tC (.int 2))) (tCons (tOp (rIxT K) (tVar 0) (tC (.int 3))) tNil)))) (tt := tYes) rfl sc_state_by_numbers.nd rfl rfl (sw_true rfl rfl rfl (by decide +kernel)) (pi_list (pv 2)) (blkOk_by (own := [("number", 4)]) (N := ["judge", "letter", "numbers", "row", "number"]) (sc := (defScope s_state_by_numbers)) (by decide +kernel)) (fun _ _ _ _ _ => (pg_name (i := 4) sc_state_by_numbers.nd rfl (Or.inl rfl))) (fun _ _ _ _ _ => pts_nil) (fun _ _ _ _ _ => (pe_call G_class_of (hr.mono (by omega)) (by rfl) T.m_class_of T.F_class_of.kp T.b_class_of .nil pass0 (pa_cons (pv 4) (pa_cons (pe_ix ix_tup (pv 0) pe_int (fun _ _ => rfl)) (pa_cons (pe_ix ix_tup (pv 0) pe_int (fun _ _ => rfl)) pa_nil)))))) (pss_one (ps_ret (pe_dgetN (roomN hr) (pe_ix ix_tup (pv 0) pe_int (fun _ _ => rfl)) (pe_tup (pa_cons (pv 1) (pa_cons (pe_callTy call_tuple_of (by rfl) T.z_tuple (by decide +kernel) (pa_cons (pv 3) pa_nil)) pa_nil))) (fun _ _ => rfl))))), ?_⟩
  have hkey := hok.key hc hl
  have l6 : row.length ≤ 6 := by rw [hl]; exact hok.n6
  obtain ⟨j, d, g, xs, keys, rfl, hj, hd, hrn, hrj, hper, hg⟩ := hJ
  have hat := atN_rows hrj (hper.mem_iff.mpr hkey)
  refine ⟨_, rfl, b, rfl, ⟨_, SqL.of hb⟩, fun D hD => ?_⟩
  refine lc_list (xs := row.map nI) (fun i H2 => H2 D = some (.lst (((row.take i).map (clsN J.few J.turn)).map nI)) ∧ Same H H2) ⟨upd_same, same_new hD⟩ (fun i H2 _ ⟨_, s⟩ => SqL.of (s _ _ hb)) ?_ ?_
  · rintro i x H2 hx ⟨g1, g2⟩
    rw [List.getElem?_map] at hx
    cases hz : row[i]? with
    | none => rw [hz] at hx; cases hx
    | some z =>
    rw [hz] at hx
    cases hx
    refine ⟨rfl, _, rfl, _, rfl, j, _, 2, _, rfl, rfl, SqT.of (g2 _ _ hj), atI_nat (j := 2) rfl, _, rfl, j, _, 3, _, rfl, rfl, SqT.of (g2 _ _ hj), atI_nat (j := 3) rfl, z, J.few, J.turn, rfl, hok.t1, _, g1, ?_, ?_, same_add g2 hD⟩
    · rw [List.length_map, List.length_map, List.length_take]
      exact Nat.lt_of_le_of_lt (show _ ≤ 1000000 by omega) (by decide)
    · rw [upd_same, take_succ_of hz, List.map_append, List.map_append]
      rfl
  · rintro H2 ⟨g1, g2⟩
    rw [List.length_map, List.take_length] at g1
    refine ⟨_, rfl, j, _, 4, .ref d, rfl, rfl, SqT.of (g2 _ _ hj), atI_nat (j := 4) rfl, _, rfl, _, rfl, D, _, rfl, .inl ⟨SqL.of g1, fun t ht => ?_⟩⟩
    have s3 := same_new ht (o := .tup ((row.map (clsN J.few J.turn)).map nI))
    have k3 := upd_same (H := H2) (a := t) (o := .tup ((row.map (clsN J.few J.turn)).map nI))
    generalize upd H2 t (.tup ((row.map (clsN J.few J.turn)).map nI)) = H3 at *
    refine ⟨(by show 2 ≤ sizeLine; decide), fun b2 hb2 => ?_⟩
    have s4 := same_new hb2 (o := .tup [.str (ch c), .ref t])
    have k4 := upd_same (H := H3) (a := b2) (o := .tup [.str (ch c), .ref t])
    generalize upd H3 b2 (.tup [.str (ch c), .ref t]) = H4 at *
    have S := (g2.trans s3).trans s4
    exact ⟨d, b2, xs, keyN c (row.map (clsN J.few J.turn)), _, rfl, rfl, S _ _ hd, hrn.keep fun b ys e => S _ _ e, nk_key k4 (s4 _ _ k3), keyN_depth _ _, hat, q H4 S⟩
def sp_judge_lam (P : Program) (w : World) (J : JD) (v : V) : Sp := fun vs H Q _ => ∃ (c : Nat) (b : Addr) (cs : List Nat), vs = [.str (ch c), .ref b] ∧ c ∈ J.L.cps.toList ∧ cs.length = J.n ∧ H b = some (.lst (cs.map nI)) ∧ JAt P w H v J ∧ ∀ H', Same H H' → Q (nI (J.sf c cs)) H'
theorem ok_part_states (T : Txt K mg) (B : Tbs T base) {TT : List NdefX.NTab} (hTT : TTp T TT) : FnOk P w K mg base CX0 15 T.f_part_states T.d_part_states ["judge", "tree"] (sp_part_states P w TT) := by
  have G_states_upward : FnOk P w K mg base CX0 14 T.f_states_upward T.d_states_upward ["tree", "letters", "states", "state_at"] (sp_states_upward P w K mg base TT) := ok_states_upward T B TT hTT.s1 hTT.s2
  refine okC T.F_part_states T.h_part_states sc_part_states (fun vs H Q E h => ?_) (fun A outer s H vs Q E hr h => ?_)
  · obtain ⟨v, u, J, t, rfl, _⟩ := h
    rfl
  obtain ⟨v, u, J, t, rfl, hJ, hok, ht, hz, hL, hT, q⟩ := h
  refine ⟨_, (pss_one (ps_ret (pe_callLd G_states_upward (hr.mono (by omega)) (by rfl) T.m_states_upward T.F_states_upward.kp T.b_states_upward (fun _ => rfl) (pa_cons (pv 1) (pa_cons (pe_ix ix_tup (pv 0) pe_int (fun _ _ => rfl)) (pa_cons (pe_ix ix_tup (pv 0) pe_int (fun _ _ => rfl)) (pa_cons (pe_lamXc B.tb_part_states rfl (by rfl) (fr := ["judge"]) (by show NdefX.ndefB (defScope s_part_states) _ _ = true; decide +kernel)) pa_nil))))))), ?_⟩
  have hJ0 := hJ
  obtain ⟨j, d, g, xs, keys, rfl, hj, hd, hrn, hrj, hper, hg⟩ := hJ0
  refine ⟨_, rfl, _, rfl, j, _, 0, _, rfl, rfl, SqT.of hj, atI_nat (j := 0) rfl, _, rfl, j, _, 1, _, rfl, rfl, SqT.of hj, atI_nat (j := 1) rfl, NdefX.TabN.to (hT _ hTT.r1), fun f c H1 f1 n1 T1 hf0 hf hc cs hcs => ?_⟩
  have hnew := hcs.new
  have E1 : LamX.ExtN H H1 := extN_of_frP hT hTT.r1 f1
  have TN1 : NdefX.TabsN TT H1 := tabsN_frP hT hTT.r1 hTT.r2 f1 T1
  have hJ1 := hJ.extN E1
  refine ⟨u, t, J.L, J.n, f, J.sf, rfl, (ht.extN1 E1).same (lend_same hnew), hz, hL, Nat.le_trans hok.n6 (by decide), TN1.ext (fun b o e => lend_some hnew e), ?_, fun r H2 e2 T2 hr0 hr2 => ⟨lent_extN e2, ?_⟩⟩
  · refine CalX.imp2 (k := 9 + 1) (calX_lamC (k := 9) (N := ["letter", "numbers", "judge"]) (ps := ["letter", "numbers"]) (f := f) (F := _) (sp := sp_judge_lam P w J (.ref j)) (NdefX.nscope_by (by dsimp only; decide +kernel)) (hcs.got _ ["judge"] [0] (by show NdefX.ndefB (defScope s_part_states) _ _ = true; decide +kernel) rfl) hcs.cel (fun pm ctv us hl => match us, hl with | [_, _], _ => rfl) (fun vs H Q E h => ?_) (fun A outer s H vs Q E hr h => ?_)) (Nat.le_refl _) (fun vs H Q E h => ?_) (fun H' e => ⟨e _ _ (lend_some hnew hf) (fun ps z => by unfold LamO at z; cases z), e _ _ (lend_some hnew hc) (fun ps z => by unfold LamX.CodeO at z; cases z), lent_extN e⟩) (fun vs H' Q E e h => ?_)
    · obtain ⟨c, b, cs, rfl, _⟩ := h
      rfl
    · obtain ⟨c, b, cs, rfl, hc, hl, hb, hJ', qq⟩ := h
      have G_state_by_numbers : FnOk P w K mg base CX0 2 T.f_state_by_numbers T.d_state_by_numbers ["judge", "letter", "numbers"] (sp_state_by_numbers P w) := ok_state_by_numbers T
      refine ⟨_, (pe_call G_state_by_numbers (hr.mono (by omega)) (by rfl) T.m_state_by_numbers T.F_state_by_numbers.kp T.b_state_by_numbers .nil pass0 (pa_cons (pv 2) (pa_cons (pv 0) (pa_cons (pv 1) pa_nil)))), ?_⟩
      exact ⟨_, rfl, _, rfl, _, rfl, _, J, c, b, cs, rfl, hJ', hok, hc, hl, hb, fun H2 s2 => qq H2 s2⟩
    · obtain ⟨c, b, cs, rfl, _⟩ := h
      rfl
    · obtain ⟨c, b, ds, rfl, hc', hl, _, hb, qq⟩ := h
      have lt := lent_extN e
      exact ⟨c, b, ds, rfl, hc', hl, unl_keep lt hb (fun _ z => by cases z), hJ1.extN (extN_unl hnew e), fun H2 s2 => qq _ (same_lend lt s2)⟩
  · have lt := lent_extN e2
    have hr3 := unl_keep lt hr2 (fun _ z => by cases z)
    refine q r _ (E1.trans (extN_unl hnew e2)) (tabsN_unl hnew T2 lt hcs.cel) (fun o hh => Classical.byContradiction fun ht => ?_) hr3
    have := E1 _ _ hh fun ps z => ht ⟨ps, z⟩
    rw [lend_some hnew this] at hr0
    cases hr0
theorem ok_state_of (T : Txt K mg) (B : Tbs T base) {TT : List NdefX.NTab} (hTT : TTp T TT) : FnOk P w K mg base CX0 16 T.f_state_of T.d_state_of ["judge", "tree"] (sp_state_of P w TT) := by
  have G_part_states : FnOk P w K mg base CX0 15 T.f_part_states T.d_part_states ["judge", "tree"] (sp_part_states P w TT) := ok_part_states T B hTT
  refine T.F_state_of.ok sc_state_of (fun vs H Q E h => ?_) (fun cdv A outer s H vs Q E hr h => ?_)
  · obtain ⟨v, u, J, t, rfl, _⟩ := h
    rfl
  obtain ⟨v, u, J, t, rfl, hJ, hok, ht, hz, hL, hT, q⟩ := h
  refine ⟨_, (pss_one (ps_ret (pe_ix ix_list (pe_call G_part_states (hr.mono (by omega)) (by rfl) T.m_part_states T.F_part_states.kp T.b_part_states .nil pass0 (pa_cons (pv 0) (pa_cons (pv 1) pa_nil))) (pe_un un_neg pe_int) (fun _ _ => rfl)))), ?_⟩
  refine ⟨_, rfl, _, rfl, v, u, J, t, rfl, hJ, hok, ht, hz, hL, hT, fun r H2 e2 T2 hr0 hr2 => ?_⟩
  obtain ⟨l, hl⟩ := post_last t
  rw [hl, List.map_append, List.map_append] at hr2
  exact ⟨1, rfl, r, _, -1, _, rfl, rfl, SqL.of hr2, atI_last _ _, q _ e2 T2⟩
theorem ok_lets_by (T : Txt K mg) (B : Tbs T base) {TT : List NdefX.NTab} (hTT : TTp T TT) : FnOk P w K mg base CX0 17 T.f_lets_by T.d_lets_by ["judge", "tree"] (sp_lets_by P w TT) := by
  have G_state_of : FnOk P w K mg base CX0 16 T.f_state_of T.d_state_of ["judge", "tree"] (sp_state_of P w TT) := ok_state_of T B hTT
  refine T.F_lets_by.ok sc_lets_by (fun vs H Q E h => ?_) (fun cdv A outer s H vs Q E hr h => ?_)
  · obtain ⟨v, u, J, t, rfl, _⟩ := h
    rfl
  obtain ⟨v, u, J, t, rfl, hJ, hok, ht, hz, hL, hT, q⟩ := h
  refine ⟨_, (pss_one (ps_ret (pe_cmpR op_in_seq (pe_call G_state_of (hr.mono (by omega)) (by rfl) T.m_state_of T.F_state_of.kp T.b_state_of .nil pass0 (pa_cons (pv 0) (pa_cons (pv 1) pa_nil))) (pe_ix ix_tup (pv 0) pe_int (fun _ _ => rfl)) (by rfl)))), ?_⟩
  refine ⟨_, rfl, _, rfl, v, u, J, t, rfl, hJ, hok, ht, hz, hL, hT, fun H2 e2 T2 => ?_⟩
  obtain ⟨j, d, g, xs, keys, rfl, hj, hd, hrn, hrj, hper, hg⟩ := hJ.extN e2
  exact ⟨_, rfl, j, _, 5, _, rfl, rfl, SqT.of hj, atI_nat (j := 5) rfl, g, _, rfl, .inl (SqL.of hg), rfl, flat_nI _, by rw [if_neg (by decide), inV_nI]; exact q H2 e2 T2⟩
end

section
variable {X : Cx}
def rListN (P : Program) (w : World) : List V → Hp → VK → Prop := fun vs H Q => ∃ (d : Addr) (xs : List NRow), vs = [.ref d] ∧ H d = some (DictN P w d xs) ∧ ∀ q, H q = none → Q (.ref q) (upd H q (.lst (xs.map fun x => V.ref x.2.1)))
theorem call_listN (hc : X.calm = true) : CallR X (.type "list") (rListN X.prog X.w) := by
  intro pins s σ H vs ws Q I r h
  obtain ⟨d, xs, rfl, hd, q⟩ := h
  obtain ⟨u, rfl, rx⟩ := vals1 r
  cases rx
  obtain ⟨⟨h1, h2, us, h3, o, es, ep, e1, e2, e3, e4, e5⟩, _, _⟩ := I.hok _ _ hd
  have hl : us.length = es.size := by
    have := congrArg List.length e4
    rw [List.length_map, Array.length_toList] at this
    exact this.symm
  have ln : xs.length = us.length := Paired.length h3
  refine PySem.W.kdl_call (kdl_raw h1 e2 e3) (I.ok.hd hc) e1 (by omega) fun h' tk acc' c' hkeep hS hacc => ?_
  refine ⟨.ref s.heap.objs.size, _, I.laid hkeep (Nat.le_refl _) (show ObjOk X.prog X.w _ _ _ (.lst (xs.map fun x => V.ref x.2.1)) from ⟨?_, acc'.toList, c', ?_, ?_⟩), rfl, q _ (I.hok.fresh (Nat.le_refl _))⟩
  · rw [List.length_map]; exact h2
  · have el : acc'.toList.length = acc'.size := by simp
    refine vals_of_at (by rw [List.length_map, el, hacc.1, ← hl, ln]) fun j x w h1 h2 => ?_
    obtain ⟨en, hen, hw⟩ := hacc.2 j w (by rw [← Array.getElem?_toList]; exact h2)
    rw [← Array.getElem?_toList, e4, List.getElem?_map] at hen
    rw [List.getElem?_map] at h1
    cases hx : xs[j]? with
    | none => rw [hx] at h1; cases h1
    | some row =>
      rw [hx] at h1
      cases h1
      obtain ⟨u, hu, k1, k2, k3⟩ := prd_at h3 hx
      rw [hu] at hen
      cases hen
      rw [hw]
      show Value.ref u.2.1 = Value.ref row.2.1
      rw [← k2]
  · rw [Array.toArray_toList]; exact hS
theorem storedAll_new {ps : List (NestedKey × Addr × Value)} (nd : (ps.map (·.1)).Nodup) : storedAllH [] ps = ps := by
  have : ∀ (n : Nat), n ≤ ps.length → storedAllH [] (ps.take n) = ps.take n := by
    intro n
    induction n with
    | zero => intro _; rfl
    | succ n ih =>
      intro hn
      have hp : ps[n]? = some ps[n] := List.getElem?_eq_getElem hn
      rw [storedAllH_take_succ [] ps n _ hp, ih (by omega), List.take_add_one, hp]
      have none : atKey (ps.take n) ps[n].1 = none := by
        cases e : atKey (ps.take n) ps[n].1 with
        | none => rfl
        | some v =>
          exfalso
          have hm : ∃ x ∈ ps.take n, x.1 = ps[n].1 := by
            unfold atKey at e
            cases f : (ps.take n).find? fun x => decide (x.1 = ps[n].1) with
            | none => rw [f] at e; cases e
            | some x => exact ⟨x, List.mem_of_find?_eq_some f, by simpa using List.find?_some f⟩
          obtain ⟨x, hx, ex⟩ := hm
          obtain ⟨j, hj⟩ := List.getElem?_of_mem hx
          have hjn : j < n := by
            have := (List.getElem?_eq_some_iff.mp hj).1
            rw [List.length_take] at this
            omega
          rw [List.getElem?_take_of_lt hjn] at hj
          have g1 : (ps.map (·.1))[j]? = some ps[n].1 := by rw [List.getElem?_map, hj]; exact congrArg some ex
          have g2 : (ps.map (·.1))[n]? = some ps[n].1 := by rw [List.getElem?_map, hp]; rfl
          have := (List.getElem?_inj (List.getElem?_eq_some_iff.mp g1).1 nd).mp (g1.trans g2.symm)
          omega
      unfold storedH
      rw [none]
      rfl
  have := this ps.length (Nat.le_refl _)
  rwa [List.take_length] at this
def rDictP (P : Program) (w : World) : List V → Hp → VK → Prop := fun vs H Q => ∃ (l : Addr) (bs : List Addr) (ps : List NRow), vs = [.ref l] ∧ H l = some (.lst (bs.map V.ref)) ∧ Paired (fun (b : Addr) (p : NRow) => H b = some (.tup [.ref p.2.1, p.2.2])) bs ps ∧ RowsN H ps ∧ (ps.map (·.1)).Nodup ∧ ps.length ≤ sizeLine ∧
  ∀ d, H d = none → Q (.ref d) (upd H d (DictN P w d ps))
theorem call_dictP (hc : X.calm = true) (hu : X.A.units + 12 < cLine) : CallR X (.type "dict") (rDictP X.prog X.w) := by
  intro pins s σ H vs ws Q I r h
  obtain ⟨l, bs, ps, rfl, hl, hp, hr, nd, hz, q⟩ := h
  obtain ⟨u, rfl, rx⟩ := vals1 r
  cases rx
  obtain ⟨its, ri, ⟨o, m, g1, g2, g3, g4⟩, _⟩ := I.list (SqL.of hl)
  have pick : ∀ (bs : List Addr) (ps : List NRow), Paired (fun (b : Addr) (p : NRow) => H b = some (.tup [.ref p.2.1, p.2.2])) bs ps → ∃ us : List (NestedKey × Addr × Value), RowsP ps us ∧ Paired (fun (b : Addr) (u : NestedKey × Addr × Value) => s.heap.IsTuple b #[.ref u.2.1, u.2.2]) bs us := by
    intro bs ps p
    induction p with
    | nil => exact ⟨[], .nil, .nil⟩
    | @cons b x bs ps e t ih =>
      obtain ⟨us, a1, a2⟩ := ih
      obtain ⟨vs2, r1, k1, _⟩ := I.tuple (SqT.of e)
      cases r1 with
      | cons c1 c2 =>
      cases c2 with
      | cons c3 c4 =>
      cases c4
      cases c1
      exact ⟨(x.1, x.2.1, _) :: us, .cons ⟨rfl, rfl, c3⟩ a1, .cons k1 a2⟩
  obtain ⟨us, a1, a2⟩ := pick bs ps hp
  have lb : bs.length = us.length := Paired.length a2
  have lp : ps.length = us.length := Paired.length a1
  have li := ri.length
  rw [List.length_map] at li
  have keys : ps.map (·.1) = us.map (·.1) := by
    have : ∀ (ps : List NRow) (us : List (NestedKey × Addr × Value)), RowsP ps us → ps.map (·.1) = us.map (·.1) := by
      intro ps us p
      induction p with
      | nil => rfl
      | cons r t ih => rw [List.map_cons, List.map_cons, r.1, ih]
    exact this _ _ a1
  have nds : ((us.map (·.1))).Nodup := by rw [← keys]; exact nd
  have isk : ∀ x ∈ us, (nestedKind X.prog X.w).is s.heap x.1 x.2.1 := by
    have : ∀ (xs : List NRow) (us : List (NestedKey × Addr × Value)), RowsP xs us → RowsN H xs → ∀ u ∈ us, (nestedKind X.prog X.w).is s.heap u.1 u.2.1 := by
      intro xs us p
      induction p with
      | nil => intro _ u hu; cases hu
      | cons r t ih =>
        intro hk u hu
        rcases List.mem_cons.mp hu with rfl | hu
        · obtain ⟨n1, n2⟩ := hk _ List.mem_cons_self
          refine ⟨?_, ?_⟩
          · rw [← r.1, ← r.2.1]
            exact NK.is I n1 rfl
          · rw [← r.1]
            exact n2
        · exact ih (fun x hx => hk x (List.mem_cons_of_mem _ hx)) u hu
    exact this _ _ a1 hr
  have lo : s.heap.objs.size ≠ sysModules := Ne.symm (Nat.ne_of_lt I.big)
  refine call_dict_pairsH (knd := nestedKind X.prog X.w) (ps := us) (PairArg.list l its.toArray (fun j => bs.getD j 0) (us.map fun u => (Value.ref u.2.1, u.2.2))) (I.ok.hd hc) (show X.A.units + 1 + 1 + 8 < cLine by omega) ?_ ?_ (fun h' hk x hx => ?_) (by rw [List.length_map, ← lp]; exact hz) fun h' tk hd' hk => ?_
  · refine ⟨⟨o, m, g1, g2, g3, g4⟩, ?_, fun j k v hj => ?_⟩
    · rw [List.size_toArray, List.length_map]; omega
    · rw [List.getElem?_map] at hj
      cases hu : us[j]? with
      | none => rw [hu] at hj; cases hj
      | some u =>
        rw [hu] at hj
        cases hj
        have hjb : j < bs.length := by rw [lb]; exact (List.getElem?_eq_some_iff.mp hu).1
        have hb : bs[j]? = some bs[j] := List.getElem?_eq_getElem hjb
        have ed : bs.getD j 0 = bs[j] := by rw [List.getD_eq_getElem?_getD, hb]; rfl
        obtain ⟨u2, hu2, k1⟩ := prd_at a2 hb
        have e2 := Option.some.inj (hu2.symm.trans hu)
        subst e2
        dsimp only
        rw [ed]
        refine ⟨?_, .inl k1⟩
        obtain ⟨u3, hu3, r3⟩ := ri.get (show (bs.map V.ref)[j]? = some (V.ref bs[j]) by rw [List.getElem?_map, hb]; rfl)
        cases r3
        rw [List.getElem?_toArray]
        exact hu3
  · refine ⟨by rw [List.length_map], fun i key v hi => ?_⟩
    have hi : (us.map fun u => (Value.ref u.2.1, u.2.2))[i]? = some (key, v) := hi
    rw [List.getElem?_map] at hi
    cases hu : us[i]? with
    | none => rw [hu] at hi; cases hi
    | some u =>
      rw [hu] at hi
      cases hi
      exact ⟨u.1, u.2.1, rfl, rfl⟩
  · exact nestedKind_stays.stays (fun b o vs m e q => hk b o (Nat.ne_of_lt (Heap.lt_size e)) (fun z => nomatch z) e) (isk x hx)
  · rw [storedAll_new nds] at hd'
    obtain ⟨ob, es, ep, e1, e2, e3, e4, _, e5⟩ := hd'
    exact ⟨.ref s.heap.objs.size, _, I.laid (t' := tk) (fun b o e => hk b o (fun z => nomatch z) e) (Nat.le_refl _) (dictN_ok (beq_eq_false_iff_ne.mpr lo) hz a1 ⟨ob, es, ep, e1, e2, e3, e4, e5⟩), rfl, q _ (I.hok.fresh (Nat.le_refl _))⟩
end

def everyV {α : Type} (k a : Nat) (xs : List α) : List α := (List.range (if a < xs.length then (xs.length - a - 1) / k + 1 else 0)).filterMap fun m => xs[a + m * k]?
section
open HT
variable {prog : Program} {w : World} {A : Around} {E : Value → Shared → Prop} {s : Shared}
theorem applied_step {sl : Addr} {vl vs : Value} {a k n : Nat} {Q : Int × Int × Nat → Shared → Prop} (hs : s.heap.IsSliceOf sl vl .none vs) (pl : IsPart vl (some (a : Int))) (ps : IsPart vs (some (k : Int))) (hk : 1 ≤ k) (ha : a ≤ n)
    (h : Q (((a : Nat) : Int), ((k : Nat) : Int), if a < n then (n - a - 1) / k + 1 else 0) s) : wpAny (model prog w) A (Builtin.Slice.sliceApplied (.ref sl) (pure (n : Int))) Q E s := by
  obtain ⟨os, hos, hcs, hds⟩ := id hs
  unfold Builtin.Slice.sliceApplied Builtin.Slice.sliceFields
  refine wpAny_bind (wpAny_bind (wpAny_field hos hds (x := vl) rfl (wpAny_bind (wpAny_field hos hds (x := .none) rfl (wpAny_bind (wpAny_field hos hds (x := vs) rfl (wpAny_pure ?_)))))))
  refine wpAny_bind (slicePart_ ps ?_)
  show wpAny _ _ (if ((k : Int) == 0) = true then _ else _) _ _ s
  rw [if_neg (by simp; omega)]
  refine wpAny_bind (slicePart_ pl (wpAny_bind (slicePart_none (wpAny_bind (wpAny_pure ?_)))))
  have e1 : Builtin.Slice.sliceAdjust (some (a : Int)) none (k : Int) (n : Int) = ((a : Int), (n : Int)) := by
    have h1 : ¬ ((k : Int) < 0) := by omega
    unfold Builtin.Slice.sliceAdjust
    simp only [h1, if_false]
    refine Prod.ext ?_ rfl
    show (if (a : Int) < 0 then max ((a : Int) + (n : Int)) 0 else min (a : Int) (n : Int)) = (a : Int)
    rw [if_neg (by omega)]
    omega
  show wpAny _ _ (match Builtin.Slice.sliceAdjust (some (a : Int)) none (k : Int) (n : Int) with | (lo, hi) => pure (lo, (k : Int), Builtin.Slice.slicePlaces lo hi (k : Int))) _ _ s
  rw [e1]
  show wpAny _ _ (pure (((a : Nat) : Int), ((k : Nat) : Int), Builtin.Slice.slicePlaces (a : Int) (n : Int) (k : Int))) _ _ s
  have e2 : Builtin.Slice.slicePlaces (a : Int) (n : Int) (k : Int) = if a < n then (n - a - 1) / k + 1 else 0 := by
    unfold Builtin.Slice.slicePlaces
    rw [if_pos (show (k : Int) > 0 by omega)]
    by_cases hl : a < n
    · rw [if_pos (by omega), if_pos hl]
      have e3 : ((n : Int) - (a : Int) - 1) = ((n - a - 1 : Nat) : Int) := by omega
      rw [e3, ← Int.natCast_ediv, ← Int.natCast_succ, Int.toNat_natCast]
    · rw [if_neg (by omega), if_neg hl]
      rfl
  rw [e2]
  exact wpAny_pure h
theorem getItem_tuple_step {t sl : Addr} {items : Array Value} {vl vs : Value} {a k : Nat} {Q : Value → Shared → Prop} (ht : IsTup s.heap t items) (hs : s.heap.IsSliceOf sl vl .none vs) (pl : IsPart vl (some (a : Int))) (ps : IsPart vs (some (k : Int))) (hk : 1 ≤ k) (ha : a ≤ items.size)
    (h1 : a = 0 ∧ k = 1 → Q (.ref t) s) (h2 : ¬ (a = 0 ∧ k = 1) → Q (.ref s.heap.objs.size) { s with heap := s.heap.push { cls := .type "tuple", data := .seq (everyV k a items.toList).toArray } })
    (hsz : items.size ≤ sizeLine) : wpAny (model prog w) A (getItem (.ref t) (.ref sl)) Q E s := by
  obtain ⟨os, hos, hcs, hds⟩ := id hs
  have hTs : s.TypeIs (.ref sl) "slice" := ⟨os, hos, hcs⟩
  have few : (everyV k a items.toList).length ≤ items.size := by
    unfold everyV
    refine Nat.le_trans (List.length_filterMap_le _ _) ?_
    rw [List.length_range, Array.length_toList]
    split
    · have : (items.size - a - 1) / k ≤ items.size - a - 1 := Nat.div_le_self _ _
      omega
    · omega
  have htake : sizeOk (.seq (everyV k a items.toList).toArray) := by
    show (everyV k a items.toList).toArray.size ≤ sizeLine
    rw [List.size_toArray]
    omega
  unfold getItem
  try with_reducible refine wpAny_holding ?_
  first | refine wpAny_bind (wpAny_pure ?_) | skip
  refine wpAny_bind (wpAny_sequenceKey ht.typeIs (by decide) ?_)
  refine wpAny_bind (wpAny_callSpecial?_slot (name := Str.ofString "__getitem__") ht.typeIs PyProof.Rows.slot_tuple_getitem
    (wpAny_call_entry PyProof.Rows.slot_tuple_getitem ht.typeIs entry_tuple_getitem ?_ (args_tuple_getitem _ _)))
  show wpAny _ _ (Builtin.Tuple.tupleItemsOf (.ref t) >>= _) _ _ s
  refine wpAny_bind (tupleItemsOf_ ht ?_)
  refine wpAny_bind (wpAny_typeOf hTs ?_)
  rw [if_pos (by decide)]
  refine wpAny_bind (applied_step hs pl ps hk ha ?_)
  show wpAny _ _ (if (((a : Nat) : Int) == 0 && ((k : Nat) : Int) == 1 && (if a < items.size then (items.size - a - 1) / k + 1 else 0) == items.size) = true then _ else _) _ _ s
  by_cases whole : a = 0 ∧ k = 1
  · obtain ⟨rfl, rfl⟩ := whole
    have hyes : ((((0 : Nat) : Nat) : Int) == 0 && ((1 : Nat) : Int) == 1 && (if 0 < items.size then (items.size - 0 - 1) / 1 + 1 else 0) == items.size) = true := by
      have : (if 0 < items.size then (items.size - 0 - 1) / 1 + 1 else 0) = items.size := by
        split
        · rw [Nat.div_one]; omega
        · omega
      rw [this]
      simp
    rw [if_pos hyes]
    refine wpAny_bind ?_
    show wpAny _ _ (typeOf (.ref t) >>= fun T => pure (T == .type "tuple")) _ _ s
    refine wpAny_bind (wpAny_typeOf ht.typeIs (wpAny_pure ?_))
    first
      | rw [if_pos (by decide)]
      | simp only [beq_self_eq_true, if_true]
    first
      | exact wpAny_bind (wpAny_rule (wpAny_pure ⟨_, rfl, wpAny_pure (h1 ⟨rfl, rfl⟩)⟩))
      | exact wpAny_bind (wpAny_rule (wpAny_bind (wpAny_pure (wpAny_pure ⟨_, rfl, wpAny_pure (h1 ⟨rfl, rfl⟩)⟩))))
  · have hno : ¬ ((((a : Nat) : Int) == 0 && ((k : Nat) : Int) == 1 && (if a < items.size then (items.size - a - 1) / k + 1 else 0) == items.size) = true) := by
      intro q
      rw [Bool.and_eq_true, Bool.and_eq_true] at q
      have q1 : ((a : Nat) : Int) = 0 := eq_of_beq q.1.1
      have q2 : ((k : Nat) : Int) = 1 := eq_of_beq q.1.2
      exact whole ⟨by omega, by omega⟩
    rw [if_neg hno]
    have ep : ((List.range (if a < items.size then (items.size - a - 1) / k + 1 else 0)).filterMap fun (m : Nat) => items[((a : Int) + (m : Int) * (k : Int)).toNat]?).toArray = (everyV k a items.toList).toArray := by
      unfold everyV
      rw [Array.length_toList]
      have : (fun (m : Nat) => items[((a : Int) + (m : Int) * (k : Int)).toNat]?) = fun m => items.toList[a + m * k]? := by
        funext m
        have : ((a : Int) + (m : Int) * (k : Int)).toNat = a + m * k := by
          rw [← Int.natCast_mul, ← Int.natCast_add, Int.toNat_natCast]
        rw [this, Array.getElem?_toList]
      rw [this]
    rw [ep]
    have h := h2 whole
    first
      | exact wpAny_bind (m := Builtin.Tuple.tupleExact _) (wpAny_newObj_type (wpAny_pure ⟨_, rfl, wpAny_pure h⟩) htake)
      | exact wpAny_bind (m := Builtin.Tuple.tupleExact _) (wpAny_newObj_type (wpAny_bind (wpAny_pure (wpAny_pure ⟨_, rfl, wpAny_pure h⟩))) htake)
      | exact wpAny_bind (wpAny_bind (m := Builtin.Tuple.tupleExact _) (wpAny_newObj_type (wpAny_pure (wpAny_pure ⟨_, rfl, wpAny_pure h⟩)) htake))
      | exact wpAny_bind (wpAny_bind (m := Builtin.Tuple.tupleExact _) (wpAny_newObj_type (wpAny_pure ⟨_, rfl, wpAny_pure h⟩) htake))
end
theorem vals_every {xs : List V} {us : List Value} (r : Vals xs us) (k a : Nat) : Vals (everyV k a xs) (everyV k a us) := by
  unfold everyV
  rw [r.length]
  generalize List.range (if a < us.length then (us.length - a - 1) / k + 1 else 0) = l
  induction l with
  | nil => exact .nil
  | cons m t ih =>
    rw [List.filterMap_cons, List.filterMap_cons]
    cases hx : xs[a + m * k]? with
    | none =>
      have : us[a + m * k]? = none := List.getElem?_eq_none (by rw [← r.length]; exact List.getElem?_eq_none_iff.mp hx)
      rw [this]
      exact ih
    | some x =>
      obtain ⟨u, hu, ru⟩ := r.get hx
      rw [hu]
      exact .cons ru ih
section
variable {X : Cx} {e f g : PySem.Expr} {te tf tg : TE} {p3 pos : Pos}
def tStepT (K : PySem.W.Frag) (te tf tg : TE) : TE := fun σ H Q => te σ H fun x H1 => tPart tf σ H1 fun o H2 => tPart tg σ H2 fun o2 H3 => ∃ (p : Addr) (xs : List V) (a k : Nat), x = .ref p ∧ o = some (a : Int) ∧ o2 = some (k : Int) ∧ SqT K H3 p xs ∧ 1 ≤ k ∧ a ≤ xs.length ∧
  (a = 0 ∧ k = 1 → Q (.ref p) H3) ∧ (¬ (a = 0 ∧ k = 1) → ∀ q, H3 q = none → Q (.ref q) (upd H3 q (.tup (everyV k a xs))))
theorem pe_stepT (he : PE X e te) (hf : PE X f tf) (hg : PE X g tg) : PE X (.Subscript e (.Slice (some f) none (some g) p3) pos) (tStepT X.K te tf tg) := by
  refine ⟨fun pins s σ H Q I h => ?_⟩
  refine Subscript_ (thn (he.run pins s σ H _ I h) fun v s1 ⟨x, H1, I1, r1, q1⟩ => ?_)
  refine wpAny_Slice (thn ((po_some hf).run pins s1 σ H1 _ I1 q1) fun vl s2 ⟨o1, H2, I2, pl, q2⟩ => ?_)
  refine thn (po_none.run pins s2 σ H2 (fun o H3 => o = none ∧ H3 = H2) I2 ⟨rfl, rfl⟩) fun vu s3 ⟨u, H3, I3, pu, eu, e3⟩ => ?_
  subst eu e3
  refine thn ((po_some hg).run pins s3 σ H3 _ I3 q2) fun vs s4 ⟨o2, H4, I4, ps, p, xs, a, k, ex, e1, e2, hx, hk, ha, c1, c2⟩ => ?_
  subst ex e1 e2
  cases r1
  cases pu
  have I5 : Inv X pins σ H4 { s4 with heap := s4.heap.push { cls := .type "slice", data := .fields #[vl, .none, vs] } } := I4.kept (t' := s4.toks) fun b ob q => Heap.get?_push_of_some _ q
  obtain ⟨its, r, ht, hz⟩ := I5.tuple hx
  have hlen := r.length
  show wpAny (model X.prog X.w) X.A (subscriptTail e (.Slice (some f) none (some g) p3) (.ref p) (.ref s4.heap.objs.size)) (EP X pins σ Q) X.xe { s4 with heap := s4.heap.push { cls := .type "slice", data := .fields #[vl, .none, vs] } }
  refine tail_any (ops := [.ref p, .ref s4.heap.objs.size]) ht.typeIs (PyProof.Rows.slot_tuple_getitem.lookup) ?_ (by with_unfolding_all rfl)
  refine getItem_tuple_step ht (Heap.IsSliceOf.new _ vl .none vs) pl ps hk (by rw [List.size_toArray, ← hlen]; exact ha) (fun c => ⟨.ref p, H4, I5, rfl, c1 c⟩) (fun c => ?_) (by rw [List.size_toArray]; omega)
  have rr := vals_every r k a
  have few : (everyV k a xs).length ≤ xs.length := by
    unfold everyV
    refine Nat.le_trans (List.length_filterMap_le _ _) ?_
    rw [List.length_range]
    split
    · have : (xs.length - a - 1) / k ≤ xs.length - a - 1 := Nat.div_le_self _ _
      omega
    · omega
  refine ⟨.ref _, _, I5.laid (t' := s4.toks) (o := .tup (everyV k a xs)) (fun b ob q => Heap.get?_push_of_some _ q) (Nat.le_refl _) (show ObjOk X.prog X.w _ _ _ (.tup (everyV k a xs)) from ⟨Nat.le_trans few hz, everyV k a its, rr, IsTup.new _ _⟩), rfl, c2 c _ (I5.hok.fresh (Nat.le_refl _))⟩
def tStepL (K : PySem.W.Frag) (te tg : TE) : TE := fun σ H Q => te σ H fun x H1 => tPart tg σ H1 fun o H2 => ∃ (p : Addr) (xs : List V) (back : Bool), x = .ref p ∧ o = some (if back then -1 else 1) ∧ SqL K H2 p xs ∧ ∀ q, H2 q = none → Q (.ref q) (upd H2 q (.lst (if back then xs.reverse else xs)))
theorem pick_one (items : Array Value) : slicePick items none none (some 1) = items.toList.toArray := by
  unfold slicePick
  show ((sliceRange 0 (items.size : Int) 1).filterMap (items[·]?)).toArray = _
  have e : sliceRange 0 (items.size : Int) 1 = List.range items.size := by
    unfold sliceRange
    have h1 : (if (1 : Int) > 0 then (if (0 : Int) < (items.size : Int) then ((items.size : Int) - 0 + 1 - 1) / 1 else 0) else (if (0 : Int) > (items.size : Int) then (0 - (items.size : Int) - 1 - 1) / (-1) else 0)) = (items.size : Int) := by
      rw [if_pos (by decide)]
      split
      · rw [Int.ediv_one]; omega
      · omega
    dsimp only
    rw [h1, Int.toNat_natCast]
    have : (fun (k : Nat) => ((0 : Int) + 1 * (k : Int)).toNat) = id := by
      funext k
      show ((0 : Int) + 1 * (k : Int)).toNat = k
      omega
    rw [this, List.map_id]
  rw [e, PySem.W.krv_all]
theorem pe_stepL (he : PE X e te) (hg : PE X g tg) : PE X (.Subscript e (.Slice none none (some g) p3) pos) (tStepL X.K te tg) := by
  refine ⟨fun pins s σ H Q I h => ?_⟩
  refine Subscript_ (thn (he.run pins s σ H _ I h) fun v s1 ⟨x, H1, I1, r1, q1⟩ => ?_)
  refine wpAny_Slice (thn (po_none.run pins s1 σ H1 (fun o H2 => o = none ∧ H2 = H1) I1 ⟨rfl, rfl⟩) fun vl s2 ⟨l, H2, I2, pl, el, e2⟩ => ?_)
  subst el e2
  refine thn (po_none.run pins s2 σ H2 (fun o H3 => o = none ∧ H3 = H2) I2 ⟨rfl, rfl⟩) fun vu s3 ⟨u, H3, I3, pu, eu, e3⟩ => ?_
  subst eu e3
  refine thn ((po_some hg).run pins s3 σ H3 _ I3 q1) fun vs s4 ⟨o, H4, I4, ps, p, xs, back, ex, eo, hx, q⟩ => ?_
  subst ex eo
  cases r1
  have I5 : Inv X pins σ H4 { s4 with heap := s4.heap.push { cls := .type "slice", data := .fields #[vl, vu, vs] } } := I4.kept (t' := s4.toks) fun b ob q => Heap.get?_push_of_some _ q
  obtain ⟨its, r, ht, hz⟩ := I5.list hx
  have hlen := r.length
  show wpAny (model X.prog X.w) X.A (subscriptTail e (.Slice none none (some g) p3) (.ref p) (.ref s4.heap.objs.size)) (EP X pins σ Q) X.xe { s4 with heap := s4.heap.push { cls := .type "slice", data := .fields #[vl, vu, vs] } }
  refine tail_any (ops := [.ref p, .ref s4.heap.objs.size]) ht.isList.typeIs (PySem.slot_list_getitem.lookup) ?_ (by with_unfolding_all rfl)
  refine wpAny_getItem_list_slice ht.isList (Heap.IsSliceOf.new _ vl vu vs) pl pu ps (by cases back <;> decide) ?_ (by rw [List.size_toArray]; omega)
  cases back with
  | true =>
    rw [if_pos rfl] at q ⊢
    rw [PySem.W.krv_pick]
    refine ⟨.ref _, _, I5.laid (t' := s4.toks) (o := .lst xs.reverse) (fun b ob q => Heap.get?_push_of_some _ q) (Nat.le_refl _) ?_, rfl, q _ (I5.hok.fresh (Nat.le_refl _))⟩
    exact ⟨by rw [List.length_reverse]; exact hz, _, 0, r.reverse, Heap.get?_push_size _ rfl⟩
  | false =>
    rw [if_neg (by decide)] at q ⊢
    rw [pick_one]
    refine ⟨.ref _, _, I5.laid (t' := s4.toks) (o := .lst xs) (fun b ob q => Heap.get?_push_of_some _ q) (Nat.le_refl _) ?_, rfl, q _ (I5.hok.fresh (Nat.le_refl _))⟩
    exact ⟨hz, _, 0, r, Heap.get?_push_size _ rfl⟩
end

def ItzM (K : PySem.W.Frag) (a b : Addr) : It := ⟨fun n H => ∃ xs ys : List V, SqL K H a xs ∧ SqT K H b ys ∧ n < xs.length ∧ n < ys.length,
  fun n H v H' => ∃ (p : Addr) (x y : V), v = .ref p ∧ H p = none ∧ H' = upd H p (.tup [x, y]) ∧ (∀ xs, SqL K H a xs → xs[n]? = some x) ∧ ∀ ys, SqT K H b ys → ys[n]? = some y,
  fun n H => ∃ xs ys : List V, SqL K H a xs ∧ SqT K H b ys ∧ n ≤ xs.length ∧ n ≤ ys.length ∧ (n = xs.length ∨ n = ys.length)⟩
theorem fiveM {z TI TO i1 i2 b : Addr} (h : b ∈ [z, TI, TO, i1, i2]) : b = z ∨ b = TI ∨ b = TO ∨ b = i1 ∨ b = i2 := by simpa using h
theorem turn_zipM {P : Program} {w : World} {K : PySem.W.Frag} {parts : List PySem.Expr} {many : Nat} {at_ : Pos} {a b z TI TO i1 i2 : Addr} (S : ZipSep2 z TI TO i1 i2 [i1, a] [i2, b]) (na : a ≠ i1) (nb : b ≠ i2) :
    Turn P w K (.Tuple parts many at_) (ItzM K a b) [z, TI, TO, i1, i2] z (fun n h => IsZip h z TI TO .none ∧ IsTupOf2 h TI (.ref i1) (.ref i2) ∧ (∃ x y, IsTupOf2 h TO x y) ∧ h.IsListIter i1 a n ∧ h.IsTupleIter i2 b n) where
  mem := List.mem_cons_self
  obj := by
    rintro n h ⟨hz, hTI, ⟨x, y, hTO⟩, ⟨o1, e1, _, d1⟩, ⟨o2, e2, _, d2⟩⟩ c hc
    rcases fiveM hc with rfl | rfl | rfl | rfl | rfl
    · exact ⟨_, hz, fun v q => nomatch q⟩
    · exact ⟨_, hTI, fun v q => nomatch q⟩
    · exact ⟨_, hTO, fun v q => nomatch q⟩
    · exact ⟨o1, e1, fun v q => by rw [d1] at q; cases q⟩
    · exact ⟨o2, e2, fun v q => by rw [d2] at q; cases q⟩
  keep := by
    rintro n h h' ⟨hz, hTI, ⟨x, y, hTO⟩, ⟨o1, e1, r1⟩, ⟨o2, e2, r2⟩⟩ k
    exact ⟨k z (by simp) _ hz, k TI (by simp) _ hTI, ⟨x, y, k TO (by simp) _ hTO⟩, ⟨o1, k i1 (by simp) _ e1, r1⟩, ⟨o2, k i2 (by simp) _ e2, r2⟩⟩
  item := by
    rintro X rfl rfl rfl calm n pins s σ H E I free ⟨hz, hTI, ⟨x0, y0, hTO⟩, h1, h2⟩ ⟨xs, ys, hqx, hqy, lt1, lt2⟩
    obtain ⟨its, rv, p1, _⟩ := I.list hqx
    obtain ⟨its2, rv2, p2, _⟩ := I.tuple hqy
    have D1 := Draws.list (prog := X.prog) (w := X.w) (A := X.A.in1) (I.ok.hd calm) i1 a na its.toArray
    have D2 := Draws.tuple (prog := X.prog) (w := X.w) (A := X.A.in1) (I.ok.hd calm) i2 b nb its2.toArray
    have low : z < s.heap.objs.size := Heap.lt_size hz
    refine wpAny_pyNext_zipD2_item S D1 D2 hz hTI hTO ⟨h1, p1.isList⟩ ⟨h2, p2⟩ (by rw [List.size_toArray, ← rv.length]; exact lt1) (by rw [List.size_toArray, ← rv2.length]; exact lt2) ?_
    rintro u u2 h3 tk hu hu2 out pair n1 n2 made _ stays
    refine ⟨_, rfl, wpAny_letOwnedTupleGo_zip (s := { s with heap := h3, toks := tk }) out fun h4 back but => ?_⟩
    have made4 : h4.get? s.heap.objs.size = some { cls := .type "tuple", data := .seq #[u, u2] } := (but.2 _ (Nat.ne_of_gt low)).trans made
    have hx : xs[n]? = some xs[n] := List.getElem?_eq_getElem lt1
    have hy : ys[n]? = some ys[n] := List.getElem?_eq_getElem lt2
    obtain ⟨v1, e1, r1⟩ := rv.get hx
    obtain ⟨v2, e2, r2⟩ := rv2.get hy
    rw [List.getElem?_toArray] at hu hu2
    rw [e1] at hu
    rw [e2] at hu2
    cases hu
    cases hu2
    have new : ObjOk X.prog X.w (upd H s.heap.objs.size (.tup [xs[n], ys[n]])) h4 s.heap.objs.size (.tup [xs[n], ys[n]]) :=
      ⟨by show 2 ≤ sizeLine; decide, [u, u2], .cons r1 (.cons r2 .nil), _, made4, rfl, _, rfl⟩
    have J : Inv X pins σ (upd H s.heap.objs.size (.tup [xs[n], ys[n]])) { s with heap := h4, toks := tk } :=
      I.turnedNew (t' := tk) (ch := [z, TI, TO, i1, i2]) (fun c ob hb e => by
        have ne : c ≠ z ∧ c ≠ TO ∧ c ≠ i1 ∧ c ≠ i2 := ⟨fun q => hb (by simp [q]), fun q => hb (by simp [q]), fun q => hb (by simp [q]), fun q => hb (by simp [q])⟩
        exact (but.2 c ne.1).trans (stays c ob ne.1 ne.2.1 ne.2.2.1 ne.2.2.2 e)) free (Nat.le_refl _) new
    refine ⟨.ref s.heap.objs.size, _, J, rfl, ⟨_, xs[n], ys[n], rfl, I.hok.fresh (Nat.le_refl _), rfl, fun l hl => by rw [I.list_inj hl hqx]; exact hx, fun l hl => by rw [I.tuple_inj hl hqy]; exact hy⟩, ⟨back, ?_, ⟨_, _, (but.2 _ S.TOz).trans pair⟩, (D1.over n1 but S.zf1).1, (D2.over n2 but S.zf2).1⟩, fun c hb => ?_⟩
    · exact (but.2 _ S.TIz).trans (stays _ _ S.TIz S.TITO S.TIi1 S.TIi2 hTI)
    · have lt : c < s.heap.objs.size := by
        rcases fiveM hb with rfl | rfl | rfl | rfl | rfl
        · exact low
        · exact Heap.lt_size hTI
        · exact Heap.lt_size hTO
        · obtain ⟨_, e, _⟩ := h1; exact Heap.lt_size e
        · obtain ⟨_, e, _⟩ := h2; exact Heap.lt_size e
      rw [upd_ne (Nat.ne_of_lt lt)]
      exact (free c hb).1
  done := by
    rintro X rfl rfl rfl calm n pins s σ H E I free ⟨hz, hTI, ⟨x0, y0, hTO⟩, h1, h2⟩ ⟨xs, ys, hqx, hqy, le1, le2, over⟩
    obtain ⟨its, rv, p1, _⟩ := I.list hqx
    obtain ⟨its2, rv2, p2, _⟩ := I.tuple hqy
    have D1 := Draws.list (prog := X.prog) (w := X.w) (A := X.A.in1) (I.ok.hd calm) i1 a na its.toArray
    have D2 := Draws.tuple (prog := X.prog) (w := X.w) (A := X.A.in1) (I.ok.hd calm) i2 b nb its2.toArray
    have l1 := rv.length
    have l2 := rv2.length
    exact wpAny_pyNext_zipD2_end S D1 D2 hz hTI hTO ⟨h1, p1.isList⟩ ⟨h2, p2⟩ (by rw [List.size_toArray]; omega) (by rw [List.size_toArray]; omega) (by rw [List.size_toArray, List.size_toArray]; omega) fun h' tk stays => ⟨rfl, I.turnedL (t' := tk) (ch := [z, TI, TO, i1, i2]) (fun c ob hb e =>
      stays c ob (fun q => hb (by simp [q])) (fun q => hb (by simp [q])) (fun q => hb (by simp [q])) (fun q => hb (by simp [q])) e) free⟩
  self := fun A n s Q E st h => wpAny_pyIter_zip st.1 h
def iZipM (K : PySem.W.Frag) (ta : TA) : TI := fun σ H R => ta σ H fun vs H1 => ∃ (a b : Addr) (xs ys : List V), vs = [.ref a, .ref b] ∧ SqL K H1 a xs ∧ SqT K H1 b ys ∧ R (ItzM K a b) H1
theorem sep_newM {n a b : Nat} (ha : a < n) (hb : b < n) : ZipSep2 (n + 4) (n + 2) (n + 3) n (n + 1) [n, a] [n + 1, b] := by
  have z1 : a ≠ n + 4 := by omega
  have z2 : b ≠ n + 4 := by omega
  have z3 : a ≠ n + 3 := by omega
  have z4 : b ≠ n + 3 := by omega
  have z5 : b ≠ n := by omega
  have z6 : a ≠ n + 1 := by omega
  constructor <;> simp [z1, z2, z3, z4, z5, z6, z1.symm, z2.symm, z3.symm, z4.symm, z5.symm, z6.symm]
theorem pi_zipM {X : Cx} {e e2 : PySem.Expr} {ta : TA} {p pos at_ : Pos} {parts : List PySem.Expr} {many : Nat} (hg : Gl X "zip") (hm : X.mg "zip" = none) (ha : PA X [e, e2] ta)
    (hs : starEach [e, e2] X.env = (false, eval e X.env) :: starEach [e2] X.env := by rfl) (hpl : (backTo pos (starEach [e2] X.env)).any (·.1) = false := by rfl) :
    PI X (.Tuple parts many at_) (.Call (.Name "zip" p) [e, e2] [] pos) (iZipM X.K ta) := by
  refine ⟨fun pins s σ H R I h => Call_ (ld_blt I hg hm PyProof.Rows.boot_zip (PyProof.Rows.callWith_type1 (thn (ha.run pos pins s σ H _ I h) ?_) hs hpl))⟩
  rintro us s1 ⟨_, H1, I1, r1, a, b, xs, ys, rfl, hqx, hqy, q⟩
  obtain ⟨u1, u2, rfl, e1, e2⟩ := Vals.two r1
  cases e1
  cases e2
  obtain ⟨its, rv, p1, _⟩ := I1.list hqx
  obtain ⟨its2, rv2, p2, _⟩ := I1.tuple hqy
  have la : a < s1.heap.objs.size := p1.lt
  have lb : b < s1.heap.objs.size := p2.lt
  refine zip_begins2 (begins_list a its.toArray) (begins_tuple b its2.toArray) p1.isList p2 fun h' hz hTI hTO g1 g2 _ keep => wpAny_pyIter_zip hz ?_
  refine ⟨s1.heap.objs.size + 4, [s1.heap.objs.size + 4, s1.heap.objs.size + 2, s1.heap.objs.size + 3, s1.heap.objs.size, s1.heap.objs.size + 1], _, _, H1, rfl, I1.kept (t' := s1.toks) keep, turn_zipM (sep_newM la lb) (Nat.ne_of_lt la) (Nat.ne_of_lt (Nat.lt_succ_of_lt lb)), ⟨hz, hTI, ⟨_, _, hTO⟩, ⟨_, g1, rfl, rfl⟩, ⟨_, g2, rfl, rfl⟩⟩, fun b hb => ?_, q⟩
  have hle : s1.heap.objs.size ≤ b := by rcases fiveM hb with rfl | rfl | rfl | rfl | rfl <;> omega
  exact I1.fpOk hle (I1.hok.fresh hle)
theorem lc_zipM {K : PySem.W.Frag} {a b : Addr} {xs ys : List V} {Bd : V → Hp → (Hp → Prop) → Prop} {Qd : Hp → Prop} {H0 : Hp} (hlen : xs.length = ys.length) (Pv : Nat → Hp → Prop) (h0 : Pv 0 H0) (hl : ∀ i H, i ≤ xs.length → Pv i H → SqL K H a xs ∧ SqT K H b ys)
    (hs : ∀ i x y T H, xs[i]? = some x → ys[i]? = some y → Pv i H → H T = none → Bd (.ref T) (upd H T (.tup [x, y])) (Pv (i + 1))) (hd : ∀ H, Pv xs.length H → Qd H) :
    ∃ W : Nat → Nat → Hp → Prop, (∃ m, W 0 m H0) ∧ ∀ i m H, W i m H → ((ItzM K a b).stop i H ∧ Qd H) ∨ ((ItzM K a b).go i H ∧ ∃ Nx : Hp → Prop, (∀ H', Nx H' → ∃ m', m' < m ∧ W (i + 1) m' H') ∧ ∀ x H', (ItzM K a b).yld i H x H' → Bd x H' Nx) := by
  refine ⟨fun i m H => m = xs.length - i ∧ i ≤ xs.length ∧ Pv i H, ⟨xs.length, by simp, Nat.zero_le _, h0⟩, ?_⟩
  rintro i m H ⟨rfl, hi, p⟩
  obtain ⟨q1, q2⟩ := hl i H hi p
  by_cases hlt : i < xs.length
  · have hlt2 : i < ys.length := by omega
    refine .inr ⟨⟨xs, ys, q1, q2, hlt, hlt2⟩, Pv (i + 1), fun H' p' => ⟨xs.length - (i + 1), by omega, rfl, hlt, p'⟩, fun x H' y => ?_⟩
    obtain ⟨T, x1, y1, rfl, hT, rfl, g1, g2⟩ := y
    exact hs i x1 y1 T H (g1 xs q1) (g2 ys q2) p hT
  · have e : i = xs.length := by omega
    subst e
    exact .inl ⟨⟨xs, ys, q1, q2, Nat.le_refl _, by omega, .inl rfl⟩, hd H p⟩

theorem perm_nodup {α : Type} [DecidableEq α] : ∀ {xs ys : List α}, xs.Nodup → ys.Nodup → (∀ a, a ∈ xs ↔ a ∈ ys) → xs.Perm ys
  | [], ys, _, _, h => by
    cases ys with
    | nil => exact .nil
    | cons y r => exact absurd ((h y).mpr List.mem_cons_self) (by simp)
  | x :: r, ys, n1, n2, h => by
    have hx : x ∈ ys := (h x).mp List.mem_cons_self
    rw [List.nodup_cons] at n1
    have p := List.perm_cons_erase hx
    have n3 : (ys.erase x).Nodup := n2.erase x
    refine (List.Perm.cons x (perm_nodup n1.2 n3 fun a => ?_)).trans p.symm
    rw [n2.mem_erase_iff]
    constructor
    · intro ha
      exact ⟨fun e => n1.1 (by rw [← e]; exact ha), (h a).mp (List.mem_cons_of_mem _ ha)⟩
    · rintro ⟨ne, ha⟩
      exact (List.mem_cons.mp ((h a).mpr ha)).resolve_left ne
theorem prd_perm {α β : Type} {F : α → β → Prop} {as cs : List α} (p : as.Perm cs) : ∀ {bs : List β}, Paired F as bs → ∃ ds, bs.Perm ds ∧ Paired F cs ds := by
  induction p with
  | nil => intro bs h; cases h; exact ⟨[], .nil, .nil⟩
  | cons x _ ih =>
    intro bs h
    cases h with
    | cons r t =>
    obtain ⟨ds, h1, h2⟩ := ih t
    exact ⟨_ :: ds, h1.cons _, .cons r h2⟩
  | swap x y l =>
    intro bs h
    cases h with
    | cons r t =>
    cases t with
    | cons r2 t =>
    exact ⟨_ :: _ :: _, .swap _ _ _, .cons r2 (.cons r t)⟩
  | trans _ _ ih1 ih2 =>
    intro bs h
    obtain ⟨d1, p1, h1⟩ := ih1 h
    obtain ⟨d2, p2, h2⟩ := ih2 h1
    exact ⟨d2, p1.trans p2, h2⟩
def RowsB (n : Nat) (xs : List NRow) (keys : List (Nat × List Nat)) : Prop := Paired (fun (x : NRow) (key : Nat × List Nat) => x.1 = keyN key.1 key.2 ∧ ∃ v : Nat, v < n ∧ x.2.2 = nI v) xs keys
theorem rows_fun {n : Nat} : ∀ {xs : List NRow} {keys : List (Nat × List Nat)}, RowsB n xs keys → keys.Nodup → ∃ fs : Nat → List Nat → Nat, RowsJ xs keys fs ∧ ∀ key ∈ keys, fs key.1 key.2 < n
  | _, _, .nil, _ => ⟨fun _ _ => 0, .nil, fun _ h => by cases h⟩
  | x :: xs, (c, row) :: keys, .cons ⟨e1, v, hv, e2⟩ t, nd => by
    rw [List.nodup_cons] at nd
    obtain ⟨fs, h1, h2⟩ := rows_fun t nd.2
    have same : ∀ {xs : List NRow} {ks : List (Nat × List Nat)}, RowsJ xs ks fs → (∀ k ∈ ks, k ∈ keys) → RowsJ xs ks (fun c' r' => if (c', r') = (c, row) then v else fs c' r') := by
      intro xs ks h
      induction h with
      | nil => intro _; exact .nil
      | @cons x1 k1 _ _ r _ ih =>
        intro hk
        refine .cons ⟨r.1, ?_⟩ (ih fun k h => hk k (List.mem_cons_of_mem _ h))
        have ne : ¬ ((k1.1, k1.2) = (c, row)) := fun e => nd.1 (by rw [← e]; exact hk k1 List.mem_cons_self)
        show x1.2.2 = nI (if (k1.1, k1.2) = (c, row) then v else fs k1.1 k1.2)
        rw [if_neg ne]
        exact r.2
    refine ⟨fun c' r' => if (c', r') = (c, row) then v else fs c' r', .cons ⟨e1, ?_⟩ (same h1 fun _ h => h), fun key hk => ?_⟩
    · show x.2.2 = nI (if (c, row) = (c, row) then v else fs c row)
      rw [if_pos rfl]
      exact e2
    · show (if (key.1, key.2) = (c, row) then v else fs key.1 key.2) < n
      split
      · exact hv
      · rename_i ne
        exact h2 key ((List.mem_cons.mp hk).resolve_left ne)
theorem atN_isb {n : Nat} {c : Nat} {row : List Nat} : ∀ {xs : List NRow} {keys : List (Nat × List Nat)}, RowsB n xs keys → (c, row) ∈ keys → ∃ v : Nat, v < n ∧ atN xs (keyN c row) = some (nI v)
  | _, _, .nil, h => by cases h
  | x :: xs, (c', row') :: keys, .cons r t, h => by
    obtain ⟨e1, v, hv, e2⟩ := r
    by_cases e : (c', row') = (c, row)
    · cases e
      exact ⟨v, hv, by simp [atN, e1, e2]⟩
    · have hm : (c, row) ∈ keys := (List.mem_cons.mp h).resolve_left fun z => e z.symm
      have ne : ¬ x.1 = keyN c row := fun z => e (by
        obtain ⟨a, b⟩ := keyN_inj (e1.symm.trans z)
        dsimp only at a b
        rw [a, b])
      have : atN (x :: xs) (keyN c row) = atN xs (keyN c row) := by simp [atN, List.find?_cons, ne]
      rw [this]
      exact atN_isb t hm
theorem storedN_old {n : Nat} {c v : Nat} {row : List Nat} {b : Addr} (hv : v < n) {xs : List NRow} {keys : List (Nat × List Nat)} (h : RowsB n xs keys) (hm : (c, row) ∈ keys) : RowsB n (storedN xs (keyN c row) b (nI v)) keys ∧ (storedN xs (keyN c row) b (nI v)).map (fun x => x.2.1) = xs.map fun x => x.2.1 := by
  obtain ⟨v0, _, e0⟩ := atN_isb h hm
  unfold storedN
  rw [e0, Option.isSome_some, if_pos rfl]
  constructor
  · have : ∀ {xs : List NRow} {ks : List (Nat × List Nat)}, RowsB n xs ks → RowsB n (xs.map fun x => if x.1 = keyN c row then (x.1, x.2.1, nI v) else x) ks := by
      intro xs ks h
      induction h with
      | nil => exact .nil
      | @cons x1 k1 _ _ r _ ih =>
        refine .cons ?_ ih
        dsimp only
        split
        · exact ⟨r.1, v, hv, rfl⟩
        · exact r
    exact this h
  · rw [List.map_map]
    refine List.map_congr_left fun x _ => ?_
    show (if x.1 = keyN c row then (x.1, x.2.1, nI v) else x).2.1 = x.2.1
    split <;> rfl
theorem keys_len {n : Nat} {xs : List NRow} {keys : List (Nat × List Nat)} (h : RowsB n xs keys) : xs.length = keys.length := Paired.length h
def keysC (L : Str) (n k : Nat) : List (Nat × List Nat) := (rowsTo n k).flatMap fun r => L.cps.toList.map fun c => (c, r)
theorem keysC_mem {L : Str} {n k c : Nat} {r : List Nat} : (c, r) ∈ keysC L n k ↔ (c, r) ∈ keysOf L n k := by
  simp only [keysC, keysOf, List.mem_flatMap, List.mem_map, Prod.mk.injEq]
  constructor
  · rintro ⟨r0, h1, c0, h2, rfl, rfl⟩
    exact ⟨c0, h2, r0, h1, rfl, rfl⟩
  · rintro ⟨c0, h2, r0, h1, rfl, rfl⟩
    exact ⟨r0, h1, c0, h2, rfl, rfl⟩
theorem nodup_flat {α β : Type} {f : α → List β} {g : β → α} (hg : ∀ a b, b ∈ f a → g b = a) (hf : ∀ a, (f a).Nodup) : ∀ {l : List α}, l.Nodup → (l.flatMap f).Nodup
  | [], _ => by simp
  | a :: r, nd => by
    rw [List.nodup_cons] at nd
    rw [List.flatMap_cons, List.nodup_append]
    refine ⟨hf a, nodup_flat hg hf nd.2, fun x h1 y h2 e => ?_⟩
    subst e
    obtain ⟨a2, m2, h3⟩ := List.mem_flatMap.mp h2
    have := (hg a x h1).symm.trans (hg a2 x h3)
    exact nd.1 (by rw [this]; exact m2)
theorem nodup_map {α β : Type} {f : α → β} (hf : ∀ a b, f a = f b → a = b) : ∀ {l : List α}, l.Nodup → (l.map f).Nodup
  | [], _ => by simp
  | a :: r, nd => by
    rw [List.nodup_cons] at nd
    rw [List.map_cons, List.nodup_cons]
    refine ⟨fun h => ?_, nodup_map hf nd.2⟩
    obtain ⟨b, hb, e⟩ := List.mem_map.mp h
    exact nd.1 (by rw [← hf b a e]; exact hb)
theorem keysC_nd {L : Str} (hL : Rises L) (n k : Nat) : (keysC L n k).Nodup :=
  nodup_flat (g := fun p => p.2) (fun a b h => by obtain ⟨c, _, rfl⟩ := List.mem_map.mp h; rfl) (fun a => nodup_map (fun x y e => by cases e; rfl) (hL.imp fun h => Nat.ne_of_lt h)) (rowsTo_nd k n)
theorem keysC_perm {L : Str} (hL : Rises L) (n k : Nat) : (keysC L n k).Perm (keysOf L n k) := perm_nodup (keysC_nd hL n k) (keysOf_nd hL n k) fun (_, _) => keysC_mem
theorem atN_self {row : NRow} : ∀ {xs : List NRow}, (xs.map (·.1)).Nodup → row ∈ xs → atN xs row.1 = some row.2.2
  | [], _, h => by cases h
  | x :: r, nd, h => by
    rw [List.map_cons, List.nodup_cons] at nd
    rcases List.mem_cons.mp h with e | h
    · rw [e]
      simp [atN]
    · have ne : ¬ x.1 = row.1 := fun e => nd.1 (List.mem_map.mpr ⟨row, h, e.symm⟩)
      have : atN (x :: r) row.1 = atN r row.1 := by simp [atN, List.find?_cons, ne]
      rw [this]
      exact atN_self nd.2 h
theorem rowsB_nd {n : Nat} : ∀ {xs : List NRow} {keys : List (Nat × List Nat)}, RowsB n xs keys → keys.Nodup → (xs.map (·.1)).Nodup
  | _, _, .nil, _ => by simp
  | x :: xs, key :: keys, .cons ⟨e, _⟩ t, nd => by
    rw [List.nodup_cons] at nd
    rw [List.map_cons, List.nodup_cons]
    refine ⟨fun h => ?_, rowsB_nd t nd.2⟩
    obtain ⟨y, hy, e1⟩ := List.mem_map.mp h
    obtain ⟨k2, hk2, e2, _⟩ := prd_mem t hy
    have e3 := e2.symm.trans (e1.trans e)
    obtain ⟨a, b⟩ := keyN_inj e3
    exact nd.1 (by rw [show key = k2 from Prod.ext a.symm b.symm]; exact hk2)

def JAtO (P : Program) (w : World) (ok : Addr → Prop) (H : Hp) (v : V) (J : JD) : Prop := ∃ (j d g : Addr) (xs : List NRow) (keys : List (Nat × List Nat)), v = .ref j ∧ H j = some (.tup [.str J.L, nI J.n, nI J.few, nI J.turn, .ref d, .ref g]) ∧ H d = some (DictN P w d xs) ∧ RowsN H xs ∧ RowsJ xs keys J.fs ∧ keys.Perm J.keys ∧ H g = some (.lst (J.good.map nI)) ∧ ok g
section
variable {P : Program} {w : World} {ok ok' : Addr → Prop} {H H' : Hp} {v : V} {J : JD}
theorem JAtO.at (x : JAtO P w ok H v J) : JAt P w H v J := by
  obtain ⟨j, d, g, xs, keys, rfl, h1, h2, h3, h4, h5, h6, _⟩ := x
  exact ⟨j, d, g, xs, keys, rfl, h1, h2, h3, h4, h5, h6⟩
theorem JAtO.weak (x : JAtO P w ok H v J) (h : ∀ b, ok b → ok' b) : JAtO P w ok' H v J := by
  obtain ⟨j, d, g, xs, keys, rfl, h1, h2, h3, h4, h5, h6, h7⟩ := x
  exact ⟨j, d, g, xs, keys, rfl, h1, h2, h3, h4, h5, h6, h _ h7⟩
theorem JAtO.extN (x : JAtO P w ok H v J) (f : LamX.ExtN H H') : JAtO P w ok H' v J := by
  obtain ⟨j, d, g, xs, keys, rfl, h1, h2, h3, h4, h5, h6, h7⟩ := x
  exact ⟨j, d, g, xs, keys, rfl, f _ _ h1 (fun _ z => by cases z), f _ _ h2 not_tbl, h3.keep fun b ys e => f _ _ e (fun _ z => by cases z), h4, h5, f _ _ h6 (fun _ z => by cases z), h7⟩
theorem JAtO.same (x : JAtO P w ok H v J) (f : Same H H') : JAtO P w ok H' v J := x.extN (.of f)
theorem JAtO.fr {p : Addr} {ys : List V} (x : JAtO P w ok H v J) (ho : ∀ b, ok b → b ≠ p) (hp : H p = some (.lst ys)) (f : Fr p H H') : JAtO P w ok H' v J := by
  obtain ⟨j, d, g, xs, keys, rfl, h1, h2, h3, h4, h5, h6, h7⟩ := x
  exact ⟨j, d, g, xs, keys, rfl, f _ _ (fun e => by rw [e, hp] at h1; cases h1) h1, f _ _ (fun e => by rw [e, hp] at h2; unfold DictN at h2; cases h2) h2, h3.keep fun b zs e => f _ _ (fun z => by rw [z, hp] at e; cases e) e, h4, h5, f _ _ (ho _ h7) h6, h7⟩
theorem JAt.o (x : JAt P w H v J) : JAtO P w (fun _ => True) H v J := by
  obtain ⟨j, d, g, xs, keys, rfl, h1, h2, h3, h4, h5, h6⟩ := x
  exact ⟨j, d, g, xs, keys, rfl, h1, h2, h3, h4, h5, h6, trivial⟩
end

section
variable {ok : Addr → Prop} {H H' : Hp}
theorem DtAll.take : ∀ {vs : List V} {ds : List PyData} (n : Nat), DtAll ok H vs ds → DtAll ok H (vs.take n) (ds.take n)
  | _, _, 0, _ => .nil
  | _, _, n + 1, .nil => .nil
  | _, _, n + 1, .cons a b => .cons a (DtAll.take n b)
theorem DtAll.drop : ∀ {vs : List V} {ds : List PyData} (n : Nat), DtAll ok H vs ds → DtAll ok H (vs.drop n) (ds.drop n)
  | _, _, 0, h => h
  | _, _, n + 1, .nil => .nil
  | _, _, n + 1, .cons a b => DtAll.drop n b
theorem DtAll.app : ∀ {vs us : List V} {ds es : List PyData}, DtAll ok H vs ds → DtAll ok H us es → DtAll ok H (vs ++ us) (ds ++ es)
  | _, _, _, _, .nil, y => y
  | _, _, _, _, .cons a b, y => .cons a (DtAll.app b y)
theorem DtAll.at {vs : List V} {ds : List PyData} {r : Int} (h : DtAll ok H vs ds) (h0 : 0 ≤ r) (h1 : r < ds.length) : ∃ v d, atI vs r = some v ∧ ds[r.toNat]? = some d ∧ Dt ok H v d := by
  have hl := h.len
  have hn : r.toNat < vs.length := by omega
  obtain ⟨d, hd, hv⟩ := h.getV (List.getElem?_eq_getElem hn)
  exact ⟨_, d, at_of (j := r.toNat) (by omega) (List.getElem?_eq_getElem hn), hd, hv⟩
end
theorem cut_hi {xs : List V} {k : Nat} (h : k ≤ xs.length) : cutV xs none (some (k : Int)) = xs.take k := by
  unfold cutV
  rw [HT.sIx_none, HT.sIx_nat, List.drop_zero, Nat.sub_zero, Nat.min_eq_left h]
theorem cut_lo {xs : List V} {k : Nat} (h : k ≤ xs.length) : cutV xs (some (k : Int)) none = xs.drop k := by
  unfold cutV
  rw [HT.sIx_nat, HT.sIx_none, Nat.min_eq_left h, List.take_of_length_le (by rw [List.length_drop]; omega)]
theorem cut_m1 {xs : List V} : cutV xs none (some (-1)) = xs.take (xs.length - 1) := by
  have h : HT.sIx xs.length xs.length (some (-1)) = xs.length - 1 := by
    show (if (-1 : Int) < 0 then ((-1 : Int) + (xs.length : Int)).toNat else min (-1 : Int).toNat xs.length) = xs.length - 1
    rw [if_pos (by decide)]
    omega
  unfold cutV
  rw [HT.sIx_none, h, List.drop_zero, Nat.sub_zero]
theorem cut_whole {xs : List V} {lo hi : Option Int} (h : HT.sIx xs.length 0 lo = 0 ∧ HT.sIx xs.length xs.length hi = xs.length) : cutV xs lo hi = xs := by
  unfold cutV
  rw [h.1, h.2, List.drop_zero, Nat.sub_zero, List.take_length]
theorem slA {K : PySem.W.Frag} {H : Hp} {a : Addr} {xs : List V} {lo hi : Option Int} {Q : VK} (hx : H a = some (.tup xs))
    (q : ∀ t H', Same H H' → H' t = some (.tup (cutV xs lo hi)) → (t = a ∨ H t = none) → Q (.ref t) H') : rSlA K (.ref a) lo hi H Q :=
  ⟨a, xs, rfl, SqT.of hx, fun hw => q a H (Same.refl _) (by rw [cut_whole hw]; exact hx) (.inl rfl), fun _ p hp => q p _ (same_new hp) upd_same (.inr hp)⟩
theorem catA {K : PySem.W.Frag} {H : Hp} {a b : Addr} {xs ys : List V} {Q : VK} (ha : H a = some (.tup xs)) (hb : H b = some (.tup ys)) (hz : xs.length + ys.length ≤ 3000)
    (q : ∀ t H', Same H H' → H' t = some (.tup (xs ++ ys)) → (t = a ∨ t = b ∨ H t = none) → Q (.ref t) H') : rCatA K (.ref a) (.ref b) H Q :=
  ⟨a, b, xs, ys, rfl, rfl, SqT.of ha, SqT.of hb, Nat.le_trans hz (by decide), fun e => q b H (Same.refl _) (by rw [e]; exact hb) (.inr (.inl rfl)), fun _ e => q a H (Same.refl _) (by rw [e, List.append_nil]; exact ha) (.inl rfl),
    fun _ _ p hp => q p _ (same_new hp) upd_same (.inr (.inr hp))⟩

def revS (z : Str) : Str := ⟨z.cps.toList.reverse.toArray⟩
def tRevS (te : TE) : TE := fun σ H Q => te σ H fun x H1 => ∃ z : Str, x = .str z ∧ z.length ≤ sizeLine ∧ Q (.str (revS z)) H1
theorem pe_revS {X : Cx} {e : PySem.Expr} {te : TE} {k : Nat} {p1 p2 p3 pos : Pos} (he : PE X e te) : PE X (.Subscript e (.Slice none none (some (.UnaryOp .USub (.Constant (.int 1) k p1) p2)) p3) pos) (tRevS te) := by
  refine ⟨fun pins s σ H Q I h => ?_⟩
  refine Subscript_ (thn (he.run pins s σ H _ I h) fun v s1 ⟨x, H1, I1, r1, z, ex, hz, q⟩ => ?_)
  subst ex
  obtain ⟨t, rfl⟩ := r1
  have step : PO X (some (.UnaryOp .USub (.Constant (.int 1) k p1) p2)) (tPart (tUn (rU fun i => .int (-i)) (tC (.int 1)))) := po_some (pe_un un_neg pe_int)
  refine wpAny_Slice (thn (po_none.run pins s1 σ H1 (fun o H2 => o = none ∧ H2 = H1) I1 ⟨rfl, rfl⟩) fun v1 s2 ⟨o1, H2, I2, g1, f1, f2⟩ => ?_)
  subst f1 f2
  refine thn (po_none.run pins s2 σ H2 (fun o H3 => o = none ∧ H3 = H2) I2 ⟨rfl, rfl⟩) fun v2 s3 ⟨o2, H3, I3, g2, f3, f4⟩ => ?_
  subst f3 f4
  refine thn (step.run pins s3 σ H3 (fun o H4 => o = some (-1) ∧ H4 = H3) I3 ⟨1, rfl, -1, rfl, rfl, rfl⟩) fun v3 s4 ⟨o3, H4, I4, g3, f5, f6⟩ => ?_
  subst f5 f6
  obtain ⟨l, rfl, el⟩ := IsPart.raw g1
  obtain ⟨u, rfl, eu⟩ := IsPart.raw g2
  obtain ⟨st, rfl, es⟩ := IsPart.raw g3
  have I5 : Inv X pins σ H4 { s4 with heap := s4.heap.push { cls := .type "slice", data := .fields #[partValue l, partValue u, partValue st] } } := I4.kept (t' := s4.toks) fun b ob q => Heap.get?_push_of_some _ q
  show wpAny (model X.prog X.w) X.A (subscriptTail e (.Slice none none (some (.UnaryOp .USub (.Constant (.int 1) k p1) p2)) p3) (.str z t) (.ref s4.heap.objs.size)) (EP X pins σ Q) X.xe { s4 with heap := s4.heap.push { cls := .type "slice", data := .fields #[partValue l, partValue u, partValue st] } }
  refine tail_any (ops := [.str z t, .ref s4.heap.objs.size]) (typeIs_str _ _ _) PySem.F.slot_str_getitem.lookup ?_ (by with_unfolding_all rfl)
  refine wpAny_getItem_str_slice (l := l) (u := u) (st := st) ⟨_, Heap.get?_push_size _ rfl, rfl, rfl⟩ (by rw [es]; rfl) ?_
  have ep : slicePicked z l u st = (List.range z.length).reverse := by
    unfold slicePicked
    rw [el, eu, es]
    show Builtin.Str.strSliceIndices none none (-1) z.length = _
    rw [PyProof.Rows.picked_rev, PySem.W.krv_range]
  have em : sliceMade z t l u st = .str (revS z) := by
    unfold sliceMade
    rw [es, ep, if_neg (by simp), List.filterMap_reverse]
    have e : (List.range z.length).filterMap (z.cps[·]?) = z.cps.toList := PySem.W.krv_all z.cps
    rw [e]
    rfl
  rw [em]
  have hl : (revS z).length ≤ sizeLine := by
    show (z.cps.toList.reverse.toArray).size ≤ sizeLine
    rw [List.size_toArray, List.length_reverse, Array.length_toList]
    exact hz
  exact ⟨hl, .str _, H4, I5.tok _, ⟨_, rfl⟩, q⟩

def IteS (x : Str) : It := ⟨fun i _ => i < x.cps.size, fun i H v H' => ∃ (T : Addr) (c : Nat), v = .ref T ∧ H T = none ∧ H' = upd H T (.tup [.int (i : Nat), .str (ch c)]) ∧ x.cps[i]? = some c, fun i _ => x.cps.size = i⟩
theorem drawsS {prog : Program} {w : World} {A : Around} (hh : A.handled = none) (it : Addr) (x : Str) (t : Tok) :
    Draws prog w A it [it] x.cps.size (fun i v => ∃ c u, x.cps[i]? = some c ∧ v = .str ⟨#[c]⟩ u) (fun i h => h.IsStrIter it (strIterType x) x t i) := by
  unfold strIterType
  split
  · exact Draws.strAscii hh it x t
  · exact Draws.strWide hh it x t
theorem turn_enumS {P : Program} {w : World} {K : PySem.W.Frag} {elts : List PySem.Expr} {kk : Nat} {tpos : Pos} (x : Str) (t : Tok) (en it : Addr) :
    Turn P w K (.Tuple elts kk tpos) (IteS x) [en, it] en (fun i h => (∃ old, IsEnum h en it ((i : Nat) : Int) old) ∧ h.IsStrIter it (strIterType x) x t i ∧ en ≠ it) where
  mem := by simp
  obj := fun i h st b hb => by
    obtain ⟨⟨old, h1⟩, ⟨o, ho, _, hd⟩, _⟩ := st
    rcases (by simpa using hb : b = en ∨ b = it) with z | z
    · subst z; exact ⟨_, h1, fun v q => nomatch q⟩
    · subst z; exact ⟨o, ho, fun v q => by rw [hd] at q; cases q⟩
  keep := fun i h h' st k => by
    obtain ⟨⟨old, h1⟩, ⟨o, ho, r⟩, ne⟩ := st
    exact ⟨⟨old, k en (by simp) _ h1⟩, ⟨o, k it (by simp) _ ho, r⟩, ne⟩
  item := by
    intro X e1 e2 e3 hc i pins s σ H E I hf st hg
    subst e1 e2 e3
    obtain ⟨⟨old, h1⟩, h2, ne⟩ := st
    have D := drawsS (prog := X.prog) (w := X.w) (A := X.A.in1) (I.ok.hd hc) it x t
    have hel : en < s.heap.objs.size := Heap.lt_size h1
    have hil : it < s.heap.objs.size := by obtain ⟨_, q⟩ := D.live _ _ h2; exact Heap.lt_size q
    refine wpAny_pyNext_enum_itemD D h1 h2 hg ne (fun z => ne (List.mem_singleton.mp z)) fun u h' tk hP ho hit' hT hsz hk => ?_
    obtain ⟨c, tu, hcx, rfl⟩ := hP
    refine ⟨_, rfl, wpAny_letOwnedTupleGo_enum (s := { s with heap := h', toks := tk + 1 }) ho fun h'' he' sb => ?_⟩
    have hT2 : h''.get? s.heap.objs.size = some { cls := .type "tuple", data := .seq #[.int i tk, .str ⟨#[c]⟩ tu] } := (sb.2 _ (Nat.ne_of_gt hel)).trans hT
    have nw : ObjOk X.prog X.w (upd H s.heap.objs.size (.tup [.int (i : Nat), .str (ch c)])) h'' s.heap.objs.size (.tup [.int (i : Nat), .str (ch c)]) :=
      ⟨(show 2 ≤ sizeLine by decide), [.int i tk, .str ⟨#[c]⟩ tu], .cons ⟨_, rfl⟩ (.cons ⟨_, rfl⟩ .nil), _, hT2, rfl, _, rfl⟩
    have I1 : Inv X pins σ (upd H s.heap.objs.size (.tup [.int (i : Nat), .str (ch c)])) { s with heap := h'', toks := tk + 1 } :=
      I.turnedNew (ch := [en, it]) (fun b ob hb q => (sb.2 b (fun z => hb (by simp [z]))).trans (hk b ob (fun z => hb (by simp [z])) (fun z => hb (by simp [z])) q)) hf (Nat.le_refl _) nw
    refine ⟨.ref s.heap.objs.size, _, I1, rfl, ⟨_, c, rfl, I.hok.fresh (Nat.le_refl _), rfl, hcx⟩, ⟨⟨.str ⟨#[c]⟩ tu, ?_⟩, D.frame (i + 1) h' h'' hit' (fun b hb o q => (sb.2 b (fun z => ne (by rw [← z]; exact List.mem_singleton.mp hb))).trans q), ne⟩, fun b hb => ?_⟩
    · have e9 : ((i + 1 : Nat) : Int) = (i : Int) + 1 := by omega
      rw [e9]; exact he'
    · have hb' : b < s.heap.objs.size := by
        rcases (by simpa using hb : b = en ∨ b = it) with z | z
        · rw [z]; exact hel
        · rw [z]; exact hil
      rw [upd_ne (Nat.ne_of_lt hb')]
      exact (hf b hb).1
  done := by
    intro X e1 e2 e3 hc i pins s σ H E I hf st hg
    subst e1 e2 e3
    obtain ⟨⟨old, h1⟩, h2, ne⟩ := st
    obtain ⟨f0, f1, f2, f3, f4, f5⟩ := hf it (by simp)
    have D := drawsS (prog := X.prog) (w := X.w) (A := X.A.in1) (I.ok.hd hc) it x t
    have hg' : x.cps.size = i := hg
    subst hg'
    exact wpAny_pyNext_enum_endD D h1 h2 fun h' eb => ⟨rfl, I.turned (t' := s.toks) (fun b o hb q => eb b o hb q) f0 f1 f3 f4 f5⟩
  self := fun A i s Q E st h => let ⟨⟨_, h1⟩, _⟩ := st; wpAny_pyIter_enum h1 h
def iEnumS (ta : TA) : TI := fun σ H R => ta σ H fun vs H1 => ∃ x, vs = [.str x] ∧ R (IteS x) H1
theorem pi_enumS {X : Cx} {e : PySem.Expr} {ta : TA} {p pos tpos : Pos} {elts : List PySem.Expr} {kk : Nat} (hg : Gl X "enumerate") (hm : X.mg "enumerate" = none) (ha : PA X [e] ta) (hs : starEach [e] X.env = [(false, eval e X.env)] := by rfl) :
    PI X (.Tuple elts kk tpos) (.Call (.Name "enumerate" p) [e] [] pos) (iEnumS ta) := by
  refine ⟨fun pins s σ H R I h => ?_⟩
  refine Call_ (ld_blt I hg hm boot_enumerate (PyProof.Rows.callWith_type1 (thn (ha.run pos pins s σ H _ I h) fun us s1 ⟨vs, H1, I1, r1, q1⟩ => ?_) hs rfl))
  obtain ⟨x, ex, q⟩ := q1
  subst ex
  obtain ⟨u, rfl, ru⟩ := r1.one
  obtain ⟨t, rfl⟩ := ru
  refine call_enumerate_str fun h' he hit hsz hk => wpAny_pyIter_enum he ?_
  have I2 : Inv X pins σ H1 { s1 with heap := h' } := I1.kept (t' := s1.toks) hk
  refine ⟨s1.heap.objs.size + 1, [s1.heap.objs.size + 1, s1.heap.objs.size], _, _, H1, rfl, I2, turn_enumS x t (s1.heap.objs.size + 1) s1.heap.objs.size, ⟨⟨.none, he⟩, hit, Nat.succ_ne_self _⟩, fun b hb => ?_, q⟩
  have hle : s1.heap.objs.size ≤ b := by
    rcases (by simpa using hb : b = s1.heap.objs.size + 1 ∨ b = s1.heap.objs.size) with z | z
    · rw [z]; exact Nat.le_add_right _ _
    · rw [z]; exact Nat.le_refl _
  exact I1.fpOk hle (I1.hok.fresh hle)
theorem walk_enumS {x : Str} : Walk (IteS x) x.cps.size (fun _ => True) (fun i H v H' => ∃ (T : Addr) (c : Nat), v = .ref T ∧ H T = none ∧ H' = upd H T (.tup [.int (i : Nat), .str (ch c)]) ∧ x.cps[i]? = some c) :=
  ⟨fun _ _ hi _ => hi, fun _ _ => rfl, fun _ _ _ _ _ _ y => y⟩


theorem roomP {k : Nat} {A : Around} (r : Room k A) : A.units + 12 < cLine := by have := r.un; omega
def sp__law_letters : Sp := fun vs H Q _ => ∃ p : Addr, vs = [.ref p] ∧ Dn H p ∧ ∀ L H', Lets L → Rises L → L.length ≤ 7 → Fr p H H' → Dn H' p → Q (.str L) H'
def sp__law_classes : Sp := fun vs H Q _ => ∃ (n k : Nat), vs = [nI n, nI k] ∧ n ≤ 6 ∧ 1 ≤ k ∧ k ≤ 20 ∧ k ^ n ≤ 600 ∧ ∀ r as H', Same H H' → H r = none → H' r = some (.lst (as.map V.ref)) → RowsAt H' as (rowsTo n k) → Q (.ref r) H'
def sp__law_room : Sp := fun vs H Q _ => ∃ (L : Str) (n k : Nat), vs = [.str L, nI n, nI k] ∧ L.length ≤ 26 ∧ n ≤ 6 ∧ k ≤ 20 ∧ Q (nI (L.length * k ^ n)) H
section
variable {P : Program} {w : World} {K : PySem.W.Frag} {mg : Str → Option Value} {base : Heap}
theorem ok__law_letters (T : Txt K mg) : FnOk P w K mg base CX0 3 T.f__law_letters T.d__law_letters ["deck"] sp__law_letters := by
  have G__law_next : FnOk P w K mg base CX0 2 T.f__law_next T.d__law_next ["deck"] sp__law_next := ok__law_next T
  refine T.F__law_letters.ok sc__law_letters (fun vs H Q E h => ?_) (fun cdv A outer s H vs Q E hr h => ?_)
  · obtain ⟨p, rfl, _⟩ := h
    rfl
  obtain ⟨p, rfl, hp, q⟩ := h
  refine ⟨_, (pss_one (ps_ret (pe_ix ix_list (pe_lst (pa_cons pe_str (pa_cons pe_str (pa_cons pe_str (pa_cons pe_str (pa_cons pe_str (pa_cons pe_str pa_nil))))))) (pe_op op_mod (pe_call G__law_next (hr.mono (by omega)) (by rfl) T.m__law_next T.F__law_next.kp T.b__law_next .nil pass0 (pa_cons (pv 0) pa_nil)) pe_int) (fun _ _ => rfl)))), ?_⟩
  refine ⟨(by show 6 ≤ sizeLine; decide), fun l hl => ?_⟩
  have sl := same_new hl (o := .lst [V.str (Str.ofString "a"), V.str (Str.ofString "ab"), V.str (Str.ofString "xyz"), V.str (Str.ofString "bq"), V.str (Str.ofString "abcd"), V.str (Str.ofString "kmpqrst")])
  refine ⟨_, rfl, p, rfl, hp.keep sl, fun x H2 x0 x1 f2 d2 => ⟨_, _, rfl, rfl, (by show (0 : Int) < 6; decide), ?_⟩⟩
  have hl2 := f2 l _ (hp.ne hl) upd_same
  have r0 : 0 ≤ x % 6 := Int.emod_nonneg _ (by decide)
  have r1 : x % 6 < 6 := Int.emod_lt_of_pos _ (by decide)
  obtain ⟨L, hm, a1, a2, a3⟩ : ∃ L : Str, atI [V.str (Str.ofString "a"), V.str (Str.ofString "ab"), V.str (Str.ofString "xyz"), V.str (Str.ofString "bq"), V.str (Str.ofString "abcd"), V.str (Str.ofString "kmpqrst")] (x % 6) = some (V.str L) ∧ Lets L ∧ Rises L ∧ L.length ≤ 7 := by
    rcases (by omega : x % 6 = 0 ∨ x % 6 = 1 ∨ x % 6 = 2 ∨ x % 6 = 3 ∨ x % 6 = 4 ∨ x % 6 = 5) with e | e | e | e | e | e <;> rw [e]
    · exact ⟨_, at_of (j := 0) rfl rfl, by unfold Lets; decide +kernel, by unfold Rises; decide +kernel, by decide +kernel⟩
    · exact ⟨_, at_of (j := 1) rfl rfl, by unfold Lets; decide +kernel, by unfold Rises; decide +kernel, by decide +kernel⟩
    · exact ⟨_, at_of (j := 2) rfl rfl, by unfold Lets; decide +kernel, by unfold Rises; decide +kernel, by decide +kernel⟩
    · exact ⟨_, at_of (j := 3) rfl rfl, by unfold Lets; decide +kernel, by unfold Rises; decide +kernel, by decide +kernel⟩
    · exact ⟨_, at_of (j := 4) rfl rfl, by unfold Lets; decide +kernel, by unfold Rises; decide +kernel, by decide +kernel⟩
    · exact ⟨_, at_of (j := 5) rfl rfl, by unfold Lets; decide +kernel, by unfold Rises; decide +kernel, by decide +kernel⟩
  exact ⟨l, _, x % 6, V.str L, rfl, rfl, SqL.of hl2, hm, q L H2 a1 a2 a3 ((Fr.same sl).trans f2) d2⟩
theorem ok__law_room (T : Txt K mg) : FnOk P w K mg base CX0 1 T.f__law_room T.d__law_room ["letters", "states", "many"] sp__law_room := by
  refine T.F__law_room.ok sc__law_room (fun vs H Q E h => ?_) (fun cdv A outer s H vs Q E hr h => ?_)
  · obtain ⟨L, n, k, rfl, _⟩ := h
    rfl
  obtain ⟨L, n, k, rfl, l26, n6, k20, q⟩ := h
  refine ⟨_, (pss_cons (ps_set (i := 3) sc__law_room.nd rfl (Or.inl rfl) (pe_callB call_len_str (by rfl) T.z_len PySem.boot_len (pa_cons (pv 0) pa_nil))) (pss_cons (ps_for PassesOwn.never rfl (pi_range1 (by rfl) T.z_range (pa_cons (pv 1) pa_nil)) (pg_name (i := 4) sc__law_room.nd rfl (Or.inl rfl)) (pss_one (ps_set (i := 3) sc__law_room.nd rfl (Or.inl rfl) (pe_op op_mul (pv 3) (pv 2))))) (pss_one (ps_ret (pv 3))))), ?_⟩
  refine ⟨_, rfl, L, rfl, Nat.le_trans l26 (by decide), ?_⟩
  refine ⟨_, rfl, n, rfl, by omega, by omega, for_range (lo := 0) (n := n) (fun i σ H' => (∃ (f : Int) (y4 : Option V), f = ((L.length * k ^ i : Nat) : Int) ∧ σ = [some (.str L), some (nI n), some (nI k), some (.int f), y4]) ∧ H' = H) ⟨⟨_, _, by rw [Nat.pow_zero, Nat.mul_one], rfl⟩, rfl⟩ ?_ ?_⟩
  · rintro i σ H2 hi ⟨⟨f, y4, rfl, rfl⟩, rfl⟩
    refine ⟨_, rfl, _, rfl, _, _, rfl, rfl, .inr ⟨by omega, by omega⟩, ⟨_, _, ?_, rfl⟩, rfl⟩
    rw [Nat.pow_succ, ← Nat.mul_assoc]
    push_cast
    rfl
  · rintro σ H2 ⟨⟨f, y4, rfl, rfl⟩, rfl⟩
    exact ⟨_, rfl, q⟩
theorem ok__law_classes (T : Txt K mg) : FnOk P w K mg base CX0 1 T.f__law_classes T.d__law_classes ["states", "many"] sp__law_classes := by
  refine T.F__law_classes.ok sc__law_classes (fun vs H Q E h => ?_) (fun cdv A outer s H vs Q E hr h => ?_)
  · obtain ⟨n, k, rfl, _⟩ := h
    rfl
  obtain ⟨n, k, rfl, n6, k1, k20, h600, q⟩ := h
  refine ⟨_, (pss_cons (ps_set (i := 2) sc__law_classes.nd rfl (Or.inl rfl) (pe_lst (pa_cons (pe_tup pa_nil) pa_nil))) (pss_cons (ps_for PassesOwn.never rfl (pi_range1 (by rfl) T.z_range (pa_cons (pv 0) pa_nil)) (pg_name (i := 3) sc__law_classes.nd rfl (Or.inl rfl)) (pss_cons (ps_set (i := 4) sc__law_classes.nd rfl (Or.inl rfl) (pe_lst pa_nil)) (pss_cons (ps_for PassesOwn.never rfl (pi_list (pv 2)) (pg_name (i := 5) sc__law_classes.nd rfl (Or.inr rfl)) (pss_one (ps_expr (pe_bm PySem.F.plainAttrs_list PySem.F.slot_list_extend PySem.F.type_list_extend mt_extend (pv 4) (pa_cons (pe_lc (own := [("c", 6)]) (g := gName 6) (te := tOp (rCatA K) (tVar 5) (tTup (tCons (tVar 6) tNil))) (tt := tYes) rfl sc__law_classes.nd (pi_range1 (by rfl) T.z_range (pa_cons (pv 1) pa_nil)) (blkOk_by (own := [("c", 6)]) (N := ["states", "many", "found", "state", "longer", "classes", "c"]) (sc := (defScope s__law_classes)) (by decide +kernel)) (fun _ _ _ _ _ => (pg_name (i := 6) sc__law_classes.nd rfl (Or.inl rfl))) (fun _ _ _ _ _ => pts_nil) (fun _ _ _ _ _ => (pe_op op_catA (pv 5) (pe_tup (pa_cons (pv 6) pa_nil))))) pa_nil))))) (pss_one (ps_set (i := 2) sc__law_classes.nd rfl (Or.inl rfl) (pv 4)))))) (pss_one (ps_ret (pv 2))))), ?_⟩
  refine ⟨(by show 0 ≤ sizeLine; decide), fun p0 hp0 => ⟨(by show 1 ≤ sizeLine; decide), fun r0 hr0 => ?_⟩⟩
  have s0 := (same_new (o := .tup []) hp0).trans (same_new (o := .lst [V.ref p0]) hr0)
  have kp0 := same_new (o := .lst [V.ref p0]) hr0 _ _ (upd_same (H := H) (a := p0) (o := .tup []))
  have kr0 := upd_same (H := upd H p0 (.tup [])) (a := r0) (o := .lst [V.ref p0])
  have nr0 : H r0 = none := (same_new (o := .tup []) hp0).free hr0
  generalize upd (upd H p0 (.tup [])) r0 (.lst [V.ref p0]) = H2 at *
  refine ⟨_, rfl, n, rfl, by omega, by omega, for_range (lo := 0) (n := n) (fun i σ H' => ∃ (r : Addr) (as : List Addr) (y3 y4 y5 : Option V), σ = [some (nI n), some (nI k), some (.ref r), y3, y4, y5, none] ∧ H' r = some (.lst (as.map V.ref)) ∧ RowsAt H' as (rowsTo i k) ∧ Same H H' ∧ H r = none) ⟨r0, [p0], none, none, none, rfl, kr0, .cons kp0 .nil, s0, nr0⟩ ?_ ?_⟩
  · rintro i σ H3 hi ⟨r, as, y3, y4, y5, rfl, hr3, ha3, s3, nr⟩
    have la : as.length = k ^ i := by rw [Paired.length ha3, rowsTo_len]
    have pw : k ^ i ≤ 600 := Nat.le_trans (Nat.pow_le_pow_right k1 (by omega)) h600
    refine ⟨(by show 0 ≤ sizeLine; decide), fun f0 hf0 => ?_⟩
    have s4 := same_new (o := .lst []) hf0
    have kf0 := upd_same (H := H3) (a := f0) (o := .lst [])
    generalize upd H3 f0 (.lst []) = H4 at *
    refine ⟨_, rfl, r, rfl, ⟨_, SqL.of (s4 _ _ hr3)⟩, for_list (xs := as.map V.ref) (fun j σ H' => ∃ (bs : List Addr) (y5 : Option V), σ = [some (nI n), some (nI k), some (.ref r), some (.int (0 + i)), some (.ref f0), y5, none] ∧ H' f0 = some (.lst (bs.map V.ref)) ∧ RowsAt H' bs (((rowsTo i k).take j).flatMap fun r => (List.range k).map fun x => r ++ [x]) ∧ Same H3 H') ⟨[], _, rfl, kf0, .nil, s4⟩ (fun j σ H' _ ⟨_, _, _, _, _, s5⟩ => SqL.of (s5 _ _ hr3)) ?_ ?_⟩
    · rintro j x σ H5 hx ⟨bs, y5, rfl, hf5, hb5, s5⟩
      rw [List.getElem?_map] at hx
      cases haj : as[j]? with
      | none => rw [haj] at hx; cases hx
      | some aj =>
      rw [haj] at hx
      cases hx
      obtain ⟨row, hrow, kaj⟩ := prd_at ha3 haj
      have kaj5 := s5 _ _ kaj
      have hj := (List.getElem?_eq_some_iff.mp haj).1
      have lb := Paired.length hb5
      rw [ext_len, List.length_take, rowsTo_len] at lb
      have lb2 : bs.length ≤ 600 * 20 := by rw [lb]; exact Nat.mul_le_mul (Nat.le_trans (Nat.min_le_right _ _) pw) k20
      refine ⟨_, rfl, .inl ⟨rfl, _, SqL.of hf5⟩, _, rfl, k, rfl, by omega, by omega, fun D hD => ?_⟩
      refine lc_range (lo := 0) (n := k) (fun m H6 => ∃ cs : List Addr, H6 D = some (.lst (cs.map V.ref)) ∧ RowsAt H6 cs ((List.range m).map fun x => row ++ [x]) ∧ Same H5 H6) ⟨[], upd_same, .nil, same_new hD⟩ ?_ ?_
      · rintro m H6 hm ⟨cs, g1, g2, g3⟩
        have lc := Paired.length g2
        rw [List.length_map, List.length_range] at lc
        refine ⟨rfl, _, rfl, _, rfl, (by show 1 ≤ sizeLine; decide), fun t ht => ?_⟩
        have st := same_new (o := .tup [V.int (0 + (m : Int))]) ht
        have hD6 : H5 D = none := hD
        refine catA (st _ _ (g3 _ _ kaj5)) upd_same (by rw [List.length_map, (rowsTo_mem (List.mem_of_getElem? hrow)).1, List.length_singleton]; omega) fun b H7 s7 kb nb => ?_
        have kD := s7 _ _ (st _ _ g1)
        have tk := upd_tup (o := .lst (cs.map V.ref ++ [V.ref b])) kD
        refine ⟨_, kD, ?_, cs ++ [b], ?_, ?_, same_add ((g3.trans st).trans s7) hD6⟩
        · rw [List.length_map, lc]
          exact Nat.lt_of_le_of_lt (show _ ≤ 1000000 by omega) (by decide)
        · rw [upd_same, List.map_append (l₂ := [b])]
          rfl
        · rw [List.range_succ, List.map_append (f := fun x => row ++ [x])]
          refine prd_app (((RowsAt.keep g2 fun b xs e => st _ _ e).keep fun b xs e => s7 _ _ e).keep tk) (.cons ?_ .nil)
          have e : row.map nI ++ [V.int (0 + (m : Int))] = (row ++ [m]).map nI := by rw [List.map_append, Int.zero_add]; rfl
          rw [← e]
          exact tk _ _ kb
      · rintro H6 ⟨cs, g1, g2, g3⟩
        have lc := Paired.length g2
        rw [List.length_map, List.length_range] at lc
        have kf6 := g3 _ _ hf5
        have tk := upd_tup (o := .lst (bs.map V.ref ++ cs.map V.ref)) kf6
        refine ⟨f0, D, _, _, rfl, rfl, kf6, g1, ?_, bs ++ cs, _, rfl, ?_, ?_, ?_⟩
        · rw [List.length_map, List.length_map]
          exact Nat.le_of_lt (Nat.lt_of_le_of_lt (show _ ≤ 1000000 by omega) (by decide))
        · rw [upd_same, List.map_append]
        · rw [flat_take _ hrow]
          exact prd_app ((hb5.keep fun b xs e => g3 _ _ e).keep tk) (RowsAt.keep g2 tk)
        · intro b o e
          rw [upd_ne (ne_of_none e hf0)]
          exact g3 _ _ (s5 _ _ e)
    · rintro σ H5 ⟨bs, y5, rfl, hf5, hb5, s5⟩
      rw [List.length_map, la, ← rowsTo_len k i, List.take_length] at hb5
      exact ⟨_, rfl, f0, bs, _, _, _, rfl, hf5, hb5, s3.trans s5, s3.free hf0⟩
  · rintro σ H3 ⟨r, as, y3, y4, y5, rfl, hr3, ha3, s3, nr⟩
    exact ⟨_, rfl, q r as H3 s3 nr hr3 ha3⟩
end

def sp__law_judge (P : Program) (w : World) : Sp := fun vs H Q _ => ∃ (p : Addr) (L : Str) (most room : Nat), vs = [.ref p, .str L, nI most, nI room] ∧ Dn H p ∧ Lets L ∧ Rises L ∧ 1 ≤ most ∧ most ≤ 6 ∧ L.length ≤ room ∧ room ≤ 600 ∧ ∀ v (J : JD) H', Fr p H H' → Dn H' p → J.L = L → J.ok → J.n ≤ most → L.length * (J.few + J.turn) ^ J.n ≤ room → J.good.Pairwise (· < ·) → JAtO P w (fun b => b ≠ p ∧ H b = none) H' v J → Q v H'
theorem pow_le_pow1 {a b n m : Nat} (h1 : 1 ≤ a) (h : a ≤ b) (hn : n ≤ m) : a ^ n ≤ b ^ m := Nat.le_trans (Nat.pow_le_pow_left h n) (Nat.pow_le_pow_right (by omega) hn)
section
variable {P : Program} {w : World} {K : PySem.W.Frag} {mg : Str → Option Value} {base : Heap}
theorem ok__law_judge (T : Txt K mg) : FnOk P w K mg base CX0 4 T.f__law_judge T.d__law_judge ["deck", "letters", "most", "room"] (sp__law_judge P w) := by
  have G__law_next : FnOk P w K mg base CX0 2 T.f__law_next T.d__law_next ["deck"] sp__law_next := ok__law_next T
  have G__law_stir : FnOk P w K mg base CX0 1 T.f__law_stir T.d__law_stir ["cell", "k"] sp__law_stir := ok__law_stir T
  have G__law_room : FnOk P w K mg base CX0 1 T.f__law_room T.d__law_room ["letters", "states", "many"] sp__law_room := ok__law_room T
  have G__law_classes : FnOk P w K mg base CX0 1 T.f__law_classes T.d__law_classes ["states", "many"] sp__law_classes := ok__law_classes T
  refine T.F__law_judge.ok sc__law_judge (fun vs H Q E h => ?_) (fun cdv A outer s H vs Q E hr h => ?_)
  · obtain ⟨p, L, most, room, rfl, _⟩ := h
    rfl
  obtain ⟨p, L, most, room, rfl, hp, hL, hri, m1, m6, hlr, hr6, q⟩ := h
  refine ⟨_, (pss_cons (ps_set (i := 4) sc__law_judge.nd rfl (Or.inl rfl) (pe_op op_add pe_int (pe_op op_mod (pe_call G__law_next (hr.mono (by omega)) (by rfl) T.m__law_next T.F__law_next.kp T.b__law_next .nil pass0 (pa_cons (pv 0) pa_nil)) (pv 2)))) (pss_cons (ps_set (i := 5) sc__law_judge.nd rfl (Or.inl rfl) (pe_op op_mod (pe_call G__law_next (hr.mono (by omega)) (by rfl) T.m__law_next T.F__law_next.kp T.b__law_next .nil pass0 (pa_cons (pv 0) pa_nil)) (pe_ix ix_list (pe_lst (pa_cons pe_int (pa_cons pe_int pa_nil))) (pe_op op_mod (pe_call G__law_next (hr.mono (by omega)) (by rfl) T.m__law_next T.F__law_next.kp T.b__law_next .nil pass0 (pa_cons (pv 0) pa_nil)) pe_int) (fun _ _ => rfl)))) (pss_cons (ps_set (i := 6) sc__law_judge.nd rfl (Or.inl rfl) (pe_op op_add pe_int (pe_op op_mod (pe_call G__law_next (hr.mono (by omega)) (by rfl) T.m__law_next T.F__law_next.kp T.b__law_next .nil pass0 (pa_cons (pv 0) pa_nil)) (pe_ix ix_list (pe_lst (pa_cons pe_int (pa_cons pe_int pa_nil))) (pe_op op_mod (pe_call G__law_next (hr.mono (by omega)) (by rfl) T.m__law_next T.F__law_next.kp T.b__law_next .nil pass0 (pa_cons (pv 0) pa_nil)) pe_int) (fun _ _ => rfl))))) (pss_cons (ps_while PassesOwn.never (pt_cmpR op_gt (pe_call G__law_room (hr.mono (by omega)) (by rfl) T.m__law_room T.F__law_room.kp T.b__law_room .nil pass0 (pa_cons (pv 1) (pa_cons (pv 4) (pa_cons (pe_op op_add (pv 5) (pv 6)) pa_nil)))) (pv 3) (nomark _)) (pss_one (ps_if (pt_cmpR op_gt (pv 4) pe_int (nomark _)) (pss_one (ps_set (i := 4) sc__law_judge.nd rfl (Or.inl rfl) (pe_op op_sub (pv 4) pe_int))) (pss_one (ps_if (pt_cmpR op_gt (pv 5) pe_int (nomark _)) (pss_one (ps_set (i := 5) sc__law_judge.nd rfl (Or.inl rfl) (pe_op op_sub (pv 5) pe_int))) (pss_one (ps_set (i := 6) sc__law_judge.nd rfl (Or.inl rfl) (pe_op op_sub (pv 6) pe_int)))))))) (pss_cons (ps_set (i := 7) sc__law_judge.nd rfl (Or.inl rfl) (pe_op op_mod (pe_call G__law_next (hr.mono (by omega)) (by rfl) T.m__law_next T.F__law_next.kp T.b__law_next .nil pass0 (pa_cons (pv 0) pa_nil)) pe_int)) (pss_cons (ps_set (i := 8) sc__law_judge.nd rfl (Or.inl rfl) (pe_call G__law_next (hr.mono (by omega)) (by rfl) T.m__law_next T.F__law_next.kp T.b__law_next .nil pass0 (pa_cons (pv 0) pa_nil))) (pss_cons (ps_setLc (i := 9) (own := [("state", 19)]) (g := gName 19) (tt := tYes) rfl sc__law_judge.nd rfl rfl (sw_true rfl rfl rfl (by decide +kernel)) (pi_range1 (by rfl) T.z_range (pa_cons (pv 4) pa_nil)) (blkOk_by (own := [("state", 19)]) (N := ["deck", "letters", "most", "room", "states", "few", "turn", "way", "seed", "weights", "table", "classes", "total", "k", "letter", "number", "key", "keys", "at", "state", "weight", "c"]) (sc := (defScope s__law_judge)) (by decide +kernel)) (fun _ _ _ _ _ => (pg_name (i := 19) sc__law_judge.nd rfl (Or.inl rfl))) (fun _ _ _ _ _ => pts_nil) (fun _ _ _ _ _ => (pe_op op_mod (pe_call G__law_next (hr.mono (by omega)) (by rfl) T.m__law_next T.F__law_next.kp T.b__law_next .nil pass0 (pa_cons (pv 0) pa_nil)) pe_int))) (pss_cons (ps_set (i := 10) sc__law_judge.nd rfl (Or.inr rfl) pe_dnewN) (pss_cons (ps_for PassesOwn.never rfl (pi_list (pe_call G__law_classes (hr.mono (by omega)) (by rfl) T.m__law_classes T.F__law_classes.kp T.b__law_classes .nil pass0 (pa_cons (pv 4) (pa_cons (pe_op op_add (pv 5) (pv 6)) pa_nil)))) (pg_name (i := 11) sc__law_judge.nd rfl (Or.inl rfl)) (pss_cons (ps_set (i := 12) sc__law_judge.nd rfl (Or.inl rfl) (pe_callB (cr_sum rfl) (by rfl) T.z_sum (by decide +kernel) (pa_cons (pe_lc (own := [("weight", 20), ("c", 21)]) (g := gTup K 2 (gCons (gName 20) (gCons (gName 21) gNil))) (tt := tYes) rfl sc__law_judge.nd (pi_zipM (by rfl) T.z_zip (pa_cons (pv 9) (pa_cons (pv 11) pa_nil))) (blkOk_by (own := [("weight", 20), ("c", 21)]) (N := ["deck", "letters", "most", "room", "states", "few", "turn", "way", "seed", "weights", "table", "classes", "total", "k", "letter", "number", "key", "keys", "at", "state", "weight", "c"]) (sc := (defScope s__law_judge)) (by decide +kernel)) (fun _ _ _ _ _ => (pg_tup rfl (pgs_cons (pg_name (i := 20) sc__law_judge.nd rfl (Or.inl rfl)) (pgs_cons (pg_name (i := 21) sc__law_judge.nd rfl (Or.inl rfl)) pgs_nil)))) (fun _ _ _ _ _ => pts_nil) (fun _ _ _ _ _ => (pe_op op_mul (pv 20) (pv 21)))) pa_nil))) (pss_one (ps_for PassesOwn.never rfl (pi_enumS (by rfl) T.z_enumerate (pa_cons (pv 1) pa_nil)) (pg_tup rfl (pgs_cons (pg_name (i := 13) sc__law_judge.nd rfl (Or.inl rfl)) (pgs_cons (pg_name (i := 14) sc__law_judge.nd rfl (Or.inl rfl)) pgs_nil))) (pss_cons (ps_set (i := 15) sc__law_judge.nd rfl (Or.inl rfl) (pe_call G__law_stir (hr.mono (by omega)) (by rfl) T.m__law_stir T.F__law_stir.kp T.b__law_stir .nil pass0 (pa_cons (pv 8) (pa_cons (pe_callB call_lenN (by rfl) T.z_len PySem.boot_len (pa_cons (pv 10) pa_nil)) pa_nil)))) (pss_one (ps_dputN (roomN hr) (pv 10) (pe_tup (pa_cons (pv 14) (pa_cons (pv 11) pa_nil))) (pe_op op_mod (pe_ix ix_list (pe_lst (pa_cons (pv 15) (pa_cons (pv 15) (pa_cons (pe_op op_add (pe_op op_add (pv 12) (pv 13)) (pv 8)) (pa_cons (pe_callB (call_min2 rfl) (by rfl) T.z_min (by decide +kernel) (pa_cons (pe_op op_add (pv 12) (pv 13)) (pa_cons pe_int pa_nil))) pa_nil))))) (pv 7) (fun _ _ => rfl)) (pv 4)) rfl))))))) (C8.pss_cut (ps_if (pt_cmpR op_lt (pe_callB call_lenN (by rfl) T.z_len PySem.boot_len (pa_cons (pv 10) pa_nil)) pe_int (nomark _)) (pss_one (ps_for PassesOwn.never rfl (pi_list (pe_callTy (call_listN rfl) (by rfl) T.z_list (by decide +kernel) (pa_cons (pv 10) pa_nil))) (pg_name (i := 16) sc__law_judge.nd rfl (Or.inl rfl)) (pss_one (ps_dputN (roomN hr) (pv 10) (pv 16) (pe_op op_mod (pe_op op_add (pe_dgetN (roomN hr) (pv 10) (pv 16) (fun _ _ => rfl)) (pe_call G__law_next (hr.mono (by omega)) (by rfl) T.m__law_next T.F__law_next.kp T.b__law_next .nil pass0 (pa_cons (pv 0) pa_nil))) (pv 4)) rfl)))) pss_nil) (pss_cons (ps_set (i := 17) sc__law_judge.nd rfl (Or.inl rfl) (pe_callTy (call_listN rfl) (by rfl) T.z_list (by decide +kernel) (pa_cons (pv 10) pa_nil))) (pss_cons (ps_set (i := 18) sc__law_judge.nd rfl (Or.inl rfl) (pe_op op_mod (pe_call G__law_next (hr.mono (by omega)) (by rfl) T.m__law_next T.F__law_next.kp T.b__law_next .nil pass0 (pa_cons (pv 0) pa_nil)) (pe_callB call_len_seq (by rfl) T.z_len PySem.boot_len (pa_cons (pv 17) pa_nil)))) (pss_cons (ps_set (i := 17) sc__law_judge.nd rfl (Or.inl rfl) (pe_stepL (pe_op op_cat (pe_slice sl_list (pv 17) (po_some (pv 18)) po_none) (pe_slice sl_list (pv 17) po_none (po_some (pv 18)))) (pe_ix ix_list (pe_lst (pa_cons pe_int (pa_cons (pe_un un_neg pe_int) pa_nil))) (pe_op op_mod (pe_call G__law_next (hr.mono (by omega)) (by rfl) T.m__law_next T.F__law_next.kp T.b__law_next .nil pass0 (pa_cons (pv 0) pa_nil)) pe_int) (fun _ _ => rfl)))) (pss_cons (ps_set (i := 10) sc__law_judge.nd rfl (Or.inr rfl) (pe_callTy (call_dictP rfl (roomP hr)) (by rfl) T.z_dict (by decide +kernel) (pa_cons (pe_lc (own := [("key", 16)]) (g := gName 16) (te := tTup (tCons (tVar 16) (tCons (tDGetN P w (tVar 10) (tVar 16)) tNil))) (tt := tYes) rfl sc__law_judge.nd (pi_list (pv 17)) (blkOk_by (own := [("key", 16)]) (N := ["deck", "letters", "most", "room", "states", "few", "turn", "way", "seed", "weights", "table", "classes", "total", "k", "letter", "number", "key", "keys", "at", "state", "weight", "c"]) (sc := (defScope s__law_judge)) (by decide +kernel)) (fun _ _ _ _ _ => (pg_name (i := 16) sc__law_judge.nd rfl (Or.inl rfl))) (fun _ _ _ _ _ => pts_nil) (fun _ _ _ _ _ => (pe_tup (pa_cons (pv 16) (pa_cons (pe_dgetN (roomN hr) (pv 10) (pv 16) (fun _ _ => rfl)) pa_nil))))) pa_nil))) (pss_one (ps_ret (pe_tup (pa_cons (pv 1) (pa_cons (pv 4) (pa_cons (pv 5) (pa_cons (pv 6) (pa_cons (pv 10) (pa_cons (pe_lc (own := [("state", 19)]) (g := gName 19) rfl sc__law_judge.nd (pi_range1 (by rfl) T.z_range (pa_cons (pv 4) pa_nil)) (blkOk_by (own := [("state", 19)]) (N := ["deck", "letters", "most", "room", "states", "few", "turn", "way", "seed", "weights", "table", "classes", "total", "k", "letter", "number", "key", "keys", "at", "state", "weight", "c"]) (sc := (defScope s__law_judge)) (by decide +kernel)) (fun _ _ _ _ _ => (pg_name (i := 19) sc__law_judge.nd rfl (Or.inl rfl))) (fun _ _ _ _ _ => pts_one (pt_cmpR op_eq (pe_op op_mod (pe_call G__law_next (hr.mono (by omega)) (by rfl) T.m__law_next T.F__law_next.kp T.b__law_next .nil pass0 (pa_cons (pv 0) pa_nil)) pe_int) pe_int (nomark _))) (fun _ _ _ _ _ => (pv 19))) pa_nil))))))))))))))))))))))), ?_⟩
  have l1 := hL.1
  refine ⟨_, rfl, p, rfl, hp, fun x H1 x0 x1 f1 D1 => ⟨_, rfl, x, (most : Int), rfl, rfl, by omega, 1, _, rfl, rfl, ?_⟩⟩
  have r0 : 0 ≤ x % (most : Int) := Int.emod_nonneg _ (by omega)
  have r1 : x % (most : Int) < (most : Int) := Int.emod_lt_of_pos _ (by omega)
  obtain ⟨n0, hn0, n01, n0m⟩ : ∃ n0 : Nat, 1 + x % (most : Int) = (n0 : Int) ∧ 1 ≤ n0 ∧ n0 ≤ most := ⟨(1 + x % (most : Int)).toNat, by omega, by omega, by omega⟩
  show gName 4 (.int (1 + x % (most : Int))) _ _ _
  rw [hn0]
  clear r0 r1 hn0 x0 x1
  refine ⟨_, rfl, p, rfl, D1, fun x H2 x0 x1 f2 D2 => ⟨(by show 2 ≤ sizeLine; decide), fun l hl => ?_⟩⟩
  have sl := same_new hl (o := .lst [V.int 3, V.int 5])
  refine ⟨_, rfl, p, rfl, D2.keep sl, fun y H3 y0 y1 f3 D3 => ⟨_, _, rfl, rfl, (by show (0 : Int) < 2; decide), ?_⟩⟩
  have hl3 := f3 l _ (D2.ne hl) upd_same
  obtain ⟨m, hm, m0, m5⟩ : ∃ m : Int, atI [V.int 3, V.int 5] (y % 2) = some (V.int m) ∧ 0 < m ∧ m ≤ 5 := by
    rcases (by omega : y % 2 = 0 ∨ y % 2 = 1) with e | e <;> rw [e]
    · exact ⟨3, at_of (j := 0) rfl rfl, by decide, by decide⟩
    · exact ⟨5, at_of (j := 1) rfl rfl, by decide, by decide⟩
  refine ⟨l, _, y % 2, V.int m, rfl, rfl, SqL.of hl3, hm, _, _, rfl, rfl, m0, ?_⟩
  have F3 : Fr p H1 H3 := (f2.trans (Fr.same sl)).trans f3
  have r0 : 0 ≤ x % m := Int.emod_nonneg _ (by omega)
  have r1 : x % m < m := Int.emod_lt_of_pos _ m0
  obtain ⟨few0, hf0, hf4⟩ : ∃ few0 : Nat, x % m = (few0 : Int) ∧ few0 ≤ 4 := ⟨(x % m).toNat, by omega, by omega⟩
  show gName 5 (.int (x % m)) _ _ _
  rw [hf0]
  clear r0 r1 hf0 x0 x1 hm m0 m5 y0 y1 hl3 D2 f2 f3 sl
  refine ⟨_, rfl, p, rfl, D3, fun x H4 x0 x1 f4 D4 => ⟨(by show 2 ≤ sizeLine; decide), fun l hl => ?_⟩⟩
  have sl := same_new hl (o := .lst [V.int 2, V.int 4])
  refine ⟨_, rfl, p, rfl, D4.keep sl, fun y H5 y0 y1 f5 D5 => ⟨_, _, rfl, rfl, (by show (0 : Int) < 2; decide), ?_⟩⟩
  have hl3 := f5 l _ (D4.ne hl) upd_same
  obtain ⟨m, hm, m0, m5⟩ : ∃ m : Int, atI [V.int 2, V.int 4] (y % 2) = some (V.int m) ∧ 0 < m ∧ m ≤ 4 := by
    rcases (by omega : y % 2 = 0 ∨ y % 2 = 1) with e | e <;> rw [e]
    · exact ⟨2, at_of (j := 0) rfl rfl, by decide, by decide⟩
    · exact ⟨4, at_of (j := 1) rfl rfl, by decide, by decide⟩
  refine ⟨l, _, y % 2, V.int m, rfl, rfl, SqL.of hl3, hm, _, _, rfl, rfl, m0, 1, _, rfl, rfl, ?_⟩
  have F5 : Fr p H H5 := ((f1.trans F3).trans ((f4.trans (Fr.same sl)).trans f5))
  have r0 : 0 ≤ x % m := Int.emod_nonneg _ (by omega)
  have r1 : x % m < m := Int.emod_lt_of_pos _ m0
  obtain ⟨turn0, ht0, ht1, ht4⟩ : ∃ turn0 : Nat, 1 + x % m = (turn0 : Int) ∧ 1 ≤ turn0 ∧ turn0 ≤ 4 := ⟨(1 + x % m).toNat, by omega, by omega, by omega⟩
  show gName 6 (.int (1 + x % m)) _ _ _
  rw [ht0]
  clear r0 r1 ht0 x0 x1 hm m0 m5 y0 y1 hl3 D4 f4 f5 sl F3 f1 D1
  refine ⟨fun m σ H' => ∃ (a b c : Int) (n few turn : Nat), a = (n : Int) ∧ b = (few : Int) ∧ c = (turn : Int) ∧ σ = [some (.ref p), some (.str L), some (nI most), some (nI room), some (.int a), some (.int b), some (.int c), none, none, none, none, none, none, none, none, none, none, none, none, none, none, none] ∧ 1 ≤ n ∧ n ≤ most ∧ few ≤ 4 ∧ 1 ≤ turn ∧ turn ≤ 4 ∧ m = n + few + turn ∧ H' = H5, ⟨_, _, _, _, n0, few0, turn0, rfl, rfl, rfl, rfl, n01, n0m, hf4, ht1, ht4, rfl, rfl⟩, ?_⟩
  rintro _ σ H6 ⟨_, _, _, n, few, turn, rfl, rfl, rfl, rfl, n1, nm, f4, t1, t4, rfl, rfl⟩
  refine ⟨_, rfl, _, rfl, _, rfl, _, rfl, _, _, rfl, rfl, L, n, few + turn, rfl, hL.2.1, by omega, by omega, ?_⟩
  refine ⟨_, rfl, _, _, rfl, rfl, _, rfl, ?_⟩
  by_cases big : room < L.length * (few + turn) ^ n
  · have next : ∀ (n2 few2 turn2 : Nat) (a b c : Int), a = (n2 : Int) → b = (few2 : Int) → c = (turn2 : Int) → 1 ≤ n2 → n2 ≤ n → few2 ≤ few → 1 ≤ turn2 → turn2 ≤ turn → n2 + few2 + turn2 < n + few + turn → ∃ m', m' < n + few + turn ∧ ∃ (a' b' c' : Int) (n few turn : Nat), a' = (n : Int) ∧ b' = (few : Int) ∧ c' = (turn : Int) ∧ [some (V.ref p), some (.str L), some (nI most), some (nI room), some (.int a), some (.int b), some (.int c), none, none, none, none, none, none, none, none, none, none, none, none, none, none, none] = [some (.ref p), some (.str L), some (nI most), some (nI room), some (.int a'), some (.int b'), some (.int c'), none, none, none, none, none, none, none, none, none, none, none, none, none, none, none] ∧ 1 ≤ n ∧ n ≤ most ∧ few ≤ 4 ∧ 1 ≤ turn ∧ turn ≤ 4 ∧ m' = n + few + turn ∧ H6 = H6 :=
      fun n2 few2 turn2 a b c ha hb hc h1 h2 h3 h4 h5 h6 => ⟨n2 + few2 + turn2, h6, a, b, c, n2, few2, turn2, ha, hb, hc, rfl, h1, by omega, by omega, h4, by omega, rfl, rfl⟩
    refine dT (by omega) ⟨fun σ2 H2 => ∃ m', m' < n + few + turn ∧ ∃ (a' b' c' : Int) (n few turn : Nat), a' = (n : Int) ∧ b' = (few : Int) ∧ c' = (turn : Int) ∧ σ2 = [some (.ref p), some (.str L), some (nI most), some (nI room), some (.int a'), some (.int b'), some (.int c'), none, none, none, none, none, none, none, none, none, none, none, none, none, none, none] ∧ 1 ≤ n ∧ n ≤ most ∧ few ≤ 4 ∧ 1 ≤ turn ∧ turn ≤ 4 ∧ m' = n + few + turn ∧ H2 = H6, fun σ2 H2 h => h, ?_⟩
    refine ⟨_, rfl, _, _, rfl, rfl, _, rfl, ?_⟩
    by_cases c1 : 1 < n
    · refine dT (by omega) ⟨_, rfl, _, _, rfl, rfl, ?_⟩
      exact next (n - 1) few turn _ _ _ (by omega) rfl rfl (by omega) (by omega) (by omega) (by omega) (by omega) (by omega)
    · refine dF (by omega) ⟨_, rfl, _, _, rfl, rfl, _, rfl, ?_⟩
      by_cases c2 : 0 < few
      · refine dT (by omega) ⟨_, rfl, _, _, rfl, rfl, ?_⟩
        exact next n (few - 1) turn _ _ _ rfl (by omega) rfl (by omega) (by omega) (by omega) (by omega) (by omega) (by omega)
      · have e1 : n = 1 := by omega
        have e2 : few = 0 := by omega
        have c3 : 2 ≤ turn := by
          rcases Nat.lt_or_ge turn 2 with z | z
          · have e3 : turn = 1 := by omega
            rw [e1, e2, e3] at big
            simp at big
            omega
          · exact z
        refine dF (by omega) ⟨_, rfl, _, _, rfl, rfl, ?_⟩
        exact next n few (turn - 1) _ _ _ rfl rfl (by omega) (by omega) (by omega) (by omega) (by omega) (by omega) (by omega)
  refine dF (by omega) ?_
  have hfit : L.length * (few + turn) ^ n ≤ room := by omega
  clear big n0 n01 n0m few0 hf4 turn0 ht1 ht4
  have k600 : (few + turn) ^ n ≤ 600 := Nat.le_trans (Nat.le_trans (Nat.le_mul_of_pos_left _ l1) hfit) hr6
  refine ⟨_, rfl, p, rfl, D5, fun x H7 x0 x1 f7 D7 => ⟨_, _, rfl, rfl, (by show (0 : Int) < 4; decide), ?_⟩⟩
  have w0 : 0 ≤ x % 4 := Int.emod_nonneg _ (by decide)
  have w1 : x % 4 < 4 := Int.emod_lt_of_pos _ (by decide)
  show gName 7 (.int (x % 4)) _ _ _
  generalize x % 4 = way at *
  clear x0 x1
  refine ⟨_, rfl, p, rfl, D7, fun seed H8 sd0 sd1 f8 D8 => ?_⟩
  refine ⟨_, rfl, n, rfl, by omega, by omega, fun D hD => ?_⟩
  have nD : D ≠ p := D8.ne hD
  refine lc_range (lo := 0) (n := n) (fun i H9 => ∃ ws : List Int, H9 D = some (.lst (ws.map V.int)) ∧ ws.length = i ∧ (∀ x ∈ ws, 0 ≤ x ∧ x < 3) ∧ Fr p H8 H9 ∧ Dn H9 p) ⟨[], upd_same, rfl, (fun _ h => by cases h), (Fr.refl p H8).new hD, D8.keep (same_new hD)⟩ ?_ ?_
  · rintro i H9 hi ⟨ws, g1, g2, g3, g4, g5⟩
    refine ⟨rfl, _, rfl, p, rfl, g5, fun x H10 x0 x1 f10 D10 => ⟨_, _, rfl, rfl, (by show (0 : Int) < 3; decide), _, f10 _ _ nD g1, ?_, ws ++ [x % 3], ?_, by rw [List.length_append, g2]; rfl, ?_, (g4.trans f10).new hD, D10.upd nD⟩⟩
    · rw [List.length_map]
      exact Nat.lt_of_le_of_lt (show _ ≤ 1000000 by omega) (by decide)
    · rw [upd_same, List.map_append]
      rfl
    · intro y hy
      rcases List.mem_append.mp hy with hy | hy
      · exact g3 y hy
      · rw [List.mem_singleton.mp hy]
        exact ⟨Int.emod_nonneg _ (by decide), Int.emod_lt_of_pos _ (by decide)⟩
  rintro H9 ⟨ws, gD, lw, hws, f9, D9⟩
  refine fun dl hdl => ?_
  have s10 := same_new hdl (o := DictN P w dl [])
  have kd0 := upd_same (H := H9) (a := dl) (o := DictN P w dl [])
  have F10 : Fr p H (upd H9 dl (DictN P w dl [])) := (((F5.trans f7).trans f8).trans f9).trans (Fr.same s10)
  have gD10 := s10 _ _ gD
  have D10 := D9.keep s10
  have ndl : dl ≠ p := D9.ne hdl
  have hdl0 : H dl = none := (((F5.trans f7).trans f8).trans f9).free D9.some hdl
  refine ⟨_, rfl, _, rfl, _, rfl, _, _, rfl, rfl, n, few + turn, rfl, by omega, by omega, by omega, k600, fun r as H11 s11 hr0 hr1 hrows => ?_⟩
  have s11 : Same (upd H9 dl (DictN P w dl [])) H11 := s11
  have hr0 : upd H9 dl (DictN P w dl []) r = none := hr0
  generalize upd H9 dl (DictN P w dl []) = H10 at *
  have la : as.length = (few + turn) ^ n := by rw [Paired.length hrows, rowsTo_len]
  have gD11 := s11 _ _ gD10
  have D11 := D10.keep s11
  have F11 := F10.trans (Fr.same s11)
  have nrp : r ≠ p := D10.ne hr0
  have ndr : dl ≠ r := ne_of_none kd0 hr0
  refine ⟨r, rfl, ⟨_, SqL.of hr1⟩, for_list (xs := as.map V.ref) (fun i σ H' => ∃ (xs : List NRow) (y11 y12 y13 y14 y15 : Option V), σ = [some (.ref p), some (.str L), some (nI most), some (nI room), some (nI n), some (nI few), some (nI turn), some (.int way), some (.int seed), some (.ref D), some (.ref dl), y11, y12, y13, y14, y15, none, none, none, none, none, none] ∧ H' dl = some (DictN P w dl xs) ∧ RowsN H' xs ∧ RowsB n xs (((rowsTo n (few + turn)).take i).flatMap fun r => L.cps.toList.map fun c => (c, r)) ∧ FrD dl H11 H') ⟨[], _, _, _, _, _, rfl, s11 _ _ kd0, (fun x h => by cases h), .nil, fun b o _ e => e⟩ (fun i σ H' _ ⟨_, _, _, _, _, _, _, _, _, _, f⟩ => SqL.of (f _ _ ndr.symm hr1)) ?_ ?_⟩
  · rintro i x σ H12 hx ⟨xs, y11, y12, y13, y14, y15, rfl, kd, krn, krb, fd⟩
    rw [List.getElem?_map] at hx
    cases haj : as[i]? with
    | none => rw [haj] at hx; cases hx
    | some aj =>
    rw [haj] at hx
    cases hx
    obtain ⟨row, hrow, kaj⟩ := prd_at hrows haj
    obtain ⟨hlen, hlt⟩ := rowsTo_mem (List.mem_of_getElem? hrow)
    have naj : aj ≠ dl := fun e => by rw [e, s11 _ _ kd0] at kaj; unfold DictN at kaj; cases kaj
    have nDd : D ≠ dl := fun e => by rw [e, s11 _ _ kd0] at gD11; unfold DictN at gD11; cases gD11
    have kaj2 := fd _ _ naj kaj
    have gD12 := fd _ _ nDd gD11
    have hi := (List.getElem?_eq_some_iff.mp haj).1
    have hwl : ws.length = row.length := by omega
    refine ⟨_, rfl, _, rfl, D, aj, _, _, rfl, SqL.of gD12, SqT.of kaj2, fun E hE => ?_⟩
    refine lc_zipM (xs := ws.map V.int) (ys := row.map nI) (by rw [List.length_map, List.length_map, hwl]) (fun j H' => ∃ ts : List Int, H' E = some (.lst (ts.map V.int)) ∧ ts.length = j ∧ Same H12 H') ⟨[], upd_same, rfl, same_new hE⟩ (fun j H' _ ⟨_, _, _, s⟩ => ⟨SqL.of (s _ _ gD12), SqT.of (s _ _ kaj2)⟩) ?_ ?_
    · rintro j x y Tt H13 hx hy ⟨ts, g1, g2, g3⟩ hT
      rw [List.getElem?_map] at hx hy
      cases hc : ws[j]? with
      | none => rw [hc] at hx; cases hx
      | some x1 =>
      cases hc2 : row[j]? with
      | none => rw [hc2] at hy; cases hy
      | some y1 =>
      rw [hc] at hx
      rw [hc2] at hy
      cases hx
      cases hy
      have hj := (List.getElem?_eq_some_iff.mp hc).1
      have b3 := hws x1 (List.mem_of_getElem? hc)
      have sT := same_new hT (o := .tup [V.int x1, nI y1])
      refine ⟨_, _, rfl, SqT.of upd_same, rfl, _, _, rfl, _, _, rfl, rfl, rfl, _, rfl, _, rfl, _, _, rfl, rfl, .inl ⟨by omega, by omega⟩, _, sT _ _ g1, ?_, ts ++ [x1 * (y1 : Int)], ?_, by rw [List.length_append, g2]; rfl, same_add (g3.trans sT) hE⟩
      · rw [List.length_map]
        exact Nat.lt_of_le_of_lt (show _ ≤ 1000000 by omega) (by decide)
      · rw [upd_same, List.map_append]
        rfl
    rintro H13 ⟨ts, g1, g2, g3⟩
    refine ⟨E, ts, rfl, .inl (.inl g1), ?_⟩
    have t1 : 1 ≤ few + turn := by omega
    have keysl : ∀ l : List (List Nat), (l.flatMap fun r => L.cps.toList.map fun c => (c, r)).length = l.length * L.cps.toList.length := by
      intro l
      induction l with
      | nil => simp
      | cons a t ih => rw [List.flatMap_cons, List.length_append, List.length_map, ih, List.length_cons, Nat.succ_mul, Nat.add_comm]
    have l26 : L.cps.toList.length ≤ 26 := by rw [Array.length_toList]; exact hL.2.1
    have total := keysl ((rowsTo n (few + turn)).take i)
    rw [List.length_take, rowsTo_len] at total
    have tb : min i ((few + turn) ^ n) * L.cps.toList.length ≤ 600 * 26 := Nat.mul_le_mul (Nat.le_trans (Nat.min_le_right _ _) k600) l26
    have fd13 : FrD dl H11 H13 := fun b o n e => g3 _ _ (fd b o n e)
    refine ⟨_, rfl, L, rfl, for_it (walk_enumS (x := L)) (fun j σ H' => ∃ (xs : List NRow) (y13 y14 y15 : Option V), σ = [some (.ref p), some (.str L), some (nI most), some (nI room), some (nI n), some (nI few), some (nI turn), some (.int way), some (.int seed), some (.ref D), some (.ref dl), some (.ref aj), some (.int ts.sum), y13, y14, y15, none, none, none, none, none, none] ∧ H' dl = some (DictN P w dl xs) ∧ RowsN H' xs ∧ RowsB n xs ((((rowsTo n (few + turn)).take i).flatMap fun r => L.cps.toList.map fun c => (c, r)) ++ (L.cps.toList.take j).map fun c => (c, row)) ∧ FrD dl H11 H') ⟨xs, _, _, _, rfl, g3 _ _ kd, krn.keep fun b ys e => g3 _ _ e, by simpa using krb, fd13⟩ (fun _ _ _ _ _ => trivial) ?_ ?_⟩
    · rintro j x σ H14 H15 hj ⟨xs, y13, y14, y15, rfl, kd, krn, krb, fd⟩ ⟨Tt, c, rfl, hT, rfl, hc⟩
      have hc2 : L.cps.toList[j]? = some c := by rw [Array.getElem?_toList]; exact hc
      have sT := same_new hT (o := .tup [.int (j : Nat), .str (ch c)])
      refine ⟨_, _, rfl, SqT.of upd_same, rfl, _, _, rfl, _, _, rfl, rfl, ?_⟩
      have kd := sT _ _ kd
      have krn := krn.keep fun b ys e => sT b _ e
      have fd : FrD dl H11 (upd H14 Tt (.tup [.int (j : Nat), .str (ch c)])) := fun b o n e => sT _ _ (fd b o n e)
      generalize upd H14 Tt (.tup [.int (j : Nat), .str (ch c)]) = H16 at *
      have lx := keys_len krb
      rw [List.length_append, total, List.length_map, List.length_take] at lx
      have lx2 : xs.length ≤ 16000 := by omega
      refine ⟨_, rfl, _, rfl, dl, xs, rfl, kd, krn, seed, _, rfl, by omega, by omega, fun nb nb0 nb1 => ?_⟩
      refine ⟨_, rfl, _, rfl, _, rfl, _, rfl, _, _, rfl, rfl, _, rfl, _, _, rfl, rfl, _, rfl, _, rfl, _, _, rfl, rfl, _, _, rfl, (by show 4 ≤ sizeLine; decide), fun l hl => ?_⟩
      have sl := same_new hl (o := .lst [V.int nb, V.int nb, V.int (ts.sum + (j : Nat) + seed), V.int (if ts.sum + (j : Nat) > 5 then 5 else ts.sum + (j : Nat))])
      obtain ⟨z, hz⟩ : ∃ z : Int, atI [V.int nb, V.int nb, V.int (ts.sum + (j : Nat) + seed), V.int (if ts.sum + (j : Nat) > 5 then 5 else ts.sum + (j : Nat))] way = some (V.int z) := by
        rcases (by omega : way = 0 ∨ way = 1 ∨ way = 2 ∨ way = 3) with rfl | rfl | rfl | rfl
        · exact ⟨_, at_of (j := 0) rfl rfl⟩
        · exact ⟨_, at_of (j := 1) rfl rfl⟩
        · exact ⟨_, at_of (j := 2) rfl rfl⟩
        · exact ⟨_, at_of (j := 3) rfl rfl⟩
      refine ⟨_, rfl, l, _, way, V.int z, rfl, rfl, SqL.of upd_same, hz, _, rfl, _, _, rfl, rfl, (by omega), ?_⟩
      have z0 : 0 ≤ z % (n : Int) := Int.emod_nonneg _ (by omega)
      have z1 : z % (n : Int) < (n : Int) := Int.emod_lt_of_pos _ (by omega)
      obtain ⟨v, hv, vn⟩ : ∃ v : Nat, z % (n : Int) = (v : Int) ∧ v < n := ⟨(z % (n : Int)).toNat, by omega, by omega⟩
      have kd := sl _ _ kd
      have krn := krn.keep fun b ys e => sl b _ e
      have fd : FrD dl H11 (upd H16 l (.lst [V.int nb, V.int nb, V.int (ts.sum + (j : Nat) + seed), V.int (if ts.sum + (j : Nat) > 5 then 5 else ts.sum + (j : Nat))])) := fun b o n e => sl _ _ (fd b o n e)
      generalize upd H16 l (.lst [V.int nb, V.int nb, V.int (ts.sum + (j : Nat) + seed), V.int (if ts.sum + (j : Nat) > 5 then 5 else ts.sum + (j : Nat))]) = H17 at *
      refine ⟨_, rfl, _, rfl, _, rfl, (by show 2 ≤ sizeLine; decide), fun b2 hb2 => ?_⟩
      have s2 := same_new hb2 (o := .tup [.str (ch c), V.ref aj])
      have kb2 := upd_same (H := H17) (a := b2) (o := .tup [.str (ch c), V.ref aj])
      have kd := s2 _ _ kd
      have krn := krn.keep fun b ys e => s2 b _ e
      have kaj7 := s2 _ _ (fd _ _ naj kaj)
      have fd : FrD dl H11 (upd H17 b2 (.tup [.str (ch c), V.ref aj])) := fun b o n e => s2 _ _ (fd b o n e)
      generalize upd H17 b2 (.tup [.str (ch c), V.ref aj]) = H18 at *
      have fresh : ∀ x ∈ xs, x.1 ≠ keyN c row := fun x hx e => by
        obtain ⟨key, hm, e1, _⟩ := prd_mem krb hx
        rw [e1] at e
        obtain ⟨e2, e3⟩ := keyN_inj e
        rcases List.mem_append.mp hm with hm | hm
        · simp only [List.mem_flatMap, List.mem_map] at hm
          obtain ⟨r0, hr0, c0, _, rfl⟩ := hm
          exact ahead_ne (rowsTo_nd (few + turn) n) hrow r0 hr0 e3
        · simp only [List.mem_map] at hm
          obtain ⟨c0, hc0, rfl⟩ := hm
          exact ahead_ne (hri.imp fun h => Nat.ne_of_lt h) hc2 c0 hc0 e2
      have tk := fun b ys e => upd_tupN (o := DictN P w dl (storedN xs (keyN c row) b2 (V.int (z % (n : Int))))) kd b ys e
      refine ⟨dl, b2, xs, keyN c row, rfl, rfl, kd, krn, nk_key kb2 kaj7, keyN_depth c row, Nat.lt_of_le_of_lt (show _ ≤ 1000000 by omega) (by decide), ?_⟩
      rw [storedN_new fresh] at tk ⊢
      refine ⟨_, _, _, _, rfl, upd_same, ?_, ?_, fun b o n e => by rw [upd_ne n]; exact fd b o n e⟩
      · intro x hx
        rcases List.mem_append.mp hx with hx | hx
        · exact (krn.keep tk) x hx
        · rw [List.mem_singleton.mp hx]
          exact ⟨nk_key (tk _ _ kb2) (tk _ _ kaj7), keyN_depth c row⟩
      · rw [take_succ_of hc2, List.map_append, ← List.append_assoc]
        exact prd_app krb (.cons ⟨rfl, v, vn, by show V.int (z % (n : Int)) = nI v; rw [hv]⟩ .nil)
    · rintro σ H14 ⟨xs, y13, y14, y15, rfl, kd, krn, krb, fd⟩
      have whole : L.cps.toList.take L.cps.size = L.cps.toList := by rw [← Array.length_toList, List.take_length]
      rw [whole] at krb
      refine ⟨xs, _, _, _, _, _, rfl, kd, krn, ?_, fd⟩
      rw [flat_take _ hrow]
      exact krb
  rintro σ H12 ⟨xs, y11, y12, y13, y14, y15, rfl, kd, krn, krb, fd⟩
  rw [List.length_map, la, ← rowsTo_len (few + turn) n, List.take_length] at krb
  have krb : RowsB n xs (keysC L n (few + turn)) := krb
  have F12 : Fr p H H12 := fun b o n e => by
    by_cases hb : b = dl
    · rw [hb, hdl0] at e; cases e
    · exact fd b o hb (F11 b o n e)
  have D12 : Dn H12 p := by
    obtain ⟨ys, e, r⟩ := D11
    exact ⟨ys, fd _ _ ndl.symm e, r⟩
  have klen : (keysC L n (few + turn)).length = L.length * (few + turn) ^ n := by
    rw [(keysC_perm hri n (few + turn)).length_eq, keysOf_len]
  have knd := keysC_nd hri n (few + turn)
  have k600' : (keysC L n (few + turn)).length ≤ 600 := by omega
  refine ⟨fun σ' H' => ∃ (xs : List NRow) (y11 y12 y13 y14 y15 y16 : Option V), σ' = [some (.ref p), some (.str L), some (nI most), some (nI room), some (nI n), some (nI few), some (nI turn), some (.int way), some (.int seed), some (.ref D), some (.ref dl), y11, y12, y13, y14, y15, y16, none, none, none, none, none] ∧ H' dl = some (DictN P w dl xs) ∧ RowsN H' xs ∧ RowsB n xs (keysC L n (few + turn)) ∧ Fr p H H' ∧ Dn H' p, ?_, ?_⟩
  · have lx := keys_len krb
    refine ⟨_, rfl, dl, xs, rfl, kd, krn, _, _, rfl, rfl, _, rfl, ite2 (fun hh => ?_) (fun hh => ⟨xs, _, _, _, _, _, _, rfl, kd, krn, krb, F12, D12⟩)⟩
    refine ⟨_, rfl, dl, xs, rfl, kd, fun ql hql => ?_⟩
    have sq := same_new hql (o := .lst (xs.map fun x => V.ref x.2.1))
    have kq := upd_same (H := H12) (a := ql) (o := .lst (xs.map fun x => V.ref x.2.1))
    have nqd : ql ≠ dl := fun e => by rw [e, kd] at hql; cases hql
    have nqp : ql ≠ p := D12.ne hql
    have D13 := D12.keep sq
    have F13 := F12.trans (Fr.same sq)
    have kd13 := sq _ _ kd
    have krn13 := krn.keep fun b ys e => sq b _ e
    generalize upd H12 ql (.lst (xs.map fun x => V.ref x.2.1)) = H13 at *
    refine ⟨ql, rfl, ⟨_, SqL.of kq⟩, for_list (xs := xs.map fun x => V.ref x.2.1) (fun i σ H' => ∃ (zs : List NRow) (y16 : Option V), σ = [some (.ref p), some (.str L), some (nI most), some (nI room), some (nI n), some (nI few), some (nI turn), some (.int way), some (.int seed), some (.ref D), some (.ref dl), y11, y12, y13, y14, y15, y16, none, none, none, none, none] ∧ H' dl = some (DictN P w dl zs) ∧ RowsN H' zs ∧ RowsB n zs (keysC L n (few + turn)) ∧ (zs.map fun x => x.2.1) = (xs.map fun x => x.2.1) ∧ (∀ b o, b ≠ p → b ≠ dl → H13 b = some o → H' b = some o) ∧ Dn H' p) ⟨xs, _, rfl, kd13, krn13, krb, rfl, fun b o _ _ e => e, D13⟩ (fun i σ H' _ ⟨_, _, _, _, _, _, _, f, _⟩ => SqL.of (f _ _ nqp nqd kq)) ?_ ?_⟩
    · rintro i x σ H14 hx ⟨zs, y16, rfl, gd, grn, grb, gmap, gf, gp⟩
      have e1 : (zs.map fun x => V.ref x.2.1)[i]? = some x := by
        have : (zs.map fun x => V.ref x.2.1) = (zs.map fun x => x.2.1).map V.ref := by rw [List.map_map]; rfl
        rw [this, gmap, List.map_map]
        exact hx
      rw [List.getElem?_map] at e1
      cases hz : zs[i]? with
      | none => rw [hz] at e1; cases e1
      | some row =>
      rw [hz] at e1
      cases e1
      obtain ⟨⟨c, rw0⟩, hkey, k1, v, vn, k2⟩ := prd_at grb hz
      have hm := List.mem_of_getElem? hkey
      obtain ⟨v0, vn0, hat⟩ := atN_isb grb hm
      obtain ⟨hn1, _⟩ := grn row (List.mem_of_getElem? hz)
      rw [k1] at hn1
      have lz := keys_len grb
      refine ⟨_, rfl, _, rfl, dl, row.2.1, zs, keyN c rw0, nI v0, rfl, rfl, gd, grn, hn1, keyN_depth c rw0, hat, _, rfl, p, rfl, gp, fun y H15 y0 y1 f15 D15 => ?_⟩
      have nd2 : ∀ (b : Addr) (ys : List V), H14 b = some (.tup ys) → b ≠ p := fun b ys e z => by
        obtain ⟨zs, e2, _⟩ := gp
        rw [z, e2] at e
        cases e
      have gd15 := f15 _ _ ndl gd
      have grn15 := grn.keep fun b ys e => f15 _ _ (nd2 _ _ e) e
      have hn15 := NK.keep (fun b ys e => f15 _ _ (nd2 _ _ e) e) hn1
      refine ⟨_, _, rfl, rfl, _, rfl, _, _, rfl, rfl, (by omega), ?_⟩
      have z0 : 0 ≤ ((v0 : Int) + y) % (n : Int) := Int.emod_nonneg _ (by omega)
      have z1 : ((v0 : Int) + y) % (n : Int) < (n : Int) := Int.emod_lt_of_pos _ (by omega)
      obtain ⟨v2, hv2, vn2⟩ : ∃ v : Nat, ((v0 : Int) + y) % (n : Int) = (v : Int) ∧ v < n := ⟨(((v0 : Int) + y) % (n : Int)).toNat, by omega, by omega⟩
      obtain ⟨b1, b2⟩ := storedN_old (b := row.2.1) vn2 grb hm
      have ev : V.int (((v0 : Int) + y) % (n : Int)) = nI v2 := by rw [hv2]
      refine ⟨_, rfl, _, rfl, dl, row.2.1, zs, keyN c rw0, rfl, rfl, gd15, grn15, hn15, keyN_depth c rw0, Nat.lt_of_le_of_lt (show _ ≤ 1000000 by omega) (by decide), ?_⟩
      show ∃ (zs1 : List NRow) (y16 : Option V), _ ∧ (upd H15 dl (DictN P w dl (storedN zs (keyN c rw0) row.2.1 (V.int (((v0 : Int) + y) % (n : Int)))))) dl = some (DictN P w dl zs1) ∧ _
      have tk := fun b ys e => upd_tupN (o := DictN P w dl (storedN zs (keyN c rw0) row.2.1 (V.int (((v0 : Int) + y) % (n : Int))))) gd15 b ys e
      refine ⟨_, _, rfl, upd_same, ?_, ?_, ?_, ?_, D15.upd ndl⟩
      · intro x hx
        rw [ev] at hx
        have hx1 : x.2.1 ∈ (storedN zs (keyN c rw0) row.2.1 (nI v2)).map fun x => x.2.1 := List.mem_map.mpr ⟨x, hx, rfl⟩
        obtain ⟨j, hj⟩ := List.getElem?_of_mem hx
        obtain ⟨key1, hk1, g1, _⟩ := prd_at b1 hj
        have hjm : (zs.map fun x => x.2.1)[j]? = some x.2.1 := by rw [← b2, List.getElem?_map, hj]; rfl
        rw [List.getElem?_map] at hjm
        cases hzj : zs[j]? with
        | none => rw [hzj] at hjm; cases hjm
        | some x0 =>
          rw [hzj] at hjm
          have ex : x0.2.1 = x.2.1 := Option.some.inj hjm
          obtain ⟨key0, hk0, g0, _⟩ := prd_at grb hzj
          have := Option.some.inj (hk0.symm.trans hk1)
          subst this
          obtain ⟨a1, a2⟩ := (grn15.keep tk) x0 (List.mem_of_getElem? hzj)
          rw [g1, ← g0, ← ex]
          exact ⟨a1, a2⟩
      · rw [ev]
        exact b1
      · rw [ev, b2]
        exact gmap
      · intro b o h1 h2 e
        rw [upd_ne h2]
        exact f15 _ _ h1 (gf b o h1 h2 e)
    · rintro σ H14 ⟨zs, y16, rfl, gd, grn, grb, gmap, gf, gp⟩
      refine ⟨zs, _, _, _, _, _, _, rfl, gd, grn, grb, fun b o n e => ?_, gp⟩
      by_cases hb : b = dl
      · rw [hb, hdl0] at e; cases e
      · exact gf b o n hb (F13 b o n e)
  rintro σ' H12 ⟨xs, y11, y12, y13, y14, y15, y16, rfl, kd, krn, krb, F12, D12⟩
  have lx := keys_len krb
  refine ⟨_, rfl, dl, xs, rfl, kd, fun ql hql => ?_⟩
  have sq := same_new hql (o := .lst (xs.map fun x => V.ref x.2.1))
  have kq := upd_same (H := H12) (a := ql) (o := .lst (xs.map fun x => V.ref x.2.1))
  have nqp : ql ≠ p := D12.ne hql
  have D13 := D12.keep sq
  have F13 := F12.trans (Fr.same sq)
  have kd13 := sq _ _ kd
  have krn13 := krn.keep fun b ys e => sq b _ e
  generalize upd H12 ql (.lst (xs.map fun x => V.ref x.2.1)) = H13 at *
  refine ⟨_, rfl, p, rfl, D13, fun x H14 x0 x1 f14 D14 => ?_⟩
  have kq14 := f14 _ _ nqp kq
  have xpos : 1 ≤ xs.length := by
    rw [lx, klen]
    exact Nat.mul_pos l1 (Nat.pow_pos (by omega))
  refine ⟨_, rfl, ql, _, rfl, .inl (SqL.of kq14), _, _, rfl, rfl, (by rw [List.length_map]; omega), ?_⟩
  rw [List.length_map]
  have a0 : 0 ≤ x % (xs.length : Int) := Int.emod_nonneg _ (by omega)
  have a1 : x % (xs.length : Int) < (xs.length : Int) := Int.emod_lt_of_pos _ (by omega)
  obtain ⟨at0, hat0, atl⟩ : ∃ a : Nat, x % (xs.length : Int) = (a : Int) ∧ a < xs.length := ⟨(x % (xs.length : Int)).toNat, by omega, by omega⟩
  show gName 18 (.int (x % (xs.length : Int))) _ _ _
  rw [hat0]
  clear a0 a1 hat0 x0 x1
  have lq : (xs.map fun x => V.ref x.2.1).length = xs.length := List.length_map _
  have la0 : at0 ≤ (xs.map fun x => V.ref x.2.1).length := by rw [lq]; omega
  refine ⟨_, rfl, _, rfl, _, rfl, ql, _, rfl, SqL.of kq14, fun c1 hc1 => ?_⟩
  rw [cut_lo la0]
  have s1 := same_new hc1 (o := .lst ((xs.map fun x => V.ref x.2.1).drop at0))
  have k1 := upd_same (H := H14) (a := c1) (o := .lst ((xs.map fun x => V.ref x.2.1).drop at0))
  generalize upd H14 c1 (.lst ((xs.map fun x => V.ref x.2.1).drop at0)) = H15 at *
  refine ⟨_, rfl, _, rfl, _, rfl, ql, _, rfl, SqL.of (s1 _ _ kq14), fun c2 hc2 => ?_⟩
  rw [cut_hi la0]
  have s2 := same_new hc2 (o := .lst ((xs.map fun x => V.ref x.2.1).take at0))
  have k2 := upd_same (H := H15) (a := c2) (o := .lst ((xs.map fun x => V.ref x.2.1).take at0))
  generalize upd H15 c2 (.lst ((xs.map fun x => V.ref x.2.1).take at0)) = H16 at *
  refine ⟨c1, c2, _, _, rfl, rfl, s2 _ _ k1, k2, ?_, fun c3 hc3 => ?_⟩
  · rw [List.length_drop, List.length_take, lq]
    exact Nat.le_of_lt (Nat.lt_of_le_of_lt (show _ ≤ 1000000 by omega) (by decide))
  rw [← List.map_drop, ← List.map_take, ← List.map_append]
  have s3 := same_new hc3 (o := .lst ((xs.drop at0 ++ xs.take at0).map fun x => V.ref x.2.1))
  have k3 := upd_same (H := H16) (a := c3) (o := .lst ((xs.drop at0 ++ xs.take at0).map fun x => V.ref x.2.1))
  generalize upd H16 c3 (.lst ((xs.drop at0 ++ xs.take at0).map fun x => V.ref x.2.1)) = H17 at *
  have S17 := (s1.trans s2).trans s3
  have D17 := D14.keep S17
  refine ⟨1, rfl, (by show 2 ≤ sizeLine; decide), fun l hl => ?_⟩
  have sl := same_new hl (o := .lst [V.int 1, V.int (-1)])
  refine ⟨_, rfl, p, rfl, D17.keep sl, fun y H18 y0 y1 f18 D18 => ⟨_, _, rfl, rfl, (by show (0 : Int) < 2; decide), ?_⟩⟩
  have hl18 := f18 l _ (D17.ne hl) upd_same
  have nc3 : c3 ≠ p := (D14.keep (s1.trans s2)).ne hc3
  have k18 := f18 _ _ nc3 (sl _ _ k3)
  obtain ⟨back, hm⟩ : ∃ back : Bool, atI [V.int 1, V.int (-1)] (y % 2) = some (V.int (if back then -1 else 1)) := by
    rcases (by omega : y % 2 = 0 ∨ y % 2 = 1) with e | e <;> rw [e]
    · exact ⟨false, at_of (j := 0) rfl rfl⟩
    · exact ⟨true, at_of (j := 1) rfl rfl⟩
  refine ⟨l, _, y % 2, _, rfl, rfl, SqL.of hl18, hm, _, rfl, c3, _, back, rfl, rfl, SqL.of k18, fun q2 hq2 => ?_⟩
  obtain ⟨zs, ez, pz⟩ : ∃ zs : List NRow, (if back then ((xs.drop at0 ++ xs.take at0).map fun x => V.ref x.2.1).reverse else ((xs.drop at0 ++ xs.take at0).map fun x => V.ref x.2.1)) = zs.map (fun x => V.ref x.2.1) ∧ xs.Perm zs := by
    have rot : xs.Perm (xs.drop at0 ++ xs.take at0) := by
      have := List.perm_append_comm (l₁ := xs.take at0) (l₂ := xs.drop at0)
      rwa [List.take_append_drop] at this
    cases back with
    | true => exact ⟨(xs.drop at0 ++ xs.take at0).reverse, by rw [if_pos rfl, List.map_reverse], rot.trans (List.reverse_perm _).symm⟩
    | false => exact ⟨xs.drop at0 ++ xs.take at0, by rw [if_neg (by decide)], rot⟩
  rw [ez]
  have F18 : Fr p H13 H18 := ((f14.trans (Fr.same S17)).trans (Fr.same sl)).trans f18
  have nd2 : ∀ (b : Addr) (ys : List V), H13 b = some (.tup ys) → b ≠ p := fun b ys e z => by
    obtain ⟨zs, e2, _⟩ := D13
    rw [z, e2] at e
    cases e
  have kd18 := F18 _ _ ndl kd13
  have krn18 := krn13.keep fun b ys e => F18 _ _ (nd2 _ _ e) e
  have nq2p : q2 ≠ p := D18.ne hq2
  have s19 := same_new hq2 (o := .lst (zs.map fun x => V.ref x.2.1))
  have kq2 := upd_same (H := H18) (a := q2) (o := .lst (zs.map fun x => V.ref x.2.1))
  have D19 := D18.keep s19
  have F19 : Fr p H (upd H18 q2 (.lst (zs.map fun x => V.ref x.2.1))) := (F13.trans F18).trans (Fr.same s19)
  have kd19 := s19 _ _ kd18
  have krn19 := krn18.keep fun b ys e => s19 b _ e
  generalize upd H18 q2 (.lst (zs.map fun x => V.ref x.2.1)) = H19 at *
  clear s1 s2 s3 k1 k2 k3 S17 D17 hl18 k18 hm sl hq2 kd18 krn18 F18 D18 f18 hl kq14 D14 f14 hc1 hc2 hc3 kd13 krn13 D13 F13 nd2 kq sq nqp D12 F12 kd krn ez
  have xnd := rowsB_nd krb knd
  have lzs : zs.length = xs.length := pz.length_eq.symm
  refine ⟨_, rfl, q2, rfl, ⟨_, SqL.of kq2⟩, fun D2 hD2 => ?_⟩
  refine lc_list (xs := zs.map fun x => V.ref x.2.1) (fun i H' => ∃ bs : List Addr, H' D2 = some (.lst (bs.map V.ref)) ∧ Paired (fun (b : Addr) (r : NRow) => H' b = some (.tup [.ref r.2.1, r.2.2])) bs (zs.take i) ∧ Same H19 H') ⟨[], upd_same, .nil, same_new hD2⟩ (fun i H' _ ⟨_, _, _, s⟩ => SqL.of (s _ _ kq2)) ?_ ?_
  · rintro i x H20 hx ⟨bs, g1, g2, g3⟩
    rw [List.getElem?_map] at hx
    cases hz : zs[i]? with
    | none => rw [hz] at hx; cases hx
    | some row =>
    rw [hz] at hx
    cases hx
    have hm := pz.mem_iff.mpr (List.mem_of_getElem? hz)
    obtain ⟨hn1, hn2⟩ := krn19 row hm
    have lb := Paired.length g2
    rw [List.length_take] at lb
    refine ⟨rfl, _, rfl, _, rfl, _, rfl, dl, row.2.1, xs, row.1, row.2.2, rfl, rfl, g3 _ _ kd19, krn19.keep (fun b ys e => g3 b _ e), NK.keep (fun b ys e => g3 b _ e) hn1, hn2, atN_self xnd hm, (by show 2 ≤ sizeLine; decide), fun t ht => ?_⟩
    have st := same_new ht (o := .tup [.ref row.2.1, row.2.2])
    have kt := upd_same (H := H20) (a := t) (o := .tup [.ref row.2.1, row.2.2])
    have kD := st _ _ g1
    have tk := upd_tup (o := .lst (bs.map V.ref ++ [V.ref t])) kD
    refine ⟨_, kD, ?_, bs ++ [t], by rw [upd_same, List.map_append]; rfl, ?_, same_add (g3.trans st) hD2⟩
    · rw [List.length_map]
      exact Nat.lt_of_le_of_lt (show _ ≤ 1000000 by omega) (by decide)
    · rw [take_succ_of hz]
      exact prd_app (Paired.mapP g2 fun _ _ e => tk _ _ (st _ _ e)) (.cons (tk _ _ kt) .nil)
  rintro H20 ⟨bs, g1, g2, g3⟩
  rw [List.length_map, List.take_length] at g2
  have znd : (zs.map (·.1)).Nodup := (pz.map _).nodup_iff.mp xnd
  refine ⟨D2, bs, zs, rfl, g1, g2, (fun r hr => (krn19.keep fun b ys e => g3 b _ e) r (pz.mem_iff.mpr hr)), znd, Nat.le_of_lt (Nat.lt_of_le_of_lt (show _ ≤ 1000000 by omega) (by decide)), fun d2 hd2 => ?_⟩
  have s21 := same_new hd2 (o := DictN P w d2 zs)
  have kd2 := upd_same (H := H20) (a := d2) (o := DictN P w d2 zs)
  have D21 : Dn (upd H20 d2 (DictN P w d2 zs)) p := (D19.keep g3).keep s21
  have F21 : Fr p H (upd H20 d2 (DictN P w d2 zs)) := F19.trans (Fr.same (g3.trans s21))
  have krn21 : RowsN (upd H20 d2 (DictN P w d2 zs)) zs := fun r hr => (krn19.keep fun b ys e => (g3.trans s21) b _ e) r (pz.mem_iff.mpr hr)
  have nd2p : d2 ≠ p := (D19.keep g3).ne hd2
  refine ⟨_, rfl, _, rfl, _, rfl, _, rfl, _, rfl, _, rfl, n, rfl, by omega, by omega, fun D3 hD3 => ?_⟩
  have hD3 : upd H20 d2 (DictN P w d2 zs) D3 = none := hD3
  have nD3 : D3 ≠ p := D21.ne hD3
  refine lc_range (lo := 0) (n := n) (fun i H' => ∃ gs : List Nat, H' D3 = some (.lst (gs.map nI)) ∧ gs.Pairwise (· < ·) ∧ (∀ g ∈ gs, g < i) ∧ gs.length ≤ i ∧ Fr p (upd H20 d2 (DictN P w d2 zs)) H' ∧ Dn H' p) ⟨[], upd_same, .nil, (fun _ h => by cases h), Nat.le_refl _, (Fr.refl p _).new hD3, D21.keep (same_new hD3)⟩ ?_ ?_
  · rintro i H22 hi ⟨gs, k1, k2, k3, k4, k5, k6⟩
    refine ⟨rfl, _, rfl, p, rfl, k6, fun y H23 y0 y1 f23 D23 => ⟨_, _, rfl, rfl, (by show (0 : Int) < 2; decide), rfl, _, rfl, ite2 (fun hh => ?_) (fun hh => ?_)⟩⟩
    · have e0 : V.int (0 + (i : Int)) = nI i := by rw [Int.zero_add]
      refine ⟨_, rfl, _, f23 _ _ nD3 k1, ?_, gs ++ [i], ?_, ?_, ?_, by rw [List.length_append]; simp; omega, (k5.trans f23).new hD3, D23.upd nD3⟩
      · rw [List.length_map]
        exact Nat.lt_of_le_of_lt (show _ ≤ 1000000 by omega) (by decide)
      · rw [upd_same, e0, List.map_append]
        rfl
      · rw [List.pairwise_append]
        refine ⟨k2, List.pairwise_singleton _ _, fun a ha b hb => ?_⟩
        rw [List.mem_singleton.mp hb]
        exact k3 a ha
      · intro g hg
        rcases List.mem_append.mp hg with hg | hg
        · have := k3 g hg; omega
        · rw [List.mem_singleton.mp hg]; omega
    · exact ⟨gs, f23 _ _ nD3 k1, k2, fun g hg => by have := k3 g hg; omega, by omega, k5.trans f23, D23⟩
  rintro H22 ⟨gs, k1, k2, k3, k4, k5, k6⟩
  refine ⟨(by show 6 ≤ sizeLine; decide), fun j hj => ?_⟩
  have sj := same_new hj (o := .tup [.str L, nI n, nI few, nI turn, .ref d2, .ref D3])
  have kj := upd_same (H := H22) (a := j) (o := .tup [.str L, nI n, nI few, nI turn, .ref d2, .ref D3])
  obtain ⟨ds, pd, rb⟩ := prd_perm pz krb
  have dnd : ds.Nodup := pd.nodup_iff.mp knd
  obtain ⟨fs, rj, hlt⟩ := rows_fun rb dnd
  have pk : ds.Perm (keysOf L n (few + turn)) := pd.symm.trans (keysC_perm hri n (few + turn))
  have nd3 : ∀ (b : Addr) (ys : List V), upd H20 d2 (DictN P w d2 zs) b = some (.tup ys) → b ≠ p := fun b ys e z => by
    obtain ⟨zs, e2, _⟩ := D21
    rw [z, e2] at e
    cases e
  refine q (.ref j) ⟨L, n, few, turn, fs, gs⟩ (upd H22 j (.tup [.str L, nI n, nI few, nI turn, .ref d2, .ref D3])) ((F21.trans k5).trans (Fr.same sj)) (k6.keep sj) rfl ⟨hL, n1, by show n ≤ 6; omega, f4, t1, t4, by show L.length * (few + turn) ^ n ≤ 600; omega, fun key hk => hlt key (pk.mem_iff.mpr hk), by show gs.length ≤ 6; omega, k3⟩ nm hfit k2 ?_
  exact ⟨j, d2, D3, zs, ds, rfl, kj, sj _ _ (k5 _ _ nd2p kd2), (krn21.keep fun b ys e => k5 _ _ (nd3 _ _ e) e).keep fun b ys e => sj b _ e, rj, pk, sj _ _ k1, nD3, F21.free D21.some hD3⟩
end


def rowOf (par : Nat → Nat) (k i : Nat) : List Nat := (List.range k).filter fun j => decide (1 ≤ j ∧ par j = i)
def setF {α : Type} (f : Nat → α) (k : Nat) (v : α) : Nat → α := fun j => if j = k then v else f j
theorem setF_same {α : Type} {f : Nat → α} {k : Nat} {v : α} : setF f k v k = v := if_pos rfl
theorem setF_ne {α : Type} {f : Nat → α} {k j : Nat} {v : α} (h : j ≠ k) : setF f k v j = f j := if_neg h
theorem rng_set {α β : Type} (G : α → β) (f : Nat → α) (k : Nat) (v : α) : ((List.range (k + 1)).map fun j => G (setF f k v j)) = ((List.range k).map fun j => G (f j)) ++ [G v] := by
  rw [List.range_succ, List.map_append]
  refine congr (congrArg _ (List.map_congr_left fun j hj => ?_)) ?_
  · rw [setF_ne (Nat.ne_of_lt (List.mem_range.mp hj))]
  · show [G (setF f k v k)] = [G v]
    rw [setF_same]
theorem rng_get {α : Type} (F : Nat → α) {k j : Nat} (h : j < k) : ((List.range k).map F)[j]? = some (F j) := by
  rw [List.getElem?_map, List.getElem?_range h]
  rfl
theorem row_succ (par : Nat → Nat) (k h i : Nat) (hk : 1 ≤ k) : rowOf (setF par k h) (k + 1) i = rowOf par k i ++ (if i = h then [k] else []) := by
  unfold rowOf
  rw [List.range_succ, List.filter_append]
  refine congr (congrArg _ (List.filter_congr fun j hj => ?_)) ?_
  · rw [setF_ne (Nat.ne_of_lt (List.mem_range.mp hj))]
  · rw [List.filter_cons, List.filter_nil, setF_same]
    by_cases e : i = h
    · subst e
      rw [if_pos rfl, if_pos (by simpa using hk)]
    · rw [if_neg e, if_neg (by simp; intro _ z; exact e z.symm)]
theorem row_out (par : Nat → Nat) (k i : Nat) (h : ∀ j, 1 ≤ j → j < k → par j < j) (hi : k ≤ i) : rowOf par k i = [] := by
  unfold rowOf
  rw [List.filter_eq_nil_iff]
  intro j hj e
  have e' := of_decide_eq_true e
  have hj' := List.mem_range.mp hj
  have := h j e'.1 hj'
  omega
theorem row_mem {par : Nat → Nat} {k i j : Nat} (h : j ∈ rowOf par k i) : 1 ≤ j ∧ par j = i ∧ j < k := by
  unfold rowOf at h
  have a := List.mem_filter.mp h
  have b := of_decide_eq_true a.2
  exact ⟨b.1, b.2, List.mem_range.mp a.1⟩
theorem row_len (par : Nat → Nat) (k i : Nat) : (rowOf par k i).length ≤ k := by
  have := List.length_filter_le (fun j => decide (1 ≤ j ∧ par j = i)) (List.range k)
  rw [List.length_range] at this
  exact this
def tot (par f : Nat → Nat) (s : Nat) : Nat → Nat
  | 0 => 0
  | m + 1 => tot par f s m + if s ≤ m ∧ (m = 0 ∨ par m < s) then f m else 0
def rowSum (par f : Nat → Nat) (i : Nat) : Nat → Nat
  | 0 => 0
  | m + 1 => rowSum par f i m + if 1 ≤ m ∧ par m = i then f m else 0
theorem rowSum_eq (par f : Nat → Nat) (i : Nat) : ∀ m, ((rowOf par m i).map f).sum = rowSum par f i m
  | 0 => rfl
  | m + 1 => by
    have ih := rowSum_eq par f i m
    unfold rowOf at ih ⊢
    rw [List.range_succ, List.filter_append, List.map_append, List.sum_append, ih, List.filter_cons, List.filter_nil]
    by_cases e : 1 ≤ m ∧ par m = i
    · rw [if_pos (decide_eq_true e)]
      simp only [rowSum, if_pos e, List.map_cons, List.map_nil, List.sum_cons, List.sum_nil, Nat.add_zero]
    · rw [if_neg (by simpa using e)]
      simp only [rowSum, if_neg e, List.map_nil, List.sum_nil]
theorem tot_step (par f : Nat → Nat) (s g : Nat) : ∀ m, (∀ j, 1 ≤ j → j < m → par j < j) → tot par (setF f s g) s m + rowSum par f s m = tot par f (s + 1) m + if s < m then g else 0
  | 0, _ => by simp [tot, rowSum]
  | m + 1, h => by
    have ih := tot_step par f s g m fun j a b => h j a (by omega)
    have hm := h m
    simp only [tot, rowSum]
    by_cases e : m = s
    · subst e
      rw [setF_same, if_pos (show m ≤ m ∧ (m = 0 ∨ par m < m) by omega), if_neg (show ¬ (1 ≤ m ∧ par m = m) by omega), if_neg (show ¬ (m + 1 ≤ m ∧ (m = 0 ∨ par m < m + 1)) by omega), if_pos (show m < m + 1 by omega)]
      rw [if_neg (show ¬ m < m by omega)] at ih
      omega
    · rw [setF_ne e]
      split <;> split <;> split <;> split <;> (split at ih) <;> omega
theorem tot_top (par f : Nat → Nat) : ∀ m, tot par f 0 (m + 1) = f 0
  | 0 => by simp [tot]
  | m + 1 => by
    have ih := tot_top par f m
    rw [tot, ih, if_neg (by omega)]
    rfl
theorem tot_none (par f : Nat → Nat) (s : Nat) : ∀ m, m ≤ s → tot par f s m = 0
  | 0, _ => rfl
  | m + 1, h => by
    rw [tot, tot_none par f s m (by omega), if_neg (by omega)]
theorem perm_map {α β : Type} (f : α → β) {l ws : List β} (p : l.Perm ws) : ∀ {xs : List α}, l = xs.map f → ∃ us, xs.Perm us ∧ ws = us.map f := by
  induction p with
  | nil =>
    intro xs e
    exact ⟨xs, .refl _, e⟩
  | cons x _ ih =>
    intro xs e
    cases xs with
    | nil => cases e
    | cons a r =>
      rw [List.map_cons] at e
      injection e with e1 e2
      obtain ⟨us, h1, h2⟩ := ih e2
      exact ⟨a :: us, h1.cons a, by rw [h2, e1, List.map_cons]⟩
  | swap x y l =>
    intro xs e
    match xs, e with
    | a :: b :: r, e =>
      simp only [List.map_cons, List.cons.injEq] at e
      exact ⟨b :: a :: r, .swap _ _ _, by simp only [List.map_cons, e.1, e.2.1, e.2.2]⟩
  | trans _ _ ih1 ih2 =>
    intro xs e
    obtain ⟨us, h1, h2⟩ := ih1 e
    obtain ⟨ws, h3, h4⟩ := ih2 h2
    exact ⟨ws, h1.trans h3, h4⟩
theorem trs_map {ok : Addr → Prop} {H : Hp} (tv : Nat → V) (tt : Nat → Tr) : ∀ {us : List Nat}, (∀ c ∈ us, TrAt ok H (tv c) (tt c)) → TrsAt ok H (us.map tv) (us.map tt)
  | [], _ => .nil
  | c :: r, h => .cons (h c List.mem_cons_self) (trs_map tv tt fun d hd => h d (List.mem_cons_of_mem _ hd))
theorem sizes_map (tt : Nat → Tr) : ∀ us : List Nat, sizes (us.map tt) = (us.map fun c => (tt c).size).sum
  | [] => rfl
  | c :: r => by simp only [List.map_cons, sizes, List.sum_cons, sizes_map tt r]
theorem depths_map (tt : Nat → Tr) (b : Nat) : ∀ us : List Nat, (∀ c ∈ us, (tt c).depth ≤ b) → depths (us.map tt) ≤ b
  | [], _ => Nat.zero_le _
  | c :: r, h => by
    have h1 := h c List.mem_cons_self
    have h2 := depths_map tt b r fun d hd => h d (List.mem_cons_of_mem _ hd)
    simp only [List.map_cons, depths]
    omega
theorem letss_map {p : Nat → Prop} (tt : Nat → Tr) : ∀ us : List Nat, (∀ c ∈ us, (tt c).lets p) → letss p (us.map tt)
  | [], _ => trivial
  | c :: r, h => by
    simp only [List.map_cons, letss]
    exact ⟨h c List.mem_cons_self, letss_map tt r fun d hd => h d (List.mem_cons_of_mem _ hd)⟩
theorem sum_perm {a b : List Nat} (p : a.Perm b) : a.sum = b.sum := by
  induction p with
  | nil => rfl
  | cons x _ ih => simp only [List.sum_cons, ih]
  | swap x y l => simp only [List.sum_cons]; omega
  | trans _ _ h1 h2 => exact h1.trans h2
theorem rep_rng {α : Type} (x : α) : ∀ k : Nat, (List.replicate k [x]).flatten = (List.range k).map fun _ => x
  | 0 => rfl
  | k + 1 => by
    rw [List.replicate_succ', List.flatten_append, rep_rng x k, List.range_succ, List.map_append]
    rfl
theorem ixN_nat {n k : Nat} (h : k < n) : ixN n (k : Int) = some k := by
  unfold ixN
  rw [if_pos (by omega), if_pos (by omega)]
  simp
theorem set_rng {α : Type} {F F' : Nat → α} {n k : Nat} {v : α} (h : ∀ j, j < n → j ≠ k → F j = F' j) (hk : F' k = v) : ((List.range n).map F).set k v = (List.range n).map F' := by
  refine List.ext_getElem? fun j => ?_
  rw [List.getElem?_set]
  by_cases hj : j < n
  · by_cases e : k = j
    · subst e
      rw [if_pos rfl, if_pos (by rw [List.length_map, List.length_range]; exact hj), rng_get _ hj, hk]
    · rw [if_neg e, rng_get _ hj, rng_get _ hj, h j hj (fun z => e z.symm)]
  · have o1 : ((List.range n).map F)[j]? = none := List.getElem?_eq_none_iff.mpr (by rw [List.length_map, List.length_range]; omega)
    have o2 : ((List.range n).map F')[j]? = none := List.getElem?_eq_none_iff.mpr (by rw [List.length_map, List.length_range]; omega)
    rw [o1, o2]
    split
    · rw [if_neg (by rw [List.length_map, List.length_range]; omega)]
    · rfl
theorem setF_size (tt : Nat → Tr) (k : Nat) (u : Tr) : (fun j => (setF tt k u j).size) = setF (fun j => (tt j).size) k u.size := by
  funext j
  unfold setF
  split <;> rfl

def trF (par lt : Nat → Nat) (k : Nat) : Nat → Nat → Tr
  | 0, j => .node (lt j) []
  | f + 1, j => .node (lt j) ((rowOf par k j).map (trF par lt k f))
section
variable {par dep lt : Nat → Nat} {k : Nat}
theorem trF_more (hp : ∀ j, 1 ≤ j → j < k → par j < j) : ∀ (f g j : Nat), k - j < f → k - j < g → trF par lt k f j = trF par lt k g j
  | 0, _, _, h, _ => by omega
  | _ + 1, 0, _, _, h => by omega
  | f + 1, g + 1, j, h1, h2 => by
    simp only [trF]
    refine congrArg _ (List.map_congr_left fun i hi => ?_)
    obtain ⟨m1, m2, m3⟩ := row_mem hi
    have := hp i m1 m3
    exact trF_more hp f g i (by omega) (by omega)
theorem trF_size (hp : ∀ j, 1 ≤ j → j < k → par j < j) (j : Nat) : (trF par lt k (k + 1) j).size = 1 + rowSum par (fun i => (trF par lt k (k + 1) i).size) j k := by
  have e : trF par lt k (k + 1) j = .node (lt j) ((rowOf par k j).map (trF par lt k (k + 1))) := by
    have e1 : trF par lt k (k + 1) j = .node (lt j) ((rowOf par k j).map (trF par lt k k)) := rfl
    rw [e1]
    refine congrArg _ (List.map_congr_left fun i hi => ?_)
    obtain ⟨m1, m2, m3⟩ := row_mem hi
    exact trF_more (lt := lt) hp k (k + 1) i (by omega) (by omega)
  rw [e, ← rowSum_eq]
  simp only [Tr.size, sizes_map]
theorem trF_tot (hp : ∀ j, 1 ≤ j → j < k → par j < j) (hk : 0 < k) : ∀ d, d ≤ k → tot par (fun i => (trF par lt k (k + 1) i).size) (k - d) k = d
  | 0, _ => tot_none _ _ _ _ (by omega)
  | d + 1, hd => by
    have ih := trF_tot hp hk d (by omega)
    have st := tot_step par (fun i => (trF par lt k (k + 1) i).size) (k - (d + 1)) (trF par lt k (k + 1) (k - (d + 1))).size k hp
    have e : setF (fun i => (trF par lt k (k + 1) i).size) (k - (d + 1)) (trF par lt k (k + 1) (k - (d + 1))).size = fun i => (trF par lt k (k + 1) i).size := by
      funext i
      unfold setF
      split
      · rename_i h; rw [h]
      · rfl
    rw [e, if_pos (by omega), show k - (d + 1) + 1 = k - d by omega, ih] at st
    have sz := trF_size (lt := lt) hp (k - (d + 1))
    omega
theorem trF_size0 (hp : ∀ j, 1 ≤ j → j < k → par j < j) (hk : 0 < k) : (trF par lt k (k + 1) 0).size = k := by
  have := trF_tot (lt := lt) hp hk k (Nat.le_refl _)
  rw [Nat.sub_self] at this
  obtain ⟨m, rfl⟩ : ∃ m, k = m + 1 := ⟨k - 1, by omega⟩
  rw [tot_top] at this
  exact this
theorem trF_depth (hp : ∀ j, 1 ≤ j → j < k → par j < j ∧ dep j = dep (par j) + 1) (hd : ∀ j, j < k → dep j ≤ 30) : ∀ (f j : Nat), j < k → (trF par lt k f j).depth ≤ 31 - dep j
  | 0, j, hj => by
    have := hd j hj
    simp only [trF, Tr.depth, depths]
    omega
  | f + 1, j, hj => by
    have h1 := hd j hj
    have := depths_map (trF par lt k f) (30 - dep j) (rowOf par k j) fun i hi => by
      obtain ⟨m1, m2, m3⟩ := row_mem hi
      have h2 := trF_depth hp hd f i m3
      have h3 := (hp i m1 m3).2
      rw [m2] at h3
      omega
    simp only [trF, Tr.depth]
    omega
theorem trF_lets {q : Nat → Prop} (hl : ∀ j, j < k → q (lt j)) : ∀ (f j : Nat), j < k → (trF par lt k f j).lets q
  | 0, j, hj => by simp only [trF, Tr.lets, letss]; exact ⟨hl j hj, trivial⟩
  | f + 1, j, hj => by
    simp only [trF, Tr.lets]
    exact ⟨hl j hj, letss_map _ _ fun i hi => trF_lets hl f i (row_mem hi).2.2⟩
end

def trG (rw : Nat → List Nat) (lt : Nat → Nat) : Nat → Nat → Tr
  | 0, j => .node (lt j) []
  | f + 1, j => .node (lt j) ((rw j).map (trG rw lt f))
theorem sizes_congr {g1 g2 : Nat → Tr} : ∀ {l : List Nat}, (∀ i ∈ l, (g1 i).size = (g2 i).size) → sizes (l.map g1) = sizes (l.map g2)
  | [], _ => rfl
  | i :: l, h => by
    simp only [List.map_cons, sizes]
    rw [h i List.mem_cons_self, sizes_congr fun j hj => h j (List.mem_cons_of_mem _ hj)]
theorem trG_size {rw' : Nat → List Nat} {par lt : Nat → Nat} {k : Nat} (hp : ∀ j, 1 ≤ j → j < k → par j < j) (pm : ∀ j, j < k → (rw' j).Perm (rowOf par k j)) : ∀ (f j : Nat), j < k → (trG rw' lt f j).size = (trF par lt k f j).size
  | 0, j, _ => rfl
  | f + 1, j, hj => by
    simp only [trG, trF, Tr.size]
    rw [sizes_perm ((pm j hj).map _), sizes_congr fun i hi => trG_size hp pm f i (row_mem hi).2.2]
theorem trG_lets {q : Nat → Prop} {rw' : Nat → List Nat} {par lt : Nat → Nat} {k : Nat} (pm : ∀ j, j < k → (rw' j).Perm (rowOf par k j)) (hl : ∀ j, j < k → q (lt j)) : ∀ (f j : Nat), j < k → (trG rw' lt f j).lets q
  | 0, j, hj => by simp only [trG, Tr.lets, letss]; exact ⟨hl j hj, trivial⟩
  | f + 1, j, hj => by
    simp only [trG, Tr.lets]
    exact ⟨hl j hj, letss_map _ _ fun i hi => trG_lets pm hl f i (row_mem ((pm j hj).mem_iff.mp hi)).2.2⟩
structure GrwP (H0 H' : Hp) (p tr : Addr) (L : Str) (k : Nat) (par lt : Nat → Nat) (rw' : Nat → List Nat) (ad cl : Nat → Addr) : Prop where
  fr : Fr p H0 H'
  dk : Dn H' p
  tr_ : H' tr = some (.lst ((List.range k).map fun j => V.ref (ad j)))
  nod : ∀ j, j < k → H' (ad j) = some (.tup [.str (ch (lt j)), .ref (cl j)])
  row : ∀ j, j < k → H' (cl j) = some (.lst ((rw' j).map fun i => V.ref (ad i)))
  prm : ∀ j, j < k → (rw' j).Perm (rowOf par k j)
  new : H0 tr = none
  off : ∀ j, j < k → H0 (ad j) = none ∧ H0 (cl j) = none ∧ cl j ≠ tr
  inj : ∀ i j, i < k → j < k → cl i = cl j → i = j
  lts : ∀ j, j < k → lt j ∈ L.cps.toList
  par_ : ∀ j, 1 ≤ j → j < k → par j < j
section
variable {H0 H' H2 : Hp} {p tr : Addr} {L : Str} {k : Nat} {par lt : Nat → Nat} {rw' : Nat → List Nat} {ad cl : Nat → Addr}
theorem GrwP.go (R : GrwP H0 H' p tr L k par lt rw' ad cl) (hp : H0 p ≠ none) (f : Fr p H' H2) (d : Dn H2 p) : GrwP H0 H2 p tr L k par lt rw' ad cl := by
  have np : ∀ b, H0 b = none → b ≠ p := fun b h e => hp (by rw [← e]; exact h)
  exact ⟨R.fr.trans f, d, f _ _ (np _ R.new) R.tr_, fun j hj => f _ _ (np _ (R.off j hj).1) (R.nod j hj), fun j hj => f _ _ (np _ (R.off j hj).2.1) (R.row j hj), R.prm, R.new, R.off, R.inj, R.lts, R.par_⟩
structure Apart2 (H0 : Hp) (tr a b : Addr) (k : Nat) (cl : Nat → Addr) : Prop where
  a0 : H0 a = none
  b0 : H0 b = none
  ab : a ≠ b
  at_ : a ≠ tr
  bt : b ≠ tr
  ac : ∀ j, j < k → a ≠ cl j
  bc : ∀ j, j < k → b ≠ cl j
theorem GrwP.apart (R : GrwP H0 H' p tr L k par lt rw' ad cl) {a b : Addr} {o : HO} (hb : H' b = none) (ha : (upd H' b o) a = none) : Apart2 H0 tr a b k cl := by
  have nab : a ≠ b := fun e => by rw [e, upd_same] at ha; cases ha
  have ha' : H' a = none := by rw [upd_ne nab] at ha; exact ha
  exact ⟨R.fr.free R.dk.some ha', R.fr.free R.dk.some hb, nab, (fun e => by rw [e, R.tr_] at ha'; cases ha'), (fun e => by rw [e, R.tr_] at hb; cases hb), (fun j hj e => by rw [e, R.row j hj] at ha'; cases ha'), fun j hj e => by rw [e, R.row j hj] at hb; cases hb⟩
theorem GrwP.step {a b : Addr} {h c i : Nat} (R : GrwP H0 H' p tr L k par lt rw' ad cl) (hp : H0 p ≠ none) (hk : 1 ≤ k) (hh : h < k) (hc : c ∈ L.cps.toList) (A : Apart2 H0 tr a b k cl) (hb : H' b = some (.lst [])) (ha : H' a = some (.tup [.str (ch c), .ref b])) :
    GrwP H0 (upd (upd H' (cl h) (.lst (((rw' h).map fun i => V.ref (ad i)).take i ++ [V.ref a] ++ ((rw' h).map fun i => V.ref (ad i)).drop i))) tr (.lst (((List.range k).map fun j => V.ref (ad j)) ++ [V.ref a])))
      p tr L (k + 1) (setF par k h) (setF lt k c) (setF (setF rw' h ((rw' h).take i ++ [k] ++ (rw' h).drop i)) k []) (setF ad k a) (setF cl k b) := by
  have np : ∀ b, H0 b = none → b ≠ p := fun b h e => hp (by rw [← e]; exact h)
  obtain ⟨o1, o2, o3⟩ := R.off h hh
  have adk : ∀ j, j < k → ad j ≠ tr ∧ ∀ i, i < k → ad j ≠ cl i := fun j hj => by
    have g := R.nod j hj
    exact ⟨(fun e => by rw [e, R.tr_] at g; cases g), (fun i hi e => by rw [e, R.row i hi] at g; cases g)⟩
  have inr : ∀ j, j < k → ∀ x ∈ rw' j, x < k := fun j hj x hx => (row_mem ((R.prm j hj).mem_iff.mp hx)).2.2
  have same : ∀ l : List Nat, (∀ x ∈ l, x < k) → l.map (fun i => V.ref (setF ad k a i)) = l.map fun i => V.ref (ad i) := fun l hl => List.map_congr_left fun x hx => by rw [setF_ne (Nat.ne_of_lt (hl x hx))]
  have nhk : h ≠ k := Nat.ne_of_lt hh
  refine ⟨?_, ?_, ?_, fun j hj => ?_, fun j hj => ?_, fun j hj => ?_, R.new, fun j hj => ?_, fun i j hi hj e => ?_, fun j hj => ?_, fun j h1 hj => ?_⟩
  · intro x o hx e
    rw [upd_ne (ne_of_none e R.new), upd_ne (ne_of_none e o2)]
    exact R.fr x o hx e
  · exact (R.dk.upd (np _ o2)).upd (np _ R.new)
  · rw [upd_same, rng_set V.ref]
  · by_cases e : j = k
    · subst e
      rw [setF_same, setF_same, setF_same, upd_ne A.at_, upd_ne (A.ac h hh)]
      exact ha
    · have hj' : j < k := by omega
      obtain ⟨q1, q2⟩ := adk j hj'
      rw [setF_ne e, setF_ne e, setF_ne e, upd_ne q1, upd_ne (q2 h hh)]
      exact R.nod j hj'
  · by_cases e : j = k
    · subst e
      rw [setF_same, setF_same, upd_ne A.bt, upd_ne (A.bc h hh)]
      exact hb
    · have hj' : j < k := by omega
      obtain ⟨q1, q2, q3⟩ := R.off j hj'
      rw [setF_ne e, setF_ne e, upd_ne q3]
      by_cases ej : j = h
      · subst ej
        rw [upd_same, setF_same, List.map_append, List.map_append, same _ (fun x hx => inr j hj' x (List.mem_of_mem_take hx)), same _ (fun x hx => inr j hj' x (List.mem_of_mem_drop hx)), List.map_take, List.map_drop]
        show some (HO.lst (_ ++ [V.ref a] ++ _)) = some (HO.lst (_ ++ [V.ref (setF ad k a k)] ++ _))
        rw [setF_same]
      · rw [upd_ne (fun z => ej (R.inj j h hj' hh z)), setF_ne ej, same _ (inr j hj')]
        exact R.row j hj'
  · rw [row_succ _ _ _ _ hk]
    by_cases e : j = k
    · subst e
      rw [setF_same, row_out par j j R.par_ (Nat.le_refl _), if_neg (fun z => nhk z.symm)]
      exact .nil
    · rw [setF_ne e]
      have hj' : j < k := by omega
      by_cases ej : j = h
      · subst ej
        rw [setF_same, if_pos rfl]
        have p1 : ((rw' j).take i ++ [k] ++ (rw' j).drop i).Perm ((rw' j).take i ++ (rw' j).drop i ++ [k]) := by
          rw [List.append_assoc, List.append_assoc]
          exact List.Perm.append_left _ List.perm_append_comm
        rw [List.take_append_drop] at p1
        exact p1.trans (List.Perm.append_right _ (R.prm j hj'))
      · rw [setF_ne ej, if_neg ej, List.append_nil]
        exact R.prm j hj'
  · by_cases e : j = k
    · subst e
      rw [setF_same, setF_same]
      exact ⟨A.a0, A.b0, A.bt⟩
    · rw [setF_ne e, setF_ne e]
      exact R.off j (by omega)
  · by_cases e1 : i = k
    · by_cases e2 : j = k
      · omega
      · rw [e1, setF_same, setF_ne e2] at e
        exact absurd e (A.bc j (by omega))
    · by_cases e2 : j = k
      · rw [e2, setF_same, setF_ne e1] at e
        exact absurd e.symm (A.bc i (by omega))
      · rw [setF_ne e1, setF_ne e2] at e
        exact R.inj i j (by omega) (by omega) e
  · by_cases e : j = k
    · subst e; rw [setF_same]; exact hc
    · rw [setF_ne e]; exact R.lts j (by omega)
  · by_cases e : j = k
    · subst e
      rw [setF_same]
      exact hh
    · rw [setF_ne e]
      exact R.par_ j h1 (by omega)
theorem GrwP.tree (R : GrwP H0 H' p tr L k par lt rw' ad cl) (hL : ∀ c ∈ L.cps.toList, 97 ≤ c ∧ c ≤ 122) : ∀ (f j : Nat), j < k → k - j ≤ f → TrAt (fun b => H0 b = none) H' (.ref (ad j)) (trG rw' lt f j)
  | 0, j, h1, h2 => by omega
  | f + 1, j, h1, h2 => by
    obtain ⟨o1, o2, _⟩ := R.off j h1
    have c2 := hL _ (R.lts j h1)
    simp only [trG]
    refine .node (R.nod j h1) (R.row j h1) o1 o2 c2.1 c2.2 (trs_map (fun i => V.ref (ad i)) (trG rw' lt f) fun i hi => ?_)
    obtain ⟨m1, m2, m3⟩ := row_mem ((R.prm j h1).mem_iff.mp hi)
    have := R.par_ i m1 m3
    exact R.tree hL f i m3 (by omega)
end
def sp__law_tree : Sp := fun vs H Q _ => ∃ (p : Addr) (L : Str) (m : Nat), vs = [.ref p, .str L, nI m] ∧ Dn H p ∧ Lets L ∧ 1 ≤ m ∧ m ≤ 1000 ∧ ∀ v t H', Fr p H H' → Dn H' p → TrAt (fun b => H b = none) H' v t → t.size ≤ m → t.lets (fun c => c ∈ L.cps.toList) → Q v H'
section
variable {P : Program} {w : World} {K : PySem.W.Frag} {mg : Str → Option Value} {base : Heap}
theorem ok__law_tree (T : Txt K mg) : FnOk P w K mg base CX0 3 T.f__law_tree T.d__law_tree ["deck", "letters", "most"] sp__law_tree := by
  have G__law_next : FnOk P w K mg base CX0 2 T.f__law_next T.d__law_next ["deck"] sp__law_next := ok__law_next T
  refine T.F__law_tree.ok sc__law_tree (fun vs H Q E h => ?_) (fun cdv A outer s H vs Q E hr h => ?_)
  · obtain ⟨p, L, m, rfl, _⟩ := h
    rfl
  obtain ⟨p, L, m, rfl, hp, hL, h1, h1000, q⟩ := h
  refine ⟨_, (pss_cons (ps_set (i := 3) sc__law_tree.nd rfl (Or.inl rfl) (pe_lst (pa_cons (pe_tup (pa_cons (pe_ix ix_str (pv 1) (pe_op op_mod (pe_call G__law_next (hr.mono (by omega)) (by rfl) T.m__law_next T.F__law_next.kp T.b__law_next .nil pass0 (pa_cons (pv 0) pa_nil)) (pe_callB call_len_str (by rfl) T.z_len PySem.boot_len (pa_cons (pv 1) pa_nil))) (fun _ _ => rfl)) (pa_cons (pe_lst pa_nil) pa_nil))) pa_nil))) (pss_cons (ps_for PassesOwn.never rfl (pi_range1 (by rfl) T.z_range (pa_cons (pe_op op_mod (pe_call G__law_next (hr.mono (by omega)) (by rfl) T.m__law_next T.F__law_next.kp T.b__law_next .nil pass0 (pa_cons (pv 0) pa_nil)) (pv 2)) pa_nil)) (pg_name (i := 4) sc__law_tree.nd rfl (Or.inl rfl)) (pss_cons (ps_set (i := 5) sc__law_tree.nd rfl (Or.inl rfl) (pe_tup (pa_cons (pe_ix ix_str (pv 1) (pe_op op_mod (pe_call G__law_next (hr.mono (by omega)) (by rfl) T.m__law_next T.F__law_next.kp T.b__law_next .nil pass0 (pa_cons (pv 0) pa_nil)) (pe_callB call_len_str (by rfl) T.z_len PySem.boot_len (pa_cons (pv 1) pa_nil))) (fun _ _ => rfl)) (pa_cons (pe_lst pa_nil) pa_nil)))) (pss_cons (ps_set (i := 6) sc__law_tree.nd rfl (Or.inl rfl) (pe_ix ix_list (pv 3) (pe_ix ix_list (pe_lst (pa_cons (pe_op op_mod (pe_call G__law_next (hr.mono (by omega)) (by rfl) T.m__law_next T.F__law_next.kp T.b__law_next .nil pass0 (pa_cons (pv 0) pa_nil)) (pe_callB call_len_seq (by rfl) T.z_len PySem.boot_len (pa_cons (pv 3) pa_nil))) (pa_cons pe_int pa_nil))) (pe_op op_mod (pe_call G__law_next (hr.mono (by omega)) (by rfl) T.m__law_next T.F__law_next.kp T.b__law_next .nil pass0 (pa_cons (pv 0) pa_nil)) pe_int) (fun _ _ => rfl)) (fun _ _ => rfl))) (C8.pss_cut (ps_if (pt_cmpR op_gt (pe_op op_sub (pe_callB call_len_seq (by rfl) T.z_len PySem.boot_len (pa_cons (pv 3) pa_nil)) pe_int) pe_int (nomark _)) (pss_one (ps_set (i := 6) sc__law_tree.nd rfl (Or.inl rfl) (pe_ix ix_list (pv 3) (pe_op op_mod (pe_call G__law_next (hr.mono (by omega)) (by rfl) T.m__law_next T.F__law_next.kp T.b__law_next .nil pass0 (pa_cons (pv 0) pa_nil)) pe_int) (fun _ _ => rfl)))) pss_nil) (pss_cons (ps_expr (pe_bm PySem.F.plainAttrs_list PySem.F.slot_list_insert PySem.F.type_list_insert mt_insert (pe_ix ix_tup (pv 6) pe_int (fun _ _ => rfl)) (pa_cons (pe_op op_mod (pe_call G__law_next (hr.mono (by omega)) (by rfl) T.m__law_next T.F__law_next.kp T.b__law_next .nil pass0 (pa_cons (pv 0) pa_nil)) (pe_op op_add (pe_callB call_len_seq (by rfl) T.z_len PySem.boot_len (pa_cons (pe_ix ix_tup (pv 6) pe_int (fun _ _ => rfl)) pa_nil)) pe_int)) (pa_cons (pv 5) pa_nil)))) (pss_one (ps_expr (pe_bm PySem.F.plainAttrs_list PySem.F.slot_list_append PySem.F.type_list_append mt_append (pv 3) (pa_cons (pv 5) pa_nil))))))))) (pss_one (ps_ret (pe_ix ix_list (pv 3) pe_int (fun _ _ => rfl)))))), ?_⟩
  have hps : H p ≠ none := hp.some
  have np : ∀ b, H b = none → b ≠ p := fun b h e => hps (by rw [← e]; exact h)
  have hLs : L.cps.toList.length = L.length := by
    show L.cps.toList.length = L.cps.size
    exact Array.length_toList
  have hLz : L.length ≤ sizeLine := Nat.le_trans hL.2.1 (by decide)
  have hL1 := hL.1
  have letter : ∀ x : Int, ∃ (rn c : Nat), x % ((L.length : Nat) : Int) = (rn : Int) ∧ L.cps.toList[rn]? = some c ∧ c ∈ L.cps.toList := fun x => by
    have r0 : 0 ≤ x % ((L.length : Nat) : Int) := Int.emod_nonneg _ (by omega)
    have r1 : x % ((L.length : Nat) : Int) < ((L.length : Nat) : Int) := Int.emod_lt_of_pos _ (by omega)
    have h : (x % ((L.length : Nat) : Int)).toNat < L.cps.toList.length := by rw [hLs]; omega
    exact ⟨(x % ((L.length : Nat) : Int)).toNat, L.cps.toList[(x % ((L.length : Nat) : Int)).toNat], by omega, List.getElem?_eq_getElem h, List.getElem_mem h⟩
  refine ⟨_, rfl, _, rfl, p, rfl, hp, fun x H1 x0 x1 f1 d1 => ⟨_, rfl, L, rfl, hLz, _, _, rfl, rfl, (by show (0 : Int) < ((L.length : Nat) : Int); omega), ?_⟩⟩
  obtain ⟨rn, c0, hrn, hc0, hc0L⟩ := letter x
  refine ⟨L, rn, c0, rfl, congrArg V.int hrn, hLz, atI_nat hc0, (by show 0 ≤ sizeLine; decide), fun b hb => ⟨(by show 2 ≤ sizeLine; decide), fun a ha => ⟨(by show 1 ≤ sizeLine; decide), fun tr htr => ?_⟩⟩⟩
  have s1 := same_new (o := .lst []) hb
  have s2 := same_new (o := .tup [.str ⟨#[c0]⟩, .ref b]) ha
  have s3 := same_new (o := .lst [.ref a]) htr
  have hb0 : H b = none := f1.free d1.some hb
  have ha0 : H a = none := f1.free d1.some (s1.free ha)
  have htr0 : H tr = none := f1.free d1.some ((s1.trans s2).free htr)
  have bx := s3 _ _ (s2 _ _ (upd_same (H := H1) (a := b) (o := .lst [])))
  have ax := s3 _ _ (upd_same (H := upd H1 b (.lst [])) (a := a) (o := .tup [.str ⟨#[c0]⟩, .ref b]))
  have trx := upd_same (H := upd (upd H1 b (.lst [])) a (.tup [.str ⟨#[c0]⟩, .ref b])) (a := tr) (o := .lst [.ref a])
  have nbt : b ≠ tr := ne_of_none (s2 _ _ (upd_same (H := H1) (a := b) (o := .lst []))) htr
  have S4 := (s1.trans s2).trans s3
  have R0 : GrwP H (upd (upd (upd H1 b (.lst [])) a (.tup [.str ⟨#[c0]⟩, .ref b])) tr (.lst [.ref a])) p tr L 1 (fun _ => 0) (fun _ => c0) (fun _ => []) (fun _ => a) (fun _ => b) :=
    ⟨f1.trans (Fr.same S4), d1.keep S4, trx, fun j _ => ax, fun j hj => bx, fun j hj => by rw [show j = 0 by omega]; exact .nil, htr0, fun j _ => ⟨ha0, hb0, nbt⟩, fun i j h1 h2 _ => by omega, fun j _ => hc0L, fun j h1 h2 => by omega⟩
  generalize upd (upd (upd H1 b (.lst [])) a (.tup [.str ⟨#[c0]⟩, .ref b])) tr (.lst [.ref a]) = H2 at *
  clear bx ax trx s1 s2 s3 S4 hb ha htr
  refine ⟨_, rfl, p, rfl, R0.dk, fun x H3 x0 x1 f3 d3 => ⟨_, rfl, x, (m : Int), rfl, rfl, by omega, ?_⟩⟩
  have r0 : 0 ≤ x % (m : Int) := Int.emod_nonneg _ (by omega)
  have r1 : x % (m : Int) < (m : Int) := Int.emod_lt_of_pos _ (by omega)
  obtain ⟨cnt, hcnt, hlt⟩ : ∃ cnt : Nat, x % (m : Int) = (cnt : Int) ∧ cnt < m := ⟨(x % (m : Int)).toNat, by omega, by omega⟩
  have R3 := R0.go hps f3 d3
  refine ⟨(cnt : Int), congrArg (fun z => [V.int z]) hcnt, by omega, by omega, for_range (lo := 0) (n := cnt)
    (fun i σ H' => ∃ par lt rw' ad cl y4 y5 y6, σ = [some (.ref p), some (.str L), some (nI m), some (.ref tr), y4, y5, y6] ∧ GrwP H H' p tr L (1 + i) par lt rw' ad cl)
    ⟨_, _, _, _, _, none, none, none, rfl, R3⟩ ?_ ?_⟩
  · clear R0 R3 f3 d3 H3 x0 x1 r0 r1 H2
    rintro i σ H5 hi ⟨par, lt, rw', ad, cl, y4, y5, y6, rfl, R⟩
    refine ⟨_, rfl, _, rfl, p, rfl, R.dk, fun x H6 x0 x1 f6 d6 => ⟨_, rfl, L, rfl, hLz, _, _, rfl, rfl, (by show (0 : Int) < ((L.length : Nat) : Int); omega), ?_⟩⟩
    obtain ⟨rn, c, hrn, hc, hcL⟩ := letter x
    have R6 := R.go hps f6 d6
    refine ⟨L, rn, c, rfl, congrArg V.int hrn, hLz, atI_nat hc, (by show 0 ≤ sizeLine; decide), fun b hb => ⟨(by show 2 ≤ sizeLine; decide), fun a ha => ?_⟩⟩
    have A := R6.apart hb ha
    have s1 := same_new (o := .lst []) hb
    have s2 := same_new (o := .tup [.str ⟨#[c]⟩, .ref b]) ha
    have bx := s2 _ _ (upd_same (H := H6) (a := b) (o := .lst []))
    have ax := upd_same (H := upd H6 b (.lst [])) (a := a) (o := .tup [.str ⟨#[c]⟩, .ref b])
    have R7 := R6.go hps (Fr.same (s1.trans s2)) (d6.keep (s1.trans s2))
    generalize upd (upd H6 b (.lst [])) a (.tup [.str ⟨#[c]⟩, .ref b]) = H7 at *
    have nap := np _ A.a0
    have nbp := np _ A.b0
    clear s1 s2 hb ha
    refine ⟨_, rfl, _, rfl, p, rfl, R7.dk, fun x H8 x0 x1 f8 d8 => ?_⟩
    have R8 := R7.go hps f8 d8
    refine ⟨_, rfl, tr, _, rfl, .inl (SqL.of R8.tr_), _, _, rfl, rfl, (by rw [List.length_map, List.length_range]; omega), (by show 2 ≤ sizeLine; decide), fun l hl => ?_⟩
    rw [List.length_map, List.length_range]
    have sl := same_new hl (o := .lst [V.int (x % ((1 + i : Nat) : Int)), V.int 0])
    refine ⟨_, rfl, p, rfl, d8.keep sl, fun y H9 y0 y1 f9 d9 => ⟨_, _, rfl, rfl, (by show (0 : Int) < 2; decide), ?_⟩⟩
    have hl9 := f9 l _ (d8.ne hl) upd_same
    have R9 := (R8.go hps (Fr.same sl) (d8.keep sl)).go hps f9 d9
    have a9 := f9 _ _ nap (sl _ _ (f8 _ _ nap ax))
    have b9 := f9 _ _ nbp (sl _ _ (f8 _ _ nbp bx))
    have r0 : 0 ≤ x % ((1 + i : Nat) : Int) := Int.emod_nonneg _ (by omega)
    have r1 : x % ((1 + i : Nat) : Int) < ((1 + i : Nat) : Int) := Int.emod_lt_of_pos _ (by omega)
    obtain ⟨h, hm, hlt⟩ : ∃ h : Nat, atI [V.int (x % ((1 + i : Nat) : Int)), V.int 0] (y % 2) = some (V.int (h : Int)) ∧ h < 1 + i := by
      rcases (by omega : y % 2 = 0 ∨ y % 2 = 1) with e | e <;> rw [e]
      · exact ⟨(x % ((1 + i : Nat) : Int)).toNat, at_of (j := 0) rfl (by show some (V.int (x % ((1 + i : Nat) : Int))) = _; rw [Int.toNat_of_nonneg r0]), by omega⟩
      · exact ⟨0, at_of (j := 1) rfl rfl, by omega⟩
    refine ⟨l, _, y % 2, _, rfl, rfl, SqL.of hl9, hm, tr, _, (h : Int), .ref (ad h), rfl, rfl, SqL.of R9.tr_, atI_nat (by rw [List.getElem?_map, List.getElem?_range hlt]; rfl), ?_⟩
    clear R8 R7 R6 R d8 f8 f9 d9 f6 d6 r0 r1 x0 x1 y0 y1 hl9 hm hl sl ax bx
    refine ⟨fun σ' H' => ∃ (h : Nat) (y4 : Option V), σ' = [some (.ref p), some (.str L), some (nI m), some (.ref tr), y4, some (.ref a), some (.ref (ad h))] ∧ h < 1 + i ∧ GrwP H H' p tr L (1 + i) par lt rw' ad cl ∧ H' a = some (.tup [.str ⟨#[c]⟩, .ref b]) ∧ H' b = some (.lst []), ?_, ?_⟩
    · refine ⟨_, rfl, tr, _, rfl, .inl (SqL.of R9.tr_), _, _, rfl, rfl, _, _, rfl, rfl, _, rfl, ?_⟩
      rw [List.length_map, List.length_range]
      by_cases big : 20 < i
      · refine dT (by omega) ⟨_, rfl, _, rfl, p, rfl, R9.dk, fun z H10 z0 z1 f10 d10 => ⟨_, _, rfl, rfl, (by show (0 : Int) < 20; decide), ?_⟩⟩
        have R10 := R9.go hps f10 d10
        have r0 : 0 ≤ z % 20 := Int.emod_nonneg _ (by decide)
        have r1 : z % 20 < 20 := Int.emod_lt_of_pos _ (by decide)
        obtain ⟨h2, e2, hlt2⟩ : ∃ h2 : Nat, z % 20 = (h2 : Int) ∧ h2 < 1 + i := ⟨(z % 20).toNat, by omega, by omega⟩
        exact ⟨tr, _, (h2 : Int), .ref (ad h2), rfl, congrArg V.int e2, SqL.of R10.tr_, atI_nat (by rw [List.getElem?_map, List.getElem?_range hlt2]; rfl), h2, _, rfl, hlt2, R10, f10 _ _ nap a9, f10 _ _ nbp b9⟩
      · exact dF (by omega) ⟨h, _, rfl, hlt, R9, a9, b9⟩
    clear R9 a9 b9 hlt h
    rintro σ' H9 ⟨h, y4, rfl, hlt, R9, a9, b9⟩
    have rl : (rw' h).length ≤ 1 + i := by
      rw [(R9.prm h hlt).length_eq]
      exact row_len _ _ _
    refine ⟨_, rfl, ad h, _, 1, .ref (cl h), rfl, rfl, SqT.of (R9.nod h hlt), atI_nat (j := 1) rfl, .inl ⟨rfl, _, SqL.of (R9.row h hlt)⟩, ?_⟩
    refine ⟨_, rfl, p, rfl, R9.dk, fun z H10 z0 z1 f10 d10 => ?_⟩
    have R10 := R9.go hps f10 d10
    have a10 := f10 _ _ nap a9
    have b10 := f10 _ _ nbp b9
    refine ⟨_, rfl, ad h, _, 1, .ref (cl h), rfl, rfl, SqT.of (R10.nod h hlt), atI_nat (j := 1) rfl, cl h, _, rfl, .inl (SqL.of (R10.row h hlt)), _, _, rfl, rfl, _, _, rfl, rfl, (by show (0 : Int) < _; omega), ?_⟩
    rw [List.length_map]
    have r0 : 0 ≤ z % (((rw' h).length : Int) + 1) := Int.emod_nonneg _ (by omega)
    have r1 : z % (((rw' h).length : Int) + 1) < ((rw' h).length : Int) + 1 := Int.emod_lt_of_pos _ (by omega)
    obtain ⟨at0, e2⟩ : ∃ at0 : Nat, z % (((rw' h).length : Int) + 1) = (at0 : Int) := ⟨(z % (((rw' h).length : Int) + 1)).toNat, by omega⟩
    refine ⟨_, rfl, cl h, _, (at0 : Int), .ref a, rfl, congrArg (fun w => [V.int w, V.ref a]) e2, R10.row h hlt, ?_, by omega, by omega, ?_⟩
    · rw [List.length_map]
      exact Nat.lt_of_le_of_lt (show _ ≤ 1000000 by omega) (by decide)
    rw [Int.toNat_natCast]
    have R11 := R10.step (a := a) (b := b) (i := at0) hps (by omega) hlt hcL A b10 a10
    have ntr : tr ≠ cl h := fun e => (R10.off h hlt).2.2 e.symm
    refine ⟨_, rfl, .inl ⟨rfl, _, SqL.of (by rw [upd_ne ntr]; exact R10.tr_)⟩, _, rfl, tr, _, _, rfl, rfl, by rw [upd_ne ntr]; exact R10.tr_, ?_, _, _, _, _, _, _, _, _, rfl, R11⟩
    rw [List.length_map, List.length_range]
    exact Nat.lt_of_le_of_lt (show _ ≤ 1000000 by omega) (by decide)
  · rintro σ H5 ⟨par, lt, rw', ad, cl, y4, y5, y6, rfl, R⟩
    have pos : 0 < 1 + cnt := by omega
    have e0 := R.tr_
    refine ⟨_, rfl, tr, _, 0, .ref (ad 0), rfl, rfl, SqL.of e0, atI_nat (j := 0) (by rw [List.getElem?_map, List.getElem?_range pos]; rfl), ?_⟩
    refine q _ _ H5 R.fr R.dk (R.tree hL.2.2 (1 + cnt + 1) 0 pos (by omega)) ?_ (trG_lets R.prm R.lts _ _ pos)
    rw [trG_size R.par_ R.prm _ _ pos, trF_size0 R.par_ pos]
    omega
end

theorem depth_pos1 : ∀ t : Tr, 1 ≤ t.depth
  | .node c ks => by simp only [Tr.depth]; omega
theorem cnts_len (n : Nat) (xs : List Nat) : (cnts n xs).length = n := by unfold cnts; rw [List.length_map, List.length_range]
theorem cnts_nil (n : Nat) : cnts n [] = List.replicate n 0 := by
  unfold cnts
  refine List.ext_getElem (by simp) fun i h1 h2 => by simp
theorem cnts_at {n s : Nat} (xs : List Nat) (h : s < n) : (cnts n xs)[s]? = some (xs.count s) := by
  unfold cnts
  rw [List.getElem?_map, List.getElem?_range h]
  rfl
theorem cnts_set {n s : Nat} (xs : List Nat) (h : s < n) : (cnts n xs).set s (xs.count s + 1) = cnts n (xs ++ [s]) := by
  refine List.ext_getElem? fun j => ?_
  rw [List.getElem?_set]
  by_cases hj : j < n
  · rw [cnts_at _ hj]
    by_cases e : s = j
    · subst e
      rw [if_pos rfl, if_pos (by rw [cnts_len]; exact hj), cnts_at _ hj, List.count_append]
      simp
    · rw [if_neg e, cnts_at _ hj, List.count_append, List.count_singleton]
      have : (s == j) = false := by simpa using e
      simp [this]
  · have o1 : (cnts n xs)[j]? = none := List.getElem?_eq_none (by rw [cnts_len]; omega)
    have o2 : (cnts n (xs ++ [s]))[j]? = none := List.getElem?_eq_none (by rw [cnts_len]; omega)
    rw [o1, o2]
    split
    · rw [if_neg (by rw [cnts_len]; omega)]
    · rfl
theorem set_nI {xs : List Nat} {i x : Nat} : (xs.map nI).set i (nI x) = (xs.set i x).map nI := by
  rw [List.map_set]

theorem St_ltJ {J : JD} (hok : J.ok) : ∀ t : Tr, t.lets (fun c => c ∈ J.L.cps.toList) → St J.sf J.n t < J.n
  | .node c ks, h => by
    simp only [Tr.lets] at h
    simp only [St]
    exact hok.sf_lt h.1 (cnts_len _ _)

def Cong (few turn x y : Nat) : Prop := x = y ∨ (few ≤ x ∧ few ≤ y ∧ (x : Int) % (turn : Int) = (y : Int) % (turn : Int))
theorem clsN_up {few turn x : Nat} (h : few ≤ x) : clsN few turn x = few + (x - few) % turn := by
  unfold clsN
  split
  · rw [Nat.mod_eq_of_lt (by omega)]
    omega
  · rfl
theorem Cong.cls {few turn x y : Nat} (h : Cong few turn x y) : clsN few turn x = clsN few turn y := by
  rcases h with rfl | ⟨h1, h2, h3⟩
  · rfl
  rw [clsN_up h1, clsN_up h2]
  have e1 : (((x - few : Nat) : Int)) % (turn : Int) = (((y - few : Nat) : Int)) % (turn : Int) := by
    rw [Int.emod_eq_emod_iff_emod_sub_eq_zero] at h3 ⊢
    have : ((x - few : Nat) : Int) - ((y - few : Nat) : Int) = (x : Int) - (y : Int) := by omega
    rw [this]
    exact h3
  rw [← Int.natCast_emod, ← Int.natCast_emod] at e1
  omega
theorem Cong.trans {few turn x y z : Nat} (a : Cong few turn x y) (b : Cong few turn y z) : Cong few turn x z := by
  rcases a with rfl | ⟨h1, h2, h3⟩
  · exact b
  rcases b with rfl | ⟨g1, g2, g3⟩
  · exact .inr ⟨h1, h2, h3⟩
  · exact .inr ⟨h1, g2, h3.trans g3⟩
theorem Cong.add {few turn x y u v : Nat} (a : Cong few turn x y) (b : Cong few turn u v) : Cong few turn (x + u) (y + v) := by
  rcases a with rfl | ⟨h1, h2, h3⟩
  · rcases b with rfl | ⟨g1, g2, g3⟩
    · exact .inl rfl
    · exact .inr ⟨by omega, by omega, by push_cast; rw [Int.add_emod, g3, ← Int.add_emod]⟩
  · rcases b with rfl | ⟨g1, g2, g3⟩
    · exact .inr ⟨by omega, by omega, by push_cast; rw [Int.add_emod, h3, ← Int.add_emod]⟩
    · exact .inr ⟨by omega, by omega, by push_cast; rw [Int.add_emod, h3, g3, ← Int.add_emod]⟩
theorem Cong.of_cls {few turn few2 turn2 : Nat} (hf : few ≤ few2) (ht : turn ∣ turn2) (x : Nat) : Cong few turn (clsN few2 turn2 x) x := by
  by_cases h : x < few2 + turn2
  · rw [clsN_low h]
    exact .inl rfl
  · exact .inr ⟨Nat.le_trans hf (clsN_few (by omega)), by omega, clsN_dvd ht x⟩
theorem Cong.sum {few turn few2 turn2 : Nat} (hf : few ≤ few2) (ht : turn ∣ turn2) : ∀ xs : List Nat, Cong few turn (xs.map (clsN few2 turn2)).sum xs.sum
  | [] => .inl rfl
  | x :: r => by
    rw [List.map_cons, List.sum_cons, List.sum_cons]
    exact (Cong.of_cls hf ht x).add (Cong.sum hf ht r)
def onesOf (n wd : Nat) (row : List Nat) : List Nat := (List.range n).map fun f => ((row.drop (f * wd)).take wd).sum
def othersOf (wd : Nat) (row : List Nat) : List Nat := (List.range wd).map fun s => (everyV wd s row).sum
theorem everyV_map {α β : Type} (f : α → β) (k a : Nat) (xs : List α) : everyV k a (xs.map f) = (everyV k a xs).map f := by
  unfold everyV
  rw [List.length_map]
  generalize List.range (if a < xs.length then (xs.length - a - 1) / k + 1 else 0) = l
  induction l with
  | nil => rfl
  | cons m t ih =>
    rw [List.filterMap_cons, List.filterMap_cons, List.getElem?_map]
    cases xs[a + m * k]? with
    | none => exact ih
    | some x => rw [Option.map_some, List.map_cons, ih]
theorem ones_cls {few turn few2 turn2 n wd : Nat} (hf : few ≤ few2) (ht : turn ∣ turn2) (row : List Nat) : (onesOf n wd (row.map (clsN few2 turn2))).map (clsN few turn) = (onesOf n wd row).map (clsN few turn) := by
  unfold onesOf
  rw [List.map_map, List.map_map]
  refine List.map_congr_left fun f _ => ?_
  show clsN few turn (((row.map (clsN few2 turn2)).drop (f * wd)).take wd).sum = clsN few turn ((row.drop (f * wd)).take wd).sum
  rw [← List.map_drop, ← List.map_take]
  exact (Cong.sum hf ht _).cls
theorem others_cls {few turn few2 turn2 wd : Nat} (hf : few ≤ few2) (ht : turn ∣ turn2) (row : List Nat) : (othersOf wd (row.map (clsN few2 turn2))).map (clsN few turn) = (othersOf wd row).map (clsN few turn) := by
  unfold othersOf
  rw [List.map_map, List.map_map]
  refine List.map_congr_left fun f _ => ?_
  show clsN few turn (everyV wd f (row.map (clsN few2 turn2))).sum = clsN few turn (everyV wd f row).sum
  rw [everyV_map]
  exact (Cong.sum hf ht _).cls
theorem sum_add {α : Type} (f g : α → Nat) : ∀ l : List α, (l.map fun i => f i + g i).sum = (l.map f).sum + (l.map g).sum
  | [] => rfl
  | i :: l => by
    rw [List.map_cons, List.map_cons, List.map_cons, List.sum_cons, List.sum_cons, List.sum_cons, sum_add f g l]
    omega
theorem sum_ind (q : Nat) : ∀ n : Nat, ((List.range n).map fun i => if q = i then 1 else 0).sum = if q < n then 1 else 0
  | 0 => by simp
  | n + 1 => by
    rw [List.range_succ, List.map_append, List.sum_append, sum_ind q n]
    simp only [List.map_cons, List.map_nil, List.sum_cons, List.sum_nil]
    split <;> split <;> split <;> omega
theorem sum_counts {n : Nat} {g h : Nat → Nat} {ok : Nat → Prop} {v : Nat} (hi : ∀ x, ok x → ((List.range n).map fun i => if x = g i then 1 else 0).sum = if h x = v then 1 else 0) : ∀ xs : List Nat, (∀ x ∈ xs, ok x) → ((List.range n).map fun i => xs.count (g i)).sum = (xs.map h).count v
  | [], _ => by
    have : ∀ l : List Nat, (l.map fun i => ([] : List Nat).count (g i)).sum = 0 := by
      intro l
      induction l with
      | nil => rfl
      | cons a t ih => rw [List.map_cons, List.sum_cons, ih]; rfl
    rw [this]
    rfl
  | x :: r, hx => by
    have e : ∀ i, (x :: r).count (g i) = r.count (g i) + if x = g i then 1 else 0 := fun i => by
      rw [List.count_cons]
      by_cases c : x = g i
      · rw [if_pos c]; simp [c]
      · rw [if_neg c]; simp [c]
    have e2 : ((List.range n).map fun i => (x :: r).count (g i)) = (List.range n).map fun i => r.count (g i) + if x = g i then 1 else 0 := List.map_congr_left fun i _ => e i
    rw [e2, sum_add, sum_counts hi r fun y hy => hx y (List.mem_cons_of_mem _ hy), hi x (hx x List.mem_cons_self), List.map_cons, List.count_cons]
    by_cases c : h x = v
    · rw [if_pos c]; simp [c]
    · rw [if_neg c]; simp [c]
theorem pair_iff {x s f wd : Nat} (h : s < wd) : x = f * wd + s ↔ x / wd = f ∧ x % wd = s := by
  constructor
  · rintro rfl
    rw [Nat.add_comm, Nat.add_mul_div_right _ _ (by omega), Nat.add_mul_mod_self_right, Nat.div_eq_of_lt h, Nat.mod_eq_of_lt h]
    exact ⟨by omega, rfl⟩
  · rintro ⟨rfl, rfl⟩
    have := Nat.div_add_mod x wd
    rw [Nat.mul_comm] at this
    exact this.symm
theorem ones_counts {n wd : Nat} (hw : 1 ≤ wd) (xs : List Nat) : onesOf n wd (cnts (n * wd) xs) = cnts n (xs.map (· / wd)) := by
  unfold onesOf
  have : cnts n (xs.map (· / wd)) = (List.range n).map fun f => (xs.map (· / wd)).count f := rfl
  rw [this]
  refine List.map_congr_left fun f hf => ?_
  have hf := List.mem_range.mp hf
  have le : f * wd + wd ≤ n * wd := by rw [← Nat.succ_mul]; exact Nat.mul_le_mul_right _ hf
  have e : ((cnts (n * wd) xs).drop (f * wd)).take wd = (List.range wd).map fun s => xs.count (f * wd + s) := by
    refine List.ext_getElem? fun j => ?_
    by_cases hj : j < wd
    · rw [List.getElem?_take_of_lt hj, List.getElem?_drop, cnts_at _ (by omega), List.getElem?_map, List.getElem?_range hj]
      rfl
    · rw [List.getElem?_eq_none (by rw [List.length_take]; omega), List.getElem?_eq_none (by rw [List.length_map, List.length_range]; omega)]
  rw [e]
  refine sum_counts (ok := fun _ => True) (fun x _ => ?_) xs fun _ _ => trivial
  have e2 : ((List.range wd).map fun s => if x = f * wd + s then 1 else 0) = (List.range wd).map fun s => if x / wd = f then (if x % wd = s then 1 else 0) else 0 := List.map_congr_left fun s hs => by
    have hs := List.mem_range.mp hs
    by_cases c : x / wd = f ∧ x % wd = s
    · rw [if_pos ((pair_iff hs).mpr c), if_pos c.1, if_pos c.2]
    · rw [if_neg fun z => c ((pair_iff hs).mp z)]
      by_cases c1 : x / wd = f
      · rw [if_pos c1, if_neg fun z => c ⟨c1, z⟩]
      · rw [if_neg c1]
  rw [e2]
  by_cases c : x / wd = f
  · simp only [if_pos c]
    rw [sum_ind, if_pos (Nat.mod_lt _ (by omega))]
  · simp only [if_neg c]
    have : ∀ l : List Nat, (l.map fun _ => 0).sum = 0 := by
      intro l
      induction l with
      | nil => rfl
      | cons a t ih => rw [List.map_cons, List.sum_cons, ih]
    exact this _
theorem others_counts {n wd : Nat} (hn : 1 ≤ n) (xs : List Nat) (hx : ∀ x ∈ xs, x < n * wd) : othersOf wd (cnts (n * wd) xs) = cnts wd (xs.map (· % wd)) := by
  unfold othersOf
  have : cnts wd (xs.map (· % wd)) = (List.range wd).map fun s => (xs.map (· % wd)).count s := rfl
  rw [this]
  refine List.map_congr_left fun s hs => ?_
  have hs := List.mem_range.mp hs
  have pos : wd ≤ n * wd := Nat.le_mul_of_pos_left _ hn
  have e : everyV wd s (cnts (n * wd) xs) = (List.range n).map fun f => xs.count (s + f * wd) := by
    unfold everyV
    rw [cnts_len]
    have len : (if s < n * wd then (n * wd - s - 1) / wd + 1 else 0) = n := by
      rw [if_pos (by omega)]
      have e1 : n * wd - s - 1 = (wd - s - 1) + (n - 1) * wd := by
        have : n * wd = wd + (n - 1) * wd := by
          cases n with
          | zero => omega
          | succ m => rw [Nat.succ_mul, Nat.succ_sub_one, Nat.add_comm]
        omega
      rw [e1, Nat.add_mul_div_right _ _ (by omega), Nat.div_eq_of_lt (by omega)]
      omega
    rw [len]
    have each : ∀ l : List Nat, (∀ f ∈ l, f < n) → l.filterMap (fun m => (cnts (n * wd) xs)[s + m * wd]?) = l.map fun f => xs.count (s + f * wd) := by
      intro l
      induction l with
      | nil => intro _; rfl
      | cons f t ih =>
        intro hl
        have hf := hl f List.mem_cons_self
        have le : f * wd + wd ≤ n * wd := by rw [← Nat.succ_mul]; exact Nat.mul_le_mul_right _ hf
        rw [List.filterMap_cons, cnts_at _ (by omega), List.map_cons, ih fun x hx => hl x (List.mem_cons_of_mem _ hx)]
    exact each _ fun f hf => List.mem_range.mp hf
  rw [e]
  refine sum_counts (ok := fun x => x < n * wd) (fun x ho => ?_) xs hx
  have e2 : ((List.range n).map fun f => if x = s + f * wd then 1 else 0) = (List.range n).map fun f => if x % wd = s then (if x / wd = f then 1 else 0) else 0 := List.map_congr_left fun f _ => by
    have p := @pair_iff x s f wd hs
    rw [Nat.add_comm] at p
    by_cases c : x / wd = f ∧ x % wd = s
    · rw [if_pos (p.mpr c), if_pos c.2, if_pos c.1]
    · rw [if_neg fun z => c (p.mp z)]
      by_cases c1 : x % wd = s
      · rw [if_pos c1, if_neg fun z => c ⟨z, c1⟩]
      · rw [if_neg c1]
  rw [e2]
  by_cases c : x % wd = s
  · simp only [if_pos c]
    rw [sum_ind, if_pos ((Nat.div_lt_iff_lt_mul (by omega)).mpr ho)]
  · simp only [if_neg c]
    have : ∀ l : List Nat, (l.map fun _ => 0).sum = 0 := by
      intro l
      induction l with
      | nil => rfl
      | cons a t ih => rw [List.map_cons, List.sum_cons, ih]
    exact this _
def goodsJ (both : Bool) (A B : JD) : List Nat := (List.range A.n).flatMap fun f => ((List.range B.n).filter fun s => if both then decide (f ∈ A.good) && decide (s ∈ B.good) else decide (f ∈ A.good) || decide (s ∈ B.good)).map fun s => f * B.n + s
def joinJ (both : Bool) (A B : JD) : JD := ⟨A.L, A.n * B.n, max A.few B.few, A.turn.lcm B.turn, fun c row => A.sf c (onesOf A.n B.n row) * B.n + B.sf c (othersOf B.n row), goodsJ both A B⟩
theorem goodsJ_in {both : Bool} {A B : JD} {a b : Nat} (ha : a < A.n) (hb : b < B.n) : decide (a * B.n + b ∈ goodsJ both A B) = if both then decide (a ∈ A.good) && decide (b ∈ B.good) else decide (a ∈ A.good) || decide (b ∈ B.good) := by
  rw [Bool.eq_iff_iff, decide_eq_true_eq]
  simp only [goodsJ, List.mem_flatMap, List.mem_map, List.mem_filter, List.mem_range]
  constructor
  · rintro ⟨f, hf, s, ⟨hs, h⟩, e⟩
    have p1 := (pair_iff hb).mp (rfl : a * B.n + b = a * B.n + b)
    have p2 := (pair_iff hs).mp e.symm
    have ea : f = a := p2.1.symm.trans p1.1
    have eb : s = b := p2.2.symm.trans p1.2
    subst ea eb
    exact h
  · intro h
    exact ⟨a, ha, b, ⟨hb, h⟩, rfl⟩
theorem goodsJ_lt {both : Bool} {A B : JD} {g : Nat} (h : g ∈ goodsJ both A B) : g < A.n * B.n := by
  simp only [goodsJ, List.mem_flatMap, List.mem_map, List.mem_filter, List.mem_range] at h
  obtain ⟨f, hf, s, ⟨hs, _⟩, rfl⟩ := h
  have le : f * B.n + B.n ≤ A.n * B.n := by rw [← Nat.succ_mul]; exact Nat.mul_le_mul_right _ hf
  omega
theorem goodsJ_len (both : Bool) (A B : JD) : (goodsJ both A B).length ≤ A.n * B.n := by
  unfold goodsJ
  have : ∀ l : List Nat, (l.flatMap fun f => ((List.range B.n).filter fun s => if both then decide (f ∈ A.good) && decide (s ∈ B.good) else decide (f ∈ A.good) || decide (s ∈ B.good)).map fun s => f * B.n + s).length ≤ l.length * B.n := by
    intro l
    induction l with
    | nil => simp
    | cons a t ih =>
      rw [List.flatMap_cons, List.length_append, List.length_map, List.length_cons, Nat.succ_mul]
      have := List.length_filter_le (fun s => if both then decide (a ∈ A.good) && decide (s ∈ B.good) else decide (a ∈ A.good) || decide (s ∈ B.good)) (List.range B.n)
      rw [List.length_range] at this
      omega
  have := this (List.range A.n)
  rwa [List.length_range] at this
theorem sf_same {J : JD} {c : Nat} {r1 r2 : List Nat} (h : r1.map (clsN J.few J.turn) = r2.map (clsN J.few J.turn)) : J.sf c r1 = J.sf c r2 := by
  unfold JD.sf
  rw [h]
theorem onesOf_len (n wd : Nat) (row : List Nat) : (onesOf n wd row).length = n := by unfold onesOf; rw [List.length_map, List.length_range]
theorem othersOf_len (wd : Nat) (row : List Nat) : (othersOf wd row).length = wd := by unfold othersOf; rw [List.length_map, List.length_range]
theorem joinJ_lt {A B : JD} (hA : A.ok) (hB : B.ok) (hL : A.L = B.L) {c : Nat} (hc : c ∈ A.L.cps.toList) (row : List Nat) : A.sf c (onesOf A.n B.n row) * B.n + B.sf c (othersOf B.n row) < A.n * B.n := by
  have h1 := hA.sf_lt hc (onesOf_len A.n B.n row)
  have h2 := hB.sf_lt (by rw [← hL]; exact hc) (othersOf_len B.n row)
  have le : A.sf c (onesOf A.n B.n row) * B.n + B.n ≤ A.n * B.n := by rw [← Nat.succ_mul]; exact Nat.mul_le_mul_right _ h1
  omega
theorem joinJ_ok {both : Bool} {A B : JD} (hA : A.ok) (hB : B.ok) (hL : A.L = B.L) (h6 : A.n * B.n ≤ 6) (ht : A.turn.lcm B.turn ≤ 4) (h600 : A.L.length * (max A.few B.few + A.turn.lcm B.turn) ^ (A.n * B.n) ≤ 600) : (joinJ both A B).ok where
  L := hA.L
  n1 := Nat.mul_pos hA.n1 hB.n1
  n6 := h6
  f4 := by have := hA.f4; have := hB.f4; show max A.few B.few ≤ 4; omega
  t1 := Nat.lcm_pos hA.t1 hB.t1
  t4 := ht
  h600 := h600
  lt key hk := joinJ_lt hA hB hL (keysOf_mem hk).1 _
  g6 := Nat.le_trans (goodsJ_len both A B) h6
  gn g hg := goodsJ_lt hg
mutual
theorem St_join {both : Bool} {A B : JD} (hA : A.ok) (hB : B.ok) (hL : A.L = B.L) : ∀ t : Tr, t.lets (fun c => c ∈ A.L.cps.toList) → St (joinJ both A B).sf (A.n * B.n) t = St A.sf A.n t * B.n + St B.sf B.n t
  | .node c ks, h => by
    simp only [Tr.lets] at h
    obtain ⟨e1, e2, e3⟩ := Sts_join (both := both) hA hB hL ks h.2
    simp only [St]
    show A.sf c (onesOf A.n B.n ((cnts (A.n * B.n) (Sts (joinJ both A B).sf (A.n * B.n) ks)).map (clsN (max A.few B.few) (A.turn.lcm B.turn)))) * B.n + B.sf c (othersOf B.n ((cnts (A.n * B.n) (Sts (joinJ both A B).sf (A.n * B.n) ks)).map (clsN (max A.few B.few) (A.turn.lcm B.turn)))) = _
    rw [sf_same (ones_cls (Nat.le_max_left _ _) (Nat.dvd_lcm_left _ _) _), sf_same (others_cls (Nat.le_max_right _ _) (Nat.dvd_lcm_right _ _) _), ones_counts hB.n1, others_counts hA.n1 _ e3, e1, e2]
theorem Sts_join {both : Bool} {A B : JD} (hA : A.ok) (hB : B.ok) (hL : A.L = B.L) : ∀ ts : List Tr, letss (fun c => c ∈ A.L.cps.toList) ts → (Sts (joinJ both A B).sf (A.n * B.n) ts).map (· / B.n) = Sts A.sf A.n ts ∧ (Sts (joinJ both A B).sf (A.n * B.n) ts).map (· % B.n) = Sts B.sf B.n ts ∧ ∀ x ∈ Sts (joinJ both A B).sf (A.n * B.n) ts, x < A.n * B.n
  | [], _ => ⟨rfl, rfl, fun _ h => by cases h⟩
  | t :: r, h => by
    simp only [letss] at h
    have e := St_join (both := both) hA hB hL t h.1
    obtain ⟨e1, e2, e3⟩ := Sts_join (both := both) hA hB hL r h.2
    have la := St_ltJ hA t h.1
    have lb := St_ltJ hB t (by rw [← hL]; exact h.1)
    obtain ⟨p1, p2⟩ := (pair_iff lb).mp (rfl : St A.sf A.n t * B.n + St B.sf B.n t = _)
    have le : St A.sf A.n t * B.n + B.n ≤ A.n * B.n := by rw [← Nat.succ_mul]; exact Nat.mul_le_mul_right _ la
    simp only [Sts, List.map_cons]
    refine ⟨by rw [e, p1, e1], by rw [e, p2, e2], fun x hx => ?_⟩
    rcases List.mem_cons.mp hx with rfl | hx
    · rw [e]; omega
    · exact e3 x hx
end

def rSumT (K : PySem.W.Frag) : List V → Hp → VK → Prop := fun vs H Q => ∃ (a : Addr) (ns : List Int), vs = [V.ref a] ∧ SqT K H a (ns.map V.int) ∧ Q (.int ns.sum) H
theorem cr_sumT {X : Cx} (hc : X.calm = true) : CallR X (.builtin "sum") (rSumT X.K) := by
  intro pins s σ H vs us Q I r h
  obtain ⟨a, ns, rfl, hs, q⟩ := h
  obtain ⟨its, rv, ht, _⟩ := I.tuple hs
  rw [Vals.ref1 r]
  obtain ⟨xs, e⟩ := rv.ints.allInts.items
  have hn : numsOf (intItems xs).toList = ns := by rw [← e]; exact rv.ints.numsOf
  rw [nums_intItems] at hn
  rw [e] at ht
  have hlt : a < s.heap.objs.size := ht.lt
  refine call_sum_walkG (wpAny_pyIter_tuple ht ?_)
  refine ⟨s.heap.objs.size, _, _, _, _, _, numAt xs, rfl, Walks.tuple (A := X.A.in1) (I.ok.hd hc) _ a (Nat.ne_of_lt hlt) (intItems xs), ⟨⟨_, Heap.get?_push_size _ rfl, rfl, rfl⟩, (let ⟨o, e, r⟩ := ht; ⟨o, Heap.get?_push_of_some _ e, r⟩)⟩, fun b hb => ?_, (fun _ _ => intItems_at), fun h' tk t' hk => ?_⟩
  · show b < (s.heap.push _).objs.size
    rw [Heap.size_push]
    rcases List.mem_cons.mp hb with rfl | hb
    · exact Nat.lt_succ_self _
    · rcases List.mem_cons.mp hb with rfl | hb
      · exact Nat.lt_succ_of_lt hlt
      · cases hb
  · refine ⟨.int _, H, I.kept (t' := tk) fun b o e => hk b o (fun z => ?_) (Heap.get?_push_of_some _ e), ?_, q⟩
    · rw [List.mem_singleton.mp z] at e
      exact absurd (Heap.lt_size e) (Nat.lt_irrefl _)
    · refine ⟨t', ?_⟩
      have : (intItems xs).size = xs.size := by simp [intItems]
      rw [this, preSum_eq, List.take_of_length_le (by simp), hn]


theorem everyV_one {α : Type} (xs : List α) : everyV 1 0 xs = xs := by
  unfold everyV
  have e : (if 0 < xs.length then (xs.length - 0 - 1) / 1 + 1 else 0) = xs.length := by
    split
    · rw [Nat.div_one]; omega
    · omega
  rw [e]
  have : ∀ n, n ≤ xs.length → (List.range n).filterMap (fun m => xs[0 + m * 1]?) = xs.take n := by
    intro n
    induction n with
    | zero => intro _; simp
    | succ n ih =>
      intro h
      have hx : xs[n]? = some xs[n] := List.getElem?_eq_getElem h
      rw [List.range_succ, List.filterMap_append, ih (by omega), take_succ_of hx, List.filterMap_cons, Nat.zero_add, Nat.mul_one, hx]
      rfl
  have := this xs.length (Nat.le_refl _)
  rwa [List.take_length] at this
theorem cut_mid {xs : List V} {a b : Nat} (h1 : a ≤ b) (h2 : b ≤ xs.length) : cutV xs (some (a : Int)) (some (b : Int)) = (xs.drop a).take (b - a) := by
  unfold cutV
  have e1 : min a xs.length = a := by omega
  have e2 : min b xs.length = b := by omega
  rw [HT.sIx_nat, HT.sIx_nat, e1, e2]
theorem sum_ints (l : List Nat) : (l.map fun x : Nat => (x : Int)).sum = ((l.sum : Nat) : Int) := by
  induction l with
  | nil => rfl
  | cons x r ih => rw [List.map_cons, List.sum_cons, List.sum_cons, ih]; push_cast; rfl
def wordJ (both : Bool) : Str := if both then Str.ofString "both" else Str.ofString "either"
def sp__pair_at (P : Program) (w : World) : Sp := fun vs H Q _ => ∃ (v1 v2 : V) (A B : JD) (c : Nat) (b : Addr) (row : List Nat), vs = [v1, v2, .str (ch c), .ref b] ∧ JAt P w H v1 A ∧ A.ok ∧ JAt P w H v2 B ∧ B.ok ∧ A.L = B.L ∧ c ∈ A.L.cps.toList ∧ row.length = A.n * B.n ∧ H b = some (.tup (row.map nI)) ∧ ∀ H', Same H H' → Q (nI (A.sf c (onesOf A.n B.n row) * B.n + B.sf c (othersOf B.n row))) H'
def sp__good_pairs (P : Program) (w : World) : Sp := fun vs H Q _ => ∃ (both : Bool) (v1 v2 : V) (A B : JD), vs = [.str (wordJ both), v1, v2] ∧ JAt P w H v1 A ∧ A.ok ∧ JAt P w H v2 B ∧ B.ok ∧ ∀ r H', Same H H' → H r = none → H' r = some (.lst ((goodsJ both A B).map nI)) → Q (.ref r) H'
section
variable {P : Program} {w : World} {K : PySem.W.Frag} {mg : Str → Option Value} {base : Heap}
theorem ok__pair_at (T : Txt K mg) : FnOk P w K mg base CX0 3 T.f__pair_at T.d__pair_at ["one", "other", "letter", "row"] (sp__pair_at P w) := by
  have G_state_by_numbers : FnOk P w K mg base CX0 2 T.f_state_by_numbers T.d_state_by_numbers ["judge", "letter", "numbers"] (sp_state_by_numbers P w) := ok_state_by_numbers T
  refine T.F__pair_at.ok sc__pair_at (fun vs H Q E h => ?_) (fun cdv A outer s H vs Q E hr h => ?_)
  · obtain ⟨v1, v2, A, B, c, b, row, rfl, _⟩ := h
    rfl
  obtain ⟨v1, v2, A, B, c, b, row, rfl, hA, okA, hB, okB, hL, hc, hl, hb, q⟩ := h
  refine ⟨_, (pss_cons (ps_set (i := 4) sc__pair_at.nd rfl (Or.inr rfl) (pe_ix ix_tup (pv 1) pe_int (fun _ _ => rfl))) (pss_cons (ps_setLc (i := 5) (own := [("first", 7)]) (g := gName 7) (te := tCB (rSumT K) (tCons (tSl (rSlA K) (tVar 3) (tPart (tOp _ (tVar 7) (tVar 4))) (tPart (tOp _ (tOp _ (tVar 7) (tC (.int 1))) (tVar 4)))) tNil)) (tt := tYes) rfl sc__pair_at.nd rfl rfl (sw_true rfl rfl rfl (by decide +kernel)) (pi_range1 (by rfl) T.z_range (pa_cons (pe_ix ix_tup (pv 0) pe_int (fun _ _ => rfl)) pa_nil)) (blkOk_by (own := [("first", 7)]) (N := ["one", "other", "letter", "row", "width", "ones", "others", "first", "second"]) (sc := (defScope s__pair_at)) (by decide +kernel)) (fun _ _ _ _ _ => (pg_name (i := 7) sc__pair_at.nd rfl (Or.inl rfl))) (fun _ _ _ _ _ => pts_nil) (fun _ _ _ _ _ => (pe_callB (cr_sumT rfl) (by rfl) T.z_sum (by decide +kernel) (pa_cons (pe_slice sl_tupA (pv 3) (po_some (pe_op op_mul (pv 7) (pv 4))) (po_some (pe_op op_mul (pe_op op_add (pv 7) pe_int) (pv 4)))) pa_nil)))) (pss_cons (ps_setLc (i := 6) (own := [("second", 8)]) (g := gName 8) (te := tCB (rSumT K) (tCons (tStepT K (tVar 3) (tVar 8) (tVar 4)) tNil)) (tt := tYes) rfl sc__pair_at.nd rfl rfl (sw_true rfl rfl rfl (by decide +kernel)) (pi_range1 (by rfl) T.z_range (pa_cons (pv 4) pa_nil)) (blkOk_by (own := [("second", 8)]) (N := ["one", "other", "letter", "row", "width", "ones", "others", "first", "second"]) (sc := (defScope s__pair_at)) (by decide +kernel)) (fun _ _ _ _ _ => (pg_name (i := 8) sc__pair_at.nd rfl (Or.inl rfl))) (fun _ _ _ _ _ => pts_nil) (fun _ _ _ _ _ => (pe_callB (cr_sumT rfl) (by rfl) T.z_sum (by decide +kernel) (pa_cons (pe_stepT (pv 3) (pv 8) (pv 4)) pa_nil)))) (pss_one (ps_ret (pe_op op_add (pe_op op_mul (pe_call G_state_by_numbers (hr.mono (by omega)) (by rfl) T.m_state_by_numbers T.F_state_by_numbers.kp T.b_state_by_numbers .nil pass0 (pa_cons (pv 0) (pa_cons (pv 2) (pa_cons (pv 5) pa_nil)))) (pv 4)) (pe_call G_state_by_numbers (hr.mono (by omega)) (by rfl) T.m_state_by_numbers T.F_state_by_numbers.kp T.b_state_by_numbers .nil pass0 (pa_cons (pv 1) (pa_cons (pv 2) (pa_cons (pv 6) pa_nil)))))))))), ?_⟩
  obtain ⟨j1, _, _, _, _, e1, hj1, _⟩ := id hA
  obtain ⟨j2, _, _, _, _, e2, hj2, _⟩ := id hB
  subst e1 e2
  have n1 := okA.n1
  have n6 := okA.n6
  have m1 := okB.n1
  have m6 := okB.n6
  refine ⟨_, rfl, j2, _, 1, _, rfl, rfl, SqT.of hj2, atI_nat (j := 1) rfl, ?_⟩
  refine ⟨_, rfl, j1, _, 1, _, rfl, rfl, SqT.of hj1, atI_nat (j := 1) rfl, A.n, rfl, by omega, by omega, fun D hD => ?_⟩
  refine lc_range (lo := 0) (n := A.n) (fun i H2 => H2 D = some (.lst (((List.range i).map fun f => ((row.drop (f * B.n)).take B.n).sum).map nI)) ∧ Same H H2) ⟨upd_same, same_new hD⟩ ?_ ?_
  · rintro i H2 hi ⟨g1, g2⟩
    have le : i * B.n + B.n ≤ A.n * B.n := by rw [← Nat.succ_mul]; exact Nat.mul_le_mul_right _ hi
    have q1 : ((0 : Int) + (i : Int)) * (B.n : Int) = ((i * B.n : Nat) : Int) := by rw [Int.zero_add]; push_cast; rfl
    have q2 : ((0 : Int) + (i : Int) + 1) * (B.n : Int) = ((i * B.n + B.n : Nat) : Int) := by rw [Int.zero_add, Int.add_mul, Int.one_mul]; push_cast; rfl
    refine ⟨rfl, _, rfl, _, rfl, _, rfl, _, _, rfl, rfl, .inl ⟨by omega, by omega⟩, _, rfl, _, rfl, _, _, rfl, rfl, _, rfl, _, _, rfl, rfl, .inl ⟨by omega, by omega⟩, _, rfl, ?_⟩
    show rSlA K (.ref b) (some (((0 : Int) + (i : Int)) * (B.n : Int))) (some (((0 : Int) + (i : Int) + 1) * (B.n : Int))) H2 _
    rw [q1, q2]
    refine slA (g2 _ _ hb) fun t H3 s3 kt _ => ?_
    rw [cut_mid (by omega) (by rw [List.length_map]; omega), Nat.add_sub_cancel_left, ← List.map_drop, ← List.map_take, nI_map] at kt
    refine ⟨t, _, rfl, SqT.of kt, _, s3 _ _ g1, ?_, ?_, same_add (g2.trans s3) hD⟩
    · rw [List.length_map, List.length_map, List.length_range]
      exact Nat.lt_of_le_of_lt (show _ ≤ 1000000 by omega) (by decide)
    · rw [upd_same, List.range_succ, List.map_append, List.map_append, sum_ints]
      rfl
  rintro H2 ⟨g1, g2⟩
  refine ⟨_, rfl, B.n, rfl, by omega, by omega, fun D2 hD2 => ?_⟩
  refine lc_range (lo := 0) (n := B.n) (fun i H3 => H3 D2 = some (.lst (((List.range i).map fun s => (everyV B.n s row).sum).map nI)) ∧ Same H2 H3) ⟨upd_same, same_new hD2⟩ ?_ ?_
  · rintro i H3 hi ⟨k1, k2⟩
    have S3 := g2.trans k2
    have pos : B.n ≤ A.n * B.n := Nat.le_mul_of_pos_left _ n1
    have fin : ∀ (t : Addr) (H4 : Hp), Same H3 H4 → H4 t = some (.tup ((everyV B.n i row).map nI)) → ∃ (a : Addr) (ns : List Int), [V.ref t] = [V.ref a] ∧ SqT K H4 a (ns.map V.int) ∧ ∃ acc, H4 D2 = some (.lst acc) ∧ acc.length < sizeLine ∧ (upd H4 D2 (.lst (acc ++ [V.int ns.sum]))) D2 = some (.lst (((List.range (i + 1)).map fun s => (everyV B.n s row).sum).map nI)) ∧ Same H2 (upd H4 D2 (.lst (acc ++ [V.int ns.sum]))) := fun t H4 s4 kt => by
      rw [nI_map] at kt
      refine ⟨t, _, rfl, SqT.of kt, _, s4 _ _ k1, ?_, ?_, same_add (k2.trans s4) hD2⟩
      · rw [List.length_map, List.length_map, List.length_range]
        exact Nat.lt_of_le_of_lt (show _ ≤ 1000000 by omega) (by decide)
      · rw [upd_same, List.range_succ, List.map_append, List.map_append, sum_ints]
        rfl
    refine ⟨rfl, _, rfl, _, rfl, _, rfl, _, rfl, _, rfl, b, _, i, B.n, rfl, congrArg some (Int.zero_add _), rfl, SqT.of (S3 _ _ hb), m1, by rw [List.length_map]; omega, fun whole => ?_, fun _ t ht => ?_⟩
    · refine fin b H3 (Same.refl _) ?_
      rw [whole.1, whole.2, everyV_one]
      exact S3 _ _ hb
    · refine fin t _ (same_new ht) ?_
      rw [upd_same, everyV_map]
  rintro H3 ⟨k1, k2⟩
  have S3 := g2.trans k2
  refine ⟨_, rfl, _, rfl, _, rfl, .ref j1, A, c, D, onesOf A.n B.n row, rfl, hA.same S3, okA, hc, onesOf_len _ _ _, k2 _ _ g1, fun H4 s4 => ?_⟩
  have b1 := okA.sf_lt hc (onesOf_len A.n B.n row)
  refine ⟨_, rfl, _, _, rfl, rfl, .inl ⟨by omega, by omega⟩, _, rfl, _, rfl, _, rfl, .ref j2, B, c, D2, othersOf B.n row, rfl, hB.same (S3.trans s4), okB, by rw [← hL]; exact hc, othersOf_len _ _, s4 _ _ k1, fun H5 s5 => ⟨_, _, rfl, rfl, ?_⟩⟩
  have e : ((A.sf c (onesOf A.n B.n row) : Nat) : Int) * (B.n : Int) + ((B.sf c (othersOf B.n row) : Nat) : Int) = ((A.sf c (onesOf A.n B.n row) * B.n + B.sf c (othersOf B.n row) : Nat) : Int) := by push_cast; rfl
  show Q (V.int (((A.sf c (onesOf A.n B.n row) : Nat) : Int) * (B.n : Int) + ((B.sf c (othersOf B.n row) : Nat) : Int))) H5
  rw [e]
  exact q H5 ((S3.trans s4).trans s5)
end

abbrev pairT (A B : JD) (q : Nat × Nat) : HO := .tup [nI (q.1 * B.n + q.2), .bl (decide (q.1 ∈ A.good)), .bl (decide (q.2 ∈ B.good))]
def PairsAt (H : Hp) (A B : JD) (bs : List Addr) (ps : List (Nat × Nat)) : Prop := Paired (fun (b : Addr) (q : Nat × Nat) => H b = some (pairT A B q)) bs ps
theorem PairsAt.keep {H H' : Hp} {A B : JD} {bs : List Addr} {ps : List (Nat × Nat)} (x : PairsAt H A B bs ps) (h : ∀ b xs, H b = some (.tup xs) → H' b = some (.tup xs)) : PairsAt H' A B bs ps := Paired.mapP x fun _ _ e => h _ _ e
def allPairs (n m : Nat) : List (Nat × Nat) := (List.range n).flatMap fun f => (List.range m).map fun s => (f, s)
theorem pairs_len (m : Nat) : ∀ l : List Nat, (l.flatMap fun f => (List.range m).map fun s => (f, s)).length = l.length * m
  | [] => by simp
  | a :: t => by rw [List.flatMap_cons, List.length_append, List.length_map, List.length_range, pairs_len m t, List.length_cons, Nat.succ_mul, Nat.add_comm]
theorem goods_eq {p : Nat × Nat → Bool} {g : Nat × Nat → Nat} (m : Nat) : ∀ l : List Nat, ((l.flatMap fun f => (List.range m).map fun s => (f, s)).filter p).map g = l.flatMap fun f => ((List.range m).filter fun s => p (f, s)).map fun s => g (f, s)
  | [] => rfl
  | a :: t => by
    rw [List.flatMap_cons, List.filter_append, List.map_append, goods_eq m t, List.flatMap_cons, List.filter_map, List.map_map]
    rfl
def sp_judges_joined (P : Program) (w : World) (TT : List NdefX.NTab) : Sp := fun vs H Q _ => ∃ (both : Bool) (v1 v2 : V) (A B : JD), vs = [.str (wordJ both), v1, v2] ∧ JAt P w H v1 A ∧ A.ok ∧ JAt P w H v2 B ∧ B.ok ∧ A.L = B.L ∧ Rises A.L ∧ A.n * B.n ≤ 6 ∧ A.turn.lcm B.turn ≤ 4 ∧ A.L.length * (max A.few B.few + A.turn.lcm B.turn) ^ (A.n * B.n) ≤ 600 ∧ NdefX.TabsN TT H ∧
  ∀ v H', LamX.ExtN H H' → NdefX.TabsN TT H' → JAt P w H' v (joinJ both A B) → Q v H'
structure TTq {K : PySem.W.Frag} {mg : Str → Option Value} (T : Txt K mg) (TT : List NdefX.NTab) : Prop where
  r1 : (T.P_judges_joined, fun _ _ => q_judges_joined) ∈ TT
  r2 : ∀ z ∈ TT, z.1 = T.P_judges_joined → z.2 = fun _ _ => q_judges_joined
section
variable {P : Program} {w : World} {K : PySem.W.Frag} {mg : Str → Option Value} {base : Heap}
theorem ok__good_pairs (T : Txt K mg) : FnOk P w K mg base CX0 1 T.f__good_pairs T.d__good_pairs ["word", "one", "other"] (sp__good_pairs P w) := by
  refine T.F__good_pairs.ok sc__good_pairs (fun vs H Q E h => ?_) (fun cdv A outer s H vs Q E hr h => ?_)
  · obtain ⟨both, v1, v2, A, B, rfl, _⟩ := h
    rfl
  obtain ⟨both, v1, v2, A, B, rfl, hA, okA, hB, okB, q⟩ := h
  refine ⟨_, (pss_cons (ps_setLc2 (i := 3) (own := [("first", 4), ("second", 5)]) (vs1 := [5]) (g := gName 4) (g1 := gName 5) (tt := tYes) (tt1 := tYes) (wi1 := iRng1 (tCons (tOp (rIxT K) (tVar 2) (tC (.int 1))) tNil)) (te := tTup (tCons (tOp _ (tOp _ (tVar 4) (tOp (rIxT K) (tVar 2) (tC (.int 1)))) (tVar 5)) (tCons (tOp (rIn K false) (tVar 4) (tOp (rIxT K) (tVar 1) (tC (.int 5)))) (tCons (tOp (rIn K false) (tVar 5) (tOp (rIxT K) (tVar 2) (tC (.int 5)))) tNil)))) rfl sc__good_pairs.nd rfl rfl (sw_true rfl rfl rfl (by decide +kernel)) (pi_range1 (by rfl) T.z_range (pa_cons (pe_ix ix_tup (pv 1) pe_int (fun _ _ => rfl)) pa_nil)) (blkOk_by (own := [("first", 4), ("second", 5)]) (N := ["word", "one", "other", "rows", "first", "second", "pair", "by_one", "by_other"]) (sc := (defScope s__good_pairs)) (by decide +kernel)) (by decide) (fun _ _ _ _ _ => (pg_name (i := 4) sc__good_pairs.nd rfl (Or.inl rfl))) (fun _ _ _ _ _ => pts_nil) (fun _ _ _ _ _ => (pi_range1 (by rfl) T.z_range (pa_cons (pe_ix ix_tup (pv 2) pe_int (fun _ _ => rfl)) pa_nil))) (fun _ _ _ _ _ => (pg_name (i := 5) sc__good_pairs.nd rfl (Or.inl rfl))) (fun _ _ _ _ _ => pts_nil) (fun _ _ _ _ _ => (pe_tup (pa_cons (pe_op op_add (pe_op op_mul (pv 4) (pe_ix ix_tup (pv 2) pe_int (fun _ _ => rfl))) (pv 5)) (pa_cons (pe_cmpR op_in_seq (pv 4) (pe_ix ix_tup (pv 1) pe_int (fun _ _ => rfl)) (by rfl)) (pa_cons (pe_cmpR op_in_seq (pv 5) (pe_ix ix_tup (pv 2) pe_int (fun _ _ => rfl)) (by rfl)) pa_nil)))))) (pss_cons (ps_if (pt_cmpR op_eq (pv 0) pe_str (nomark _)) (pss_one (ps_ret (pe_lc (own := [("pair", 6), ("by_one", 7), ("by_other", 8)]) (g := gTup K 3 (gCons (gName 6) (gCons (gName 7) (gCons (gName 8) gNil)))) rfl sc__good_pairs.nd (pi_list (pv 3)) (blkOk_by (own := [("pair", 6), ("by_one", 7), ("by_other", 8)]) (N := ["word", "one", "other", "rows", "first", "second", "pair", "by_one", "by_other"]) (sc := (defScope s__good_pairs)) (by decide +kernel)) (fun _ _ _ _ _ => (pg_tup rfl (pgs_cons (pg_name (i := 6) sc__good_pairs.nd rfl (Or.inl rfl)) (pgs_cons (pg_name (i := 7) sc__good_pairs.nd rfl (Or.inl rfl)) (pgs_cons (pg_name (i := 8) sc__good_pairs.nd rfl (Or.inl rfl)) pgs_nil))))) (fun _ _ _ _ _ => pts_one (PW.pt (pw_and (pt_val (pv 7)) (pw_and1 (pt_val (pv 8)))))) (fun _ _ _ _ _ => (pv 6))))) pss_nil) (pss_one (ps_ret (pe_lc (own := [("pair", 6), ("by_one", 7), ("by_other", 8)]) (g := gTup K 3 (gCons (gName 6) (gCons (gName 7) (gCons (gName 8) gNil)))) rfl sc__good_pairs.nd (pi_list (pv 3)) (blkOk_by (own := [("pair", 6), ("by_one", 7), ("by_other", 8)]) (N := ["word", "one", "other", "rows", "first", "second", "pair", "by_one", "by_other"]) (sc := (defScope s__good_pairs)) (by decide +kernel)) (fun _ _ _ _ _ => (pg_tup rfl (pgs_cons (pg_name (i := 6) sc__good_pairs.nd rfl (Or.inl rfl)) (pgs_cons (pg_name (i := 7) sc__good_pairs.nd rfl (Or.inl rfl)) (pgs_cons (pg_name (i := 8) sc__good_pairs.nd rfl (Or.inl rfl)) pgs_nil))))) (fun _ _ _ _ _ => pts_one (PW.pt (pw_or (pt_val (pv 7)) (pw_or1 (pt_val (pv 8)))))) (fun _ _ _ _ _ => (pv 6))))))), ?_⟩
  obtain ⟨j1, d1, g1, _, _, e1, hj1, _, _, _, _, hg1⟩ := hA
  obtain ⟨j2, d2, g2, _, _, e2, hj2, _, _, _, _, hg2⟩ := hB
  subst e1 e2
  have n1 := okA.n1
  have n6 := okA.n6
  have m1 := okB.n1
  have m6 := okB.n6
  refine ⟨_, rfl, j1, _, 1, _, rfl, rfl, SqT.of hj1, atI_nat (j := 1) rfl, A.n, rfl, by omega, by omega, fun D hD => ?_⟩
  refine lc_walk (len := A.n) (walk_range (lo := 0)) (fun i H2 => ∃ bs : List Addr, H2 D = some (.lst (bs.map V.ref)) ∧ PairsAt H2 A B bs ((List.range i).flatMap fun f => (List.range B.n).map fun s => (f, s)) ∧ Same H H2) ⟨[], upd_same, .nil, same_new hD⟩ (fun _ _ _ _ => trivial) ?_ ?_
  · rintro i x H2 H3 hi ⟨bs, k1, k2, k3⟩ ⟨rfl, rfl⟩
    have lb := Paired.length k2
    rw [pairs_len, List.length_range] at lb
    have lb2 : bs.length ≤ 6 * 6 := by rw [lb]; exact Nat.mul_le_mul (by omega) m6
    refine ⟨rfl, _, rfl, j2, _, 1, _, rfl, rfl, SqT.of (k3 _ _ hj2), atI_nat (j := 1) rfl, B.n, rfl, by omega, by omega, ?_⟩
    refine lc_walk (len := B.n) (walk_range (lo := 0)) (fun m H3 => ∃ cs : List Addr, H3 D = some (.lst ((bs ++ cs).map V.ref)) ∧ PairsAt H3 A B bs ((List.range i).flatMap fun f => (List.range B.n).map fun s => (f, s)) ∧ PairsAt H3 A B cs ((List.range m).map fun s => (i, s)) ∧ Same H H3) ⟨[], by simpa using k1, k2, .nil, k3⟩ (fun _ _ _ _ => trivial) ?_ ?_
    · rintro m z H4 H5 hm ⟨cs, c1, c2, c3, c4⟩ ⟨rfl, rfl⟩
      have lc := Paired.length c3
      rw [List.length_map, List.length_range] at lc
      have e0 : V.int (0 + (i : Int)) = nI i := by rw [Int.zero_add]
      have e1 : V.int (0 + (m : Int)) = nI m := by rw [Int.zero_add]
      have e2 : ((0 : Int) + (i : Int)) * (B.n : Int) + (0 + (m : Int)) = ((i * B.n + m : Nat) : Int) := by rw [Int.zero_add, Int.zero_add]; push_cast; rfl
      refine ⟨rfl, _, rfl, _, rfl, j2, _, 1, _, rfl, rfl, SqT.of (c4 _ _ hj2), atI_nat (j := 1) rfl, _, _, rfl, rfl, .inl ⟨by omega, by omega⟩, _, rfl, _, _, rfl, rfl, _, rfl, _, rfl, j1, _, 5, .ref g1, rfl, rfl, SqT.of (c4 _ _ hj1), atI_nat (j := 5) rfl, g1, _, rfl, .inl (SqL.of (c4 _ _ hg1)), rfl, flat_nI _, ?_⟩
      rw [if_neg (by decide)]
      rw [show inV (V.int (0 + (i : Int))) (A.good.map nI) = decide (i ∈ A.good) by rw [e0, inV_nI]]
      refine ⟨_, rfl, _, rfl, j2, _, 5, .ref g2, rfl, rfl, SqT.of (c4 _ _ hj2), atI_nat (j := 5) rfl, g2, _, rfl, .inl (SqL.of (c4 _ _ hg2)), rfl, flat_nI _, ?_⟩
      rw [if_neg (by decide)]
      rw [show inV (V.int (0 + (m : Int))) (B.good.map nI) = decide (m ∈ B.good) by rw [e1, inV_nI]]
      refine ⟨(by show 3 ≤ sizeLine; decide), fun t ht => ?_⟩
      rw [show HO.tup [V.int (((0 : Int) + (i : Int)) * (B.n : Int) + (0 + (m : Int))), .bl (decide (i ∈ A.good)), .bl (decide (m ∈ B.good))] = pairT A B (i, m) from congrArg (fun z => HO.tup [V.int z, .bl (decide (i ∈ A.good)), .bl (decide (m ∈ B.good))]) e2]
      have st := same_new ht (o := pairT A B (i, m))
      have kt := upd_same (H := H5) (a := t) (o := pairT A B (i, m))
      have kD := st _ _ c1
      have tk := upd_tup (o := .lst ((bs ++ cs).map V.ref ++ [V.ref t])) kD
      refine ⟨_, kD, ?_, cs ++ [t], ?_, (c2.keep fun b xs e => st _ _ e).keep tk, ?_, same_add (c4.trans st) hD⟩
      · rw [List.length_map, List.length_append, lc]
        exact Nat.lt_of_le_of_lt (show _ ≤ 1000000 by omega) (by decide)
      · rw [upd_same, ← List.append_assoc, List.map_append (l₂ := [t])]
        rfl
      · rw [List.range_succ, List.map_append (f := fun s => (i, s))]
        exact prd_app ((PairsAt.keep c3 fun b xs e => st _ _ e).keep tk) (.cons (tk _ _ kt) .nil)
    · rintro H4 ⟨cs, c1, c2, c3, c4⟩
      refine ⟨bs ++ cs, c1, ?_, c4⟩
      rw [List.range_succ, List.flatMap_append]
      simp only [List.flatMap_cons, List.flatMap_nil, List.append_nil]
      exact prd_app c2 c3
  rintro H2 ⟨bs, k1, k2, k3⟩
  have k2 : PairsAt H2 A B bs (allPairs A.n B.n) := k2
  have lb : bs.length = (allPairs A.n B.n).length := Paired.length k2
  have l36 : (allPairs A.n B.n).length ≤ 36 := by
    unfold allPairs
    rw [pairs_len, List.length_range]
    exact Nat.mul_le_mul n6 m6
  have step : ∀ (p : Nat × Nat → Bool) (D2 : Addr) (i : Nat) (H3 : Hp) (x : V), H2 D2 = none → (bs.map V.ref)[i]? = some x → H3 D2 = some (.lst (((((allPairs A.n B.n).take i).filter p).map fun q => q.1 * B.n + q.2).map nI)) → Same H2 H3 → ∃ (b : Addr) (f t : Nat), x = .ref b ∧ (allPairs A.n B.n)[i]? = some (f, t) ∧ H3 b = some (pairT A B (f, t)) ∧
      (p (f, t) = true → ∃ acc, H3 D2 = some (.lst acc) ∧ acc.length < sizeLine ∧ (upd H3 D2 (.lst (acc ++ [nI (f * B.n + t)]))) D2 = some (.lst (((((allPairs A.n B.n).take (i + 1)).filter p).map fun q => q.1 * B.n + q.2).map nI)) ∧ Same H2 (upd H3 D2 (.lst (acc ++ [nI (f * B.n + t)])))) ∧
      (p (f, t) = false → H3 D2 = some (.lst (((((allPairs A.n B.n).take (i + 1)).filter p).map fun q => q.1 * B.n + q.2).map nI)) ∧ Same H2 H3) := fun p D2 i H3 x hD2 hx u1 u2 => by
    rw [List.getElem?_map] at hx
    cases hb : bs[i]? with
    | none => rw [hb] at hx; cases hx
    | some b =>
    rw [hb] at hx
    cases hx
    obtain ⟨⟨f, t⟩, hq, kb⟩ := prd_at k2 hb
    have ln := Nat.le_trans (List.length_filter_le p ((allPairs A.n B.n).take i)) (List.length_take_le' _ _)
    refine ⟨b, f, t, rfl, hq, u2 _ _ kb, fun h => ⟨_, u1, ?_, ?_, same_add u2 hD2⟩, fun h => ⟨?_, u2⟩⟩
    · rw [List.length_map, List.length_map]
      exact Nat.lt_of_le_of_lt (show _ ≤ 1000000 by omega) (by decide)
    · rw [upd_same, take_succ_of hq, List.filter_append, List.filter_cons, h, if_pos rfl, List.map_append, List.map_append]
      rfl
    · rw [take_succ_of hq, List.filter_append, List.filter_cons, h, if_neg (by decide), List.filter_nil, List.append_nil]
      exact u1
  cases both with
  | true =>
    refine ⟨_, rfl, rfl, _, rfl, eqT rfl ?_⟩
    refine ⟨_, rfl, D, rfl, ⟨_, SqL.of k1⟩, fun D2 hD2 => ?_⟩
    refine lc_list (xs := bs.map V.ref) (fun i H3 => H3 D2 = some (.lst (((((allPairs A.n B.n).take i).filter fun q => decide (q.1 ∈ A.good) && decide (q.2 ∈ B.good)).map fun q => q.1 * B.n + q.2).map nI)) ∧ Same H2 H3) ⟨upd_same, same_new hD2⟩ (fun i H3 _ h => SqL.of (h.2 _ _ k1)) ?_ ?_
    · rintro i x H3 hx ⟨u1, u2⟩
      obtain ⟨b, f, t, rfl, hq, kb, yes, no⟩ := step _ D2 i H3 x hD2 hx u1 u2
      refine ⟨_, _, rfl, SqT.of kb, rfl, _, _, rfl, _, _, rfl, _, _, rfl, rfl, rfl, _, rfl, _, rfl, ite2 (fun h1 => ?_) (fun h1 => ?_)⟩
      · refine ⟨_, rfl, _, rfl, ite2 (fun h2 => ?_) (fun h2 => ?_)⟩
        · exact ⟨_, rfl, yes (by dsimp only; rw [h1, h2]; rfl)⟩
        · exact no (by dsimp only; rw [h1, Bool.eq_false_iff.mpr h2]; rfl)
      · exact iteF (no (by dsimp only; rw [Bool.eq_false_iff.mpr h1]; rfl))
    · rintro H3 ⟨u1, u2⟩
      rw [List.length_map, lb, List.take_length] at u1
      refine q D2 H3 (k3.trans u2) (k3.free hD2) ?_
      rw [u1]
      unfold allPairs
      rw [goods_eq]
      rfl
  | false =>
    refine ⟨_, rfl, rfl, _, rfl, eqF (by intro e; exact absurd (V.str.inj e) (by decide +kernel)) ?_⟩
    refine ⟨_, rfl, D, rfl, ⟨_, SqL.of k1⟩, fun D2 hD2 => ?_⟩
    refine lc_list (xs := bs.map V.ref) (fun i H3 => H3 D2 = some (.lst (((((allPairs A.n B.n).take i).filter fun q => decide (q.1 ∈ A.good) || decide (q.2 ∈ B.good)).map fun q => q.1 * B.n + q.2).map nI)) ∧ Same H2 H3) ⟨upd_same, same_new hD2⟩ (fun i H3 _ h => SqL.of (h.2 _ _ k1)) ?_ ?_
    · rintro i x H3 hx ⟨u1, u2⟩
      obtain ⟨b, f, t, rfl, hq, kb, yes, no⟩ := step _ D2 i H3 x hD2 hx u1 u2
      refine ⟨_, _, rfl, SqT.of kb, rfl, _, _, rfl, _, _, rfl, _, _, rfl, rfl, rfl, _, rfl, _, rfl, ite2 (fun h1 => ?_) (fun h1 => ?_)⟩
      · exact iteT ⟨_, rfl, yes (by dsimp only; rw [h1]; rfl)⟩
      · refine ⟨_, rfl, _, rfl, ite2 (fun h2 => ?_) (fun h2 => ?_)⟩
        · exact ⟨_, rfl, yes (by dsimp only; rw [Bool.eq_false_iff.mpr h1, h2]; rfl)⟩
        · exact no (by dsimp only; rw [Bool.eq_false_iff.mpr h1, Bool.eq_false_iff.mpr h2]; rfl)
    · rintro H3 ⟨u1, u2⟩
      rw [List.length_map, lb, List.take_length] at u1
      refine q D2 H3 (k3.trans u2) (k3.free hD2) ?_
      rw [u1]
      unfold allPairs
      rw [goods_eq]
      rfl
def sp_join_lam (P : Program) (w : World) (A B : JD) (v1 v2 : V) : Sp := fun vs H Q _ => ∃ (c : Nat) (b : Addr) (row : List Nat), vs = [.str (ch c), .ref b] ∧ c ∈ A.L.cps.toList ∧ row.length = A.n * B.n ∧ H b = some (.tup (row.map nI)) ∧ JAt P w H v1 A ∧ JAt P w H v2 B ∧ ∀ H', Same H H' → Q (nI ((joinJ true A B).fs c row)) H'
theorem ok_judges_joined (T : Txt K mg) (B : Tbs T base) {TT : List NdefX.NTab} (hTT : TTq T TT) : FnOk P w K mg base CX0 12 T.f_judges_joined T.d_judges_joined ["word", "one", "other"] (sp_judges_joined P w TT) := by
  have G_table_made : FnOk P w K mg base CX0 10 T.f_table_made T.d_table_made ["letters", "states", "few", "turn", "state_at"] (sp_table_made P w K mg base) := ok_table_made T
  have G__good_pairs : FnOk P w K mg base CX0 1 T.f__good_pairs T.d__good_pairs ["word", "one", "other"] (sp__good_pairs P w) := ok__good_pairs T
  refine okC T.F_judges_joined T.h_judges_joined sc_judges_joined (fun vs H Q E h => ?_) (fun A outer s H vs Q E hr h => ?_)
  · obtain ⟨both, v1, v2, A, B, rfl, _⟩ := h
    rfl
  obtain ⟨both, v1, v2, J, J2, rfl, h1, ok1, h2, ok2, hL, hri, h6, ht4, h600, hT, q⟩ := h
  refine ⟨_, (pss_cons (ps_set (i := 3) sc_judges_joined.nd rfl (Or.inl rfl) (pe_ix ix_tup (pv 1) pe_int (fun _ _ => rfl))) (pss_cons (ps_if (pt_cmpR op_ne (pv 3) (pe_ix ix_tup (pv 2) pe_int (fun _ _ => rfl)) (nomark _)) (pss_one ps_never) pss_nil) (pss_cons (ps_set (i := 4) sc_judges_joined.nd rfl (Or.inl rfl) (pe_op op_mul (pe_ix ix_tup (pv 1) pe_int (fun _ _ => rfl)) (pe_ix ix_tup (pv 2) pe_int (fun _ _ => rfl)))) (pss_cons (ps_if (pt_cmpR op_gt (pv 4) (pe_glob (v := .int (6)) rfl T.g_MOST_STATES ⟨_, rfl⟩) (nomark _)) (pss_one ps_never) pss_nil) (pss_cons (ps_set (i := 5) sc_judges_joined.nd rfl (Or.inl rfl) (pe_callB (call_max2 rfl) (by rfl) T.z_max (by decide +kernel) (pa_cons (pe_ix ix_tup (pv 1) pe_int (fun _ _ => rfl)) (pa_cons (pe_ix ix_tup (pv 2) pe_int (fun _ _ => rfl)) pa_nil)))) (pss_cons (ps_set (i := 6) sc_judges_joined.nd rfl (Or.inl rfl) (pe_callBfun cr_lcm (by rfl) T.g_lcm (pa_cons (pe_ix ix_tup (pv 1) pe_int (fun _ _ => rfl)) (pa_cons (pe_ix ix_tup (pv 2) pe_int (fun _ _ => rfl)) pa_nil)))) (pss_cons (ps_set (i := 7) sc_judges_joined.nd rfl (Or.inl rfl) (pe_callLd G_table_made (hr.mono (by omega)) (by rfl) T.m_table_made T.F_table_made.kp T.b_table_made (fun _ => rfl) (pa_cons (pv 3) (pa_cons (pv 4) (pa_cons (pv 5) (pa_cons (pv 6) (pa_cons (pe_lamXc B.tb_judges_joined rfl (by rfl) (fr := ["one", "other"]) (by show NdefX.ndefB (defScope s_judges_joined) _ _ = true; decide +kernel)) pa_nil))))))) (pss_one (ps_ret (pe_tup (pa_cons (pv 3) (pa_cons (pv 4) (pa_cons (pv 5) (pa_cons (pv 6) (pa_cons (pv 7) (pa_cons (pe_call G__good_pairs (hr.mono (by omega)) (by rfl) T.m__good_pairs T.F__good_pairs.kp T.b__good_pairs .nil pass0 (pa_cons (pv 0) (pa_cons (pv 1) (pa_cons (pv 2) pa_nil)))) pa_nil)))))))))))))))), ?_⟩
  obtain ⟨j1, d1, g1, _, _, e1, hj1, _⟩ := id h1
  obtain ⟨j2, d2, g2, _, _, e2, hj2, _⟩ := id h2
  subst e1 e2
  have n1 := ok1.n1
  have n6 := ok1.n6
  have m1 := ok2.n1
  have m6 := ok2.n6
  refine ⟨_, rfl, j1, _, 0, _, rfl, rfl, SqT.of hj1, atI_nat (j := 0) rfl, ?_⟩
  refine ⟨_, rfl, _, rfl, j2, _, 0, _, rfl, rfl, SqT.of hj2, atI_nat (j := 0) rfl, rfl, _, rfl, neS (congrArg V.str hL) ?_⟩
  refine ⟨_, rfl, j1, _, 1, _, rfl, rfl, SqT.of hj1, atI_nat (j := 1) rfl, _, rfl, j2, _, 1, _, rfl, rfl, SqT.of hj2, atI_nat (j := 1) rfl, _, _, rfl, rfl, .inl ⟨by omega, by omega⟩, ?_⟩
  have ep : (J.n : Int) * (J2.n : Int) = ((J.n * J2.n : Nat) : Int) := by push_cast; rfl
  show gName 4 (.int ((J.n : Int) * (J2.n : Int))) _ _ _
  rw [ep]
  refine ⟨_, rfl, _, _, rfl, rfl, _, rfl, dF (by omega) ?_⟩
  refine ⟨_, rfl, j1, _, 2, _, rfl, rfl, SqT.of hj1, atI_nat (j := 2) rfl, _, rfl, j2, _, 2, _, rfl, rfl, SqT.of hj2, atI_nat (j := 2) rfl, _, _, rfl, ?_⟩
  have ef : (if (J2.few : Int) > (J.few : Int) then (J2.few : Int) else (J.few : Int)) = ((max J.few J2.few : Nat) : Int) := by split <;> omega
  show gName 5 (.int (if (J2.few : Int) > (J.few : Int) then (J2.few : Int) else (J.few : Int))) _ _ _
  rw [ef]
  have t4a := ok1.t4
  have t4b := ok2.t4
  refine ⟨_, rfl, j1, _, 3, _, rfl, rfl, SqT.of hj1, atI_nat (j := 3) rfl, _, rfl, j2, _, 3, _, rfl, rfl, SqT.of hj2, atI_nat (j := 3) rfl, J.turn, J2.turn, rfl, by omega, by omega, ?_⟩
  refine ⟨_, rfl, _, rfl, _, rfl, _, rfl, NdefX.TabN.to (hT _ hTT.r1), fun f c H1 f1 n1' T1 hf0 hf hc cs hcs => ?_⟩
  have hnew := hcs.new
  have E1 : LamX.ExtN H H1 := extN_of_frP hT hTT.r1 f1
  have TN1 : NdefX.TabsN TT H1 := tabsN_frP hT hTT.r1 hTT.r2 f1 T1
  have k1 := h1.extN E1
  have k2 := h2.extN E1
  have okJ : (joinJ both J J2).ok := joinJ_ok ok1 ok2 hL h6 ht4 h600
  refine ⟨J.L, J.n * J2.n, max J.few J2.few, J.turn.lcm J2.turn, f, (joinJ both J J2).fs, rfl, ok1.L, hri, h6, okJ.f4, okJ.t1, ht4, h600, ?_, fun dd xs H5 e5 hd0 hd5 hrn hrj => ?_⟩
  · refine CalX.imp2 (k := 7 + 1) (calX_lamC (k := 7) (N := ["letter", "row", "one", "other"]) (ps := ["letter", "row"]) (f := f) (F := _) (sp := sp_join_lam P w J J2 (.ref j1) (.ref j2)) (NdefX.nscope_by (by dsimp only; decide +kernel)) (hcs.got _ ["one", "other"] [1, 2] (by show NdefX.ndefB (defScope s_judges_joined) _ _ = true; decide +kernel) rfl) hcs.cel (fun pm ctv us hl => match us, hl with | [_, _], _ => rfl) (fun vs H Q E h => ?_) (fun A outer s H vs Q E hr h => ?_)) (Nat.le_refl _) (fun vs H Q E h => ?_) (fun H' e => ⟨e _ _ (lend_some hnew hf), e _ _ (lend_some hnew hc), lent_extN (.of e)⟩) (fun vs H' Q E e h => ?_)
    · obtain ⟨c, b, row, rfl, _⟩ := h
      rfl
    · obtain ⟨c, b, row, rfl, hc, hl, hb, ha1, ha2, qq⟩ := h
      have G__pair_at : FnOk P w K mg base CX0 3 T.f__pair_at T.d__pair_at ["one", "other", "letter", "row"] (sp__pair_at P w) := ok__pair_at T
      refine ⟨_, (pe_call G__pair_at (hr.mono (by omega)) (by rfl) T.m__pair_at T.F__pair_at.kp T.b__pair_at .nil pass0 (pa_cons (pv 2) (pa_cons (pv 3) (pa_cons (pv 0) (pa_cons (pv 1) pa_nil))))), ?_⟩
      exact ⟨_, rfl, _, rfl, _, rfl, _, rfl, _, _, J, J2, c, b, row, rfl, ha1, ok1, ha2, ok2, hL, hc, hl, hb, fun H2 s2 => qq H2 s2⟩
    · obtain ⟨c, b, row, rfl, _⟩ := h
      rfl
    · obtain ⟨c, b, row, rfl, hc', hl, hb, qq⟩ := h
      have lt : LentAt cs H' := lent_extN (.of e)
      exact ⟨c, b, row, rfl, hc', hl, unl_keep lt hb (fun _ z => by cases z), k1.extN (extN_unl hnew (.of e)), k2.extN (extN_unl hnew (.of e)), fun H2 s2 => qq _ (same_lend lt s2)⟩
  · have lt : LentAt cs H5 := lent_extN (.of e5)
    refine ⟨lt, ?_⟩
    have dout : cs.lookup dd = none := by
      cases e : cs.lookup dd with
      | none => rfl
      | some o => rw [lend_in e] at hd0; cases hd0
    have hdd : (unl H5 cs) dd = some (DictN P w dd xs) := by rw [unl_out dout]; exact hd5
    have E6 : LamX.ExtN H (unl H5 cs) := E1.trans (extN_unl hnew (.of e5))
    have T6 : NdefX.TabsN TT (unl H5 cs) := tabsN_unl hnew ((TN1.ext (fun b o e => lend_some hnew e)).ext e5) lt hcs.cel
    have hrn6 : RowsN (unl H5 cs) xs := hrn.keep fun b ys e => unl_keep lt e (fun _ z => by cases z)
    have k1 := h1.extN E6
    have k2 := h2.extN E6
    generalize unl H5 cs = H6 at *
    refine ⟨_, rfl, _, rfl, _, rfl, _, rfl, _, rfl, _, rfl, _, rfl, _, rfl, both, _, _, J, J2, rfl, k1, ok1, k2, ok2, fun r H7 s7 hr0 hr7 => ⟨(by show 6 ≤ sizeLine; decide), fun j hj => ?_⟩⟩
    have s8 := same_new (o := .tup [V.str J.L, nI (J.n * J2.n), nI (max J.few J2.few), nI (J.turn.lcm J2.turn), V.ref dd, V.ref r]) hj
    have S8 := s7.trans s8
    refine q (.ref j) _ (E6.trans (.of S8)) (T6.ext S8) ⟨j, dd, r, xs, _, rfl, upd_same, S8 _ _ hdd, hrn6.keep (fun b ys e => S8 _ _ e), hrj, List.Perm.refl _, s8 _ _ hr7⟩
end

def tells (J : JD) (t : Tr) : Bool := decide (St J.sf J.n t ∈ J.good)
structure Sm (L : Str) (m : Nat) (J : JD) : Prop where
  ok : J.ok
  L : J.L = L
  n : J.n ≤ m
  few : J.few ≤ 1
  turn : J.turn = 1 ∨ J.turn = 2
theorem Sm.of {L : Str} {m : Nat} {J : JD} (h : J.ok) (hL : J.L = L) (hn : J.n ≤ m) (h2 : J.few + J.turn ≤ 2) : Sm L m J := ⟨h, hL, hn, by have := h.t1; omega, by have := h.t1; omega⟩
theorem Sm.lcm {L : Str} {m k : Nat} {A B : JD} (a : Sm L m A) (b : Sm L k B) : A.turn.lcm B.turn = 1 ∨ A.turn.lcm B.turn = 2 := by
  rcases a.turn with h | h <;> rcases b.turn with g | g <;> rw [h, g] <;> decide
theorem Sm.room {L : Str} {m k : Nat} {A B : JD} (a : Sm L m A) (b : Sm L k B) (l7 : L.length ≤ 7) (mk : m * k ≤ 4) : A.n * B.n ≤ m * k ∧ A.n * B.n ≤ 6 ∧ A.turn.lcm B.turn ≤ 4 ∧ A.L.length * (max A.few B.few + A.turn.lcm B.turn) ^ (A.n * B.n) ≤ 600 := by
  have e1 : A.n * B.n ≤ m * k := Nat.mul_le_mul a.n b.n
  have e2 := a.lcm b
  refine ⟨e1, by omega, by omega, ?_⟩
  rw [a.L]
  have f : max A.few B.few + A.turn.lcm B.turn ≤ 3 := by have := a.few; have := b.few; omega
  have g : (max A.few B.few + A.turn.lcm B.turn) ^ (A.n * B.n) ≤ 3 ^ 4 := Nat.le_trans (Nat.pow_le_pow_left f _) (Nat.pow_le_pow_right (by decide) (by omega))
  exact Nat.le_trans (Nat.mul_le_mul l7 g) (by decide)
theorem Sm.join {L : Str} {m k : Nat} {A B : JD} (both : Bool) (a : Sm L m A) (b : Sm L k B) (l7 : L.length ≤ 7) (mk : m * k ≤ 4) : Sm L (m * k) (joinJ both A B) := by
  obtain ⟨r1, r2, r3, r4⟩ := a.room b l7 mk
  exact ⟨joinJ_ok a.ok b.ok (a.L.trans b.L.symm) r2 r3 r4, a.L, r1, by have := a.few; have := b.few; show max A.few B.few ≤ 1; omega, a.lcm b⟩
theorem tells_join {L : Str} {m k : Nat} {A B : JD} (both : Bool) (a : Sm L m A) (b : Sm L k B) {t : Tr} (ht : t.lets (fun c => c ∈ L.cps.toList)) : tells (joinJ both A B) t = if both then tells A t && tells B t else tells A t || tells B t := by
  have hA : t.lets (fun c => c ∈ A.L.cps.toList) := by rw [a.L]; exact ht
  have hB : t.lets (fun c => c ∈ B.L.cps.toList) := by rw [b.L]; exact ht
  have hl : A.L = B.L := a.L.trans b.L.symm
  have e := St_join (both := both) a.ok b.ok hl t hA
  have e2 : St (joinJ both A B).sf (joinJ both A B).n t = St A.sf A.n t * B.n + St B.sf B.n t := e
  unfold tells
  rw [e2]
  exact goodsJ_in (St_ltJ a.ok t hA) (St_ltJ b.ok t hB)
theorem Sm.same {L : Str} {m k : Nat} {A B : JD} (a : Sm L m A) (b : Sm L k B) : A.L = B.L := a.L.trans b.L.symm
theorem Sm.rises {L : Str} {m : Nat} {A : JD} (a : Sm L m A) (h : Rises L) : Rises A.L := by rw [a.L]; exact h
theorem Sm.lets {L : Str} {m : Nat} {A : JD} (a : Sm L m A) {t : Tr} (h : t.lets (fun c => c ∈ L.cps.toList)) : t.lets (fun c => c ∈ A.L.cps.toList) := by rw [a.L]; exact h
theorem eqv_bl3 (a b c x y z : Bool) : PyData.eqv (.list [.bool a, .bool b, .bool c]) (.list [.bool x, .bool y, .bool z]) = (a == x && b == y && c == z) := by cases a <;> cases b <;> cases c <;> cases x <;> cases y <;> cases z <;> decide +kernel
theorem eqv_bl2 (a b x y : Bool) : PyData.eqv (.list [.bool a, .bool b]) (.list [.bool x, .bool y]) = (a == x && b == y) := by cases a <;> cases b <;> cases x <;> cases y <;> decide +kernel
theorem shaped_bl3 (a b c : Bool) : SeqAt.shaped (.list [.bool a, .bool b, .bool c]) = true := by cases a <;> cases b <;> cases c <;> decide +kernel
theorem shaped_bl2 (a b : Bool) : SeqAt.shaped (.list [.bool a, .bool b]) = true := by cases a <;> cases b <;> decide +kernel
theorem inV_bl3 (a b c : Bool) : inV (.bl true) [.bl a, .bl b, .bl c] = (a || b || c) := by cases a <;> cases b <;> cases c <;> decide +kernel
theorem inV_bl2 (a b : Bool) : inV (.bl true) [.bl a, .bl b] = (a || b) := by cases a <;> cases b <;> decide +kernel
theorem extN_new {H H2 : Hp} {p : Addr} {o : HO} (a : LamX.ExtN H H2) (hp : H p = none) : LamX.ExtN H (upd H2 p o) := fun c u e n => by
  rw [upd_ne (ne_of_none e hp)]
  exact a c u e n
theorem tabsN_lst {TT : List NdefX.NTab} {H : Hp} {p : Addr} {xs : List V} {o : HO} (h : NdefX.TabsN TT H) (hp : H p = some (.lst xs)) : NdefX.TabsN TT (upd H p o) := tabsN_fr1 h hp fun b u n e => by rw [upd_ne n]; exact e
theorem eqB {x y : V} {i : Decidable (x = y)} {Q : VK} {H : Hp} (h : x = y) (k : Q (.bl true) H) : Q (.bl (@decide (x = y) i)) H := by
  rw [decide_eq_true h]
  exact k
theorem lst_ext {H H' : Hp} {a : Addr} {xs : List V} (f : LamX.ExtN H H') (h : H a = some (.lst xs)) : H' a = some (.lst xs) := f _ _ h fun _ z => by cases z
theorem iteFb {b : Bool} {A B : Prop} (h : b = false) (k : B) : if b = true then A else B := by
  rw [h]
  exact iteF k


def turnG (J : JD) : List Nat := (List.range J.n).filter fun x => !decide (x ∈ J.good)
def turnJ (J : JD) : JD := { J with good := turnG J }
theorem turnJ_ok {J : JD} (h : J.ok) : (turnJ J).ok where
  L := h.L
  n1 := h.n1
  n6 := h.n6
  f4 := h.f4
  t1 := h.t1
  t4 := h.t4
  h600 := h.h600
  lt := h.lt
  g6 := by
    have := List.length_filter_le (fun x => !decide (x ∈ J.good)) (List.range J.n)
    rw [List.length_range] at this
    exact Nat.le_trans this h.n6
  gn g hg := List.mem_range.mp (List.mem_filter.mp hg).1
theorem turn_in {J : JD} {s : Nat} (h : s < J.n) : decide (s ∈ turnG J) = !decide (s ∈ J.good) := by
  rw [Bool.eq_iff_iff]
  simp only [turnG, decide_eq_true_eq, List.mem_filter, List.mem_range, h, true_and]
theorem range_rises : ∀ n : Nat, (List.range n).Pairwise (· < ·)
  | 0 => .nil
  | n + 1 => by
    rw [List.range_succ, List.pairwise_append]
    refine ⟨range_rises n, List.pairwise_singleton _ _, fun a ha b hb => ?_⟩
    rw [List.mem_singleton.mp hb]
    exact List.mem_range.mp ha
theorem rises_eq : ∀ {xs ys : List Nat}, xs.Pairwise (· < ·) → ys.Pairwise (· < ·) → (∀ a, a ∈ xs ↔ a ∈ ys) → xs = ys
  | [], [], _, _, _ => rfl
  | [], y :: ys, _, _, h => absurd ((h y).mpr List.mem_cons_self) (by simp)
  | x :: xs, [], _, _, h => absurd ((h x).mp List.mem_cons_self) (by simp)
  | x :: xs, y :: ys, hx, hy, h => by
    rw [List.pairwise_cons] at hx hy
    have e : x = y := by
      rcases List.mem_cons.mp ((h x).mp List.mem_cons_self) with e | e
      · exact e
      · rcases List.mem_cons.mp ((h y).mpr List.mem_cons_self) with e2 | e2
        · exact e2.symm
        · have a := hy.1 x e
          have b := hx.1 y e2
          omega
    subst e
    rw [rises_eq hx.2 hy.2 fun a => ?_]
    constructor
    · intro ha
      rcases List.mem_cons.mp ((h a).mp (List.mem_cons_of_mem _ ha)) with e | e
      · have := hx.1 a ha; omega
      · exact e
    · intro ha
      rcases List.mem_cons.mp ((h a).mpr (List.mem_cons_of_mem _ ha)) with e | e
      · have := hy.1 a ha; omega
      · exact e
theorem turn_turn {J : JD} (h : J.ok) (hg : J.good.Pairwise (· < ·)) : turnG (turnJ J) = J.good := by
  refine rises_eq (List.Pairwise.sublist List.filter_sublist (range_rises _)) hg fun a => ?_
  show a ∈ (List.range J.n).filter (fun x => !decide (x ∈ turnG J)) ↔ _
  rw [List.mem_filter, List.mem_range]
  constructor
  · rintro ⟨h1, h2⟩
    rw [turn_in h1] at h2
    simpa using h2
  · intro ha
    have h1 := h.gn a ha
    refine ⟨h1, ?_⟩
    rw [turn_in h1]
    simpa using ha
theorem tells_turn {J : JD} (h : J.ok) {t : Tr} (ht : t.lets (fun c => c ∈ J.L.cps.toList)) : tells (turnJ J) t = !tells J t := turn_in (St_ltJ h t ht)
theorem Sm.turned {L : Str} {m : Nat} {J : JD} (a : Sm L m J) : Sm L m (turnJ J) := ⟨turnJ_ok a.ok, a.L, a.n, a.few, a.turn⟩
def sp_turned_judge (P : Program) (w : World) : Sp := fun vs H Q _ => ∃ (v : V) (J : JD), vs = [v] ∧ JAt P w H v J ∧ J.ok ∧ Rises J.L ∧ ∀ v' H', Same H H' → JAt P w H' v' (turnJ J) → Q v' H'
theorem rowsJ_nd {fs : Nat → List Nat → Nat} : ∀ {xs : List NRow} {keys : List (Nat × List Nat)}, RowsJ xs keys fs → keys.Nodup → (xs.map (·.1)).Nodup
  | _, _, .nil, _ => by simp
  | x :: xs, key :: keys, .cons ⟨e, _⟩ t, nd => by
    rw [List.nodup_cons] at nd
    rw [List.map_cons, List.nodup_cons]
    refine ⟨fun h => ?_, rowsJ_nd t nd.2⟩
    obtain ⟨y, hy, e1⟩ := List.mem_map.mp h
    obtain ⟨k2, hk2, e2, _⟩ := prd_mem t hy
    have e3 := e2.symm.trans (e1.trans e)
    obtain ⟨a, b⟩ := keyN_inj e3
    exact nd.1 (by rw [show key = k2 from Prod.ext a.symm b.symm]; exact hk2)
section
variable {P : Program} {w : World} {K : PySem.W.Frag} {mg : Str → Option Value} {base : Heap}
theorem ok_turned_judge (T : Txt K mg) : FnOk P w K mg base CX0 1 T.f_turned_judge T.d_turned_judge ["judge"] (sp_turned_judge P w) := by
  refine T.F_turned_judge.ok sc_turned_judge (fun vs H Q E h => ?_) (fun cdv A outer s H vs Q E hr h => ?_)
  · obtain ⟨v, J, rfl, _⟩ := h
    rfl
  obtain ⟨v, J, rfl, hJ, hok, hri, q⟩ := h
  refine ⟨_, (pss_cons (ps_asg (pv 0) (pg_tup rfl (pgs_cons (pg_name (i := 1) sc_turned_judge.nd rfl (Or.inl rfl)) (pgs_cons (pg_name (i := 2) sc_turned_judge.nd rfl (Or.inl rfl)) (pgs_cons (pg_name (i := 3) sc_turned_judge.nd rfl (Or.inl rfl)) (pgs_cons (pg_name (i := 4) sc_turned_judge.nd rfl (Or.inl rfl)) (pgs_cons (pg_name (i := 5) sc_turned_judge.nd rfl (Or.inl rfl)) (pgs_cons (pg_name (i := 6) sc_turned_judge.nd rfl (Or.inr rfl)) pgs_nil)))))))) (pss_cons (ps_setLc (i := 7) (own := [("state", 8)]) (g := gName 8) (tt := tTest (tOp (rIn K true) (tVar 8) (tVar 6))) rfl sc_turned_judge.nd rfl rfl (sw_true rfl rfl rfl (by decide +kernel)) (pi_range1 (by rfl) T.z_range (pa_cons (pv 2) pa_nil)) (blkOk_by (own := [("state", 8)]) (N := ["judge", "letters", "states", "few", "turn", "table", "good", "others", "state", "key"]) (sc := (defScope s_turned_judge)) (by decide +kernel)) (fun _ _ _ _ _ => (pg_name (i := 8) sc_turned_judge.nd rfl (Or.inl rfl))) (fun _ _ _ _ _ => pts_one (pt_cmpR op_notIn_seq (pv 8) (pv 6) (by rfl))) (fun _ _ _ _ _ => (pv 8))) (pss_one (ps_ret (pe_tup (pa_cons (pv 1) (pa_cons (pv 2) (pa_cons (pv 3) (pa_cons (pv 4) (pa_cons (pe_lock (pe_dcN (own := [("key", 9), ("state", 8)]) (tt := tYes) (g := (gTup K 2 (gCons (gName 9) (gCons (gName 8) gNil)))) (tk := tVar 9) (tv := tVar 8) (roomN hr) rfl sc_turned_judge.nd (pi_itemsN (pv 5)) (blkOk_by (own := [("key", 9), ("state", 8)]) (N := ["judge", "letters", "states", "few", "turn", "table", "good", "others", "state", "key"]) (sc := (defScope s_turned_judge)) (by decide +kernel)) (fun _ _ _ _ _ => (pg_tup rfl (pgs_cons (pg_name (i := 9) sc_turned_judge.nd rfl (Or.inl rfl)) (pgs_cons (pg_name (i := 8) sc_turned_judge.nd rfl (Or.inl rfl)) pgs_nil)))) (fun _ _ _ _ _ => pts_nil) (fun _ _ _ _ _ => (pv 9)) (fun _ _ _ _ _ => (pv 8)))) (pa_cons (pv 7) pa_nil))))))))))), ?_⟩
  have n1 := hok.n1
  have n6 := hok.n6
  obtain ⟨j, d, g, xs, keys, rfl, hj, hd, hrn, hrj, hper, hg⟩ := hJ
  refine ⟨_, rfl, j, _, rfl, SqT.of hj, rfl, _, _, rfl, _, _, rfl, _, _, rfl, _, _, rfl, _, _, rfl, _, _, rfl, rfl, ?_⟩
  refine ⟨_, rfl, J.n, rfl, by omega, by omega, fun D hD => ?_⟩
  refine lc_range (lo := 0) (n := J.n) (fun i H5 => H5 D = some (.lst (((List.range i).filter fun x => !decide (x ∈ J.good)).map nI)) ∧ Same H H5) ⟨upd_same, same_new hD⟩ ?_ ?_
  · rintro i2 H5 hi2 ⟨g1, g2⟩
    refine ⟨rfl, _, rfl, _, rfl, g, _, rfl, .inl (SqL.of (g2 _ _ hg)), rfl, flat_nI _, ?_⟩
    have e0 : V.int (0 + (i2 : Int)) = nI i2 := by rw [Int.zero_add]
    rw [e0, if_pos rfl, inV_nI, List.range_succ, List.filter_append, List.filter_cons]
    have ln : ((List.range i2).filter fun x => !decide (x ∈ J.good)).length ≤ 100 := Nat.le_trans (List.length_filter_le _ _) (by rw [List.length_range]; omega)
    refine ⟨_, rfl, ite2 (fun hh => ?_) (fun hh => ?_)⟩
    · refine ⟨_, rfl, _, g1, ?_, ?_, same_add g2 hD⟩
      · rw [List.length_map]
        exact Nat.lt_of_le_of_lt (show _ ≤ 1000000 by omega) (by decide)
      · rw [upd_same, if_pos hh, List.map_append]
        rfl
    · rw [if_neg hh]
      refine ⟨?_, g2⟩
      show _ = some (HO.lst ((_ ++ []).map nI))
      rw [List.append_nil]
      exact g1
  rintro H1 ⟨g1, g2⟩
  have g1 : H1 D = some (.lst ((turnG J).map nI)) := g1
  have hd1 := g2 _ _ hd
  have hrn1 := hrn.keep fun b ys e => g2 b _ e
  have lx : xs.length ≤ 600 := by
    rw [Paired.length hrj, hper.length_eq]
    unfold JD.keys
    rw [keysOf_len]
    exact hok.h600
  have xnd := rowsJ_nd hrj (hper.nodup_iff.mpr (keysOf_nd hri J.n (J.few + J.turn)))
  refine ⟨_, rfl, _, rfl, _, rfl, _, rfl, d, _, hd1, trivial, fun od => ?_⟩
  refine ⟨_, rfl, d, od, xs, rfl, upd_same, fun D2 hD2 => ?_⟩
  have nD2 : D2 ≠ d := fun e => by rw [e, upd_same] at hD2; cases hD2
  have hD2' : H1 D2 = none := by rw [upd_ne nD2] at hD2; exact hD2
  refine lc_walk (len := xs.length) walk_itemsN (fun i H' => H' D2 = some (DictN P w D2 (xs.take i)) ∧ H' d = some (.frz od (DictN P w d xs)) ∧ FrD d H1 H') ⟨upd_same, by rw [upd_ne nD2.symm, upd_same], fun b o n e => by rw [upd_ne (ne_of_none e hD2'), upd_ne n]; exact e⟩ (fun i H' _ h => h.2.1) ?_ ?_
  · rintro i x H2 H3 hi ⟨k1, k2, k3⟩ ⟨p, row, hrow, rfl, hp, rfl⟩
    have sp := same_new hp (o := .tup [.ref row.2.1, row.2.2])
    have kp := upd_same (H := H2) (a := p) (o := .tup [.ref row.2.1, row.2.2])
    have k1 := sp _ _ k1
    have k2 := sp _ _ k2
    have k3 : FrD d H1 (upd H2 p (.tup [.ref row.2.1, row.2.2])) := fun b o n e => sp _ _ (k3 b o n e)
    generalize upd H2 p (.tup [.ref row.2.1, row.2.2]) = H4 at *
    have ntup : ∀ (q : Addr) (ys : List V), H1 q = some (.tup ys) → q ≠ d := fun q ys e z => by rw [z, hd1] at e; unfold DictN at e; cases e
    have hrn4 : RowsN H4 xs := hrn1.keep fun b ys e => k3 _ _ (ntup _ _ e) e
    obtain ⟨hn1, hn2⟩ := hrn4 row (List.mem_of_getElem? hrow)
    refine ⟨_, _, rfl, SqT.of kp, rfl, _, _, rfl, _, _, rfl, rfl, rfl, _, rfl, _, rfl, xs.take i, row.1, row.2.1, rfl, k1, fun r hr => hrn4 r (List.mem_of_mem_take hr), hn1, hn2, ?_, ?_⟩
    · exact Nat.lt_of_le_of_lt (List.length_take_le' _ _) (Nat.lt_of_le_of_lt (show _ ≤ 1000000 by omega) (by decide))
    · have fresh : ∀ x ∈ xs.take i, x.1 ≠ row.1 := fun x hx => by
        refine ahead_ne (l := xs.map fun r : NRow => r.1) xnd (i := i) (x := row.1) (by rw [List.getElem?_map, hrow]; rfl) x.1 ?_
        rw [← List.map_take]
        exact List.mem_map.mpr ⟨x, hx, rfl⟩
      show upd H4 D2 (DictN P w D2 (storedN (xs.take i) row.1 row.2.1 row.2.2)) D2 = _ ∧ upd H4 D2 (DictN P w D2 (storedN (xs.take i) row.1 row.2.1 row.2.2)) d = _ ∧ FrD d H1 (upd H4 D2 (DictN P w D2 (storedN (xs.take i) row.1 row.2.1 row.2.2)))
      rw [storedN_new fresh, take_succ_of hrow]
      exact ⟨upd_same, by rw [upd_ne nD2.symm]; exact k2, fun b o n e => by rw [upd_ne (ne_of_none e hD2')]; exact k3 b o n e⟩
  rintro H2 ⟨k1, k2, k3⟩
  rw [List.take_length] at k1
  have S3 : Same H1 (upd H2 d (DictN P w d xs)) := fun b o e => by
    by_cases hb : b = d
    · subst hb
      rw [hd1] at e
      cases e
      exact upd_same
    · rw [upd_ne hb]
      exact k3 b o hb e
  have kD3 : upd H2 d (DictN P w d xs) D2 = some (DictN P w D2 xs) := by rw [upd_ne nD2]; exact k1
  refine ⟨k2, _, rfl, (by show 6 ≤ sizeLine; decide), fun j2 hj2 => ?_⟩
  have s4 := same_new hj2 (o := .tup [V.str J.L, nI J.n, nI J.few, nI J.turn, V.ref D2, V.ref D])
  have k4 := upd_same (H := upd H2 d (DictN P w d xs)) (a := j2) (o := .tup [V.str J.L, nI J.n, nI J.few, nI J.turn, V.ref D2, V.ref D])
  have S : Same H (upd (upd H2 d (DictN P w d xs)) j2 (.tup [V.str J.L, nI J.n, nI J.few, nI J.turn, V.ref D2, V.ref D])) := (g2.trans S3).trans s4
  exact q (.ref j2) _ S ⟨j2, D2, D, xs, keys, rfl, k4, s4 _ _ kD3, hrn.keep fun b ys e => S b _ e, hrj, hper, s4 _ _ (S3 _ _ g1)⟩
end
theorem turnJ_turnJ {J : JD} (h : J.ok) (hg : J.good.Pairwise (· < ·)) : turnJ (turnJ J) = J := by
  show JD.mk J.L J.n J.few J.turn J.fs (turnG (turnJ J)) = J
  rw [turn_turn h hg]

section
open AutoSeq1 (wpAny_loadPart')
open MeetsSeq MeetsSeq2 MeetsSeq3 SeqRoads2
variable {P : Program} {w : World}
theorem agree_from (a b : Addr) (us vs : Array Value) (m m2 : Nat) (o o2 : Option Addr) (f f2 : Array (Option Value)) (same : us.size = vs.size) (left : Nat) :
    ∀ at_ : Nat, us.size - at_ = left → MeetsIn P w (Builtin.«list.__eq__.loop» ⟨[.ref a, .ref b, rawInt at_, rawInt 3], []⟩)
      (fun A R s => (s.heap.get? a = some { cls := .type "list", data := .seq us m, dict := o, slots := f } ∧ s.heap.get? b = some { cls := .type "list", data := .seq vs m2, dict := o2, slots := f2 }) ∧
        (∀ k (q1 : k < us.size) (q2 : k < vs.size), SeqAt.EqIn P w A.in1 s us[k] vs[k] true) ∧ R (.ok (.ret (.bool false))) s) := by
  induction left with
  | zero =>
    rintro at_ hl A R ⟨h, g, ds, ts, ou⟩ ⟨⟨x1, x2⟩, x3, x4⟩
    have n1 : us[((at_ : Nat) : Int).toNat]? = none := by simp; omega
    have n2 : vs[((at_ : Nat) : Int).toNat]? = none := by simp; omega
    wp_walk using wpAny_loadPart' x1, wpAny_loadPart' x2
    rw [n1, n2]
    wp_walk using wpAny_loadPart' x1, wpAny_loadPart' x2
    show R (.ok (.ret (.bool (us.size != vs.size)))) _
    rw [same]
    simpa using x4
  | succ left ih =>
    rintro at_ hl A R ⟨h, g, ds, ts, ou⟩ ⟨⟨x1, x2⟩, x3, x4⟩
    have l1 : at_ < us.size := by omega
    have l2 : at_ < vs.size := by omega
    have n1 : us[((at_ : Nat) : Int).toNat]? = some us[at_] := by simp [l1]
    have n2 : vs[((at_ : Nat) : Int).toNat]? = some vs[at_] := by simp [l2]
    have next : ((at_ : Int) + 1) = ((at_ + 1 : Nat) : Int) := by push_cast; rfl
    wp_walk using wpAny_loadPart' x1, wpAny_loadPart' x2
    rw [n1, n2]
    refine wpAny_bind (x3 at_ l1 l2 _ _ ?_)
    wp_walk
    rw [next]
    refine ⟨plainId_quiet plain_eq_loop _, codeAny_builtin entry_eq_loop ?_⟩
    rw [Around.under_plainId plain_eq_loop _]
    exact ih (at_ + 1) (by omega) A R _ ⟨⟨x1, x2⟩, x3, x4⟩
theorem agree_lists (a b : Addr) (us vs : Array Value) (m m2 : Nat) (o o2 : Option Addr) (f f2 : Array (Option Value)) (same : us.size = vs.size) :
    MeetsIn P w (Builtin.«list.__ne__» ⟨[.ref a, .ref b], []⟩)
      (fun A R s => (s.heap.get? a = some { cls := .type "list", data := .seq us m, dict := o, slots := f } ∧ s.heap.get? b = some { cls := .type "list", data := .seq vs m2, dict := o2, slots := f2 }) ∧
        (∀ k (q1 : k < us.size) (q2 : k < vs.size), SeqAt.EqIn P w A.in1 s us[k] vs[k] true) ∧ R (.ok (.ret (.bool false))) s) := by
  rintro A R ⟨h, g, ds, ts, ou⟩ ⟨⟨x1, x2⟩, x3, x4⟩
  have sub := AutoSeq1.sub_list_list
  have nn : ¬ (us.size != vs.size) = true := by simp [same]
  wp_walk using wpAny_loadPart' x1, wpAny_loadPart' x2
  refine ⟨plainId_quiet plain_eq_loop _, codeAny_builtin entry_eq_loop ?_⟩
  rw [Around.under_plainId plain_eq_loop _]
  exact agree_from a b us vs m m2 o o2 f f2 same _ 0 rfl A R _ ⟨⟨x1, x2⟩, x3, x4⟩
theorem agree_tuples (a b : Addr) (us vs : Array Value) (m m2 : Nat) (o o2 : Option Addr) (f f2 : Array (Option Value)) (same : us.size = vs.size) :
    MeetsIn P w (Builtin.«tuple.__ne__» ⟨[.ref a, .ref b], []⟩)
      (fun A R s => (s.heap.get? a = some { cls := .type "tuple", data := .seq us m, dict := o, slots := f } ∧ s.heap.get? b = some { cls := .type "tuple", data := .seq vs m2, dict := o2, slots := f2 }) ∧
        (∀ k (q1 : k < us.size) (q2 : k < vs.size), SeqAt.EqIn P w A.in1 s us[k] vs[k] true) ∧ R (.ok (.ret (.bool false))) s) :=
  .of_wp fun A R s full => by
    obtain ⟨h, g, ds, ts, ou⟩ := s
    obtain ⟨⟨x1, x2⟩, x3, x4⟩ := full
    have sub := AutoSeq1.sub_tuple_tuple
    have both : (us.toList.zip vs.toList).length = us.size := by simp [same]
    wp_walk using wpAny_loadPart' x1, wpAny_loadPart' x2, wpAny_forIn_list _ (fun rest c s' => c.1 = none ∧ s' = ⟨h, g, ds, ts, ou⟩ ∧ ∃ k, rest = (us.toList.zip vs.toList).drop k) _
    case turn =>
      rintro ⟨y, x⟩ rest c s' ⟨none_, rfl, k, left⟩
      have lt : k < (us.toList.zip vs.toList).length := by
        rcases Nat.lt_or_ge k (us.toList.zip vs.toList).length with z | z
        · exact z
        · rw [List.drop_of_length_le z] at left; cases left
      have l1 : k < us.size := both ▸ lt
      have l2 : k < vs.size := same ▸ l1
      rw [List.drop_eq_getElem_cons lt] at left
      injection left with pair tail
      obtain rfl : y = us[k] := by have := congrArg Prod.fst pair; simpa using this
      obtain rfl : x = vs[k] := by have := congrArg Prod.snd pair; simpa using this
      refine wpAny_bind (x3 k l1 l2 _ _ ?_)
      wp_walk
      exact ⟨rfl, rfl, k + 1, tail⟩
    case fin =>
      rintro ⟨c1, c2⟩ s' ⟨none_, rfl, k, left⟩
      simp only at none_
      subst none_
      wp_walk
      exact ⟨_, rfl, by simpa [Builtin.Tuple.tupleCompareSizes, bne, same] using x4⟩
    case h => exact ⟨rfl, rfl, 0, rfl⟩
theorem ne_agreeT {A : Around} {E Q : Value → Shared → Prop} {s : Shared} {a b : Addr} {us vs : Array Value} (x : s.heap.IsTuple a us) (y : s.heap.IsTuple b vs) (same : us.size = vs.size) (hu : A.units < cLine)
    (each : ∀ k (q1 : k < us.size) (q2 : k < vs.size), SeqAt.EqIn P w A.in1 s us[k] vs[k] true) (q : Q (.bool false) s) : wpAny (model P w) A (compareOp .NotEq (.ref a) (.ref b)) Q E s := by
  obtain ⟨⟨c1, o, t1, f⟩, x1, rfl, m, rfl⟩ := x
  obtain ⟨⟨c2, o2, t2, f2⟩, y1, rfl, m2, rfl⟩ := y
  refine wpAny_richCompare_same_room (T := "tuple") (op := .NotEq) ⟨_, x1, rfl⟩ ⟨_, y1, rfl⟩ F.slot_tuple_ne (call_meetsIn F.slot_tuple_ne ⟨_, x1, rfl⟩ F.entry_tuple_ne (F.args_tuple_ne_2 _ _) (agree_tuples a b us vs m m2 o o2 f f2 same) ⟨⟨x1, y1⟩, each, ?_⟩) hu
  exact show Value.bool false ≠ Value.notImplemented ∧ Q (.bool false) s from ⟨(fun e => nomatch e), q⟩
theorem ne_agree {A : Around} {E Q : Value → Shared → Prop} {s : Shared} {a b : Addr} {us vs : Array Value} (x : s.heap.IsList a us) (y : s.heap.IsList b vs) (same : us.size = vs.size) (hu : A.units < cLine)
    (each : ∀ k (q1 : k < us.size) (q2 : k < vs.size), SeqAt.EqIn P w A.in1 s us[k] vs[k] true) (q : Q (.bool false) s) : wpAny (model P w) A (compareOp .NotEq (.ref a) (.ref b)) Q E s := by
  obtain ⟨⟨c1, o, t1, f⟩, x1, rfl, m, rfl⟩ := x
  obtain ⟨⟨c2, o2, t2, f2⟩, y1, rfl, m2, rfl⟩ := y
  refine wpAny_richCompare_same_room (T := "list") (op := .NotEq) ⟨_, x1, rfl⟩ ⟨_, y1, rfl⟩ F.slot_list_ne (call_meetsIn F.slot_list_ne ⟨_, x1, rfl⟩ F.entry_list_ne (F.args_list_ne_2 _ _) (agree_lists a b us vs m m2 o o2 f f2 same) ⟨⟨x1, y1⟩, each, ?_⟩) hu
  exact show Value.bool false ≠ Value.notImplemented ∧ Q (.bool false) s from ⟨(fun e => nomatch e), q⟩
end
inductive EqH (K : PySem.W.Frag) (H : Hp) : Nat → V → V → Prop
  | dat {n : Nat} {x y : V} {d : PyData} : Dp K H x d → Dp K H y d → d.canLay0 = true → d.depth ≤ n → EqH K H n x y
  | lst {n : Nat} {a b : Addr} {xs ys : List V} : H a = some (.lst xs) → H b = some (.lst ys) → xs.length = ys.length → (∀ (j : Nat) (x y : V), xs[j]? = some x → ys[j]? = some y → EqH K H n x y) → EqH K H (n + 1) (.ref a) (.ref b)
  | tup {n : Nat} {a b : Addr} {xs ys : List V} : H a = some (.tup xs) → H b = some (.tup ys) → xs.length = ys.length → (∀ (j : Nat) (x y : V), xs[j]? = some x → ys[j]? = some y → EqH K H n x y) → EqH K H (n + 1) (.ref a) (.ref b)
  | dic {n : Nat} {a b : Addr} {es fs : List (Key × V)} : H a = some (.dK es) → H b = some (.dK fs) → es.length = fs.length → (∀ k v, (k, v) ∈ es → (valV fs k).isSome = true) → (∀ k v u, (k, v) ∈ es → valV fs k = some u → EqH K H n v u) → EqH K H (n + 1) (.ref a) (.ref b)
theorem all_true (n : Nat) : ((List.range n).all fun _ => true) = true := by
  rw [List.all_eq_true]
  intro _ _
  rfl
theorem pairs_mem : ∀ {es : List (Key × V)} {vs : List (Key × Value)} {k : Key} {u : Value}, KV es vs → (k, u) ∈ vs → ∃ v, (k, v) ∈ es ∧ RelV v u
  | _, _, _, _, .nil, h => by cases h
  | (_, v) :: _, _, _, _, .cons r t, h => by
    rcases List.mem_cons.mp h with e | e
    · cases e
      obtain ⟨e1, e2⟩ := r
      exact ⟨v, List.mem_cons.mpr (.inl (congrArg (fun z => (z, v)) (show _ = _ from e1.symm))), e2⟩
    · obtain ⟨x, e1, e2⟩ := pairs_mem t e
      exact ⟨x, List.mem_cons_of_mem _ e1, e2⟩
theorem vals_at {xs : List V} {us : List Value} (r : Vals xs us) {k : Nat} (hk : k < us.toArray.size) : ∃ x, xs[k]? = some x ∧ RelV x us.toArray[k] := by
  have hx : k < xs.length := by rw [r.length]; simpa using hk
  obtain ⟨u, hu, ru⟩ := r.get (List.getElem?_eq_getElem hx)
  refine ⟨_, List.getElem?_eq_getElem hx, ?_⟩
  have : us.toArray[k] = u := by
    have := List.getElem?_eq_some_iff.mp hu
    simpa using this.2
  rw [this]
  exact ru
section
variable {X : Cx} {pins : List (Addr × Obj)} {σ : List (Option V)} {H : Hp} {s : Shared}
theorem EqH.tree (I : Inv X pins σ H s) {n : Nat} {x y : V} (h : EqH X.K H n x y) : ∀ {v u : Value}, RelV x v → RelV y u → PySem.W.EqTree X.prog X.w s n v u true := by
  induction h with
  | @dat n x y d h1 h2 hl hd =>
    intro v u rx ry
    obtain ⟨as, r1⟩ := Dp.reads I d x v h1 rx
    obtain ⟨bs, r2⟩ := Dp.reads I d y u h2 ry
    have pl := PyData.plain_of_canLay0 d hl
    refine .leaf fun A hu => ?_
    have := SeqAt.eqAt_plain d d A s v u as bs r1 r2 pl pl (by rw [Nat.min_self]; omega)
    rw [SeqAt.eqv_refl_plain d pl] at this
    exact this
  | @lst n a b xs ys h1 h2 hl hi ih =>
    intro v u rx ry
    cases rx
    cases ry
    by_cases e : a = b
    · subst e
      exact .same
    obtain ⟨us, r1, ⟨o1, m1, g1, g2, _, g3⟩, _⟩ := I.list (SqL.of h1)
    obtain ⟨vs, r2, ⟨o2, m2, k1, k2, _, k3⟩, _⟩ := I.list (SqL.of h2)
    have := PySem.W.EqTree.lists (prog := X.prog) (w := X.w) (n := n) (e := fun _ => true) e ⟨o1, g1, g2, m1, g3⟩ ⟨o2, k1, k2, m2, k3⟩ (by simp only [List.size_toArray]; rw [← r1.length, ← r2.length, hl]) fun j q1 q2 => by
      obtain ⟨x, hx, rx⟩ := vals_at r1 q1
      obtain ⟨y, hy, ry⟩ := vals_at r2 q2
      exact ih j x y hx hy rx ry
    rw [all_true] at this
    exact this
  | @tup n a b xs ys h1 h2 hl hi ih =>
    intro v u rx ry
    cases rx
    cases ry
    by_cases e : a = b
    · subst e
      exact .same
    obtain ⟨us, r1, k1, _⟩ := I.tuple (SqT.of h1)
    obtain ⟨vs, r2, k2, _⟩ := I.tuple (SqT.of h2)
    have := PySem.W.EqTree.tuples (prog := X.prog) (w := X.w) (n := n) (e := fun _ => true) e k1 k2 fun j q1 q2 => by
      obtain ⟨x, hx, rx⟩ := vals_at r1 q1
      obtain ⟨y, hy, ry⟩ := vals_at r2 q2
      exact ih j x y hx hy rx ry
    have len : us.length = vs.length := by rw [← r1.length, ← r2.length, hl]
    rw [all_true] at this
    simpa [len] using this
  | @dic n a b es fs h1 h2 hl hs hi ih =>
    intro v u rx ry
    cases rx
    cases ry
    by_cases e : a = b
    · subst e
      exact .same
    obtain ⟨_, n1, vs, r1, d1⟩ := (show ObjOk X.prog X.w H s.heap a (.dK es) from I.hok a _ h1)
    obtain ⟨_, n2, us, r2, d2⟩ := (show ObjOk X.prog X.w H s.heap b (.dK fs) from I.hok b _ h2)
    have := PySem.W.EqTree.dicts (prog := X.prog) (w := X.w) (n := n) (e := fun _ => true) e n1 n2 d1 d2 fun k v y hm hy => by
      obtain ⟨x, hx, rx⟩ := pairs_mem r1 hm
      have rl := r2.val k
      rw [hy] at rl
      cases hq : valV fs k with
      | none => rw [hq] at rl; exact (show False from rl).elim
      | some z =>
        rw [hq] at rl
        exact ih k x z hx hq rx rl
    have all : (vs.all fun p => (PySem.valueAt us p.1).isSome && true) = true := by
      rw [List.all_eq_true]
      rintro ⟨k, v⟩ hm
      obtain ⟨x, hx, _⟩ := pairs_mem r1 hm
      have rl := r2.val k
      have := hs k x hx
      cases hq : valV fs k with
      | none => rw [hq] at this; cases this
      | some z =>
        rw [hq] at rl
        cases hp : PySem.valueAt us k with
        | none => rw [hp] at rl; exact (show False from rl).elim
        | some _ => simp [hp]
    have len : vs.length = us.length := by rw [← r1.length, ← r2.length, hl]
    rw [all, len] at this
    simpa using this
end
theorem roomH {k : Nat} {A : Around} (r : Room k A) : A.units + 200 < cLine := by have := r.un; omega
def rNeH (K : PySem.W.Frag) : R2 := fun x y H Q => ∃ (a b : Addr) (xs ys : List V) (n : Nat), x = .ref a ∧ y = .ref b ∧ H a = some (.lst xs) ∧ H b = some (.lst ys) ∧ xs.length = ys.length ∧ (∀ (j : Nat) (x y : V), xs[j]? = some x → ys[j]? = some y → EqH K H n x y) ∧ n ≤ 190 ∧ Q (.bl false) H
theorem op_neH {X : Cx} (hu : X.A.units + 200 < cLine) : OpR X (compareOp .NotEq) (rNeH X.K) := by
  intro pins s σ H x y v u Q I rx ry h
  obtain ⟨a, b, xs, ys, n, rfl, rfl, h1, h2, hl, hi, hn, q⟩ := h
  cases rx
  cases ry
  obtain ⟨us, r1, ⟨o1, m1, g1, g2, _, g3⟩, _⟩ := I.list (SqL.of h1)
  obtain ⟨vs, r2, ⟨o2, m2, k1, k2, _, k3⟩, _⟩ := I.list (SqL.of h2)
  refine ne_agree ⟨o1, g1, g2, m1, g3⟩ ⟨o2, k1, k2, m2, k3⟩ (by simp only [List.size_toArray]; rw [← r1.length, ← r2.length, hl]) (by omega) (fun j q1 q2 => ?_) ⟨.bl _, H, I, rfl, q⟩
  obtain ⟨x, hx, rx⟩ := vals_at r1 q1
  obtain ⟨y, hy, ry⟩ := vals_at r2 q2
  exact ((hi j x y hx hy).tree I rx ry).at _ (by show X.A.units + 1 + n < cLine; omega)
def rNeHT (K : PySem.W.Frag) : R2 := fun x y H Q => ∃ (a b : Addr) (xs ys : List V) (n : Nat), x = .ref a ∧ y = .ref b ∧ H a = some (.tup xs) ∧ H b = some (.tup ys) ∧ xs.length = ys.length ∧ (∀ (j : Nat) (x y : V), xs[j]? = some x → ys[j]? = some y → EqH K H n x y) ∧ n ≤ 190 ∧ Q (.bl false) H
theorem op_neHT {X : Cx} (hu : X.A.units + 200 < cLine) : OpR X (compareOp .NotEq) (rNeHT X.K) := by
  intro pins s σ H x y v u Q I rx ry h
  obtain ⟨a, b, xs, ys, n, rfl, rfl, h1, h2, hl, hi, hn, q⟩ := h
  cases rx
  cases ry
  obtain ⟨us, r1, k1, _⟩ := I.tuple (SqT.of h1)
  obtain ⟨vs, r2, k2, _⟩ := I.tuple (SqT.of h2)
  refine ne_agreeT k1 k2 (by simp only [List.size_toArray]; rw [← r1.length, ← r2.length, hl]) (by omega) (fun j q1 q2 => ?_) ⟨.bl _, H, I, rfl, q⟩
  obtain ⟨x, hx, rx⟩ := vals_at r1 q1
  obtain ⟨y, hy, ry⟩ := vals_at r2 q2
  exact ((hi j x y hx hy).tree I rx ry).at _ (by show X.A.units + 1 + n < cLine; omega)
theorem lets_ok {L : Str} (h : Lets L) : PyData.strOk L = true := by
  unfold PyData.strOk
  rw [Array.all_eq_true_iff_forall_mem]
  intro c hc
  have := h.2.2 c (by simpa using hc)
  simp
  omega

theorem look_nd {α β : Type} [BEq α] [LawfulBEq α] {a : α} {b : β} : ∀ {l : List (α × β)}, (l.map (·.1)).Nodup → (a, b) ∈ l → l.lookup a = some b
  | (x, y) :: r, nd, h => by
    rw [List.map_cons, List.nodup_cons] at nd
    rcases List.mem_cons.mp h with h | h
    · cases h
      simp [List.lookup]
    · have ne : ¬ a = x := fun e => nd.1 (by rw [← e]; exact List.mem_map.mpr ⟨_, h, rfl⟩)
      have : (a == x) = false := by simpa using ne
      simp only [List.lookup, this]
      exact look_nd nd.2 h

section
variable {P : Program} {w : World} {A : Around} {E : Value → Shared → Prop} {s : Shared}
theorem range_head {m i j : Nat} {rest : List Nat} (h : j :: rest = List.range' i (m - i)) : i < m ∧ j = i ∧ rest = List.range' (i + 1) (m - (i + 1)) := by
  have lt : i < m := by
    rcases Nat.lt_or_ge i m with z | z
    · exact z
    · rw [Nat.sub_eq_zero_of_le z] at h
      simp at h
  rw [show m - i = (m - (i + 1)) + 1 by omega, List.range'_succ] at h
  injection h with a b
  exact ⟨lt, a, b⟩
theorem agree_pairs {nm : String} {a b : Addr} {us vs : List (NestedKey × Addr × Value)} {Q : Bool → Shared → Prop} (na : (a == sysModules) = false) (nb : (b == sysModules) = false) (room : A.units + 8 < cLine)
    (x : s.heap.DictOfH (nestedKind P w) a us) (y : s.heap.DictOfH (nestedKind P w) b vs) (len : us.length = vs.length)
    (hit : ∀ k c v, (k, c, v) ∈ us → ∃ e u, (k, e, u) ∈ vs ∧ SeqAt.EqIn P w A s v u true) (q : Q true s) : wpAny (model P w) A (Builtin.Dict.samePairs nm a b) Q E s := by
  obtain ⟨o1, e1, p1, g1, _, d1, l1, i1, n1⟩ := x
  obtain ⟨o2, e2, p2, g2, _, d2, l2, i2, n2⟩ := y
  have z1 : e1.size = us.length := size_of_entries l1
  have z2 : e2.size = vs.length := size_of_entries l2
  unfold Builtin.Dict.samePairs Builtin.Dict.showsAll
  rw [na, nb]
  simp only [Bool.false_eq_true, if_false]
  refine wpAny_bind (wpAny_pure (wpAny_bind (wpAny_pure (wpAny_bind (wpAny_dictEntries g1 d1 ?_)))))
  refine wpAny_bind (wpAny_dictEntries g2 d2 ?_)
  rw [if_neg (by rw [z1, z2, len]; simp)]
  refine wpAny_bind (wpAny_dictEpoch g1 d1 (wpAny_bind ?_))
  rw [Std.Legacy.Range.forIn_eq_forIn_range']
  simp only [Nat.div_one, Nat.add_sub_cancel, Nat.sub_zero, Std.Legacy.Range.size]
  refine wpAny_forIn_list _ (fun rest c s' => s' = s ∧ c = (none, ()) ∧ ∃ i, rest = List.range' i (e1.size - i)) _ ?_ ?_ _ _ ⟨rfl, rfl, 0, by simp⟩
  · rintro j rest c s' ⟨rfl, rfl, i, hr⟩
    obtain ⟨lt, rfl, tail⟩ := range_head hr
    have lu : j < us.length := z1 ▸ lt
    obtain ⟨k, c, v, row⟩ : ∃ k c v, us[j] = (k, c, v) := ⟨_, _, _, rfl⟩
    have mem : (k, c, v) ∈ us := row ▸ List.getElem_mem lu
    obtain ⟨e, u, hm, he⟩ := hit k c v mem
    refine wpAny_bind (wpAny_dictEntries g1 d1 ?_)
    rw [entry_at l1 j, List.getElem?_eq_getElem lu, row]
    show wpAny _ _ (holding [Value.ref c, v] (dictFind b (.ref c) ((nestedKind P w).hash k) >>= _) >>= _) _ _ _
    refine wpAny_bind (wpAny_holding (wpAny_bind (wpAny_dictFind_heap room (i1 _ mem) g2 d2 l2 i2 n2 (fun no => ?_) fun m p hp => ?_)))
    · obtain ⟨m, hm⟩ := List.getElem?_of_mem hm
      exact absurd hm (no m (e, u))
    · have same : p = (e, u) := Option.some.inj ((look_nd n2 (List.mem_of_getElem? hp)).symm.trans (look_nd n2 hm))
      subst same
      refine wpAny_bind (wpAny_dictEntries g2 d2 ?_)
      rw [entry_at l2 m, hp]
      refine wpAny_holding (he _ _ ?_)
      show wpAny _ _ (if (!true) = true then _ else _) _ _ _
      rw [if_neg (by decide)]
      refine wpAny_bind (wpAny_dictEpoch g1 d1 ?_)
      rw [if_neg (by simp)]
      exact wpAny_pure ⟨rfl, rfl, j + 1, tail⟩
  · rintro c s' ⟨rfl, rfl, _, _⟩
    exact wpAny_pure q
theorem agree_tables {a b : Addr} {us vs : List (NestedKey × Addr × Value)} (na : (a == sysModules) = false) (nb : (b == sysModules) = false) (room : A.units + 9 < cLine)
    (x : s.heap.DictOfH (nestedKind P w) a us) (y : s.heap.DictOfH (nestedKind P w) b vs) (len : us.length = vs.length)
    (hit : ∀ k c v, (k, c, v) ∈ us → ∃ e u, (k, e, u) ∈ vs ∧ SeqAt.EqIn P w A.in1 s v u true) : SeqAt.EqIn P w A s (.ref a) (.ref b) true := by
  by_cases e : a = b
  · subst e
    exact (SeqAt.EqAt.same _).inModel P w
  refine SeqAt.EqIn.of_refs e fun E Q q => ?_
  refine wpAny_richCompare_same_room (T := "dict") (op := .Eq) x.typeIs y.typeIs F.slot_dict_eq (wpAny_call_entry F.slot_dict_eq x.typeIs F.entry_dict_eq ?_ (F.args_dict_eq_2 _ _)) (by omega)
  show wpAny _ _ (Builtin.Dict.dictSlotArgs "__eq__" ⟨[.ref a, .ref b], []⟩ >>= _) _ _ s
  unfold Builtin.Dict.dictSlotArgs
  refine wpAny_bind (wpAny_bind (wpAny_notOrdered_dict x.typeIs ?_))
  show wpAny _ _ (pure (f := Sem) ((Value.ref a : Value), (Value.ref b : Value))) _ _ s
  refine wpAny_pure (wpAny_bind (wpAny_isInstance (T := "dict") y.typeIs F.sub_dict_dict ?_))
  rw [if_neg (by decide)]
  refine wpAny_bind (wpAny_pure (wpAny_bind (wpAny_pure (wpAny_bind (agree_pairs na nb (by show A.units + 1 + 8 < cLine; omega) x y len hit ?_)))))
  exact wpAny_pure ⟨_, rfl, (fun z => nomatch z), q⟩
end
def SameT (xs ys : List NRow) : Prop := xs.length = ys.length ∧ ∀ k c v, (k, c, v) ∈ xs → ∃ (e : Addr) (n : Int), v = .int n ∧ (k, e, v) ∈ ys
theorem rows_left {xs : List NRow} {us : List (NestedKey × Addr × Value)} (p : Paired (fun (p : NRow) (q : NestedKey × Addr × Value) => p.1 = q.1 ∧ p.2.1 = q.2.1 ∧ RelV p.2.2 q.2.2) xs us) {k : NestedKey} {c : Addr} {u : Value} (h : (k, c, u) ∈ us) : ∃ v, (k, c, v) ∈ xs ∧ RelV v u := by
  induction p with
  | nil => cases h
  | cons r t ih =>
    rename_i x y xs us
    rcases List.mem_cons.mp h with e | e
    · subst e
      obtain ⟨x1, x2, x3⟩ := x
      obtain ⟨r1, r2, r3⟩ := r
      dsimp only at r1 r2 r3
      subst r1 r2
      exact ⟨x3, List.mem_cons_self, r3⟩
    · obtain ⟨v, h1, h2⟩ := ih e
      exact ⟨v, List.mem_cons_of_mem _ h1, h2⟩
theorem rows_right {xs : List NRow} {us : List (NestedKey × Addr × Value)} (p : Paired (fun (p : NRow) (q : NestedKey × Addr × Value) => p.1 = q.1 ∧ p.2.1 = q.2.1 ∧ RelV p.2.2 q.2.2) xs us) {k : NestedKey} {c : Addr} {v : V} (h : (k, c, v) ∈ xs) : ∃ u, (k, c, u) ∈ us ∧ RelV v u := by
  induction p with
  | nil => cases h
  | cons r t ih =>
    rename_i x y xs us
    rcases List.mem_cons.mp h with e | e
    · subst e
      obtain ⟨x1, x2, x3⟩ := y
      obtain ⟨r1, r2, r3⟩ := r
      dsimp only at r1 r2 r3
      subst r1 r2
      exact ⟨x3, List.mem_cons_self, r3⟩
    · obtain ⟨v, h1, h2⟩ := ih e
      exact ⟨v, List.mem_cons_of_mem _ h1, h2⟩
def EqHN (K : PySem.W.Frag) (P : Program) (w : World) (H : Hp) (n : Nat) (x y : V) : Prop := EqH K H n x y ∨ ∃ (a b : Addr) (xs ys : List NRow), x = .ref a ∧ y = .ref b ∧ H a = some (DictN P w a xs) ∧ RowsN H xs ∧ H b = some (DictN P w b ys) ∧ RowsN H ys ∧ SameT xs ys
theorem EqHN.at {X : Cx} {pins : List (Addr × Obj)} {σ : List (Option V)} {H : Hp} {s : Shared} (I : Inv X pins σ H s) {n : Nat} {x y : V} (h : EqHN X.K X.prog X.w H n x y) (hn : n ≤ 190) {v u : Value} (rx : RelV x v) (ry : RelV y u) {A : Around} (hu : A.units + 199 < cLine) : SeqAt.EqIn X.prog X.w A s v u true := by
  rcases h with h | ⟨a, b, xs, ys, rfl, rfl, h1, k1, h2, k2, len, each⟩
  · exact (h.tree I rx ry).at _ (by omega)
  cases rx
  cases ry
  obtain ⟨na, us, p1, d1⟩ := dictN_of I h1 k1
  obtain ⟨nb, vs, p2, d2⟩ := dictN_of I h2 k2
  refine agree_tables na nb (by omega) d1 d2 (by rw [← Paired.length p1, ← Paired.length p2, len]) fun k c v hm => ?_
  obtain ⟨x, hx, rx⟩ := rows_left p1 hm
  obtain ⟨e, n, rfl, hy⟩ := each k c x hx
  obtain ⟨u, hu2, ru⟩ := rows_right p2 hy
  refine ⟨e, u, hu2, ?_⟩
  have dx : Dp X.K H (.int n) (.int n) := .int n
  have t : EqH X.K H 1 (V.int n) (V.int n) := .dat dx dx (by simp only [PyData.canLay0]) (Nat.zero_le _)
  exact (t.tree I rx ru).at _ (by show A.units + 1 + 1 < cLine; omega)
def rNeHN (K : PySem.W.Frag) (P : Program) (w : World) : R2 := fun x y H Q => ∃ (a b : Addr) (xs ys : List V) (n : Nat), x = .ref a ∧ y = .ref b ∧ H a = some (.tup xs) ∧ H b = some (.tup ys) ∧ xs.length = ys.length ∧ (∀ (j : Nat) (x y : V), xs[j]? = some x → ys[j]? = some y → EqHN K P w H n x y) ∧ n ≤ 190 ∧ Q (.bl false) H
theorem op_neHN {X : Cx} (hu : X.A.units + 200 < cLine) : OpR X (compareOp .NotEq) (rNeHN X.K X.prog X.w) := by
  intro pins s σ H x y v u Q I rx ry h
  obtain ⟨a, b, xs, ys, n, rfl, rfl, h1, h2, hl, hi, hn, q⟩ := h
  cases rx
  cases ry
  obtain ⟨us, r1, k1, _⟩ := I.tuple (SqT.of h1)
  obtain ⟨vs, r2, k2, _⟩ := I.tuple (SqT.of h2)
  refine ne_agreeT k1 k2 (by simp only [List.size_toArray]; rw [← r1.length, ← r2.length, hl]) (by omega) (fun j q1 q2 => ?_) ⟨.bl _, H, I, rfl, q⟩
  obtain ⟨x, hx, rx⟩ := vals_at r1 q1
  obtain ⟨y, hy, ry⟩ := vals_at r2 q2
  exact (hi j x y hx hy).at I hn rx ry (by show X.A.units + 1 + 199 < cLine; omega)

theorem sameT_perm {xs ys : List NRow} {k1 k2 : List (Nat × List Nat)} {fs : Nat → List Nat → Nat} (x : RowsJ xs k1 fs) (y : RowsJ ys k2 fs) (p : k1.Perm k2) : SameT xs ys := by
  refine ⟨by rw [Paired.length x, Paired.length y, p.length_eq], fun k c v hm => ?_⟩
  obtain ⟨key, hk, e1, e2⟩ := prd_mem x hm
  obtain ⟨i, hi⟩ := List.getElem?_of_mem (p.mem_iff.mp hk)
  have hl : i < ys.length := by rw [Paired.length y]; exact (List.getElem?_eq_some_iff.mp hi).1
  have hy : ys[i]? = some ys[i] := List.getElem?_eq_getElem hl
  obtain ⟨key2, hk2, f1, f2⟩ := prd_at y hy
  rw [hi] at hk2
  cases hk2
  dsimp only at e1 e2
  refine ⟨ys[i].2.1, _, e2, ?_⟩
  have : ys[i] = (k, ys[i].2.1, v) := Prod.ext (f1.trans e1.symm) (Prod.ext rfl (f2.trans e2.symm))
  rw [← this]
  exact List.mem_of_getElem? hy
theorem judges_eq {P : Program} {w : World} {K : PySem.W.Frag} {H : Hp} {v u : V} {J : JD} (hL : Lets J.L) (x : JAt P w H v J) (y : JAt P w H u J) : ∃ (a b : Addr) (xs ys : List V), v = .ref a ∧ u = .ref b ∧ H a = some (.tup xs) ∧ H b = some (.tup ys) ∧ xs.length = ys.length ∧ ∀ (j : Nat) (x y : V), xs[j]? = some x → ys[j]? = some y → EqHN K P w H 90 x y := by
  obtain ⟨a, d, g, xs, k1, rfl, a1, a2, a3, a4, a5, a6⟩ := x
  obtain ⟨b, e, f, ys, k2, rfl, b1, b2, b3, b4, b5, b6⟩ := y
  refine ⟨_, _, _, _, rfl, rfl, a1, b1, rfl, ?_⟩
  have i1 : ∀ m : Nat, EqH K H 90 (nI m) (nI m) := fun m => .dat (.int _) (.int _) (by simp only [PyData.canLay0]) (by simp [PyData.depth])
  intro j x y h1 h2
  rcases j with _ | _ | _ | _ | _ | _ | j
  · cases h1; cases h2
    exact .inl (.dat (.str _) (.str _) (by simp only [PyData.canLay0]; exact lets_ok hL) (by simp [PyData.depth]))
  · cases h1; cases h2; exact .inl (i1 _)
  · cases h1; cases h2; exact .inl (i1 _)
  · cases h1; cases h2; exact .inl (i1 _)
  · cases h1; cases h2
    exact .inr ⟨d, e, xs, ys, rfl, rfl, a2, a3, b2, b3, sameT_perm a4 b4 (a5.trans b5.symm)⟩
  · cases h1; cases h2
    refine .inl (.lst a6 b6 rfl fun j x y h1 h2 => ?_)
    rw [h1] at h2
    cases h2
    rw [List.getElem?_map] at h1
    cases hm : J.good[j]? with
    | none => rw [hm] at h1; cases h1
    | some m =>
      rw [hm] at h1
      cases h1
      exact .dat (.int _) (.int _) (by simp only [PyData.canLay0]) (by simp [PyData.depth])
  · cases h1

def fbKeys (L : Str) (i : Nat) : List (Nat × List Nat) := (L.cps.toList.take i).map fun c => (c, [0])
def FbAt (P : Program) (w : World) (H : Hp) (D : Addr) (keys : List (Nat × List Nat)) : Prop := ∃ (bs : List Addr) (xs : List NRow), H D = some (.lst (bs.map V.ref)) ∧ Paired (fun (b : Addr) (r : NRow) => H b = some (.tup [.ref r.2.1, r.2.2])) bs xs ∧ RowsN H xs ∧ RowsB 1 xs keys
theorem fbKeys_all {L : Str} : fbKeys L L.cps.size = keysOf L 1 (0 + 1) := by
  have h1 : rowsTo 1 (0 + 1) = [[0]] := rfl
  have whole : L.cps.toList.take L.cps.size = L.cps.toList := by rw [← Array.length_toList, List.take_length]
  unfold fbKeys keysOf
  rw [whole, h1]
  generalize L.cps.toList = l
  induction l with
  | nil => rfl
  | cons a t ih => rw [List.map_cons, List.flatMap_cons, ih]; rfl
section
variable {P : Program} {w : World}
theorem FbAt.more {H : Hp} {D t0 t1 t2 : Addr} {L : Str} {i c : Nat} (hL : Lets L) (h : FbAt P w H D (fbKeys L i)) (hc : L.cps.toList[i]? = some c) (h0 : H t0 = none) (h1 : upd H t0 (.tup [.int 0]) t1 = none) (h2 : upd (upd H t0 (.tup [.int 0])) t1 (.tup [.str (ch c), .ref t0]) t2 = none) : ∃ acc, upd (upd (upd H t0 (.tup [.int 0])) t1 (.tup [.str (ch c), .ref t0])) t2 (.tup [.ref t1, .int 0]) D = some (.lst acc) ∧ acc.length < sizeLine ∧ FbAt P w (upd (upd (upd (upd H t0 (.tup [.int 0])) t1 (.tup [.str (ch c), .ref t0])) t2 (.tup [.ref t1, .int 0])) D (.lst (acc ++ [V.ref t2]))) D (fbKeys L (i + 1)) := by
  obtain ⟨bs, xs, k1, k2, k3, k4⟩ := h
  have s0 := same_new h0 (o := .tup [.int 0])
  have e0 := upd_same (H := H) (a := t0) (o := .tup [.int 0])
  generalize upd H t0 (.tup [.int 0]) = H0 at *
  have s1 := same_new h1 (o := .tup [.str (ch c), .ref t0])
  have e1 := upd_same (H := H0) (a := t1) (o := .tup [.str (ch c), .ref t0])
  generalize upd H0 t1 (.tup [.str (ch c), .ref t0]) = H1 at *
  have s2 := same_new h2 (o := .tup [.ref t1, .int 0])
  have e2 := upd_same (H := H1) (a := t2) (o := .tup [.ref t1, .int 0])
  generalize upd H1 t2 (.tup [.ref t1, .int 0]) = H2 at *
  have S := (s0.trans s1).trans s2
  have kD := S _ _ k1
  have tk := fun b ys e => upd_tup (o := .lst (bs.map V.ref ++ [V.ref t2])) kD b ys e
  have lb : bs.length = xs.length := Paired.length k2
  have lx : xs.length = (fbKeys L i).length := keys_len k4
  have lk : (fbKeys L i).length ≤ 26 := by
    unfold fbKeys
    rw [List.length_map]
    exact Nat.le_trans (List.length_take_le' _ _) (by rw [Array.length_toList]; exact hL.2.1)
  refine ⟨_, kD, ?_, bs ++ [t2], xs ++ [(keyN c [0], t1, nI 0)], by rw [upd_same, List.map_append]; rfl, ?_, ?_, ?_⟩
  · rw [List.length_map]
    exact Nat.lt_of_le_of_lt (show _ ≤ 1000000 by omega) (by decide)
  · exact prd_app (Paired.mapP k2 fun _ _ e => tk _ _ (S _ _ e)) (.cons (tk _ _ e2) .nil)
  · intro r hr
    rcases List.mem_append.mp hr with hr | hr
    · exact (k3.keep fun b ys e => tk _ _ (S _ _ e)) r hr
    · rw [List.mem_singleton.mp hr]
      exact ⟨nk_key (tk _ _ (s2 _ _ e1)) (tk _ _ ((s1.trans s2) _ _ e0)), keyN_depth c [0]⟩
  · unfold fbKeys
    rw [take_succ_of hc, List.map_append]
    exact prd_app k4 (.cons ⟨rfl, 0, Nat.one_pos, rfl⟩ .nil)
theorem fb_made {L : Str} {xs : List NRow} (hL : Lets L) (hri : Rises L) (h : RowsB 1 xs (fbKeys L L.cps.size)) : (xs.map (·.1)).Nodup ∧ ∃ fs, RowsJ xs (keysOf L 1 (0 + 1)) fs ∧ (JD.mk L 1 0 1 fs [0]).ok := by
  rw [fbKeys_all] at h
  have nd : (keysOf L 1 (0 + 1)).Nodup := keysOf_nd hri 1 (0 + 1)
  obtain ⟨fs, h1, h2⟩ := rows_fun h nd
  refine ⟨rowsB_nd h nd, fs, h1, hL, Nat.le_refl _, (by show 1 ≤ 6; decide), (by show 0 ≤ 4; decide), Nat.le_refl _, (by show 1 ≤ 4; decide), ?_, h2, (by show 1 ≤ 6; decide), fun g hg => ?_⟩
  · have := hL.2.1
    show L.length * 1 ^ 1 ≤ 600
    have : L.length ≤ 26 := this
    simp
    omega
  · rw [List.mem_singleton.mp hg]
    exact Nat.one_pos
def drawnJ (P : Program) (w : World) (ok : Addr → Prop) (L : Str) (m : Nat) (H : Hp) (v : V) (J : JD) : Prop := JAtO P w ok H v J ∧ J.ok ∧ J.L = L ∧ J.n ≤ m ∧ J.good.Pairwise (· < ·)
def smallJ (P : Program) (w : World) (ok : Addr → Prop) (L : Str) (m : Nat) (H : Hp) (v : V) (J : JD) : Prop := drawnJ P w ok L m H v J ∧ J.few + J.turn ≤ 2
variable {ok ok' : Addr → Prop} {p : Addr} {L : Str} {m : Nat} {H H' : Hp} {v : V} {J : JD}
theorem drawnJ.fr {ys : List V} (x : drawnJ P w ok L m H v J) (ho : ∀ b, ok b → b ≠ p) (hp : H p = some (.lst ys)) (f : Fr p H H') : drawnJ P w ok L m H' v J := ⟨x.1.fr ho hp f, x.2⟩
theorem smallJ.fr {ys : List V} (x : smallJ P w ok L m H v J) (ho : ∀ b, ok b → b ≠ p) (hp : H p = some (.lst ys)) (f : Fr p H H') : smallJ P w ok L m H' v J := ⟨x.1.fr ho hp f, x.2⟩
theorem smallJ.extN (x : smallJ P w ok L m H v J) (f : LamX.ExtN H H') : smallJ P w ok L m H' v J := ⟨⟨x.1.1.extN f, x.1.2⟩, x.2⟩
theorem smallJ.weak (x : smallJ P w ok L m H v J) (h : ∀ b, ok b → ok' b) : smallJ P w ok' L m H v J := ⟨⟨x.1.1.weak h, x.1.2⟩, x.2⟩
theorem fb_at {xs : List NRow} {d g j : Addr} (hL : Lets L) (hri : Rises L) (hm : 1 ≤ m) (hb : RowsB 1 xs (fbKeys L L.cps.size)) (hr : RowsN H xs) (hd : H d = none) (hg : upd H d (DictN P w d xs) g = none) (hj : upd (upd H d (DictN P w d xs)) g (.lst [V.int 0]) j = none) (ho : ok g) : ∃ J, smallJ P w ok L m (upd (upd (upd H d (DictN P w d xs)) g (.lst [V.int 0])) j (.tup [V.str L, V.int 1, V.int 0, V.int 1, V.ref d, V.ref g])) (.ref j) J ∧ Same H (upd (upd (upd H d (DictN P w d xs)) g (.lst [V.int 0])) j (.tup [V.str L, V.int 1, V.int 0, V.int 1, V.ref d, V.ref g])) := by
  obtain ⟨_, fs, frj, fok⟩ := fb_made hL hri hb
  have s9 := same_new hd (o := DictN P w d xs)
  have k9 := upd_same (H := H) (a := d) (o := DictN P w d xs)
  generalize upd H d (DictN P w d xs) = H9 at *
  have s10 := same_new hg (o := .lst [V.int 0])
  have k10 := upd_same (H := H9) (a := g) (o := .lst [V.int 0])
  generalize upd H9 g (.lst [V.int 0]) = H10 at *
  have s11 := same_new hj (o := .tup [V.str L, V.int 1, V.int 0, V.int 1, V.ref d, V.ref g])
  have k11 := upd_same (H := H10) (a := j) (o := .tup [V.str L, V.int 1, V.int 0, V.int 1, V.ref d, V.ref g])
  have S := (s9.trans s10).trans s11
  rw [fbKeys_all] at hb
  exact ⟨⟨L, 1, 0, 1, fs, [0]⟩, ⟨⟨⟨j, d, g, xs, _, rfl, k11, s11 _ _ (s10 _ _ k9), hr.keep fun b ys e => S _ _ e, frj, List.Perm.refl _, s11 _ _ k10, ho⟩, fok, rfl, hm, List.pairwise_singleton _ _⟩, by show 0 + 1 ≤ 2; decide⟩, S⟩
end


def sp__law_small (P : Program) (w : World) : Sp := fun vs H Q _ => ∃ (p : Addr) (L : Str) (m : Nat), vs = [.ref p, .str L, nI m] ∧ Dn H p ∧ Lets L ∧ Rises L ∧ L.length ≤ 7 ∧ 1 ≤ m ∧ m ≤ 2 ∧ ∀ v J H', Fr p H H' → Dn H' p → smallJ P w (fun b => b ≠ p) L m H' v J → Q v H'
section
variable {P : Program} {w : World} {K : PySem.W.Frag} {mg : Str → Option Value} {base : Heap}
theorem ok__law_small (T : Txt K mg) : FnOk P w K mg base CX0 5 T.f__law_small T.d__law_small ["deck", "letters", "most"] (sp__law_small P w) := by
  have G__law_judge : FnOk P w K mg base CX0 4 T.f__law_judge T.d__law_judge ["deck", "letters", "most", "room"] (sp__law_judge P w) := ok__law_judge T
  refine T.F__law_small.ok sc__law_small (fun vs H Q E h => ?_) (fun cdv A outer s H vs Q E hr h => ?_)
  · obtain ⟨p, L, m, rfl, _⟩ := h
    rfl
  obtain ⟨p, L, m, rfl, hp, hL, hri, l7, m1, m2, q⟩ := h
  refine ⟨_, (pss_cons (ps_set (i := 3) sc__law_small.nd rfl (Or.inl rfl) (pe_call G__law_judge (hr.mono (by omega)) (by rfl) T.m__law_judge T.F__law_judge.kp T.b__law_judge .nil pass0 (pa_cons (pv 0) (pa_cons (pv 1) (pa_cons (pv 2) (pa_cons (pe_op op_mul pe_int (pe_callB call_len_str (by rfl) T.z_len PySem.boot_len (pa_cons (pv 1) pa_nil))) pa_nil)))))) (pss_cons (ps_for PassesOwn.never rfl (pi_range1 (by rfl) T.z_range (pa_cons pe_int pa_nil)) (pg_name (i := 4) sc__law_small.nd rfl (Or.inl rfl)) (pss_one (ps_if (pt_cmpR op_gt (pe_op op_add (pe_ix ix_tup (pv 3) pe_int (fun _ _ => rfl)) (pe_ix ix_tup (pv 3) pe_int (fun _ _ => rfl))) pe_int (nomark _)) (pss_one (ps_set (i := 3) sc__law_small.nd rfl (Or.inl rfl) (pe_call G__law_judge (hr.mono (by omega)) (by rfl) T.m__law_judge T.F__law_judge.kp T.b__law_judge .nil pass0 (pa_cons (pv 0) (pa_cons (pv 1) (pa_cons (pv 2) (pa_cons (pe_op op_mul pe_int (pe_callB call_len_str (by rfl) T.z_len PySem.boot_len (pa_cons (pv 1) pa_nil))) pa_nil))))))) pss_nil))) (pss_cons (ps_if (pt_cmpR op_gt (pe_op op_add (pe_ix ix_tup (pv 3) pe_int (fun _ _ => rfl)) (pe_ix ix_tup (pv 3) pe_int (fun _ _ => rfl))) pe_int (nomark _)) (pss_one (ps_set (i := 3) sc__law_small.nd rfl (Or.inl rfl) (pe_tup (pa_cons (pv 1) (pa_cons pe_int (pa_cons pe_int (pa_cons pe_int (pa_cons (pe_callTy (call_dictP rfl (roomP hr)) (by rfl) T.z_dict (by decide +kernel) (pa_cons (pe_lc (own := [("letter", 5)]) (g := gName 5) (te := tTup (tCons (tTup (tCons (tVar 5) (tCons (tTup (tCons (tC (.int 0)) tNil)) tNil))) (tCons (tC (.int 0)) tNil))) (tt := tYes) rfl sc__law_small.nd (pi_str (pv 1)) (blkOk_by (own := [("letter", 5)]) (N := ["deck", "letters", "most", "judge", "turn", "letter"]) (sc := (defScope s__law_small)) (by decide +kernel)) (fun _ _ _ _ _ => (pg_name (i := 5) sc__law_small.nd rfl (Or.inl rfl))) (fun _ _ _ _ _ => pts_nil) (fun _ _ _ _ _ => (pe_tup (pa_cons (pe_tup (pa_cons (pv 5) (pa_cons (pe_tup (pa_cons pe_int pa_nil)) pa_nil))) (pa_cons pe_int pa_nil))))) pa_nil)) (pa_cons (pe_lst (pa_cons pe_int pa_nil)) pa_nil))))))))) pss_nil) (pss_one (ps_ret (pv 3)))))), ?_⟩
  have l1 := hL.1
  have l26 : L.length ≤ 26 := by omega
  have e4 : (4 : Int) * (L.length : Int) = ((4 * L.length : Nat) : Int) := by push_cast; rfl
  have draw : ∀ (H1 : Hp) (Q2 : VK), Dn H1 p → (∀ v J H2, Fr p H1 H2 → Dn H2 p → drawnJ P w (fun b => b ≠ p) L m H2 v J → Q2 v H2) → sp__law_judge P w [V.ref p, V.str L, nI m, V.int (4 * (L.length : Int))] H1 Q2 E0 := fun H1 Q2 hd k => ⟨p, L, m, 4 * L.length, congrArg (fun z => [V.ref p, V.str L, nI m, V.int z]) e4, hd, hL, hri, m1, by omega, by omega, by omega, fun v J H2 f d a b c _ e g => k v J H2 f d ⟨g.weak fun _ h => h.1, b, a, c, e⟩⟩
  refine ⟨_, rfl, _, rfl, _, rfl, _, rfl, _, rfl, Nat.le_trans l26 (by decide), _, _, rfl, rfl, .inl ⟨by omega, by omega⟩, draw H _ hp fun v J H6 f6 D6 hj => ?_⟩
  refine ⟨4, rfl, by decide, by decide, for_range (lo := 0) (n := 4) (fun i2 σ H' => ∃ (v : V) (J : JD) (y4 : Option V), σ = [some (.ref p), some (.str L), some (nI m), some v, y4, none] ∧ drawnJ P w (fun b => b ≠ p) L m H' v J ∧ Fr p H H' ∧ Dn H' p) ⟨v, J, _, rfl, hj, f6, D6⟩ ?_ ?_⟩
  · rintro i2 σ H7 hi2 ⟨v, J, y4, rfl, hj, f7, D7⟩
    obtain ⟨j, d, g, xs, keys, rfl, hjt, _⟩ := id hj.1
    refine ⟨_, rfl, j, _, 2, _, rfl, rfl, SqT.of hjt, atI_nat (j := 2) rfl, _, rfl, j, _, 3, _, rfl, rfl, SqT.of hjt, atI_nat (j := 3) rfl, _, _, rfl, rfl, _, _, rfl, rfl, _, rfl, ite2 (fun hh => ?_) (fun hh => ?_)⟩
    · refine ⟨_, rfl, _, rfl, _, rfl, _, rfl, _, rfl, Nat.le_trans l26 (by decide), _, _, rfl, rfl, .inl ⟨by omega, by omega⟩, draw H7 _ D7 fun v J H8 f8 D8 hj => ?_⟩
      exact ⟨v, J, _, rfl, hj, f7.trans f8, D8⟩
    · exact ⟨_, J, _, rfl, hj, f7, D7⟩
  rintro σ H7 ⟨v, J, y4, rfl, hj, f7, D7⟩
  obtain ⟨j, d, g, xs, keys, rfl, hjt, _⟩ := id hj.1
  refine ⟨_, rfl, j, _, 2, _, rfl, rfl, SqT.of hjt, atI_nat (j := 2) rfl, _, rfl, j, _, 3, _, rfl, rfl, SqT.of hjt, atI_nat (j := 3) rfl, _, _, rfl, rfl, _, _, rfl, rfl, _, rfl, ite2 (fun hh => ?_) (fun hh => ?_)⟩
  · refine ⟨_, rfl, _, rfl, L, rfl, fun D2 hD2 => ?_⟩
    refine lc_walk (len := L.cps.size) (walk_str (z := L)) (fun i H' => FbAt P w H' D2 (fbKeys L i) ∧ Same H7 H') ⟨⟨[], [], upd_same, .nil, (fun x h => by cases h), .nil⟩, same_new hD2⟩ (fun _ _ _ _ => trivial) ?_ ?_
    · rintro i3 x H8 H9 hi3 ⟨h8, s8⟩ ⟨rfl, c, hc, rfl⟩
      have hc2 : L.cps.toList[i3]? = some c := by rw [Array.getElem?_toList]; exact hc
      refine ⟨rfl, _, rfl, (by show 1 ≤ sizeLine; decide), fun t0 ht0 => ⟨(by show 2 ≤ sizeLine; decide), fun t1 ht1 => ⟨(by show 2 ≤ sizeLine; decide), fun t2 ht2 => ?_⟩⟩⟩
      obtain ⟨acc, m1, m2, m3⟩ := h8.more hL hc2 ht0 ht1 ht2
      exact ⟨acc, m1, m2, m3, same_add (((s8.trans (same_new ht0)).trans (same_new ht1)).trans (same_new ht2)) hD2⟩
    rintro H8 ⟨⟨bs, xs, b1, b2, b3, b4⟩, s8⟩
    obtain ⟨fnd, fs, frj, fok⟩ := fb_made hL hri b4
    have lxs : xs.length ≤ 26 := by
      rw [keys_len b4]
      unfold fbKeys
      rw [List.length_map]
      exact Nat.le_trans (List.length_take_le' _ _) (by rw [Array.length_toList]; exact l26)
    refine ⟨D2, bs, xs, rfl, b1, b2, b3, fnd, Nat.le_of_lt (Nat.lt_of_le_of_lt (show _ ≤ 1000000 by omega) (by decide)), fun d2 hd2 => ⟨(by show 1 ≤ sizeLine; decide), fun g2 hg2 => ⟨(by show 6 ≤ sizeLine; decide), fun j2 hj2 => ?_⟩⟩⟩
    have hg2 : upd H8 d2 (DictN P w d2 xs) g2 = none := hg2
    have D8 := D7.keep s8
    have s9 := same_new hd2 (o := DictN P w d2 xs)
    have n1 : g2 ≠ p := (D8.keep s9).ne hg2
    obtain ⟨J0, h0, S⟩ := fb_at (ok := fun b => b ≠ p) hL hri m1 b4 b3 hd2 hg2 hj2 n1
    exact ⟨_, rfl, q (.ref j2) J0 _ (f7.trans (Fr.same (s8.trans S))) (D8.keep S) h0⟩
  · have sm : J.few + J.turn ≤ 2 := by
      have := of_decide_eq_false (Bool.eq_false_iff.mpr hh)
      omega
    exact ⟨_, rfl, q _ J H7 f7 D7 ⟨hj, sm⟩⟩
end


structure TTr {K : PySem.W.Frag} {mg : Str → Option Value} (T : Txt K mg) (TT : List NdefX.NTab) : Prop where
  p : TTp T TT
  q : TTq T TT
def sp__law_right (P : Program) (w : World) (TT : List NdefX.NTab) : Sp := fun vs H Q _ => ∃ (v1 v2 u : V) (A B : JD) (t : Tr) (L : Str), vs = [v1, v2, u] ∧ JAt P w H v1 A ∧ JAt P w H v2 B ∧ Sm L 2 A ∧ Sm L 2 B ∧ A.good.Pairwise (· < ·) ∧ Lets L ∧ Rises L ∧ L.length ≤ 7 ∧ TrAt (fun _ => True) H u t ∧ t.size ≤ 1000000 ∧ t.lets (fun c => c ∈ L.cps.toList) ∧ NdefX.TabsN TT H ∧
  ∀ H', LamX.ExtN H H' → NdefX.TabsN TT H' → Q (.bl true) H'
section
variable {P : Program} {w : World} {K : PySem.W.Frag} {mg : Str → Option Value} {base : Heap}
theorem ok__law_right (T : Txt K mg) (B : Tbs T base) {TT : List NdefX.NTab} (hTT : TTr T TT) : FnOk P w K mg base CX0 18 T.f__law_right T.d__law_right ["one", "other", "tree"] (sp__law_right P w TT) := by
  have G_lets_by : FnOk P w K mg base CX0 17 T.f_lets_by T.d_lets_by ["judge", "tree"] (sp_lets_by P w TT) := ok_lets_by T B hTT.p
  have G_judges_joined : FnOk P w K mg base CX0 12 T.f_judges_joined T.d_judges_joined ["word", "one", "other"] (sp_judges_joined P w TT) := ok_judges_joined T B hTT.q
  have G_turned_judge : FnOk P w K mg base CX0 1 T.f_turned_judge T.d_turned_judge ["judge"] (sp_turned_judge P w) := ok_turned_judge T
  refine T.F__law_right.ok sc__law_right (fun vs H Q E h => ?_) (fun cdv A outer s H vs Q E hr h => ?_)
  · obtain ⟨v1, v2, u, A, B, t, L, rfl, _⟩ := h
    rfl
  obtain ⟨v1, v2, u, J1, J2, t, L, rfl, h1, h2, s1, s2, up1, hL, hri, l7, ht, hz, hl, hT, q⟩ := h
  refine ⟨_, (pss_cons (ps_set (i := 3) sc__law_right.nd rfl (Or.inl rfl) (pe_lst (pa_cons (pe_call G_lets_by (hr.mono (by omega)) (by rfl) T.m_lets_by T.F_lets_by.kp T.b_lets_by .nil pass0 (pa_cons (pv 0) (pa_cons (pv 2) pa_nil))) (pa_cons (pe_call G_lets_by (hr.mono (by omega)) (by rfl) T.m_lets_by T.F_lets_by.kp T.b_lets_by .nil pass0 (pa_cons (pv 1) (pa_cons (pv 2) pa_nil))) pa_nil)))) (pss_cons (ps_set (i := 4) sc__law_right.nd rfl (Or.inl rfl) (pe_call G_judges_joined (hr.mono (by omega)) (by rfl) T.m_judges_joined T.F_judges_joined.kp T.b_judges_joined .nil pass0 (pa_cons pe_str (pa_cons (pv 0) (pa_cons (pv 1) pa_nil))))) (pss_cons (ps_set (i := 5) sc__law_right.nd rfl (Or.inl rfl) (pe_call G_judges_joined (hr.mono (by omega)) (by rfl) T.m_judges_joined T.F_judges_joined.kp T.b_judges_joined .nil pass0 (pa_cons pe_str (pa_cons (pv 0) (pa_cons (pv 1) pa_nil))))) (pss_cons (ps_if (PW.pt (pw_or (pt_cmpR op_ne (pe_call G_lets_by (hr.mono (by omega)) (by rfl) T.m_lets_by T.F_lets_by.kp T.b_lets_by .nil pass0 (pa_cons (pv 4) (pa_cons (pv 2) pa_nil))) (pe_cmpR (op_eqD hr.units) (pv 3) (pe_lst (pa_cons pe_bl (pa_cons pe_bl pa_nil))) (nomark _)) (nomark _)) (pw_or1 (pt_cmpR op_ne (pe_call G_lets_by (hr.mono (by omega)) (by rfl) T.m_lets_by T.F_lets_by.kp T.b_lets_by .nil pass0 (pa_cons (pv 5) (pa_cons (pv 2) pa_nil))) (pe_cmpR op_in_seq pe_bl (pv 3) (by rfl)) (nomark _))))) (pss_one (ps_ret pe_bl)) pss_nil) (pss_cons (ps_if (pt_cmpR op_ne (pe_call G_lets_by (hr.mono (by omega)) (by rfl) T.m_lets_by T.F_lets_by.kp T.b_lets_by .nil pass0 (pa_cons (pe_call G_judges_joined (hr.mono (by omega)) (by rfl) T.m_judges_joined T.F_judges_joined.kp T.b_judges_joined .nil pass0 (pa_cons pe_str (pa_cons (pv 1) (pa_cons (pv 0) pa_nil)))) (pa_cons (pv 2) pa_nil))) (pe_call G_lets_by (hr.mono (by omega)) (by rfl) T.m_lets_by T.F_lets_by.kp T.b_lets_by .nil pass0 (pa_cons (pv 4) (pa_cons (pv 2) pa_nil))) (nomark _)) (pss_one (ps_ret pe_bl)) pss_nil) (pss_cons (ps_if (PW.pt (pw_or (pt_cmpR op_eq (pe_call G_lets_by (hr.mono (by omega)) (by rfl) T.m_lets_by T.F_lets_by.kp T.b_lets_by .nil pass0 (pa_cons (pe_call G_turned_judge (hr.mono (by omega)) (by rfl) T.m_turned_judge T.F_turned_judge.kp T.b_turned_judge .nil pass0 (pa_cons (pv 0) pa_nil)) (pa_cons (pv 2) pa_nil))) (pe_ix ix_list (pv 3) pe_int (fun _ _ => rfl)) (nomark _)) (pw_or1 (pt_cmpR (op_neHN (roomH hr)) (pe_call G_turned_judge (hr.mono (by omega)) (by rfl) T.m_turned_judge T.F_turned_judge.kp T.b_turned_judge .nil pass0 (pa_cons (pe_call G_turned_judge (hr.mono (by omega)) (by rfl) T.m_turned_judge T.F_turned_judge.kp T.b_turned_judge .nil pass0 (pa_cons (pv 0) pa_nil)) pa_nil)) (pv 0) (nomark _))))) (pss_one (ps_ret pe_bl)) pss_nil) (pss_cons (ps_set (i := 6) sc__law_right.nd rfl (Or.inl rfl) (pe_call G_judges_joined (hr.mono (by omega)) (by rfl) T.m_judges_joined T.F_judges_joined.kp T.b_judges_joined .nil pass0 (pa_cons pe_str (pa_cons (pe_call G_turned_judge (hr.mono (by omega)) (by rfl) T.m_turned_judge T.F_turned_judge.kp T.b_turned_judge .nil pass0 (pa_cons (pv 0) pa_nil)) (pa_cons (pe_call G_turned_judge (hr.mono (by omega)) (by rfl) T.m_turned_judge T.F_turned_judge.kp T.b_turned_judge .nil pass0 (pa_cons (pv 1) pa_nil)) pa_nil))))) (pss_cons (ps_if (pt_cmpR op_ne (pe_call G_lets_by (hr.mono (by omega)) (by rfl) T.m_lets_by T.F_lets_by.kp T.b_lets_by .nil pass0 (pa_cons (pe_call G_turned_judge (hr.mono (by omega)) (by rfl) T.m_turned_judge T.F_turned_judge.kp T.b_turned_judge .nil pass0 (pa_cons (pv 4) pa_nil)) (pa_cons (pv 2) pa_nil))) (pe_call G_lets_by (hr.mono (by omega)) (by rfl) T.m_lets_by T.F_lets_by.kp T.b_lets_by .nil pass0 (pa_cons (pv 6) (pa_cons (pv 2) pa_nil))) (nomark _)) (pss_one (ps_ret pe_bl)) pss_nil) (pss_cons (ps_set (i := 7) sc__law_right.nd rfl (Or.inl rfl) (pe_call G_judges_joined (hr.mono (by omega)) (by rfl) T.m_judges_joined T.F_judges_joined.kp T.b_judges_joined .nil pass0 (pa_cons pe_str (pa_cons (pv 0) (pa_cons (pe_call G_turned_judge (hr.mono (by omega)) (by rfl) T.m_turned_judge T.F_turned_judge.kp T.b_turned_judge .nil pass0 (pa_cons (pv 0) pa_nil)) pa_nil))))) (pss_cons (ps_set (i := 8) sc__law_right.nd rfl (Or.inl rfl) (pe_call G_judges_joined (hr.mono (by omega)) (by rfl) T.m_judges_joined T.F_judges_joined.kp T.b_judges_joined .nil pass0 (pa_cons pe_str (pa_cons (pe_call G_turned_judge (hr.mono (by omega)) (by rfl) T.m_turned_judge T.F_turned_judge.kp T.b_turned_judge .nil pass0 (pa_cons (pv 0) pa_nil)) (pa_cons (pv 0) pa_nil))))) (pss_cons (ps_if (PW.pt (pw_or (pt_val (pe_call G_lets_by (hr.mono (by omega)) (by rfl) T.m_lets_by T.F_lets_by.kp T.b_lets_by .nil pass0 (pa_cons (pv 7) (pa_cons (pv 2) pa_nil)))) (pw_or1 (pt_not (pt_val (pe_call G_lets_by (hr.mono (by omega)) (by rfl) T.m_lets_by T.F_lets_by.kp T.b_lets_by .nil pass0 (pa_cons (pv 8) (pa_cons (pv 2) pa_nil)))))))) (pss_one (ps_ret pe_bl)) pss_nil) (pss_one (ps_ret (pe_cmpR op_eq (pe_call G_lets_by (hr.mono (by omega)) (by rfl) T.m_lets_by T.F_lets_by.kp T.b_lets_by .nil pass0 (pa_cons (pe_call G_judges_joined (hr.mono (by omega)) (by rfl) T.m_judges_joined T.F_judges_joined.kp T.b_judges_joined .nil pass0 (pa_cons pe_str (pa_cons (pv 0) (pa_cons (pv 0) pa_nil)))) (pa_cons (pv 2) pa_nil))) (pe_ix ix_list (pv 3) pe_int (fun _ _ => rfl)) (nomark _))))))))))))))), ?_⟩
  refine ⟨_, rfl, _, rfl, _, _, J1, t, rfl, h1, s1.ok, ht, hz, s1.lets hl, hT, fun H1 e1 T1 => ?_⟩
  have g1 : LamX.ExtN H H1 := e1
  refine ⟨_, rfl, _, rfl, _, _, J2, t, rfl, h2.extN g1, s2.ok, ht.extN1 g1, hz, s2.lets hl, T1, fun H2 e2 T2 => ?_⟩
  have g2 : LamX.ExtN H H2 := g1.trans e2
  refine ⟨(by show 2 ≤ sizeLine; decide), fun D hD => ?_⟩
  have e3 := same_new hD (o := .lst [V.bl (decide (St J1.sf J1.n t ∈ J1.good)), V.bl (decide (St J2.sf J2.n t ∈ J2.good))])
  have kD3 := upd_same (H := H2) (a := D) (o := .lst [V.bl (decide (St J1.sf J1.n t ∈ J1.good)), V.bl (decide (St J2.sf J2.n t ∈ J2.good))])
  have g3 := g2.trans (.of e3)
  have T3 := T2.ext e3
  generalize upd H2 D (.lst [V.bl (decide (St J1.sf J1.n t ∈ J1.good)), V.bl (decide (St J2.sf J2.n t ∈ J2.good))]) = H3 at *
  have e3 : LamX.ExtN H2 H3 := .of e3
  have kD3 : H3 D = some (.lst [V.bl (tells J1 t), V.bl (tells J2 t)]) := kD3
  have b12 := fun both => s1.join both s2 l7 (by decide)
  have d12 := fun both => tells_join both s1 s2 hl
  refine ⟨_, rfl, _, rfl, true, _, _, J1, J2, rfl, h1.extN g3, s1.ok, h2.extN g3, s2.ok, s1.same s2, s1.rises hri, (s1.room s2 l7 (by decide)).2.1, (s1.room s2 l7 (by decide)).2.2.1, (s1.room s2 l7 (by decide)).2.2.2, T3, fun vb H4 e4 T4 jb => ?_⟩
  have g4 : LamX.ExtN H H4 := g3.trans e4
  refine ⟨_, rfl, _, rfl, false, _, _, J1, J2, rfl, h1.extN g4, s1.ok, h2.extN g4, s2.ok, s1.same s2, s1.rises hri, (s1.room s2 l7 (by decide)).2.1, (s1.room s2 l7 (by decide)).2.2.1, (s1.room s2 l7 (by decide)).2.2.2, T4, fun ve H5 e5 T5 je => ?_⟩
  have g5 : LamX.ExtN H H5 := g4.trans e5
  refine ⟨_, rfl, _, rfl, _, _, (joinJ true J1 J2), t, rfl, (jb.extN e5), (b12 true).ok, ht.extN1 g5, hz, (b12 true).lets hl, T5, fun H6 e6 T6 => ?_⟩
  have g6 : LamX.ExtN H H6 := g5.trans e6
  refine ⟨_, rfl, (by show 2 ≤ sizeLine; decide), fun l hl0 => ?_⟩
  have sl := same_new hl0 (o := .lst [V.bl true, V.bl true])
  have kDn := (lst_ext e6 (lst_ext e5 (lst_ext e4 kD3)))
  refine ⟨_, _, .lst (SqL.of (sl _ _ kDn)) (.cons (.bl _) (.cons (.bl _) .nil)), .lst (SqL.of upd_same) (.cons (.bl _) (.cons (.bl _) .nil)), shaped_bl2 _ _, shaped_bl2 _ _, rfl, _, rfl, neS (congrArg V.bl ((d12 true).trans (by rw [eqv_bl2, beq_true, beq_true]; rfl))) ?_⟩
  have e7 : LamX.ExtN H6 (upd H6 l (.lst [V.bl true, V.bl true])) := .of sl
  have g7 := g6.trans e7
  have T7 := T6.ext sl
  generalize upd H6 l (.lst [V.bl true, V.bl true]) = H7 at *
  refine ⟨_, rfl, _, rfl, _, _, (joinJ false J1 J2), t, rfl, ((je.extN e6).extN e7), (b12 false).ok, ht.extN1 g7, hz, (b12 false).lets hl, T7, fun H8 e8 T8 => ?_⟩
  have g8 : LamX.ExtN H H8 := g7.trans e8
  refine ⟨_, rfl, D, _, rfl, .inl (SqL.of (lst_ext e8 (lst_ext e7 (lst_ext e6 (lst_ext e5 (lst_ext e4 kD3)))))), rfl, rfl, ?_⟩
  refine ⟨rfl, _, rfl, neS (congrArg V.bl ((d12 false).trans (by rw [if_neg (by decide), if_neg (by decide)]; exact (inV_bl2 _ _).symm))) ?_⟩
  refine ⟨_, rfl, _, rfl, true, _, _, J2, J1, rfl, h2.extN g8, s2.ok, h1.extN g8, s1.ok, s2.same s1, s2.rises hri, (s2.room s1 l7 (by decide)).2.1, (s2.room s1 l7 (by decide)).2.2.1, (s2.room s1 l7 (by decide)).2.2.2, T8, fun vo H9 e9 T9 jo => ?_⟩
  have g9 : LamX.ExtN H H9 := g8.trans e9
  refine ⟨_, rfl, _, _, (joinJ true J2 J1), t, rfl, jo, (s2.join true s1 l7 (by decide)).ok, ht.extN1 g9, hz, (s2.join true s1 l7 (by decide)).lets hl, T9, fun H10 e10 T10 => ?_⟩
  have g10 : LamX.ExtN H H10 := g9.trans e10
  refine ⟨_, rfl, _, rfl, _, _, (joinJ true J1 J2), t, rfl, ((((((jb.extN e5).extN e6).extN e7).extN e8).extN e9).extN e10), (b12 true).ok, ht.extN1 g10, hz, (b12 true).lets hl, T10, fun H11 e11 T11 => ?_⟩
  have g11 : LamX.ExtN H H11 := g10.trans e11
  refine ⟨rfl, _, rfl, neS (congrArg V.bl ((tells_join true s2 s1 hl).trans ((Bool.and_comm _ _).trans (d12 true).symm))) ?_⟩
  refine ⟨_, rfl, _, J1, rfl, h1.extN g11, s1.ok, s1.rises hri, fun vt H12 e12 jt => ?_⟩
  have g12 : LamX.ExtN H H12 := g11.trans (.of e12)
  have T12 := T11.ext e12
  have e12 : LamX.ExtN H11 H12 := .of e12
  refine ⟨_, rfl, _, _, (turnJ J1), t, rfl, jt, s1.turned.ok, ht.extN1 g12, hz, s1.turned.lets hl, T12, fun H13 e13 T13 => ?_⟩
  have g13 : LamX.ExtN H H13 := g12.trans e13
  have n1 := tells_turn s1.ok (s1.lets hl)
  have n2 := tells_turn s2.ok (s2.lets hl)
  refine ⟨_, rfl, D, _, 0, .bl (tells J1 t), rfl, rfl, SqL.of (lst_ext e13 (lst_ext e12 (lst_ext e11 (lst_ext e10 (lst_ext e9 (lst_ext e8 (lst_ext e7 (lst_ext e6 (lst_ext e5 (lst_ext e4 kD3)))))))))), atI_nat (j := 0) rfl, rfl, _, rfl, eqF (fun e => ?_) ?_⟩
  · have e2 : tells (turnJ J1) t = tells J1 t := V.bl.inj e
    rw [n1] at e2
    cases h : tells J1 t <;> rw [h] at e2 <;> cases e2
  refine ⟨_, rfl, _, J1, rfl, h1.extN g13, s1.ok, s1.rises hri, fun vt2 H14 e14 jt2 => ?_⟩
  have g14 : LamX.ExtN H H14 := g13.trans (.of e14)
  have T14 := T13.ext e14
  have e14 : LamX.ExtN H13 H14 := .of e14
  refine ⟨_, (turnJ J1), rfl, jt2, s1.turned.ok, s1.turned.rises hri, fun vt3 H15 e15 jt3 => ?_⟩
  have g15 : LamX.ExtN H H15 := g14.trans (.of e15)
  have T15 := T14.ext e15
  have e15 : LamX.ExtN H14 H15 := .of e15
  rw [turnJ_turnJ s1.ok up1] at jt3
  obtain ⟨ca, cb, cxs, cys, ce1, ce2, ca1, ca2, ca3, ca4⟩ := judges_eq (K := K) (by rw [s1.L]; exact hL) jt3 (h1.extN g15)
  refine ⟨_, rfl, ca, cb, cxs, cys, 90, ce1, ce2, ca1, ca2, ca3, ca4, by decide, _, rfl, iteF ?_⟩
  refine ⟨_, rfl, _, J1, rfl, h1.extN g15, s1.ok, s1.rises hri, fun va H16 e16 ja => ?_⟩
  have g16 : LamX.ExtN H H16 := g15.trans (.of e16)
  have T16 := T15.ext e16
  have e16 : LamX.ExtN H15 H16 := .of e16
  refine ⟨_, rfl, _, J2, rfl, h2.extN g16, s2.ok, s2.rises hri, fun vc H17 e17 jc => ?_⟩
  have g17 : LamX.ExtN H H17 := g16.trans (.of e17)
  have T17 := T16.ext e17
  have e17 : LamX.ExtN H16 H17 := .of e17
  refine ⟨false, _, _, (turnJ J1), (turnJ J2), rfl, (ja.extN e17), s1.turned.ok, jc, s2.turned.ok, s1.turned.same s2.turned, s1.turned.rises hri, (s1.turned.room s2.turned l7 (by decide)).2.1, (s1.turned.room s2.turned l7 (by decide)).2.2.1, (s1.turned.room s2.turned l7 (by decide)).2.2.2, T17, fun vl H18 e18 T18 jl => ?_⟩
  have g18 : LamX.ExtN H H18 := g17.trans e18
  refine ⟨_, rfl, _, (joinJ true J1 J2), rfl, ((((((((((((((jb.extN e5).extN e6).extN e7).extN e8).extN e9).extN e10).extN e11).extN e12).extN e13).extN e14).extN e15).extN e16).extN e17).extN e18), (b12 true).ok, (b12 true).rises hri, fun vtb H19 e19 jtb => ?_⟩
  have g19 : LamX.ExtN H H19 := g18.trans (.of e19)
  have T19 := T18.ext e19
  have e19 : LamX.ExtN H18 H19 := .of e19
  refine ⟨_, rfl, _, _, (turnJ (joinJ true J1 J2)), t, rfl, jtb, (b12 true).turned.ok, ht.extN1 g19, hz, (b12 true).turned.lets hl, T19, fun H20 e20 T20 => ?_⟩
  have g20 : LamX.ExtN H H20 := g19.trans e20
  refine ⟨_, rfl, _, rfl, _, _, (joinJ false (turnJ J1) (turnJ J2)), t, rfl, ((jl.extN e19).extN e20), (s1.turned.join false s2.turned l7 (by decide)).ok, ht.extN1 g20, hz, (s1.turned.join false s2.turned l7 (by decide)).lets hl, T20, fun H21 e21 T21 => ?_⟩
  have g21 : LamX.ExtN H H21 := g20.trans e21
  have dm : tells (turnJ (joinJ true J1 J2)) t = tells (joinJ false (turnJ J1) (turnJ J2)) t := by
    rw [tells_turn (b12 true).ok ((b12 true).lets hl), d12, tells_join false s1.turned s2.turned hl, n1, n2]
    cases tells J1 t <;> cases tells J2 t <;> rfl
  refine ⟨rfl, _, rfl, neS (congrArg V.bl dm) ?_⟩
  refine ⟨_, rfl, _, rfl, _, J1, rfl, h1.extN g21, s1.ok, s1.rises hri, fun vn H22 e22 jn => ?_⟩
  have g22 : LamX.ExtN H H22 := g21.trans (.of e22)
  have T22 := T21.ext e22
  have e22 : LamX.ExtN H21 H22 := .of e22
  refine ⟨true, _, _, J1, (turnJ J1), rfl, h1.extN g22, s1.ok, jn, s1.turned.ok, s1.same s1.turned, s1.rises hri, (s1.room s1.turned l7 (by decide)).2.1, (s1.room s1.turned l7 (by decide)).2.2.1, (s1.room s1.turned l7 (by decide)).2.2.2, T22, fun vnn H23 e23 T23 jnn => ?_⟩
  have g23 : LamX.ExtN H H23 := g22.trans e23
  refine ⟨_, rfl, _, J1, rfl, h1.extN g23, s1.ok, s1.rises hri, fun vv H24 e24 jv => ?_⟩
  have g24 : LamX.ExtN H H24 := g23.trans (.of e24)
  have T24 := T23.ext e24
  have e24 : LamX.ExtN H23 H24 := .of e24
  refine ⟨_, rfl, false, _, _, (turnJ J1), J1, rfl, jv, s1.turned.ok, h1.extN g24, s1.ok, s1.turned.same s1, s1.turned.rises hri, (s1.turned.room s1 l7 (by decide)).2.1, (s1.turned.room s1 l7 (by decide)).2.2.1, (s1.turned.room s1 l7 (by decide)).2.2.2, T24, fun vvv H25 e25 T25 jvv => ?_⟩
  have g25 : LamX.ExtN H H25 := g24.trans e25
  refine ⟨_, rfl, _, rfl, _, _, (joinJ true J1 (turnJ J1)), t, rfl, ((jnn.extN e24).extN e25), (s1.join true s1.turned l7 (by decide)).ok, ht.extN1 g25, hz, (s1.join true s1.turned l7 (by decide)).lets hl, T25, fun H26 e26 T26 => ?_⟩
  have g26 : LamX.ExtN H H26 := g25.trans e26
  have dn : tells (joinJ true J1 (turnJ J1)) t = false := by
    rw [tells_join true s1 s1.turned hl, n1]
    cases tells J1 t <;> rfl
  have dv : tells (joinJ false (turnJ J1) J1) t = true := by
    rw [tells_join false s1.turned s1 hl, n1]
    cases tells J1 t <;> rfl
  refine ⟨_, rfl, iteFb dn ?_⟩
  refine ⟨_, rfl, _, rfl, _, _, (joinJ false (turnJ J1) J1), t, rfl, (jvv.extN e26), (s1.turned.join false s1 l7 (by decide)).ok, ht.extN1 g26, hz, (s1.turned.join false s1 l7 (by decide)).lets hl, T26, fun H27 e27 T27 => ?_⟩
  have g27 : LamX.ExtN H H27 := g26.trans e27
  refine ⟨_, rfl, iteFb (congrArg (! ·) dv) ?_⟩
  refine ⟨_, rfl, _, rfl, true, _, _, J1, J1, rfl, h1.extN g27, s1.ok, h1.extN g27, s1.ok, s1.same s1, s1.rises hri, (s1.room s1 l7 (by decide)).2.1, (s1.room s1 l7 (by decide)).2.2.1, (s1.room s1 l7 (by decide)).2.2.2, T27, fun vw H28 e28 T28 jw => ?_⟩
  have g28 : LamX.ExtN H H28 := g27.trans e28
  refine ⟨_, rfl, _, _, (joinJ true J1 J1), t, rfl, jw, (s1.join true s1 l7 (by decide)).ok, ht.extN1 g28, hz, (s1.join true s1 l7 (by decide)).lets hl, T28, fun H29 e29 T29 => ?_⟩
  have g29 : LamX.ExtN H H29 := g28.trans e29
  refine ⟨_, rfl, D, _, 0, .bl (tells J1 t), rfl, rfl, SqL.of (lst_ext e29 (lst_ext e28 (lst_ext e27 (lst_ext e26 (lst_ext e25 (lst_ext e24 (lst_ext e23 (lst_ext e22 (lst_ext e21 (lst_ext e20 (lst_ext e19 (lst_ext e18 (lst_ext e17 (lst_ext e16 (lst_ext e15 (lst_ext e14 (lst_ext e13 (lst_ext e12 (lst_ext e11 (lst_ext e10 (lst_ext e9 (lst_ext e8 (lst_ext e7 (lst_ext e6 (lst_ext e5 (lst_ext e4 kD3)))))))))))))))))))))))))), atI_nat (j := 0) rfl, rfl, eqB (Q := Q) (congrArg V.bl ((tells_join true s1 s1 hl).trans (Bool.and_self _))) (q _ g29 T29)⟩
end


def spLaw (K : PySem.W.Frag) : Sp := fun vs H Q _ => ∃ (a : Addr) (ns : List Int), vs = [.ref a] ∧ SqL K H a (ns.map V.int) ∧ ns.length ≤ 63 ∧ ∀ H', Q (.bl true) H'

def FrN (p : Addr) (H H' : Hp) : Prop := ∀ b o, b ≠ p → H b = some o → (∀ ps, o ≠ .tbl ps) → H' b = some o
theorem FrN.fr {p : Addr} {H H' : Hp} (f : Fr p H H') : FrN p H H' := fun b o n e _ => f b o n e
theorem FrN.same {p : Addr} {H H' : Hp} (s : Same H H') : FrN p H H' := fun b o _ e _ => s b o e
theorem FrN.ext {p : Addr} {H H' : Hp} (f : LamX.ExtN H H') : FrN p H H' := fun b o _ e t => f b o e t
theorem FrN.trans {p : Addr} {H H1 H2 : Hp} (f : FrN p H H1) (g : FrN p H1 H2) : FrN p H H2 := fun b o n e t => g b o n (f b o n e t) t
theorem FrN.seq {K : PySem.W.Frag} {p a : Addr} {H H' : Hp} {xs : List V} (c : FrN p H H') (hp : H p = none) (h : SqL K H a xs) : SqL K H' a xs := by
  rcases h with (h | ⟨o, h⟩) | h
  · exact .inl (.inl (c _ _ (ne_of_none h hp) h fun _ e => by cases e))
  · exact .inl (.inr ⟨o, c _ _ (ne_of_none h hp) h fun _ e => by cases e⟩)
  · exact .inr h

theorem seqN {K : PySem.W.Frag} {H H' : Hp} {a : Addr} {xs : List V} (f : LamX.ExtN H H') (h : SqL K H a xs) : SqL K H' a xs := by
  rcases h with (h | ⟨o, h⟩) | h
  · exact .inl (.inl (f _ _ h fun _ z => by cases z))
  · exact .inl (.inr ⟨o, f _ _ h fun _ z => by cases z⟩)
  · exact .inr h
theorem tabs_only : ∀ {TT : List NdefX.NTab}, (TT.map (·.1)).Nodup → ∀ (q : Addr) (f : Nat → Nat → Str), (q, f) ∈ TT → ∀ z ∈ TT, z.1 = q → z.2 = f
  | [], _, _, _, h, _, _, _ => by cases h
  | x :: r, nd, q, f, h, z, hz, e => by
    rw [List.map_cons, List.nodup_cons] at nd
    rcases List.mem_cons.mp h with h | h <;> rcases List.mem_cons.mp hz with k | k
    · rw [k, ← h]
    · exact absurd (List.mem_map.mpr ⟨z, k, by rw [e, ← h]⟩) nd.1
    · exact absurd (List.mem_map.mpr ⟨(q, f), h, by rw [← e, k]⟩) nd.1
    · exact tabs_only nd.2 q f h z k e

section
variable {P : Program} {w : World} {K : PySem.W.Frag} {mg : Str → Option Value} {base : Heap}
theorem ok_law (T : Txt K mg) (B : Tbs T base) : FnOk P w K mg base CX0 30 T.f_law T.d_law ["script"] (spLawT K [T.P_states_upward, T.P_part_states, T.P_judges_joined]) := by
  generalize hTTe : ([(T.P_states_upward, fun _ _ => q_states_upward), (T.P_part_states, fun _ _ => q_part_states), (T.P_judges_joined, fun _ _ => q_judges_joined)] : List NdefX.NTab) = TT
  have nd : (TT.map (·.1)).Nodup := by
    subst hTTe
    simp only [List.map_cons, List.map_nil, List.nodup_cons, List.mem_cons, List.not_mem_nil, or_false, not_or, not_false_eq_true, List.nodup_nil, and_true]
    exact ⟨⟨T.n_states_upward_part_states, T.n_states_upward_judges_joined⟩, T.n_part_states_judges_joined⟩
  have only := tabs_only nd
  have i1 : (T.P_states_upward, fun _ _ => q_states_upward) ∈ TT := by
    subst hTTe
    simp only [List.mem_cons, true_or, or_true]
  have i2 : (T.P_part_states, fun _ _ => q_part_states) ∈ TT := by
    subst hTTe
    simp only [List.mem_cons, true_or, or_true]
  have i3 : (T.P_judges_joined, fun _ _ => q_judges_joined) ∈ TT := by
    subst hTTe
    simp only [List.mem_cons, true_or, or_true]
  have hTr : TTr T TT := ⟨⟨i1, only _ _ i1, i2, only _ _ i2⟩, ⟨i3, only _ _ i3⟩⟩
  have G__law_cell_at : FnOk P w K mg base CX0 1 T.f__law_cell_at T.d__law_cell_at ["script", "k"] (sp__law_cell_at K) := ok__law_cell_at T
  have G__law_deck : FnOk P w K mg base CX0 2 T.f__law_deck T.d__law_deck ["cell", "many"] sp__law_deck := ok__law_deck T
  have G__law_letters : FnOk P w K mg base CX0 3 T.f__law_letters T.d__law_letters ["deck"] sp__law_letters := ok__law_letters T
  have G__law_small : FnOk P w K mg base CX0 5 T.f__law_small T.d__law_small ["deck", "letters", "most"] (sp__law_small P w) := ok__law_small T
  have G__law_tree : FnOk P w K mg base CX0 3 T.f__law_tree T.d__law_tree ["deck", "letters", "most"] sp__law_tree := ok__law_tree T
  have G__law_right : FnOk P w K mg base CX0 18 T.f__law_right T.d__law_right ["one", "other", "tree"] (sp__law_right P w TT) := ok__law_right T B hTr
  refine T.F_law.ok sc_law (fun vs H Q E h => ?_) (fun cdv A outer s H vs Q E hr h => ?_)
  · obtain ⟨a, ns, rfl, _⟩ := h
    rfl
  obtain ⟨a, ns, rfl, hS, h63, hPs, qq⟩ := h
  have T0 : NdefX.TabsN TT H := by
    subst hTTe
    intro z hz
    simp only [List.mem_cons, List.not_mem_nil, or_false] at hz
    rcases hz with rfl | rfl | rfl <;> exact NdefX.TabN.nil (hPs _ (by simp))
  refine ⟨_, (pss_cons (ps_for PassesOwn.never rfl (pi_range1 (by rfl) T.z_range (pa_cons (pe_callB (call_max2 rfl) (by rfl) T.z_max (by decide +kernel) (pa_cons pe_int (pa_cons (pe_callB (call_min2 rfl) (by rfl) T.z_min (by decide +kernel) (pa_cons (pe_callB call_len_seq (by rfl) T.z_len PySem.boot_len (pa_cons (pv 0) pa_nil)) (pa_cons pe_int pa_nil))) pa_nil))) pa_nil)) (pg_name (i := 1) sc_law.nd rfl (Or.inl rfl)) (pss_cons (ps_set (i := 2) sc_law.nd rfl (Or.inl rfl) (pe_call G__law_deck (hr.mono (by omega)) (by rfl) T.m__law_deck T.F__law_deck.kp T.b__law_deck .nil pass0 (pa_cons (pe_call G__law_cell_at (hr.mono (by omega)) (by rfl) T.m__law_cell_at T.F__law_cell_at.kp T.b__law_cell_at .nil pass0 (pa_cons (pv 0) (pa_cons (pv 1) pa_nil))) (pa_cons pe_int pa_nil)))) (pss_cons (ps_set (i := 3) sc_law.nd rfl (Or.inl rfl) (pe_call G__law_letters (hr.mono (by omega)) (by rfl) T.m__law_letters T.F__law_letters.kp T.b__law_letters .nil pass0 (pa_cons (pv 2) pa_nil))) (pss_cons (ps_set (i := 4) sc_law.nd rfl (Or.inl rfl) (pe_call G__law_small (hr.mono (by omega)) (by rfl) T.m__law_small T.F__law_small.kp T.b__law_small .nil pass0 (pa_cons (pv 2) (pa_cons (pv 3) (pa_cons pe_int pa_nil))))) (pss_cons (ps_set (i := 5) sc_law.nd rfl (Or.inl rfl) (pe_call G__law_small (hr.mono (by omega)) (by rfl) T.m__law_small T.F__law_small.kp T.b__law_small .nil pass0 (pa_cons (pv 2) (pa_cons (pv 3) (pa_cons pe_int pa_nil))))) (pss_one (ps_for PassesOwn.never rfl (pi_range1 (by rfl) T.z_range (pa_cons pe_int pa_nil)) (pg_name (i := 6) sc_law.nd rfl (Or.inl rfl)) (pss_one (ps_if (pt_not (pt_val (pe_call G__law_right (hr.mono (by omega)) (by rfl) T.m__law_right T.F__law_right.kp T.b__law_right .nil pass0 (pa_cons (pv 4) (pa_cons (pv 5) (pa_cons (pe_call G__law_tree (hr.mono (by omega)) (by rfl) T.m__law_tree T.F__law_tree.kp T.b__law_tree .nil pass0 (pa_cons (pv 2) (pa_cons (pv 3) (pa_cons pe_int pa_nil)))) pa_nil)))))) (pss_one (ps_ret pe_bl)) pss_nil))))))))) (pss_one (ps_ret pe_bl))), ?_⟩
  obtain ⟨j, hj, hj0, hj1⟩ : ∃ j : Int, (if (if ((ns.map V.int).length : Int) > 3 then 3 else ((ns.map V.int).length : Int)) > 1 then (if ((ns.map V.int).length : Int) > 3 then 3 else ((ns.map V.int).length : Int)) else 1) = j ∧ 0 ≤ j ∧ j ≤ 12 := ⟨_, rfl, by split <;> split <;> omega, by split <;> split <;> omega⟩
  refine ⟨_, rfl, a, _, rfl, .inl hS, _, _, rfl, _, _, rfl, j, congrArg (fun z => [V.int z]) hj, by omega, by omega, for_range (lo := 0) (n := j.toNat) (fun i σ H' => (∃ y1 y2 y3 y4 y5 y6, σ = [some (.ref a), y1, y2, y3, y4, y5, y6]) ∧ SqL K H' a (ns.map V.int) ∧ NdefX.TabsN TT H') ⟨⟨_, _, _, _, _, _, rfl⟩, hS, T0⟩ ?_ ?_⟩
  · rintro i σ H0 hi ⟨⟨y1, y2, y3, y4, y5, y6, rfl⟩, hS0, T0⟩
    refine ⟨_, rfl, _, rfl, a, ns, _, rfl, hS0, by omega, fun x => ⟨x, 600, rfl, by decide, by decide, fun p H1 s1 hp D1 => ?_⟩⟩
    refine ⟨_, rfl, p, rfl, D1, fun L H2 hL hri l7 f2 D2 => ?_⟩
    refine ⟨_, rfl, _, rfl, p, L, 2, rfl, D2, hL, hri, l7, by decide, by decide, fun v1 J1 H2a f2a D2a h1 => ?_⟩
    refine ⟨_, rfl, _, rfl, p, L, 2, rfl, D2a, hL, hri, l7, by decide, by decide, fun v2 J2 H3 f3 D3 h2 => ?_⟩
    obtain ⟨ys, e2a, _⟩ := id D2a
    have h1 := h1.fr (fun b h => h) e2a f3
    have F3 : FrN p H0 H3 := (FrN.same s1).trans ((FrN.fr f2).trans ((FrN.fr f2a).trans (.fr f3)))
    have T3 : NdefX.TabsN TT H3 := D1.tabs (T0.ext s1) ((f2.trans f2a).trans f3)
    refine ⟨6, rfl, by decide, by decide, for_range (lo := 0) (n := 6) (fun i2 σ H' => (∃ y6, σ = [some (.ref a), some (.int (0 + i)), some (.ref p), some (.str L), some v1, some v2, y6]) ∧ smallJ P w (fun b => b ≠ p) L 2 H' v1 J1 ∧ smallJ P w (fun b => b ≠ p) L 2 H' v2 J2 ∧ Dn H' p ∧ FrN p H0 H' ∧ NdefX.TabsN TT H') ⟨⟨_, rfl⟩, h1, h2, D3, F3, T3⟩ ?_ ?_⟩
    · rintro i2 σ H4 hi2 ⟨⟨y6, rfl⟩, h1, h2, D4, F4, T4⟩
      refine ⟨_, rfl, _, rfl, _, rfl, _, rfl, p, L, 30, rfl, D4, hL, by decide, by decide, fun u t H5 f5 D5 ht hz hl => ?_⟩
      obtain ⟨ys, e4, _⟩ := id D4
      have h1 := h1.fr (fun b h => h) e4 f5
      have h2 := h2.fr (fun b h => h) e4 f5
      have T5 := D4.tabs T4 f5
      refine ⟨v1, v2, u, J1, J2, t, L, rfl, h1.1.1.at, h2.1.1.at, Sm.of h1.1.2.1 h1.1.2.2.1 h1.1.2.2.2.1 h1.2, Sm.of h2.1.2.1 h2.1.2.2.1 h2.1.2.2.2.1 h2.2, h1.1.2.2.2.2, hL, hri, l7, ht.weak fun _ _ => trivial, Nat.le_trans hz (by decide), hl, T5, fun H6 e6 T6 => ⟨_, rfl, iteF ?_⟩⟩
      exact ⟨⟨_, rfl⟩, h1.extN e6, h2.extN e6, D5.ext e6, (F4.trans (.fr f5)).trans (.ext e6), T6⟩
    · rintro σ H4 ⟨⟨y6, rfl⟩, _, _, _, F4, T4⟩
      exact ⟨⟨_, _, _, _, _, _, rfl⟩, F4.seq hp hS0, T4⟩
  · rintro σ H4 _
    exact qq H4
end

theorem all_mk {l : PySem.W.OpenLaw} {w : World} {K : PySem.W.Frag} {h : Heap} {mg : Str → Option Value} {fa f0 f1 f2 f3 f4 f5 f6 f7 f8 f9 f10 f11 f12 f13 f14 f15 f16 f17 f18 f19 f20 f21 f22 f23 f24 f25 f26 f27 f28 f29 f30 f31 f32 f33 : Addr} (X : K.In h) (G : h.Ns mainGlobals mg) (hfa : mg "law" = some (.ref fa))
    {od0 an0 od1 an1 od2 an2 od3 an3 od4 an4 od5 an5 od6 an6 od7 an7 od8 an8 od9 an9 od10 an10 od11 an11 od12 an12 od13 an13 od14 an14 od15 an15 od16 an16 od17 an17 od18 an18 od19 an19 od20 an20 od21 an21 od22 an22 od23 an23 od24 an24 od25 an25 od26 an26 od27 an27 od28 an28 od29 an29 od30 an30 od31 an31 od32 an32 od33 an33 : Option Addr} {sl0 sl1 sl2 sl3 sl4 sl5 sl6 sl7 sl8 sl9 sl10 sl11 sl12 sl13 sl14 sl15 sl16 sl17 sl18 sl19 sl20 sl21 sl22 sl23 sl24 sl25 sl26 sl27 sl28 sl29 sl30 sl31 sl32 sl33 : Array (Option Value)} {oc0 kV0 dc0 pm0 ct0 cd0 oc1 kV1 dc1 pm1 ct1 cd1 oc2 kV2 dc2 pm2 ct2 cd2 oc3 kV3 dc3 pm3 ct3 cd3 oc4 kV4 dc4 pm4 ct4 cd4 oc5 kV5 dc5 pm5 ct5 cd5 oc6 kV6 dc6 pm6 ct6 cd6 oc7 kV7 dc7 pm7 ct7 cd7 oc8 kV8 dc8 pm8 ct8 cd8 oc9 kV9 dc9 pm9 ct9 cd9 oc10 kV10 dc10 pm10 ct10 cd10 oc11 kV11 dc11 pm11 ct11 cd11 oc12 kV12 dc12 pm12 ct12 cd12 oc13 kV13 dc13 pm13 ct13 cd13 oc14 kV14 dc14 pm14 ct14 oc15 kV15 dc15 pm15 ct15 oc16 kV16 dc16 pm16 ct16 cd16 oc17 kV17 dc17 pm17 ct17 cd17 oc18 kV18 dc18 pm18 ct18 cd18 oc19 kV19 dc19 pm19 ct19 oc20 kV20 dc20 pm20 ct20 cd20 oc21 kV21 dc21 pm21 ct21 cd21 oc22 kV22 dc22 pm22 ct22 cd22 oc23 kV23 dc23 pm23 ct23 cd23 oc24 kV24 dc24 pm24 ct24 cd24 oc25 kV25 dc25 pm25 ct25 cd25 oc26 kV26 dc26 pm26 ct26 cd26 oc27 kV27 dc27 pm27 ct27 cd27 oc28 kV28 dc28 pm28 ct28 cd28 oc29 kV29 dc29 pm29 ct29 cd29 oc30 kV30 dc30 pm30 ct30 cd30 oc31 kV31 dc31 pm31 ct31 cd31 oc32 kV32 dc32 pm32 ct32 cd32 oc33 kV33 dc33 pm33 ct33 cd33 : Value} {c14 P14 c15 P15 c19 P19 : Addr}
    (a0 : PySem.W.nsIn K mainGlobals "is_letter" = some (some (.ref f0))) (l0 : K.lookup f0 = some ⟨oc0, od0, .func (PySem.W.fnOf "is_letter" "is_letter" (defArgs s_is_letter) (defBody s_is_letter) (defScope s_is_letter) .none kV0 dc0 pm0 an0 cd0 ct0), sl0⟩) (d0 : PySem.W.codeIn K cd0 "is_letter" = true) (k0 : PySem.W.keepIn K (.ref f0) = true)
    (a1 : PySem.W.nsIn K mainGlobals "is_tree" = some (some (.ref f1))) (l1 : K.lookup f1 = some ⟨oc1, od1, .func (PySem.W.fnOf "is_tree" "is_tree" (defArgs s_is_tree) (defBody s_is_tree) (defScope s_is_tree) .none kV1 dc1 pm1 an1 cd1 ct1), sl1⟩) (d1 : PySem.W.codeIn K cd1 "is_tree" = true) (k1 : PySem.W.keepIn K (.ref f1) = true)
    (a2 : PySem.W.nsIn K mainGlobals "_is_part" = some (some (.ref f2))) (l2 : K.lookup f2 = some ⟨oc2, od2, .func (PySem.W.fnOf "_is_part" "_is_part" (defArgs s__is_part) (defBody s__is_part) (defScope s__is_part) .none kV2 dc2 pm2 an2 cd2 ct2), sl2⟩) (d2 : PySem.W.codeIn K cd2 "_is_part" = true) (k2 : PySem.W.keepIn K (.ref f2) = true)
    (a3 : PySem.W.nsIn K mainGlobals "check_tree" = some (some (.ref f3))) (l3 : K.lookup f3 = some ⟨oc3, od3, .func (PySem.W.fnOf "check_tree" "check_tree" (defArgs s_check_tree) (defBody s_check_tree) (defScope s_check_tree) .none kV3 dc3 pm3 an3 cd3 ct3), sl3⟩) (d3 : PySem.W.codeIn K cd3 "check_tree" = true) (k3 : PySem.W.keepIn K (.ref f3) = true)
    (a4 : PySem.W.nsIn K mainGlobals "parts_upward" = some (some (.ref f4))) (l4 : K.lookup f4 = some ⟨oc4, od4, .func (PySem.W.fnOf "parts_upward" "parts_upward" (defArgs s_parts_upward) (defBody s_parts_upward) (defScope s_parts_upward) .none kV4 dc4 pm4 an4 cd4 ct4), sl4⟩) (d4 : PySem.W.codeIn K cd4 "parts_upward" = true) (k4 : PySem.W.keepIn K (.ref f4) = true)
    (a5 : PySem.W.nsIn K mainGlobals "built_upward" = some (some (.ref f5))) (l5 : K.lookup f5 = some ⟨oc5, od5, .func (PySem.W.fnOf "built_upward" "built_upward" (defArgs s_built_upward) (defBody s_built_upward) (defScope s_built_upward) .none kV5 dc5 pm5 an5 cd5 ct5), sl5⟩) (d5 : PySem.W.codeIn K cd5 "built_upward" = true) (k5 : PySem.W.keepIn K (.ref f5) = true)
    (a6 : PySem.W.nsIn K mainGlobals "tuples_due" = some (some (.ref f6))) (l6 : K.lookup f6 = some ⟨oc6, od6, .func (PySem.W.fnOf "tuples_due" "tuples_due" (defArgs s_tuples_due) (defBody s_tuples_due) (defScope s_tuples_due) .none kV6 dc6 pm6 an6 cd6 ct6), sl6⟩) (d6 : PySem.W.codeIn K cd6 "tuples_due" = true) (k6 : PySem.W.keepIn K (.ref f6) = true)
    (a7 : PySem.W.nsIn K mainGlobals "class_of" = some (some (.ref f7))) (l7 : K.lookup f7 = some ⟨oc7, od7, .func (PySem.W.fnOf "class_of" "class_of" (defArgs s_class_of) (defBody s_class_of) (defScope s_class_of) .none kV7 dc7 pm7 an7 cd7 ct7), sl7⟩) (d7 : PySem.W.codeIn K cd7 "class_of" = true) (k7 : PySem.W.keepIn K (.ref f7) = true)
    (a8 : PySem.W.nsIn K mainGlobals "class_rows" = some (some (.ref f8))) (l8 : K.lookup f8 = some ⟨oc8, od8, .func (PySem.W.fnOf "class_rows" "class_rows" (defArgs s_class_rows) (defBody s_class_rows) (defScope s_class_rows) .none kV8 dc8 pm8 an8 cd8 ct8), sl8⟩) (d8 : PySem.W.codeIn K cd8 "class_rows" = true) (k8 : PySem.W.keepIn K (.ref f8) = true)
    (a9 : PySem.W.nsIn K mainGlobals "keys_due" = some (some (.ref f9))) (l9 : K.lookup f9 = some ⟨oc9, od9, .func (PySem.W.fnOf "keys_due" "keys_due" (defArgs s_keys_due) (defBody s_keys_due) (defScope s_keys_due) .none kV9 dc9 pm9 an9 cd9 ct9), sl9⟩) (d9 : PySem.W.codeIn K cd9 "keys_due" = true) (k9 : PySem.W.keepIn K (.ref f9) = true)
    (a10 : PySem.W.nsIn K mainGlobals "table_made" = some (some (.ref f10))) (l10 : K.lookup f10 = some ⟨oc10, od10, .func (PySem.W.fnOf "table_made" "table_made" (defArgs s_table_made) (defBody s_table_made) (defScope s_table_made) .none kV10 dc10 pm10 an10 cd10 ct10), sl10⟩) (d10 : PySem.W.codeIn K cd10 "table_made" = true) (k10 : PySem.W.keepIn K (.ref f10) = true)
    (a11 : PySem.W.nsIn K mainGlobals "state_by_numbers" = some (some (.ref f11))) (l11 : K.lookup f11 = some ⟨oc11, od11, .func (PySem.W.fnOf "state_by_numbers" "state_by_numbers" (defArgs s_state_by_numbers) (defBody s_state_by_numbers) (defScope s_state_by_numbers) .none kV11 dc11 pm11 an11 cd11 ct11), sl11⟩) (d11 : PySem.W.codeIn K cd11 "state_by_numbers" = true) (k11 : PySem.W.keepIn K (.ref f11) = true)
    (a12 : PySem.W.nsIn K mainGlobals "_numbers" = some (some (.ref f12))) (l12 : K.lookup f12 = some ⟨oc12, od12, .func (PySem.W.fnOf "_numbers" "_numbers" (defArgs s__numbers) (defBody s__numbers) (defScope s__numbers) .none kV12 dc12 pm12 an12 cd12 ct12), sl12⟩) (d12 : PySem.W.codeIn K cd12 "_numbers" = true) (k12 : PySem.W.keepIn K (.ref f12) = true)
    (a13 : PySem.W.nsIn K mainGlobals "check_letters" = some (some (.ref f13))) (l13 : K.lookup f13 = some ⟨oc13, od13, .func (PySem.W.fnOf "check_letters" "check_letters" (defArgs s_check_letters) (defBody s_check_letters) (defScope s_check_letters) .none kV13 dc13 pm13 an13 cd13 ct13), sl13⟩) (d13 : PySem.W.codeIn K cd13 "check_letters" = true) (k13 : PySem.W.keepIn K (.ref f13) = true)
    (a14 : PySem.W.nsIn K mainGlobals "states_upward" = some (some (.ref f14))) (l14 : K.lookup f14 = some ⟨oc14, od14, .func (PySem.W.fnOf "states_upward" "states_upward" (defArgs s_states_upward) (defBody s_states_upward) (defScope s_states_upward) .none kV14 dc14 pm14 an14 (.ref c14) ct14), sl14⟩) (d14 : PySem.W.codeIn K (.ref c14) "states_upward" = true) (k14 : PySem.W.keepIn K (.ref f14) = true)
    (a15 : PySem.W.nsIn K mainGlobals "part_states" = some (some (.ref f15))) (l15 : K.lookup f15 = some ⟨oc15, od15, .func (PySem.W.fnOf "part_states" "part_states" (defArgs s_part_states) (defBody s_part_states) (defScope s_part_states) .none kV15 dc15 pm15 an15 (.ref c15) ct15), sl15⟩) (d15 : PySem.W.codeIn K (.ref c15) "part_states" = true) (k15 : PySem.W.keepIn K (.ref f15) = true)
    (a16 : PySem.W.nsIn K mainGlobals "state_of" = some (some (.ref f16))) (l16 : K.lookup f16 = some ⟨oc16, od16, .func (PySem.W.fnOf "state_of" "state_of" (defArgs s_state_of) (defBody s_state_of) (defScope s_state_of) .none kV16 dc16 pm16 an16 cd16 ct16), sl16⟩) (d16 : PySem.W.codeIn K cd16 "state_of" = true) (k16 : PySem.W.keepIn K (.ref f16) = true)
    (a17 : PySem.W.nsIn K mainGlobals "lets_by" = some (some (.ref f17))) (l17 : K.lookup f17 = some ⟨oc17, od17, .func (PySem.W.fnOf "lets_by" "lets_by" (defArgs s_lets_by) (defBody s_lets_by) (defScope s_lets_by) .none kV17 dc17 pm17 an17 cd17 ct17), sl17⟩) (d17 : PySem.W.codeIn K cd17 "lets_by" = true) (k17 : PySem.W.keepIn K (.ref f17) = true)
    (a18 : PySem.W.nsIn K mainGlobals "turned_judge" = some (some (.ref f18))) (l18 : K.lookup f18 = some ⟨oc18, od18, .func (PySem.W.fnOf "turned_judge" "turned_judge" (defArgs s_turned_judge) (defBody s_turned_judge) (defScope s_turned_judge) .none kV18 dc18 pm18 an18 cd18 ct18), sl18⟩) (d18 : PySem.W.codeIn K cd18 "turned_judge" = true) (k18 : PySem.W.keepIn K (.ref f18) = true)
    (a19 : PySem.W.nsIn K mainGlobals "judges_joined" = some (some (.ref f19))) (l19 : K.lookup f19 = some ⟨oc19, od19, .func (PySem.W.fnOf "judges_joined" "judges_joined" (defArgs s_judges_joined) (defBody s_judges_joined) (defScope s_judges_joined) .none kV19 dc19 pm19 an19 (.ref c19) ct19), sl19⟩) (d19 : PySem.W.codeIn K (.ref c19) "judges_joined" = true) (k19 : PySem.W.keepIn K (.ref f19) = true)
    (a20 : PySem.W.nsIn K mainGlobals "_pair_at" = some (some (.ref f20))) (l20 : K.lookup f20 = some ⟨oc20, od20, .func (PySem.W.fnOf "_pair_at" "_pair_at" (defArgs s__pair_at) (defBody s__pair_at) (defScope s__pair_at) .none kV20 dc20 pm20 an20 cd20 ct20), sl20⟩) (d20 : PySem.W.codeIn K cd20 "_pair_at" = true) (k20 : PySem.W.keepIn K (.ref f20) = true)
    (a21 : PySem.W.nsIn K mainGlobals "_good_pairs" = some (some (.ref f21))) (l21 : K.lookup f21 = some ⟨oc21, od21, .func (PySem.W.fnOf "_good_pairs" "_good_pairs" (defArgs s__good_pairs) (defBody s__good_pairs) (defScope s__good_pairs) .none kV21 dc21 pm21 an21 cd21 ct21), sl21⟩) (d21 : PySem.W.codeIn K cd21 "_good_pairs" = true) (k21 : PySem.W.keepIn K (.ref f21) = true)
    (a22 : PySem.W.nsIn K mainGlobals "_law_cell_at" = some (some (.ref f22))) (l22 : K.lookup f22 = some ⟨oc22, od22, .func (PySem.W.fnOf "_law_cell_at" "_law_cell_at" (defArgs s__law_cell_at) (defBody s__law_cell_at) (defScope s__law_cell_at) .none kV22 dc22 pm22 an22 cd22 ct22), sl22⟩) (d22 : PySem.W.codeIn K cd22 "_law_cell_at" = true) (k22 : PySem.W.keepIn K (.ref f22) = true)
    (a23 : PySem.W.nsIn K mainGlobals "_law_stir" = some (some (.ref f23))) (l23 : K.lookup f23 = some ⟨oc23, od23, .func (PySem.W.fnOf "_law_stir" "_law_stir" (defArgs s__law_stir) (defBody s__law_stir) (defScope s__law_stir) .none kV23 dc23 pm23 an23 cd23 ct23), sl23⟩) (d23 : PySem.W.codeIn K cd23 "_law_stir" = true) (k23 : PySem.W.keepIn K (.ref f23) = true)
    (a24 : PySem.W.nsIn K mainGlobals "_law_deck" = some (some (.ref f24))) (l24 : K.lookup f24 = some ⟨oc24, od24, .func (PySem.W.fnOf "_law_deck" "_law_deck" (defArgs s__law_deck) (defBody s__law_deck) (defScope s__law_deck) .none kV24 dc24 pm24 an24 cd24 ct24), sl24⟩) (d24 : PySem.W.codeIn K cd24 "_law_deck" = true) (k24 : PySem.W.keepIn K (.ref f24) = true)
    (a25 : PySem.W.nsIn K mainGlobals "_law_next" = some (some (.ref f25))) (l25 : K.lookup f25 = some ⟨oc25, od25, .func (PySem.W.fnOf "_law_next" "_law_next" (defArgs s__law_next) (defBody s__law_next) (defScope s__law_next) .none kV25 dc25 pm25 an25 cd25 ct25), sl25⟩) (d25 : PySem.W.codeIn K cd25 "_law_next" = true) (k25 : PySem.W.keepIn K (.ref f25) = true)
    (a26 : PySem.W.nsIn K mainGlobals "_law_classes" = some (some (.ref f26))) (l26 : K.lookup f26 = some ⟨oc26, od26, .func (PySem.W.fnOf "_law_classes" "_law_classes" (defArgs s__law_classes) (defBody s__law_classes) (defScope s__law_classes) .none kV26 dc26 pm26 an26 cd26 ct26), sl26⟩) (d26 : PySem.W.codeIn K cd26 "_law_classes" = true) (k26 : PySem.W.keepIn K (.ref f26) = true)
    (a27 : PySem.W.nsIn K mainGlobals "_law_room" = some (some (.ref f27))) (l27 : K.lookup f27 = some ⟨oc27, od27, .func (PySem.W.fnOf "_law_room" "_law_room" (defArgs s__law_room) (defBody s__law_room) (defScope s__law_room) .none kV27 dc27 pm27 an27 cd27 ct27), sl27⟩) (d27 : PySem.W.codeIn K cd27 "_law_room" = true) (k27 : PySem.W.keepIn K (.ref f27) = true)
    (a28 : PySem.W.nsIn K mainGlobals "_law_judge" = some (some (.ref f28))) (l28 : K.lookup f28 = some ⟨oc28, od28, .func (PySem.W.fnOf "_law_judge" "_law_judge" (defArgs s__law_judge) (defBody s__law_judge) (defScope s__law_judge) .none kV28 dc28 pm28 an28 cd28 ct28), sl28⟩) (d28 : PySem.W.codeIn K cd28 "_law_judge" = true) (k28 : PySem.W.keepIn K (.ref f28) = true)
    (a29 : PySem.W.nsIn K mainGlobals "_law_letters" = some (some (.ref f29))) (l29 : K.lookup f29 = some ⟨oc29, od29, .func (PySem.W.fnOf "_law_letters" "_law_letters" (defArgs s__law_letters) (defBody s__law_letters) (defScope s__law_letters) .none kV29 dc29 pm29 an29 cd29 ct29), sl29⟩) (d29 : PySem.W.codeIn K cd29 "_law_letters" = true) (k29 : PySem.W.keepIn K (.ref f29) = true)
    (a30 : PySem.W.nsIn K mainGlobals "_law_tree" = some (some (.ref f30))) (l30 : K.lookup f30 = some ⟨oc30, od30, .func (PySem.W.fnOf "_law_tree" "_law_tree" (defArgs s__law_tree) (defBody s__law_tree) (defScope s__law_tree) .none kV30 dc30 pm30 an30 cd30 ct30), sl30⟩) (d30 : PySem.W.codeIn K cd30 "_law_tree" = true) (k30 : PySem.W.keepIn K (.ref f30) = true)
    (a31 : PySem.W.nsIn K mainGlobals "_law_small" = some (some (.ref f31))) (l31 : K.lookup f31 = some ⟨oc31, od31, .func (PySem.W.fnOf "_law_small" "_law_small" (defArgs s__law_small) (defBody s__law_small) (defScope s__law_small) .none kV31 dc31 pm31 an31 cd31 ct31), sl31⟩) (d31 : PySem.W.codeIn K cd31 "_law_small" = true) (k31 : PySem.W.keepIn K (.ref f31) = true)
    (a32 : PySem.W.nsIn K mainGlobals "_law_right" = some (some (.ref f32))) (l32 : K.lookup f32 = some ⟨oc32, od32, .func (PySem.W.fnOf "_law_right" "_law_right" (defArgs s__law_right) (defBody s__law_right) (defScope s__law_right) .none kV32 dc32 pm32 an32 cd32 ct32), sl32⟩) (d32 : PySem.W.codeIn K cd32 "_law_right" = true) (k32 : PySem.W.keepIn K (.ref f32) = true)
    (a33 : PySem.W.nsIn K mainGlobals "law" = some (some (.ref f33))) (l33 : K.lookup f33 = some ⟨oc33, od33, .func (PySem.W.fnOf "law" "law" (defArgs s_law) (defBody s_law) (defScope s_law) .none kV33 dc33 pm33 an33 cd33 ct33), sl33⟩) (d33 : PySem.W.codeIn K cd33 "law" = true) (k33 : PySem.W.keepIn K (.ref f33) = true)
    {tk_MOST_STATES : Tok}
    {tk_MOST_TURN : Tok}
    {tk_MOST_TUPLES : Tok}
    (ak_MOST_STATES : PySem.W.nsIn K mainGlobals "MOST_STATES" = some (some (.int 6 tk_MOST_STATES)))
    (ak_MOST_TURN : PySem.W.nsIn K mainGlobals "MOST_TURN" = some (some (.int 4 tk_MOST_TURN)))
    (ak_MOST_TUPLES : PySem.W.nsIn K mainGlobals "MOST_TUPLES" = some (some (.int 600 tk_MOST_TUPLES)))
    (ii_lcm : PySem.W.nsIn K mainGlobals "lcm" = some (some (.builtin "math.lcm")))
    (t14 : PySem.W.tabIn K "states_upward" = some (c14, P14)) (u14 : K.lookup P14 = none)
    (t15 : PySem.W.tabIn K "part_states" = some (c15, P15)) (u15 : K.lookup P15 = none)
    (t19 : PySem.W.tabIn K "judges_joined" = some (c19, P19)) (u19 : K.lookup P19 = none)
    (v14_15 : P14 ≠ P15)
    (v14_19 : P14 ≠ P19)
    (v15_19 : P15 ≠ P19)
    (z_dict : PySem.W.nsIn K mainGlobals "dict" = some none)
    (z_enumerate : PySem.W.nsIn K mainGlobals "enumerate" = some none)
    (z_int : PySem.W.nsIn K mainGlobals "int" = some none)
    (z_isinstance : PySem.W.nsIn K mainGlobals "isinstance" = some none)
    (z_len : PySem.W.nsIn K mainGlobals "len" = some none)
    (z_list : PySem.W.nsIn K mainGlobals "list" = some none)
    (z_max : PySem.W.nsIn K mainGlobals "max" = some none)
    (z_min : PySem.W.nsIn K mainGlobals "min" = some none)
    (z_range : PySem.W.nsIn K mainGlobals "range" = some none)
    (z_str : PySem.W.nsIn K mainGlobals "str" = some none)
    (z_sum : PySem.W.nsIn K mainGlobals "sum" = some none)
    (z_tuple : PySem.W.nsIn K mainGlobals "tuple" = some none)
    (z_zip : PySem.W.nsIn K mainGlobals "zip" = some none)
    : LawT l w K 30 "script" mg fa [("states_upward", c14, P14), ("part_states", c15, P15), ("judges_joined", c19, P19)] := by
  have e := hfa.symm.trans (PySem.W.mg_of X G a33)
  cases e
  have F0 := fun_mk (st := s_is_letter) l0 d0 k0
  have b0 := F0.binds (ps := ["thing"]) fun _ _ _ _ _ _ us hl => match us, hl with | [_], _ => rfl
  have F1 := fun_mk (st := s_is_tree) l1 d1 k1
  have b1 := F1.binds (ps := ["thing"]) fun _ _ _ _ _ _ us hl => match us, hl with | [_], _ => rfl
  have F2 := fun_mk (st := s__is_part) l2 d2 k2
  have b2 := F2.binds (ps := ["thing"]) fun _ _ _ _ _ _ us hl => match us, hl with | [_], _ => rfl
  have F3 := fun_mk (st := s_check_tree) l3 d3 k3
  have b3 := F3.binds (ps := ["thing"]) fun _ _ _ _ _ _ us hl => match us, hl with | [_], _ => rfl
  have F4 := fun_mk (st := s_parts_upward) l4 d4 k4
  have b4 := F4.binds (ps := ["tree"]) fun _ _ _ _ _ _ us hl => match us, hl with | [_], _ => rfl
  have F5 := fun_mk (st := s_built_upward) l5 d5 k5
  have b5 := F5.binds (ps := ["tree", "made"]) fun _ _ _ _ _ _ us hl => match us, hl with | [_, _], _ => rfl
  have F6 := fun_mk (st := s_tuples_due) l6 d6 k6
  have b6 := F6.binds (ps := ["letters", "states", "classes"]) fun _ _ _ _ _ _ us hl => match us, hl with | [_, _, _], _ => rfl
  have F7 := fun_mk (st := s_class_of) l7 d7 k7
  have b7 := F7.binds (ps := ["number", "few", "turn"]) fun _ _ _ _ _ _ us hl => match us, hl with | [_, _, _], _ => rfl
  have F8 := fun_mk (st := s_class_rows) l8 d8 k8
  have b8 := F8.binds (ps := ["states", "classes"]) fun _ _ _ _ _ _ us hl => match us, hl with | [_, _], _ => rfl
  have F9 := fun_mk (st := s_keys_due) l9 d9 k9
  have b9 := F9.binds (ps := ["letters", "states", "classes"]) fun _ _ _ _ _ _ us hl => match us, hl with | [_, _, _], _ => rfl
  have F10 := fun_mk (st := s_table_made) l10 d10 k10
  have b10 := F10.binds (ps := ["letters", "states", "few", "turn", "state_at"]) fun _ _ _ _ _ _ us hl => match us, hl with | [_, _, _, _, _], _ => rfl
  have F11 := fun_mk (st := s_state_by_numbers) l11 d11 k11
  have b11 := F11.binds (ps := ["judge", "letter", "numbers"]) fun _ _ _ _ _ _ us hl => match us, hl with | [_, _, _], _ => rfl
  have F12 := fun_mk (st := s__numbers) l12 d12 k12
  have b12 := F12.binds (ps := ["below", "states"]) fun _ _ _ _ _ _ us hl => match us, hl with | [_, _], _ => rfl
  have F13 := fun_mk (st := s_check_letters) l13 d13 k13
  have b13 := F13.binds (ps := ["parts", "letters"]) fun _ _ _ _ _ _ us hl => match us, hl with | [_, _], _ => rfl
  have F14 := fun_mk (st := s_states_upward) l14 d14 k14
  have b14 := F14.binds (ps := ["tree", "letters", "states", "state_at"]) fun _ _ _ _ _ _ us hl => match us, hl with | [_, _, _, _], _ => rfl
  have F15 := fun_mk (st := s_part_states) l15 d15 k15
  have b15 := F15.binds (ps := ["judge", "tree"]) fun _ _ _ _ _ _ us hl => match us, hl with | [_, _], _ => rfl
  have F16 := fun_mk (st := s_state_of) l16 d16 k16
  have b16 := F16.binds (ps := ["judge", "tree"]) fun _ _ _ _ _ _ us hl => match us, hl with | [_, _], _ => rfl
  have F17 := fun_mk (st := s_lets_by) l17 d17 k17
  have b17 := F17.binds (ps := ["judge", "tree"]) fun _ _ _ _ _ _ us hl => match us, hl with | [_, _], _ => rfl
  have F18 := fun_mk (st := s_turned_judge) l18 d18 k18
  have b18 := F18.binds (ps := ["judge"]) fun _ _ _ _ _ _ us hl => match us, hl with | [_], _ => rfl
  have F19 := fun_mk (st := s_judges_joined) l19 d19 k19
  have b19 := F19.binds (ps := ["word", "one", "other"]) fun _ _ _ _ _ _ us hl => match us, hl with | [_, _, _], _ => rfl
  have F20 := fun_mk (st := s__pair_at) l20 d20 k20
  have b20 := F20.binds (ps := ["one", "other", "letter", "row"]) fun _ _ _ _ _ _ us hl => match us, hl with | [_, _, _, _], _ => rfl
  have F21 := fun_mk (st := s__good_pairs) l21 d21 k21
  have b21 := F21.binds (ps := ["word", "one", "other"]) fun _ _ _ _ _ _ us hl => match us, hl with | [_, _, _], _ => rfl
  have F22 := fun_mk (st := s__law_cell_at) l22 d22 k22
  have b22 := F22.binds (ps := ["script", "k"]) fun _ _ _ _ _ _ us hl => match us, hl with | [_, _], _ => rfl
  have F23 := fun_mk (st := s__law_stir) l23 d23 k23
  have b23 := F23.binds (ps := ["cell", "k"]) fun _ _ _ _ _ _ us hl => match us, hl with | [_, _], _ => rfl
  have F24 := fun_mk (st := s__law_deck) l24 d24 k24
  have b24 := F24.binds (ps := ["cell", "many"]) fun _ _ _ _ _ _ us hl => match us, hl with | [_, _], _ => rfl
  have F25 := fun_mk (st := s__law_next) l25 d25 k25
  have b25 := F25.binds (ps := ["deck"]) fun _ _ _ _ _ _ us hl => match us, hl with | [_], _ => rfl
  have F26 := fun_mk (st := s__law_classes) l26 d26 k26
  have b26 := F26.binds (ps := ["states", "many"]) fun _ _ _ _ _ _ us hl => match us, hl with | [_, _], _ => rfl
  have F27 := fun_mk (st := s__law_room) l27 d27 k27
  have b27 := F27.binds (ps := ["letters", "states", "many"]) fun _ _ _ _ _ _ us hl => match us, hl with | [_, _, _], _ => rfl
  have F28 := fun_mk (st := s__law_judge) l28 d28 k28
  have b28 := F28.binds (ps := ["deck", "letters", "most", "room"]) fun _ _ _ _ _ _ us hl => match us, hl with | [_, _, _, _], _ => rfl
  have F29 := fun_mk (st := s__law_letters) l29 d29 k29
  have b29 := F29.binds (ps := ["deck"]) fun _ _ _ _ _ _ us hl => match us, hl with | [_], _ => rfl
  have F30 := fun_mk (st := s__law_tree) l30 d30 k30
  have b30 := F30.binds (ps := ["deck", "letters", "most"]) fun _ _ _ _ _ _ us hl => match us, hl with | [_, _, _], _ => rfl
  have F31 := fun_mk (st := s__law_small) l31 d31 k31
  have b31 := F31.binds (ps := ["deck", "letters", "most"]) fun _ _ _ _ _ _ us hl => match us, hl with | [_, _, _], _ => rfl
  have F32 := fun_mk (st := s__law_right) l32 d32 k32
  have b32 := F32.binds (ps := ["one", "other", "tree"]) fun _ _ _ _ _ _ us hl => match us, hl with | [_, _, _], _ => rfl
  have F33 := fun_mk (st := s_law) l33 d33 k33
  have b33 := F33.binds (ps := ["script"]) fun _ _ _ _ _ _ us hl => match us, hl with | [_], _ => rfl
  let T : Txt K mg := ⟨f0, _, F0, b0, PySem.W.mg_of X G a0, f1, _, F1, b1, PySem.W.mg_of X G a1, f2, _, F2, b2, PySem.W.mg_of X G a2, f3, _, F3, b3, PySem.W.mg_of X G a3, f4, _, F4, b4, PySem.W.mg_of X G a4, f5, _, F5, b5, PySem.W.mg_of X G a5, f6, _, F6, b6, PySem.W.mg_of X G a6, f7, _, F7, b7, PySem.W.mg_of X G a7, f8, _, F8, b8, PySem.W.mg_of X G a8, f9, _, F9, b9, PySem.W.mg_of X G a9, f10, _, F10, b10, PySem.W.mg_of X G a10, f11, _, F11, b11, PySem.W.mg_of X G a11, f12, _, F12, b12, PySem.W.mg_of X G a12, f13, _, F13, b13, PySem.W.mg_of X G a13, f14, _, F14, b14, PySem.W.mg_of X G a14, f15, _, F15, b15, PySem.W.mg_of X G a15, f16, _, F16, b16, PySem.W.mg_of X G a16, f17, _, F17, b17, PySem.W.mg_of X G a17, f18, _, F18, b18, PySem.W.mg_of X G a18, f19, _, F19, b19, PySem.W.mg_of X G a19, f20, _, F20, b20, PySem.W.mg_of X G a20, f21, _, F21, b21, PySem.W.mg_of X G a21, f22, _, F22, b22, PySem.W.mg_of X G a22, f23, _, F23, b23, PySem.W.mg_of X G a23, f24, _, F24, b24, PySem.W.mg_of X G a24, f25, _, F25, b25, PySem.W.mg_of X G a25, f26, _, F26, b26, PySem.W.mg_of X G a26, f27, _, F27, b27, PySem.W.mg_of X G a27, f28, _, F28, b28, PySem.W.mg_of X G a28, f29, _, F29, b29, PySem.W.mg_of X G a29, f30, _, F30, b30, PySem.W.mg_of X G a30, f31, _, F31, b31, PySem.W.mg_of X G a31, f32, _, F32, b32, PySem.W.mg_of X G a32, fa, _, F33, b33, PySem.W.mg_of X G a33, _, PySem.W.mg_of X G ak_MOST_STATES, _, PySem.W.mg_of X G ak_MOST_TURN, _, PySem.W.mg_of X G ak_MOST_TUPLES, PySem.W.mg_of X G ii_lcm, c14, P14, rfl, c15, P15, rfl, c19, P19, rfl, v14_15, v14_19, v15_19, PySem.W.mg_none_of X G z_dict, PySem.W.mg_none_of X G z_enumerate, PySem.W.mg_none_of X G z_int, PySem.W.mg_none_of X G z_isinstance, PySem.W.mg_none_of X G z_len, PySem.W.mg_none_of X G z_list, PySem.W.mg_none_of X G z_max, PySem.W.mg_none_of X G z_min, PySem.W.mg_none_of X G z_range, PySem.W.mg_none_of X G z_str, PySem.W.mg_none_of X G z_sum, PySem.W.mg_none_of X G z_tuple, PySem.W.mg_none_of X G z_zip⟩
  refine ⟨?_, PySem.W.fnOf "law" "law" (defArgs s_law) (defBody s_law) (defScope s_law) .none kV33 dc33 pm33 an33 cd33 ct33, fun s v => .of_eq rfl, fun base _ _ hb => ?_⟩
  · intro z hz
    simp only [List.mem_cons, List.not_mem_nil, or_false] at hz
    rcases hz with rfl | rfl | rfl
    · exact ⟨t14, u14⟩
    · exact ⟨t15, u15⟩
    · exact ⟨t19, u19⟩
  · have B : Tbs T base := ⟨hb ("states_upward", c14, P14) (by simp), hb ("part_states", c15, P15) (by simp), hb ("judges_joined", c19, P19) (by simp)⟩
    exact ok_law T B
end My
open PySem PySem.W PyProof.Rows
set_option maxRecDepth 100000 in
set_option maxHeartbeats 0 in
theorem PySem.Challenge.cw_heaptrees_k25_whole_joined_and_turned_holds : PySem.Challenge.rw_heaptrees_k25_whole_joined_and_turned.Holds := by
  w_on; o_law; k_head; (case hw => w_witness2)
  k_fill
  refine My.walk_ofT (l := PySem.Challenge.rw_heaptrees_k25_whole_joined_and_turned) (n := 63) (k := 30) (x := "script") rfl (by decide) (by decide) rfl ⟨rfl, by decide, by decide⟩ (fun w h Y => Y.1) ["states_upward", "part_states", "judges_joined"] ?R ?F
  case R => decide +kernel
  case F =>
    intro w mg fa h KX G hmg
    refine' ⟨_, ?n, ?m⟩
    case m =>
      refine' My.all_mk KX G hmg ?a0 ?l0 ?d0 ?k0 ?a1 ?l1 ?d1 ?k1 ?a2 ?l2 ?d2 ?k2 ?a3 ?l3 ?d3 ?k3 ?a4 ?l4 ?d4 ?k4 ?a5 ?l5 ?d5 ?k5 ?a6 ?l6 ?d6 ?k6 ?a7 ?l7 ?d7 ?k7 ?a8 ?l8 ?d8 ?k8 ?a9 ?l9 ?d9 ?k9 ?a10 ?l10 ?d10 ?k10 ?a11 ?l11 ?d11 ?k11 ?a12 ?l12 ?d12 ?k12 ?a13 ?l13 ?d13 ?k13 ?a14 ?l14 ?d14 ?k14 ?a15 ?l15 ?d15 ?k15 ?a16 ?l16 ?d16 ?k16 ?a17 ?l17 ?d17 ?k17 ?a18 ?l18 ?d18 ?k18 ?a19 ?l19 ?d19 ?k19 ?a20 ?l20 ?d20 ?k20 ?a21 ?l21 ?d21 ?k21 ?a22 ?l22 ?d22 ?k22 ?a23 ?l23 ?d23 ?k23 ?a24 ?l24 ?d24 ?k24 ?a25 ?l25 ?d25 ?k25 ?a26 ?l26 ?d26 ?k26 ?a27 ?l27 ?d27 ?k27 ?a28 ?l28 ?d28 ?k28 ?a29 ?l29 ?d29 ?k29 ?a30 ?l30 ?d30 ?k30 ?a31 ?l31 ?d31 ?k31 ?a32 ?l32 ?d32 ?k32 ?a33 ?l33 ?d33 ?k33 ?ak_MOST_STATES ?ak_MOST_TURN ?ak_MOST_TUPLES ?ii_lcm ?t14 ?u14 ?t15 ?u15 ?t19 ?u19 ?v14_15 ?v14_19 ?v15_19 ?z_dict ?z_enumerate ?z_int ?z_isinstance ?z_len ?z_list ?z_max ?z_min ?z_range ?z_str ?z_sum ?z_tuple ?z_zip
      (case a0 => k_is)
      (case l0 => k_is)
      (case d0 => k_is)
      (case k0 => k_is)
      (case a1 => k_is)
      (case l1 => k_is)
      (case d1 => k_is)
      (case k1 => k_is)
      (case a2 => k_is)
      (case l2 => k_is)
      (case d2 => k_is)
      (case k2 => k_is)
      (case a3 => k_is)
      (case l3 => k_is)
      (case d3 => k_is)
      (case k3 => k_is)
      (case a4 => k_is)
      (case l4 => k_is)
      (case d4 => k_is)
      (case k4 => k_is)
      (case a5 => k_is)
      (case l5 => k_is)
      (case d5 => k_is)
      (case k5 => k_is)
      (case a6 => k_is)
      (case l6 => k_is)
      (case d6 => k_is)
      (case k6 => k_is)
      (case a7 => k_is)
      (case l7 => k_is)
      (case d7 => k_is)
      (case k7 => k_is)
      (case a8 => k_is)
      (case l8 => k_is)
      (case d8 => k_is)
      (case k8 => k_is)
      (case a9 => k_is)
      (case l9 => k_is)
      (case d9 => k_is)
      (case k9 => k_is)
      (case a10 => k_is)
      (case l10 => k_is)
      (case d10 => k_is)
      (case k10 => k_is)
      (case a11 => k_is)
      (case l11 => k_is)
      (case d11 => k_is)
      (case k11 => k_is)
      (case a12 => k_is)
      (case l12 => k_is)
      (case d12 => k_is)
      (case k12 => k_is)
      (case a13 => k_is)
      (case l13 => k_is)
      (case d13 => k_is)
      (case k13 => k_is)
      (case a14 => k_is)
      (case l14 => k_is)
      (case d14 => k_is)
      (case k14 => k_is)
      (case a15 => k_is)
      (case l15 => k_is)
      (case d15 => k_is)
      (case k15 => k_is)
      (case a16 => k_is)
      (case l16 => k_is)
      (case d16 => k_is)
      (case k16 => k_is)
      (case a17 => k_is)
      (case l17 => k_is)
      (case d17 => k_is)
      (case k17 => k_is)
      (case a18 => k_is)
      (case l18 => k_is)
      (case d18 => k_is)
      (case k18 => k_is)
      (case a19 => k_is)
      (case l19 => k_is)
      (case d19 => k_is)
      (case k19 => k_is)
      (case a20 => k_is)
      (case l20 => k_is)
      (case d20 => k_is)
      (case k20 => k_is)
      (case a21 => k_is)
      (case l21 => k_is)
      (case d21 => k_is)
      (case k21 => k_is)
      (case a22 => k_is)
      (case l22 => k_is)
      (case d22 => k_is)
      (case k22 => k_is)
      (case a23 => k_is)
      (case l23 => k_is)
      (case d23 => k_is)
      (case k23 => k_is)
      (case a24 => k_is)
      (case l24 => k_is)
      (case d24 => k_is)
      (case k24 => k_is)
      (case a25 => k_is)
      (case l25 => k_is)
      (case d25 => k_is)
      (case k25 => k_is)
      (case a26 => k_is)
      (case l26 => k_is)
      (case d26 => k_is)
      (case k26 => k_is)
      (case a27 => k_is)
      (case l27 => k_is)
      (case d27 => k_is)
      (case k27 => k_is)
      (case a28 => k_is)
      (case l28 => k_is)
      (case d28 => k_is)
      (case k28 => k_is)
      (case a29 => k_is)
      (case l29 => k_is)
      (case d29 => k_is)
      (case k29 => k_is)
      (case a30 => k_is)
      (case l30 => k_is)
      (case d30 => k_is)
      (case k30 => k_is)
      (case a31 => k_is)
      (case l31 => k_is)
      (case d31 => k_is)
      (case k31 => k_is)
      (case a32 => k_is)
      (case l32 => k_is)
      (case d32 => k_is)
      (case k32 => k_is)
      (case a33 => k_is)
      (case l33 => k_is)
      (case d33 => k_is)
      (case k33 => k_is)
      (case ak_MOST_STATES => k_is)
      (case ak_MOST_TURN => k_is)
      (case ak_MOST_TUPLES => k_is)
      (case ii_lcm => k_is)
      (case t14 => rfl)
      (case u14 => rfl)
      (case t15 => rfl)
      (case u15 => rfl)
      (case t19 => rfl)
      (case u19 => rfl)
      (case v14_15 => decide +kernel)
      (case v14_19 => decide +kernel)
      (case v15_19 => decide +kernel)
      (case z_dict => k_is)
      (case z_enumerate => k_is)
      (case z_int => k_is)
      (case z_isinstance => k_is)
      (case z_len => k_is)
      (case z_list => k_is)
      (case z_max => k_is)
      (case z_min => k_is)
      (case z_range => k_is)
      (case z_str => k_is)
      (case z_sum => k_is)
      (case z_tuple => k_is)
      (case z_zip => k_is)
    case n => rfl
#print axioms PySem.Challenge.cw_heaptrees_k25_whole_joined_and_turned_holds
